/- The laws on what a mem gets, and on a mem that there isn't, of any mem. -/
import Derived.Test.YtaefddnmldbgiabDoorMlaw
namespace Go.Proofs.YtaefddnmldbgiabDoor
open Go.RowKit
set_option linter.unusedVariables false
set_option linter.unusedSimpArgs false

end Go.Proofs.YtaefddnmldbgiabDoor
