/- The document's own Ordered, of rows in order. -/
import Derived.Test.YtaefddnmldbgiabDoorMget
namespace Go.Proofs.YtaefddnmldbgiabDoor
open Go.RowKit
set_option linter.unusedVariables false
set_option linter.unusedSimpArgs false

end Go.Proofs.YtaefddnmldbgiabDoor
