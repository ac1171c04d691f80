/- The document's own May, Weight and Ahead of entries. -/
import Derived.Test.YtaefddnmldbgiabDoorMpm
import Derived.Test.YtaefddnmldbgiabDoorKcmp
namespace Go.Proofs.YtaefddnmldbgiabDoor
open Go.RowKit
set_option linter.unusedVariables false
set_option linter.unusedSimpArgs false

end Go.Proofs.YtaefddnmldbgiabDoor
