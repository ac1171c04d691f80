/- What the document's own TakeBytes answers. -/
import Derived.Test.YtaefddnmldbgiabDoorTby
import Derived.Test.YtaefddnmldbgiabDoorRtake
namespace Go.Proofs.YtaefddnmldbgiabDoor
open Go.RowKit
set_option linter.unusedVariables false

end Go.Proofs.YtaefddnmldbgiabDoor
