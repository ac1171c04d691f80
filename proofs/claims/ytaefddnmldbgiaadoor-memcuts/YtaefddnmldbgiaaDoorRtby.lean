/- What the document's own TakeBytes answers. -/
import Derived.Test.YtaefddnmldbgiaaDoorTby
import Derived.Test.YtaefddnmldbgiaaDoorRtake
namespace Go.Proofs.YtaefddnmldbgiaaDoor
open Go.RowKit
set_option linter.unusedVariables false

end Go.Proofs.YtaefddnmldbgiaaDoor
