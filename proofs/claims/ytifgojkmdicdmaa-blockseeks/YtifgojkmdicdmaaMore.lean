/- The program's sums. -/
import Derived.Test.YtifgojkmdicdmaaEight
import Derived.Lib.SlBytesConst
namespace Go.Proofs.Ytifgojkmdicdmaa
open Go.RowKit
set_option linter.unusedVariables false

theorem nine : more 0 [49, 50, 51, 52, 53, 54, 55, 56, 57] = 3808858755 := by decide +kernel

end Go.Proofs.Ytifgojkmdicdmaa
