/- What the landed batch's May answers. -/
import Derived.Test.YtifgojkmdicdmaaBel
namespace Go.Proofs.Ytifgojkmdicdmaa
open Go.RowKit
set_option linter.unusedVariables false
set_option linter.unusedSimpArgs false

/-- What is wrong with a batch's numbers: 0: nothing. -/
def mayN (s : Int) (n : Nat) : Nat := if n < 1 ∨ 400 < n then 13 else if s < 1 ∨ 4611686018427387904 - ((n : Int) - 1) < s then 1 else 0
theorem mayB_n (s : Int) (os : List OpV) : mayB s os = if mayN s os.length ≠ 0 then mayN s os.length else mayO os := by
  unfold mayB mayN
  split
  · simp
  · split <;> simp

end Go.Proofs.Ytifgojkmdicdmaa
