/- The landed block keeps what is asked of Ordered and Encode. -/
import Derived.Test.YtifgojkmdicdmaaBklaw
import Derived.Test.YtifgojkmdicdmaaLk4
namespace Go.Proofs.Ytifgojkmdicdmaa
open Go.RowKit
set_option linter.unusedVariables false
set_option linter.unusedSimpArgs false

theorem encX_k {w : World} {ao : Option Addr} {len cap : Nat} {l : List EntV} (h : RS entE w ao len cap l) (hl : len ≤ 2 ^ 61) :
    Calls Try.prog 10 #[.slice ao len cap] w fun e w' => ∃ v, e = .returned (.tuple #[v, .int .i64 ((blkE l : Nat) : Int)]) ∧ SlV w' v (encX l) ∧ Below w.heap.size w w' :=
  (encR_k h hl).mono fun e w' ⟨v, he, hr, hb⟩ => ⟨v, he, SlV.ofRow hr (by unfold encX; split; exact okb_blkB h.okE; exact fun x hx => by cases hx), hb⟩
theorem theBk : PBk where
  ordered := fun h hl _ => ord_k h (by omega)
  encode := fun h hl _ => encX_k h (by omega)
end Go.Proofs.Ytifgojkmdicdmaa
