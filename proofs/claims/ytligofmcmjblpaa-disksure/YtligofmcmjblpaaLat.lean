/- The landed disk: Size, ReadAt. -/
import Derived.Test.YtligofmcmjblpaaLread
namespace Go.Proofs.Ytligofmcmjblpaa
open Go.RowKit Go.Maps
set_option linter.unusedVariables false
set_option linter.unusedSimpArgs false

theorem bs_cut (X : Nat → Nat) (n a m : Nat) (h : a + m ≤ n) : ((bs X n).drop a).take m = bs (fun k => X (a + k)) m := by
  apply List.ext_getElem?
  intro i
  simp only [bs, List.getElem?_take, List.getElem?_drop, List.getElem?_map, List.getElem?_range']
  by_cases hi : i < m
  · rw [if_pos hi, List.getElem?_range (by omega), List.getElem?_range hi]
    rfl
  · rw [if_neg hi, List.getElem?_eq_none (by simpa using hi)]
    rfl

end Go.Proofs.Ytligofmcmjblpaa
