/- The laws on a mem beside the document's own row, of any mem. -/
import Derived.Test.YtifgojkmdicdmaaMfill
namespace Go.Proofs.Ytifgojkmdicdmaa
open Go.RowKit
set_option linter.unusedVariables false
set_option linter.unusedSimpArgs false

theorem wts_take {l : List EntV} {k : Nat} (h : k < l.length) : wts (l.take (k + 1)) = wts (l.take k) + wtE l[k] := by
  rw [List.take_add_one, List.getElem?_eq_getElem h, wts_app]
  simp [wts]
theorem wts_le : ∀ {l : List EntV}, okE l → wts l ≤ 3000 * l.length
  | [], _ => Nat.le_refl _
  | e :: r, h => by
    have h1 := wts_le (l := r) fun x hx => h x (List.mem_cons_of_mem _ hx)
    have h2 := h e (List.mem_cons_self ..)
    unfold mayE at h2
    simp at h2
    rw [wts, List.length_cons]
    unfold wtE
    omega
theorem ok_take {l : List EntV} (h : okE l) (k : Nat) : okE (l.take k) := fun e he => h e (List.mem_of_mem_take he)
theorem mayE_len {e : EntV} (h : mayE e = true) : e.key.length ≤ 512 ∧ e.val.length ≤ 2048 := by
  unfold mayE at h
  simp at h
  omega

end Go.Proofs.Ytifgojkmdicdmaa
