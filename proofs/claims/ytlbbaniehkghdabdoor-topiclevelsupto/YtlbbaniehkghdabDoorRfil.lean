/- The document's own filters. -/
import Derived.Test.YtlbbaniehkghdabDoorRcovers
namespace Go.Proofs.YtlbbaniehkghdabDoor
open Go.RowKit
set_option linter.unusedVariables false

theorem lv_le : ∀ (s : List UInt8), ∀ x ∈ lv s, x.length ≤ s.length
  | [], x, hx => by simp [lv] at hx; subst hx; simp
  | c :: s, x, hx => by
    by_cases h : c = 47
    · subst h
      rw [lv_stroke] at hx
      rcases List.mem_cons.1 hx with q | q
      · subst q; simp
      · have := lv_le s x q; simp; omega
    · obtain ⟨y, r, e1, e2⟩ := lv_other h s
      rw [e2] at hx
      rcases List.mem_cons.1 hx with q | q
      · subst q
        have := lv_le s y (by rw [e1]; simp)
        simp; omega
      · have := lv_le s x (by rw [e1]; simp [q])
        simp; omega
/-- A row of strings of one's own, read. -/
theorem RowS.strs {B : Nat} {w : World} {v : Value} {xs : List ByteArray} (h : RowS B w v xs) : ∃ ao cap, v = .slice ao xs.length cap ∧ xs.length ≤ cap ∧ cap ≤ maxLen ∧ Strs w ao xs.length (fun k => xs.getD k ⟨#[]⟩) := by
  have hcells : ∀ g, v.ownBlock = some g → _ := fun g hg => World.ownsRow.cells h (g := g) hg
  rcases h.2 with ⟨rfl, h0⟩ | ⟨g, cap, cur, rfl, hbg, hg, hnc, hcm, hcs, htake⟩
  · exact ⟨none, 0, by rw [h0], by omega, Nat.zero_le _, fun k hk => absurd hk (by omega)⟩
  · refine ⟨some ⟨g, 0, none⟩, cap, rfl, hnc, hcm, fun k hk => ⟨g, 0, rfl, ?_⟩⟩
    have := hcells g rfl k (.string xs[k]) (by simp [List.getElem?_eq_getElem hk])
    rw [Addr.add_lit] at this
    rw [this]
    simp [List.getElem?_eq_getElem hk]
theorem sl_xs (xs : List ByteArray) : sl (fun k => xs.getD k ⟨#[]⟩) xs.length = xs.map (fun x => x.data.toList) := by
  apply List.ext_getElem
  · simp [sl]
  · intro i h1 h2
    simp only [List.length_map] at h2
    simp [sl, List.getElem?_eq_getElem h2]
theorem sl_length (Y : Nat → ByteArray) (n : Nat) : (sl Y n).length = n := by simp [sl]
theorem sl_drop (Y : Nat → ByteArray) (n k : Nat) (h : k < n) : (sl Y n).drop k = (Y k).data.toList :: (sl Y n).drop (k + 1) := by
  have h' : k < (sl Y n).length := by rw [sl_length]; exact h
  rw [List.drop_eq_getElem_cons h']
  congr 1
  simp [sl]
theorem Strs.later {w w' : World} {ao : Option Addr} {len : Nat} {Y : Nat → ByteArray} (h : Strs w ao len Y) (hb : Below w.heap.size w w') : Strs w' ao len Y := fun k hk => by
  obtain ⟨b, off, e, hc⟩ := h k hk
  exact ⟨b, off, e, cell_later hb hc⟩

end Go.Proofs.YtlbbaniehkghdabDoor
