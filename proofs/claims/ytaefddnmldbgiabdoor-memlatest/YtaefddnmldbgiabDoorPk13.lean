import Derived.Test.YtaefddnmldbgiabDoorPk09
import Derived.Test.YtaefddnmldbgiabDoorPk12
/- The document's own Get. -/
namespace Go.Proofs.YtaefddnmldbgiabDoor
open Go.RowKit
set_option linter.unusedVariables false
set_option linter.unusedSimpArgs false

theorem cells_set5 {w : World} {p : Nat} {c0 c1 c2 c3 c4 : Value} {t : TypeId} (h : w.heap[p]? = some (.cells #[c0, c1, c2, c3, c4] t (0, 0))) (a b c d e : Value) :
    let wf := ((((w.setCell ⟨p, 0, none⟩ a).setCell ⟨p, 1, none⟩ b).setCell ⟨p, 2, none⟩ c).setCell ⟨p, 3, none⟩ d).setCell ⟨p, 4, none⟩ e
    wf.cell? ⟨p, 0, none⟩ = some a ∧ wf.cell? ⟨p, 1, none⟩ = some b ∧ wf.cell? ⟨p, 2, none⟩ = some c ∧ wf.cell? ⟨p, 3, none⟩ = some d ∧ wf.cell? ⟨p, 4, none⟩ = some e := by
  have hs := heap_set (heap_set (heap_set (heap_set (heap_set h 0 a) 1 b) 2 c) 3 d) 4 e
  refine ⟨?_, ?_, ?_, ?_, ?_⟩ <;> rw [cell_of hs] <;> rfl
theorem below_set5 {w wx : World} (h : Below w.heap.size w wx) (a b c d e : Value) : Below w.heap.size w (((((wx.setCell ⟨w.heap.size, 0, none⟩ a).setCell ⟨w.heap.size, 1, none⟩ b).setCell ⟨w.heap.size, 2, none⟩ c).setCell ⟨w.heap.size, 3, none⟩ d).setCell ⟨w.heap.size, 4, none⟩ e) :=
  Below.grown h (grown_trans (grown_trans (grown_trans (grown_trans (grown_set wx w.heap.size 0 a) (grown_set _ w.heap.size 1 b)) (grown_set _ w.heap.size 2 c)) (grown_set _ w.heap.size 3 d)) (grown_set _ w.heap.size 4 e)) h.size (fun k hk => by simp only [Option.some.injEq] at hk; omega)
end Go.Proofs.YtaefddnmldbgiabDoor

/- The document's own Ordered, of rows in order. -/
namespace Go.Proofs.YtaefddnmldbgiabDoor
open Go.RowKit
set_option linter.unusedVariables false
set_option linter.unusedSimpArgs false

end Go.Proofs.YtaefddnmldbgiabDoor

/- The law's own filling of a mem, of any mem. -/
namespace Go.Proofs.YtaefddnmldbgiabDoor
open Go.RowKit
set_option linter.unusedVariables false
set_option linter.unusedSimpArgs false

theorem light9_any {w : World} {ka va : Option Addr} {kc vc : Nat} {e : EntV} : Calls Tryd.prog 6 #[entA ka kc va vc e] w fun r w' => r = .returned (.bool (decide (e.key.length ≤ 3000 ∧ e.val.length ≤ 3000))) ∧ Below w.heap.size w w' := by
  obtain ⟨key, seq, gone, till, vl⟩ := e
  unfold entA
  simp only
  generalize key.length = kl
  generalize vl.length = ln
  go_enter Tryd.func6, Tryd.ntmps6
  go_wp2_with fail
  all_goals
    go_ret
    refine ⟨congrArg (fun b => Ending.returned (.bool b)) ?_, (Below.refl _ w).alloc (Nat.le_refl _) _⟩
    rw [Bool.eq_iff_iff]
    simp
    try omega
theorem RowF.kept {α : Type} {E : El α} {B : Nat} {G F : Nat → Prop} {w w' : World} {v : Value} {xs : List α} (h : RowF E B G w v xs) (hk : Kept F w w') (h1 : ∀ g, v.ownBlock = some g → ¬ F g) (h2 : ∀ b, G b → ¬ F b) : RowF E B G w' v xs := by
  obtain ⟨us, hown, g2, g3, g4⟩ := h
  refine ⟨us, ⟨hown.1, ?_⟩, g2.keep fun u hu b hr => hk.block b (g2.lt u hu b hr) (h2 b (g4 u hu b hr)), g3, g4⟩
  rcases hown.2 with q | ⟨g, cap, cur, q1, q2, q3, q4⟩
  · exact .inl q
  · exact .inr ⟨g, cap, cur, q1, q2, by rw [hk.block g (Array.getElem?_eq_some_iff.1 q3).1 (h1 g (by rw [q1]; rfl))]; exact q3, q4⟩
/-- A mem and the document's own row, side by side. -/
def FillS (D : PM) (w : World) (p : Nat) (n : Nat) (wx : World) (v : Value) : Prop :=
  ∃ F L, D.R wx p L F ∧ ordE L ∧ okE L ∧ L.length ≤ n ∧ RowF entE w.heap.size (fun b => b < w.heap.size) wx v L ∧ (∀ g, v.ownBlock = some g → ¬ F g) ∧ (∀ k, F k → w.heap.size ≤ k) ∧ Below w.heap.size w wx

theorem FillS.later {D : PM} {w : World} {p n : Nat} {wx wy : World} {v : Value} (h : FillS D w p n wx v) (hb : Below wx.heap.size wx wy) : FillS D w p n wy v := by
  obtain ⟨F, L, a1, a2, a3, a4, a5, a6, a7, a8⟩ := h
  exact ⟨F, L, PM.later a1 hb, a2, a3, a4, a5.later hb, a6, a7, a8.trans (hb.mono a8.size)⟩
theorem addE_bad {l : List EntV} {e : EntV} (h : mayE e = false) : addE l e = (1, l) := by unfold addE; rw [if_pos h]
theorem addE_has {l : List EntV} {e : EntV} (h : mayE e = true) (h2 : hasE l e = true) : addE l e = (6, l) := by unfold addE; rw [if_neg (by rw [h]; decide), if_pos h2]
theorem addE_put {l : List EntV} {e : EntV} (h : mayE e = true) (h2 : hasE l e = false) : addE l e = (0, putE l e) := by unfold addE; rw [if_neg (by rw [h]; decide), if_neg (by rw [h2]; decide)]

end Go.Proofs.YtaefddnmldbgiabDoor
