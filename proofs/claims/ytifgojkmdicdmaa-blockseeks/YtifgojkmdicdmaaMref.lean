/- The document's own May, Weight and Ahead of entries. -/
import Derived.Test.YtifgojkmdicdmaaMpm
import Derived.Test.YtifgojkmdicdmaaKcmp
namespace Go.Proofs.Ytifgojkmdicdmaa
open Go.RowKit
set_option linter.unusedVariables false
set_option linter.unusedSimpArgs false

set_option maxHeartbeats 2000000 in
set_option maxRecDepth 100000 in
theorem rmayE_any {w : World} {ka va : Option Addr} {kc vc : Nat} {e : EntV} : Calls Try.prog 26 #[entA ka kc va vc e] w fun r w' => r = .returned (.bool (mayE e)) ∧ Below w.heap.size w w' := by
  obtain ⟨key, seq, gone, till, vl⟩ := e
  unfold entA
  simp only
  unfold mayE
  simp only
  generalize key.length = kl
  generalize vl.length = ln
  cases gone
  · go_enter Try.func26, Try.ntmps26
    go_wp2_with fail
    all_goals
      go_ret
      refine ⟨congrArg (fun b => Ending.returned (.bool b)) ?_, (Below.refl _ w).alloc (Nat.le_refl _) _⟩
      rw [Bool.eq_iff_iff]
      simp
      try omega
  · go_enter Try.func26, Try.ntmps26
    go_wp2_with fail
    all_goals
      go_ret
      refine ⟨congrArg (fun b => Ending.returned (.bool b)) ?_, (Below.refl _ w).alloc (Nat.le_refl _) _⟩
      rw [Bool.eq_iff_iff]
      simp
      try omega
set_option maxHeartbeats 2000000 in
set_option maxRecDepth 100000 in
theorem rahead_any {w : World} {ka va kb vb : Option Addr} {kc vc kd vd : Nat} {a b : EntV} (ha : Sl w ka a.key.length kc a.key) (hb : Sl w kb b.key.length kd b.key) : Calls Try.prog 31 #[entA ka kc va vc a, entA kb kd vb vd b] w fun r w' => r = .returned (.int .i64 (ahead a b)) ∧ Below w.heap.size w w' := by
  obtain ⟨key, seq, gone, till, vl⟩ := a
  obtain ⟨key', seq', gone', till', vl'⟩ := b
  unfold entA ahead
  simp only at ha hb ⊢
  obtain ⟨W, hW⟩ : ∃ W, W = (w.alloc (.cells #[.slice ka key.length kc, .int .i64 seq, .bool gone, .int .i64 till, .slice va vl.length vc] 35)).alloc (.cells #[.slice kb key'.length kd, .int .i64 seq', .bool gone', .int .i64 till', .slice vb vl'.length vd] 35) := ⟨_, rfl⟩
  have b1 : Below w.heap.size w W := by rw [hW]; exact ((Below.refl _ w).alloc (Nat.le_refl _) _).alloc (by simp) _
  have c1 : W.cell? ⟨w.heap.size, 1, none⟩ = some (.int .i64 seq) := by rw [hW]; simp
  have c2 : W.cell? ⟨w.heap.size + 1, 1, none⟩ = some (.int .i64 seq') := by rw [hW]; simp
  have hc := rcmp_any (ha.later b1) (hb.later b1)
  have HK : Hid (∀ w2, Below W.heap.size W w2 → (w2.cell? ⟨w.heap.size, 1, none⟩ = some (.int .i64 seq) ∧ w2.cell? ⟨w.heap.size + 1, 1, none⟩ = some (.int .i64 seq')) ∧ Below w.heap.size w w2) := fun w2 h => ⟨⟨cell_later h c1, cell_later h c2⟩, b1.trans (h.mono b1.size)⟩
  have HW := hid hW
  generalize cmp key key' = c at hc ⊢
  rw [hW] at hc
  generalize key.length = kl at hc HW ⊢
  generalize key'.length = kl' at hc HW ⊢
  generalize vl.length = ln at hc HW ⊢
  generalize vl'.length = ln' at hc HW ⊢
  clear ha hb c1 c2 b1 hW
  by_cases q : c = 0
  · subst q
    have e0 : ((0 : Int) != 0) = false := rfl
    simp only [ne_eq, not_true_eq_false, if_false]
    go_enter Try.func31, Try.ntmps31
    go_wp2_with (go_at_call 19; refine hc.mono ?_; rintro e w2 ⟨rfl, b2⟩; rw [← HW.out] at b2; obtain ⟨⟨d1, d2⟩, b3⟩ := HK.out _ b2)
    all_goals
      go_ret
      refine ⟨congrArg (fun b => Ending.returned (.int .i64 b)) ?_, by assumption⟩
      first | rfl | (repeat' split) <;> omega
  · have e0 : (c != 0) = true := by simpa using q
    simp only [ne_eq, q, not_false_eq_true, if_true]
    go_enter Try.func31, Try.ntmps31
    go_wp2_with (go_at_call 19; refine hc.mono ?_; rintro e w2 ⟨rfl, b2⟩; rw [← HW.out] at b2; obtain ⟨⟨d1, d2⟩, b3⟩ := HK.out _ b2)
    go_ret
    exact ⟨rfl, b3⟩
end Go.Proofs.Ytifgojkmdicdmaa
