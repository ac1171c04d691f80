/- What Back does at every row of whole numbers between -2^40 and 2^40 whose four sums four divides. -/
import Derived.Test.YtchnjoikjadciabEq
namespace Go.Proofs.Ytchnjoikjadciab
open Go.RowKit

theorem run_quarter (P : Program) (t : TypeId) (x r : Nat) (h : floatBits .quo .f64 x 4616189618054758400 = some r) (w : World) : (binOp .quo t (.float .f64 x) (.float .f64 4616189618054758400)).run P w = .ok (.float .f64 r) w :=
  run_float_arith w .quo t .f64 x 4616189618054758400 r h

def qt (x : Nat) : Nat := (floatBits .quo .f64 x 4616189618054758400).getD 0

/-- The words of Back's four. -/
def bR (a b : Nat → Nat) : Nat → Nat := fun t => qt (tsR a b 1 t)
def bI (a b : Nat → Nat) : Nat → Nat := fun t => qt (tsI a b 1 t)

theorem qt_whole {x : Nat} {n : Int} (h : Whole x (4 * n)) (hn : Small (2 ^ 50) n) : floatBits .quo .f64 x 4616189618054758400 = some (qt x) ∧ Whole (qt x) n := by
  obtain ⟨r, e, w⟩ := whole_quarter h (by unfold Small at hn; omega)
  have : qt x = r := by simp [qt, e]
  rw [this]; exact ⟨e, w⟩

theorem bR_whole {a b : Nat → Nat} {p q P Q : Nat → Int} (ha : ∀ j, j < 4 → Whole (a j) (p j)) (hb : ∀ j, j < 4 → Whole (b j) (q j)) (hp : ∀ j, j < 4 → Small (2 ^ 40) (p j)) (hq : ∀ j, j < 4 → Small (2 ^ 40) (q j))
    (hP : ∀ t, t < 4 → Sre p q 1 t 4 = 4 * P t ∧ Sim p q 1 t 4 = 4 * Q t) (hPs : ∀ t, t < 4 → Small (2 ^ 50) (P t) ∧ Small (2 ^ 50) (Q t)) (t : Nat) (ht : t < 4) :
    (floatBits .quo .f64 (tsR a b 1 t) 4616189618054758400 = some (bR a b t) ∧ Whole (bR a b t) (P t)) ∧ (floatBits .quo .f64 (tsI a b 1 t) 4616189618054758400 = some (bI a b t) ∧ Whole (bI a b t) (Q t)) := by
  have h := SB_whole 1 t ha hb hp hq 4 (Nat.le_refl 4)
  exact ⟨qt_whole (by rw [← (hP t ht).1]; exact h.1) (hPs t ht).1, qt_whole (by rw [← (hP t ht).2]; exact h.2) (hPs t ht).2⟩

set_option maxHeartbeats 4000000 in
theorem back_any (a b : Nat → Nat) (p q P Q : Nat → Int) (ha : ∀ j, j < 4 → Whole (a j) (p j)) (hb : ∀ j, j < 4 → Whole (b j) (q j)) (hp : ∀ j, j < 4 → Small (2 ^ 40) (p j)) (hq : ∀ j, j < 4 → Small (2 ^ 40) (q j))
    (hP : ∀ t, t < 4 → Sre p q 1 t 4 = 4 * P t ∧ Sim p q 1 t 4 = 4 * Q t) (hPs : ∀ t, t < 4 → Small (2 ^ 50) (P t) ∧ Small (2 ^ 50) (Q t)) (w : World) :
    Calls Try.prog 12 #[.agg (c4 a b)] w fun e w' => e = .returned (.agg (c4 (bR a b) (bI a b))) ∧ ∃ n, w' = ((((((w.alloc (.cells (c4 a b) 26)).alloc (.cells (c4 (bR a b) (bI a b)) 26)).alloc (.cells (c4 a b) 26)).alloc (.cells (c4 (tsR a b 1) (tsI a b 1)) 26)).alloc (.cells (c4 (tsR a b 1) (tsI a b 1)) 26)).alloc (.cells (c4 (bR a b) (bI a b)) 26)).drewN n := by
  have hc := fun w => ts_any 1 (Or.inl rfl) a b p q ha hb hp hq w
  have hd := bR_whole ha hb hp hq hP hPs
  clear ha hb hp hq hP hPs
  have q0 := fun t w => run_quarter Try.prog t _ _ (hd 0 (by omega)).1.1 w
  have s0 := fun t w => run_quarter Try.prog t _ _ (hd 0 (by omega)).2.1 w
  have i0 : ∀ w, (Instr.index 26 (.agg #[.complex .f64 (tsR a b 1 0) (tsI a b 1 0), .complex .f64 (tsR a b 1 1) (tsI a b 1 1), .complex .f64 (tsR a b 1 2) (tsI a b 1 2), .complex .f64 (tsR a b 1 3) (tsI a b 1 3)]) (.int .i64 0)).run Try.prog w = .ok (.complex .f64 (tsR a b 1 0) (tsI a b 1 0)) w := fun w => c4_at (tsR a b 1) (tsI a b 1) 0 (by decide) (by decide) w
  have q1 := fun t w => run_quarter Try.prog t _ _ (hd 1 (by omega)).1.1 w
  have s1 := fun t w => run_quarter Try.prog t _ _ (hd 1 (by omega)).2.1 w
  have i1 : ∀ w, (Instr.index 26 (.agg #[.complex .f64 (tsR a b 1 0) (tsI a b 1 0), .complex .f64 (tsR a b 1 1) (tsI a b 1 1), .complex .f64 (tsR a b 1 2) (tsI a b 1 2), .complex .f64 (tsR a b 1 3) (tsI a b 1 3)]) (.int .i64 1)).run Try.prog w = .ok (.complex .f64 (tsR a b 1 1) (tsI a b 1 1)) w := fun w => c4_at (tsR a b 1) (tsI a b 1) 1 (by decide) (by decide) w
  have q2 := fun t w => run_quarter Try.prog t _ _ (hd 2 (by omega)).1.1 w
  have s2 := fun t w => run_quarter Try.prog t _ _ (hd 2 (by omega)).2.1 w
  have i2 : ∀ w, (Instr.index 26 (.agg #[.complex .f64 (tsR a b 1 0) (tsI a b 1 0), .complex .f64 (tsR a b 1 1) (tsI a b 1 1), .complex .f64 (tsR a b 1 2) (tsI a b 1 2), .complex .f64 (tsR a b 1 3) (tsI a b 1 3)]) (.int .i64 2)).run Try.prog w = .ok (.complex .f64 (tsR a b 1 2) (tsI a b 1 2)) w := fun w => c4_at (tsR a b 1) (tsI a b 1) 2 (by decide) (by decide) w
  have q3 := fun t w => run_quarter Try.prog t _ _ (hd 3 (by omega)).1.1 w
  have s3 := fun t w => run_quarter Try.prog t _ _ (hd 3 (by omega)).2.1 w
  have i3 : ∀ w, (Instr.index 26 (.agg #[.complex .f64 (tsR a b 1 0) (tsI a b 1 0), .complex .f64 (tsR a b 1 1) (tsI a b 1 1), .complex .f64 (tsR a b 1 2) (tsI a b 1 2), .complex .f64 (tsR a b 1 3) (tsI a b 1 3)]) (.int .i64 3)).run Try.prog w = .ok (.complex .f64 (tsR a b 1 3) (tsI a b 1 3)) w := fun w => c4_at (tsR a b 1) (tsI a b 1) 3 (by decide) (by decide) w
  clear hd
  go_enter Try.func12, Try.ntmps12
  go_wp2_with (go_at_call 17; refine (hc _).mono ?_; rintro e w' ⟨rfl, n, rfl⟩)
  refine wp_loop_rounds 5 ?_
  repeat any_goals (rw [rounds_succ]; go_wp2)
  refine bodyPost_ret (v := .agg (c4 (bR a b) (bI a b))) (by simp [results, Try.results12, go_sem]; rfl) rfl ⟨rfl, n, rfl⟩
end Go.Proofs.Ytchnjoikjadciab
