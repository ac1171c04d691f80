/- What Forth does at every row of whole numbers between -2^40 and 2^40. -/
import Derived.Test.YtchnjoikjadciabTsums
namespace Go.Proofs.Ytchnjoikjadciab
open Go.RowKit

/-- The words of Forth's four. -/
def fR (a b : Nat → Nat) : Nat → Nat := tsR a b (-1)
def fI (a b : Nat → Nat) : Nat → Nat := tsI a b (-1)

theorem fR_whole {a b : Nat → Nat} {p q : Nat → Int} (ha : ∀ j, j < 4 → Whole (a j) (p j)) (hb : ∀ j, j < 4 → Whole (b j) (q j)) (hp : ∀ j, j < 4 → Small (2 ^ 40) (p j)) (hq : ∀ j, j < 4 → Small (2 ^ 40) (q j)) (t : Nat) :
    Whole (fR a b t) (Sre p q (-1) t 4) ∧ Whole (fI a b t) (Sim p q (-1) t 4) := SB_whole (-1) t ha hb hp hq 4 (Nat.le_refl 4)

set_option maxHeartbeats 4000000 in
theorem forth_any (a b : Nat → Nat) (p q : Nat → Int) (ha : ∀ j, j < 4 → Whole (a j) (p j)) (hb : ∀ j, j < 4 → Whole (b j) (q j)) (hp : ∀ j, j < 4 → Small (2 ^ 40) (p j)) (hq : ∀ j, j < 4 → Small (2 ^ 40) (q j)) (w : World) :
    Calls Try.prog 7 #[.agg (c4 a b)] w fun e w' => e = .returned (.agg (c4 (fR a b) (fI a b))) ∧ ∃ n, w' = (((((w.alloc (.cells (c4 a b) 26)).alloc (.cells (c4 (fR a b) (fI a b)) 26)).alloc (.cells (c4 a b) 26)).alloc (.cells (c4 (fR a b) (fI a b)) 26)).alloc (.cells (c4 (fR a b) (fI a b)) 26)).drewN n := by
  have hc := fun w => ts_any (-1) (Or.inr rfl) a b p q ha hb hp hq w
  clear ha hb hp hq
  go_enter Try.func7, Try.ntmps7
  go_wp2_with (go_at_call 17; refine (hc _).mono ?_; rintro e w' ⟨rfl, n, rfl⟩)
  refine bodyPost_ret (v := .agg (c4 (fR a b) (fI a b))) (by simp [results, Try.results7, go_sem]; rfl) rfl ⟨rfl, n, rfl⟩

def k4 (c : Nat → Int) : Array Value := #[.int .i64 (c 0), .int .i64 (c 1), .int .i64 (c 2), .int .i64 (c 3)]
@[go_sem] theorem k4_0 (c : Nat → Int) : (k4 c)[0]? = some (.int .i64 (c 0)) := rfl
@[go_sem] theorem k4_1 (c : Nat → Int) : (k4 c)[1]? = some (.int .i64 (c 1)) := rfl
@[go_sem] theorem k4_2 (c : Nat → Int) : (k4 c)[2]? = some (.int .i64 (c 2)) := rfl
@[go_sem] theorem k4_3 (c : Nat → Int) : (k4 c)[3]? = some (.int .i64 (c 3)) := rfl
@[go_sem] theorem k4_size (c : Nat → Int) : (k4 c).size = 4 := rfl
@[go_sem] theorem k4_toList (c : Nat → Int) : (k4 c).toList = [.int .i64 (c 0), .int .i64 (c 1), .int .i64 (c 2), .int .i64 (c 3)] := rfl

set_option maxHeartbeats 4000000 in
theorem counts_nil (w : World) : Calls Try.prog 14 #[.pointer none] w fun e w' => e = .returned (.agg (k4 fun _ => 0)) ∧ w' = w.alloc (.cells (k4 fun _ => 0) 43) := by
  go_enter Try.func14, Try.ntmps14
  go_wp2
  refine bodyPost_ret (v := .agg (k4 fun _ => 0)) (by simp [results, Try.results14, go_sem]; rfl) rfl ⟨rfl, rfl⟩

set_option maxHeartbeats 4000000 in
theorem counts_any (g : Nat) (c : Nat → Int) (w : World) (h0 : w.cell? ⟨g, 0, none⟩ = some (.int .i64 (c 0))) (h1 : w.cell? ⟨g, 1, none⟩ = some (.int .i64 (c 1))) (h2 : w.cell? ⟨g, 2, none⟩ = some (.int .i64 (c 2))) (h3 : w.cell? ⟨g, 3, none⟩ = some (.int .i64 (c 3))) (hg : g < w.heap.size) :
    Calls Try.prog 14 #[.pointer (some ⟨g, 0, none⟩)] w fun e w' => e = .returned (.agg (k4 c)) ∧ w' = w.alloc (.cells (k4 c) 43) := by
  go_enter Try.func14, Try.ntmps14
  go_wp2
  refine bodyPost_ret (v := .agg (k4 c)) (by simp [results, Try.results14, go_sem]; rfl) rfl ⟨rfl, rfl⟩

/-- The row of complex numbers that Wave makes of the counts. -/
def fr (c : Nat → Int) : Nat → Nat := fun j => floatOfInt .f64 (c j)

theorem c4_at (cr ci : Nat → Nat) (t : Int) (h0 : 0 ≤ t) (h4 : t < 4) (w : World) : (Instr.index 26 (.agg (c4 cr ci)) (.int .i64 t)).run Try.prog w = .ok (.complex .f64 (cr t.toNat) (ci t.toNat)) w := by
  have : t = 0 ∨ t = 1 ∨ t = 2 ∨ t = 3 := by omega
  rcases this with h | h | h | h <;> subst h <;> (show _ = _) <;> kernel_rfl

theorem k4_at (c : Nat → Int) (t : Int) (h0 : 0 ≤ t) (h4 : t < 4) (w : World) : (Instr.index 43 (.agg (k4 c)) (.int .i64 t)).run Try.prog w = .ok (.int .i64 (c t.toNat)) w := by
  have : t = 0 ∨ t = 1 ∨ t = 2 ∨ t = 3 := by omega
  rcases this with h | h | h | h <;> subst h <;> (show _ = _) <;> kernel_rfl

set_option maxHeartbeats 4000000 in
theorem wave_of (m : Value) (c : Nat → Int) (k : Int) (w : World) (hc : Calls Try.prog 14 #[m] (w.alloc (.cells (c4 (fun _ => 0) (fun _ => 0)) 26)) fun e w' => e = .returned (.agg (k4 c)) ∧ w' = (w.alloc (.cells (c4 (fun _ => 0) (fun _ => 0)) 26)).alloc (.cells (k4 c) 43)) (hs : ∀ j, j < 4 → Small (2 ^ 40) (c j)) :
    Calls Try.prog 13 #[m, .int .i64 k] w fun e w' => e = .returned (.complex .f64 (fR (fr c) (fun _ => 0) (k % 4).toNat) (fI (fr c) (fun _ => 0) (k % 4).toNat)) ∧ ∃ n, w' = (((((((w.alloc (.cells (c4 (fr c) (fun _ => 0)) 26)).alloc (.cells (k4 c) 43)).alloc (.cells (c4 (fr c) (fun _ => 0)) 26)).alloc (.cells (c4 (fR (fr c) (fun _ => 0)) (fI (fr c) (fun _ => 0))) 26)).alloc (.cells (c4 (fr c) (fun _ => 0)) 26)).alloc (.cells (c4 (fR (fr c) (fun _ => 0)) (fI (fr c) (fun _ => 0))) 26)).alloc (.cells (c4 (fR (fr c) (fun _ => 0)) (fI (fr c) (fun _ => 0))) 26)).drewN n := by
  have hf := fun w => forth_any (fr c) (fun _ => 0) c (fun _ => 0) (fun j hj => whole_int _ (by have := hs j hj; unfold Small at this; omega)) (fun _ _ => whole_zero) hs (fun _ _ => by unfold Small; decide) w
  clear hs
  have i0 := fun w => k4_at c 0 (by decide) (by decide) w
  have i1 := fun w => k4_at c 1 (by decide) (by decide) w
  have i2 := fun w => k4_at c 2 (by decide) (by decide) w
  have i3 := fun w => k4_at c 3 (by decide) (by decide) w
  have hix := fun w => c4_at (fR (fr c) (fun _ => 0)) (fI (fr c) (fun _ => 0)) (k % 4) (by omega) (by omega) w
  go_enter Try.func13, Try.ntmps13
  go_wp2_with (go_at_call 14; refine hc.mono ?_; rintro e w' ⟨rfl, rfl⟩)
  refine wp_loop_rounds 5 ?_
  repeat any_goals (rw [rounds_succ]; go_wp2_with (first | (go_at_call 7; refine (hf _).mono ?_; rintro e w' ⟨rfl, n, rfl⟩) | (go_at_call 18; refine (place_any _ _).mono ?_; rintro e w' ⟨rfl, rfl⟩)))
  go_ret
  exact ⟨rfl, n, rfl⟩

/-- What Wave's word at place k stands for. -/
theorem wave_whole {c : Nat → Int} (hs : ∀ j, j < 4 → Small (2 ^ 40) (c j)) (t : Nat) : Whole (fR (fr c) (fun _ => 0) t) (Sre c (fun _ => 0) (-1) t 4) ∧ Whole (fI (fr c) (fun _ => 0) t) (Sim c (fun _ => 0) (-1) t 4) :=
  fR_whole (fun j hj => whole_int _ (by have := hs j hj; unfold Small at this; omega)) (fun _ _ => whole_zero) hs (fun _ _ => by unfold Small; decide) t

/-- The least phase of those with the most, as the loop finds it. -/
def pk (c : Nat → Int) : Int :=
  let p1 := if c 0 < c 1 then 1 else 0
  let p2 := if c p1 < c 2 then 2 else p1
  let p3 := if c p2 < c 3 then 3 else p2
  (p3 : Nat)

theorem pk_0 (c : Nat → Int) (h1 : c 0 < c 1) (h2 : c 1 < c 2) (h3 : c 2 < c 3) : pk c = 3 := by simp [pk, h1, h2, h3]
theorem pk_1 (c : Nat → Int) (h1 : c 0 < c 1) (h2 : c 1 < c 2) (h3 : c 3 ≤ c 2) : pk c = 2 := by simp [pk, h1, h2, Int.not_lt.2 h3]
theorem pk_2 (c : Nat → Int) (h1 : c 0 < c 1) (h2 : c 2 ≤ c 1) (h3 : c 1 < c 3) : pk c = 3 := by simp [pk, h1, Int.not_lt.2 h2, h3]
theorem pk_3 (c : Nat → Int) (h1 : c 0 < c 1) (h2 : c 2 ≤ c 1) (h3 : c 3 ≤ c 1) : pk c = 1 := by simp [pk, h1, Int.not_lt.2 h2, Int.not_lt.2 h3]
theorem pk_4 (c : Nat → Int) (h1 : c 1 ≤ c 0) (h2 : c 0 < c 2) (h3 : c 2 < c 3) : pk c = 3 := by simp [pk, Int.not_lt.2 h1, h2, h3]
theorem pk_5 (c : Nat → Int) (h1 : c 1 ≤ c 0) (h2 : c 0 < c 2) (h3 : c 3 ≤ c 2) : pk c = 2 := by simp [pk, Int.not_lt.2 h1, h2, Int.not_lt.2 h3]
theorem pk_6 (c : Nat → Int) (h1 : c 1 ≤ c 0) (h2 : c 2 ≤ c 0) (h3 : c 0 < c 3) : pk c = 3 := by simp [pk, Int.not_lt.2 h1, Int.not_lt.2 h2, h3]
theorem pk_7 (c : Nat → Int) (h1 : c 1 ≤ c 0) (h2 : c 2 ≤ c 0) (h3 : c 3 ≤ c 0) : pk c = 0 := by simp [pk, Int.not_lt.2 h1, Int.not_lt.2 h2, Int.not_lt.2 h3]

set_option maxHeartbeats 4000000 in
theorem peak_of (m : Value) (c : Nat → Int) (w : World) (hc : Calls Try.prog 14 #[m] w fun e w' => e = .returned (.agg (k4 c)) ∧ w' = w.alloc (.cells (k4 c) 43)) :
    Calls Try.prog 15 #[m] w fun e w' => e = .returned (.int .i64 (pk c)) ∧ w' = (w.alloc (.cells (k4 c) 43)).alloc (.cells (k4 c) 43) := by
  have i0 : ∀ w, (Instr.index 43 (.agg #[.int .i64 (c 0), .int .i64 (c 1), .int .i64 (c 2), .int .i64 (c 3)]) (.int .i64 0)).run Try.prog w = .ok (.int .i64 (c 0)) w := fun w => k4_at c 0 (by decide) (by decide) w
  have i1 : ∀ w, (Instr.index 43 (.agg #[.int .i64 (c 0), .int .i64 (c 1), .int .i64 (c 2), .int .i64 (c 3)]) (.int .i64 1)).run Try.prog w = .ok (.int .i64 (c 1)) w := fun w => k4_at c 1 (by decide) (by decide) w
  have i2 : ∀ w, (Instr.index 43 (.agg #[.int .i64 (c 0), .int .i64 (c 1), .int .i64 (c 2), .int .i64 (c 3)]) (.int .i64 2)).run Try.prog w = .ok (.int .i64 (c 2)) w := fun w => k4_at c 2 (by decide) (by decide) w
  have i3 : ∀ w, (Instr.index 43 (.agg #[.int .i64 (c 0), .int .i64 (c 1), .int .i64 (c 2), .int .i64 (c 3)]) (.int .i64 3)).run Try.prog w = .ok (.int .i64 (c 3)) w := fun w => k4_at c 3 (by decide) (by decide) w
  go_enter Try.func15, Try.ntmps15
  go_wp2_with (go_at_call 14; refine hc.mono ?_; rintro e w' ⟨rfl, rfl⟩)
  refine wp_loop_rounds 5 ?_
  repeat any_goals (rw [rounds_succ]; go_wp2)
  all_goals
    go_ret
    first | exact ⟨by rw [pk_0 c (by assumption) (by assumption) (by assumption)]; rfl, rfl⟩ | exact ⟨by rw [pk_1 c (by assumption) (by assumption) (by assumption)]; rfl, rfl⟩ | exact ⟨by rw [pk_2 c (by assumption) (by assumption) (by assumption)]; rfl, rfl⟩ | exact ⟨by rw [pk_3 c (by assumption) (by assumption) (by assumption)]; rfl, rfl⟩ | exact ⟨by rw [pk_4 c (by assumption) (by assumption) (by assumption)]; rfl, rfl⟩ | exact ⟨by rw [pk_5 c (by assumption) (by assumption) (by assumption)]; rfl, rfl⟩ | exact ⟨by rw [pk_6 c (by assumption) (by assumption) (by assumption)]; rfl, rfl⟩ | exact ⟨by rw [pk_7 c (by assumption) (by assumption) (by assumption)]; rfl, rfl⟩

set_option maxHeartbeats 4000000 in
theorem add_nil (t n : Int) (w : World) : Calls Try.prog 11 #[.pointer none, .int .i64 t, .int .i64 n] w fun e w' => e = .returned (.bool false) ∧ w' = w := by
  go_enter Try.func11, Try.ntmps11
  go_wp2
  go_ret
  exact ⟨rfl, rfl⟩

set_option maxHeartbeats 4000000 in
theorem new_any (w : World) : Calls Try.prog 10 #[] w fun e w' => e = .returned (.pointer (some ⟨w.heap.size, 0, none⟩)) ∧ w' = w.alloc (.cells (k4 fun _ => 0) 51) := by
  go_enter Try.func10, Try.ntmps10
  go_wp2
  go_ret
  exact ⟨rfl, rfl⟩
end Go.Proofs.Ytchnjoikjadciab
