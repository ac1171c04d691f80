/- What the reference's small functions (Turn, Phase, Is, Of) do, at every input. -/
import Derived.Test.YtchnjoikjadciaaTurn
namespace Go.Proofs.Ytchnjoikjadciaa
open Go.RowKit

theorem mod4 (k : Int) : (wrap64 (k.tmod 4 + 4)).tmod 4 = k % 4 := by
  have h0 : (k.tmod 4 = k % 4 ∨ k.tmod 4 = k % 4 - 4) := by
    have h := Int.tmod_eq_emod (a := k) (b := 4)
    split at h
    · left; omega
    · right; simpa using h
  have h1 : wrap64 (k.tmod 4 + 4) = k.tmod 4 + 4 := by unfold wrap64; omega
  rw [h1, Int.tmod_eq_emod_of_nonneg (by omega)]
  omega

set_option maxHeartbeats 400000 in
theorem rturn_any (k : Int) (w : World) :
    Calls Try.prog 11 #[.int .i64 k] w fun e w' => e = .returned (.agg #[.int .i64 (rre (k % 4)), .int .i64 (rim (k % 4))]) ∧ w' = w.alloc (.cells #[.int .i64 (rre (k % 4)), .int .i64 (rim (k % 4))] 26) := by
  have hm := mod4 k
  have hk : k % 4 = 0 ∨ k % 4 = 1 ∨ k % 4 = 2 ∨ k % 4 = 3 := by omega
  rcases hk with e | e | e | e <;> rw [e] at hm <;> rw [e] <;> clear e
  all_goals
    go_enter Try.func11, Try.ntmps11
    go_wp2
    refine bodyPost_ret (v := .agg #[.int .i64 _, .int .i64 _]) (by simp [results, Try.results11, go_sem]; exact ⟨rfl, rfl⟩) rfl ⟨rfl, rfl⟩

set_option maxHeartbeats 400000 in
theorem phase_any (k : Int) (w : World) :
    Calls Try.prog 17 #[.int .i64 k] w fun e w' => e = .returned (.int .i64 (k % 4)) ∧ w' = w := by
  have hm := mod4 k
  go_enter Try.func17, Try.ntmps17
  go_wp2
  go_ret
  exact ⟨rfl, rfl⟩

set_option maxHeartbeats 400000 in
theorem is_any (a b : Nat) (x y : Int) (w : World) :
    Calls Try.prog 9 #[.complex .f64 a b, .agg #[.int .i64 x, .int .i64 y]] w fun e w' => e = .returned (.bool ((Ieee.double.order a (floatOfInt .f64 x) == some .eq) && (Ieee.double.order b (floatOfInt .f64 y) == some .eq))) ∧ w' = w.alloc (.cells #[.int .i64 x, .int .i64 y] 26) := by
  go_enter Try.func9, Try.ntmps9
  go_wp2
  go_ret
  exact ⟨rfl, rfl⟩

set_option maxHeartbeats 400000 in
theorem of_any (x y : Int) (w : World) :
    Calls Try.prog 24 #[.agg #[.int .i64 x, .int .i64 y]] w fun e w' => e = .returned (.complex .f64 (floatOfInt .f64 x) (floatOfInt .f64 y)) ∧ w' = w.alloc (.cells #[.int .i64 x, .int .i64 y] 26) := by
  go_enter Try.func24, Try.ntmps24
  go_wp2
  go_ret
  exact ⟨rfl, rfl⟩
end Go.Proofs.Ytchnjoikjadciaa
