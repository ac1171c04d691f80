/- What masks a sum, and what brings it back. -/
import Derived.Test.YtbinabegiikcaaaMore
namespace Go.Proofs.Ytbinabegiikcaaa
open Go.RowKit
set_option linter.unusedVariables false

theorem or_add {a b : Nat} (n : Nat) (ha : a < 2 ^ n) : a ||| b * 2 ^ n = a + b * 2 ^ n := by
  rw [Nat.or_comm, Nat.mul_comm, ← Nat.two_pow_add_eq_or_of_lt ha, Nat.add_comm]
/-- Turned right by 15, turned left by 15. -/
theorem turn17 {x : Nat} (hx : x < 4294967296) : bits .or .u32 ((x : Int) / 32768) ((x : Int) * 131072 % 4294967296) = ((x / 32768 + x % 32768 * 131072 : Nat) : Int) := by
  have e1 : ((x : Int) / 32768) = ((x / 32768 : Nat) : Int) := by omega
  have e2 : ((x : Int) * 131072 % 4294967296) = ((x % 32768 * 2 ^ 17 : Nat) : Int) := by omega
  rw [e1, e2, u32_or_nat _ _ (by omega) (by omega), or_add 17 (by omega)]
theorem turn17' {x : Nat} (hx : x < 4294967296) : bits .or .u32 ((x : Int) * 131072 % 4294967296) ((x : Int) / 32768) = ((x / 32768 + x % 32768 * 131072 : Nat) : Int) := by
  have e1 : ((x : Int) / 32768) = ((x / 32768 : Nat) : Int) := by omega
  have e2 : ((x : Int) * 131072 % 4294967296) = ((x % 32768 * 2 ^ 17 : Nat) : Int) := by omega
  rw [e1, e2, u32_or_nat _ _ (by omega) (by omega), Nat.or_comm, or_add 17 (by omega)]
theorem turn15 {y : Nat} (hy : y < 4294967296) : bits .or .u32 ((y : Int) * 32768 % 4294967296) ((y : Int) / 131072) = ((y % 131072 * 32768 + y / 131072 : Nat) : Int) := by
  have e1 : ((y : Int) / 131072) = ((y / 131072 : Nat) : Int) := by omega
  have e2 : ((y : Int) * 32768 % 4294967296) = ((y % 131072 * 2 ^ 15 : Nat) : Int) := by omega
  rw [e1, e2, u32_or_nat _ _ (by omega) (by omega), Nat.or_comm, or_add 15 (by omega), Nat.add_comm]
theorem sub32 {x : Nat} (hx : x < 4294967296) : ((x : Int) - 2726488792) % 4294967296 = (((x + 4294967296 - 2726488792) % 4294967296 : Nat) : Int) := by omega

theorem rmask_any (x : Nat) (w : World) (hx : x < 4294967296) : Calls Try.prog 24 #[.int .u32 (x : Int)] w fun e w' => e = .returned (.int .u32 (mask x : Nat)) ∧ w' = w := by
  have e := turn17 hx
  have e2 : ((mask x : Nat) : Int) = (((x / 32768 + x % 32768 * 131072 : Nat) : Int) + 2726488792) % 4294967296 := by unfold mask; omega
  generalize x / 32768 + x % 32768 * 131072 = r at e e2
  go_enter Try.func24, Try.ntmps24
  go_wp2_with fail
  go_ret
  rw [e2]
  exact ⟨rfl, rfl⟩
theorem rotR_any (x : Nat) (w : World) (hx : x < 4294967296) : Calls Try.prog 38 #[.int .u32 (x : Int), .int .i64 (-15)] w fun e w' => e = .returned (.int .u32 ((x / 32768 + x % 32768 * 131072 : Nat) : Int)) ∧ w' = w := by
  have e := turn17' hx
  have hk : bits .and .u64 (IntKind.u64.wrap (-15)) 31 = 17 := by kernel_rfl
  generalize x / 32768 + x % 32768 * 131072 = r at e
  go_enter Try.func38, Try.ntmps38
  go_wp2_with fail
  go_ret
  exact ⟨rfl, rfl⟩
theorem rotL_any (y : Nat) (w : World) (hy : y < 4294967296) : Calls Try.prog 38 #[.int .u32 (y : Int), .int .i64 15] w fun e w' => e = .returned (.int .u32 ((y % 131072 * 32768 + y / 131072 : Nat) : Int)) ∧ w' = w := by
  have e := turn15 hy
  have hk : bits .and .u64 (IntKind.u64.wrap 15) 31 = 15 := by kernel_rfl
  have hk' : bits .and .u64 15 31 = 15 := by kernel_rfl
  generalize y % 131072 * 32768 + y / 131072 = r at e
  go_enter Try.func38, Try.ntmps38
  go_wp2_with fail
  go_ret
  exact ⟨rfl, rfl⟩
theorem mask_any (x : Nat) (w : World) (hx : x < 4294967296) : Calls Try.prog 33 #[.int .u32 (x : Int)] w fun e w' => e = .returned (.int .u32 (mask x : Nat)) ∧ w' = w := by
  have h := rotR_any x w hx
  have e2 : ((mask x : Nat) : Int) = (((x / 32768 + x % 32768 * 131072 : Nat) : Int) + 2726488792) % 4294967296 := by unfold mask; omega
  generalize x / 32768 + x % 32768 * 131072 = r at h e2
  go_enter Try.func33, Try.ntmps33
  go_wp2_with (go_at_call 38; refine h.mono ?_; rintro e w ⟨rfl, rfl⟩)
  go_ret
  rw [e2]
  exact ⟨rfl, rfl⟩
end Go.Proofs.Ytbinabegiikcaaa
