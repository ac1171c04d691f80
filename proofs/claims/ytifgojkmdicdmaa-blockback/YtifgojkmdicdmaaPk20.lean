import Derived.Lib.SlBytesConst
import Derived.Test.YtifgojkmdicdmaaPk19
/- The eight steps, by goto. -/
namespace Go.Proofs.Ytifgojkmdicdmaa
open Go.RowKit
set_option linter.unusedVariables false

def cnt (v : Value) : Nat := match v with | .int _ n => n.toNat | _ => 0

end Go.Proofs.Ytifgojkmdicdmaa

/- The program's sums. -/
namespace Go.Proofs.Ytifgojkmdicdmaa
open Go.RowKit
set_option linter.unusedVariables false

theorem nine : more 0 [49, 50, 51, 52, 53, 54, 55, 56, 57] = 3808858755 := by decide +kernel

end Go.Proofs.Ytifgojkmdicdmaa

/- What masks a sum, and what brings it back. -/
namespace Go.Proofs.Ytifgojkmdicdmaa
open Go.RowKit
set_option linter.unusedVariables false

theorem or_add {a b : Nat} (n : Nat) (ha : a < 2 ^ n) : a ||| b * 2 ^ n = a + b * 2 ^ n := by
  rw [Nat.or_comm, Nat.mul_comm, ← Nat.two_pow_add_eq_or_of_lt ha, Nat.add_comm]
/-- Turned right by 15, turned left by 15. -/
theorem turn17 {x : Nat} (hx : x < 4294967296) : bits .or .u32 ((x : Int) / 32768) ((x : Int) * 131072 % 4294967296) = ((x / 32768 + x % 32768 * 131072 : Nat) : Int) := by
  have e1 : ((x : Int) / 32768) = ((x / 32768 : Nat) : Int) := by omega
  have e2 : ((x : Int) * 131072 % 4294967296) = ((x % 32768 * 2 ^ 17 : Nat) : Int) := by omega
  rw [e1, e2, u32_or_nat _ _ (by omega) (by omega), or_add 17 (by omega)]
theorem turn17' {x : Nat} (hx : x < 4294967296) : bits .or .u32 ((x : Int) * 131072 % 4294967296) ((x : Int) / 32768) = ((x / 32768 + x % 32768 * 131072 : Nat) : Int) := by
  have e1 : ((x : Int) / 32768) = ((x / 32768 : Nat) : Int) := by omega
  have e2 : ((x : Int) * 131072 % 4294967296) = ((x % 32768 * 2 ^ 17 : Nat) : Int) := by omega
  rw [e1, e2, u32_or_nat _ _ (by omega) (by omega), Nat.or_comm, or_add 17 (by omega)]
theorem turn15 {y : Nat} (hy : y < 4294967296) : bits .or .u32 ((y : Int) * 32768 % 4294967296) ((y : Int) / 131072) = ((y % 131072 * 32768 + y / 131072 : Nat) : Int) := by
  have e1 : ((y : Int) / 131072) = ((y / 131072 : Nat) : Int) := by omega
  have e2 : ((y : Int) * 32768 % 4294967296) = ((y % 131072 * 2 ^ 15 : Nat) : Int) := by omega
  rw [e1, e2, u32_or_nat _ _ (by omega) (by omega), Nat.or_comm, or_add 15 (by omega), Nat.add_comm]
theorem sub32 {x : Nat} (hx : x < 4294967296) : ((x : Int) - 2726488792) % 4294967296 = (((x + 4294967296 - 2726488792) % 4294967296 : Nat) : Int) := by omega

end Go.Proofs.Ytifgojkmdicdmaa
