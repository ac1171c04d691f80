/- The document's own sums. -/
import Derived.Test.YtifgojkmdicdmaaByt
import Derived.Test.YtifgojkmdicdmaaCrc
namespace Go.Proofs.Ytifgojkmdicdmaa
open Go.RowKit
set_option linter.unusedVariables false

/-- The first n bytes that X tells, as natural numbers. -/
def bl (X : Nat → Nat) (n : Nat) : List Nat := (List.range n).map X
theorem bl_succ (X : Nat → Nat) (n : Nat) : bl X (n + 1) = bl X n ++ [X n] := by simp [bl, List.range_succ]
theorem bl_length (X : Nat → Nat) (n : Nat) : (bl X n).length = n := by simp [bl]
theorem bl_lt {w : World} {ao : Option Addr} {len : Nat} {X : Nat → Nat} (h : Byt w ao len X) {n : Nat} (hn : n ≤ len) : ∀ x ∈ bl X n, x < 256 := fun x hx => by
  obtain ⟨k, hk, rfl⟩ := List.mem_map.1 hx
  exact (h k (by have := List.mem_range.1 hk; omega)).1
theorem crcs_bl (s : Nat) (X : Nat → Nat) (n : Nat) : crcs s (bl X (n + 1)) = upd8 (crcs s (bl X n)) (X n) := by
  rw [bl_succ, crcs_append, crcs_cons, crcs_nil]

theorem not32 {a : Nat} (h : a < 4294967296) : bits .xor .u32 IntKind.u32.max (a : Int) = ((a ^^^ ones : Nat) : Int) := by
  have e : IntKind.u32.max = ((4294967295 : Nat) : Int) := by simp [IntKind.max, IntKind.bits, IntKind.signed]
  rw [e, u32_xor_nat _ _ (by decide) h, Nat.xor_comm]
  rfl
theorem and1_32 {t : Nat} (h : t < 4294967296) : bits .and .u32 (t : Int) 1 = ((t % 2 : Nat) : Int) := by
  have := u32_and_nat t 1 h (by decide)
  rw [Nat.and_one_is_mod] at this
  exact this
theorem xorP {a : Nat} (h : a < 4294967296) : bits .xor .u32 (a : Int) 2197175160 = ((a ^^^ poly : Nat) : Int) := u32_xor_nat a 2197175160 h (by decide)
theorem stps_succ (g t : Nat) : stps (g + 1) t = stps g (stp t) := rfl

end Go.Proofs.Ytifgojkmdicdmaa
