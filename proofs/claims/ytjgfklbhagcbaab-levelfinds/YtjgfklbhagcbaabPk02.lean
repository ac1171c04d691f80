import Derived.Test.YtjgfklbhagcbaabPk01
/- What the program's bitwise operations make of bytes and of numbers of seven and of eight bits. -/
namespace Go.Proofs.Ytjgfklbhagcbaab
open Go.RowKit

theorem wrapU64 (n : Int) : IntKind.u64.wrap n = n % 18446744073709551616 := by simp [IntKind.wrap, IntKind.bits, IntKind.signed]
theorem wrapU64_nat (n : Nat) : IntKind.u64.wrap (n : Int) = ((n % 18446744073709551616 : Nat) : Int) := by rw [wrapU64]; omega
theorem wrapU64_of {n : Nat} (h : n < 18446744073709551616) : IntKind.u64.wrap (n : Int) = (n : Int) := by rw [wrapU64]; omega
theorem wrapU8_nat (n : Nat) : IntKind.u8.wrap (n : Int) = ((n % 256 : Nat) : Int) := by rw [IntKind.wrap_u8]; omega
theorem and127 {x : Nat} (h : x < 256) : bits .and .u8 (x : Int) 127 = ((x % 128 : Nat) : Int) := by
  have := bits_mask .u8 8 (by decide) wraps_u8 7 (by decide) (x : Int) (by omega) (by omega)
  simpa using this
theorem and127_64 {x : Nat} (h : x < 18446744073709551616) : bits .and .u64 (x : Int) 127 = ((x % 128 : Nat) : Int) := by
  have := u64_and_nat x 127 h (by decide)
  rw [show ((127 : Nat) : Int) = 127 from rfl] at this
  rw [this]
  congr 1
  exact Nat.and_two_pow_sub_one_eq_mod x 7
theorem or128 {x : Nat} (h : x < 256) : bits .or .u8 (x : Int) 128 = ((x % 128 + 128 : Nat) : Int) := by
  have := u8_or_nat x 128 h (by decide)
  rw [show ((128 : Nat) : Int) = 128 from rfl] at this
  rw [this]
  congr 1
  clear this
  have key : ∀ y, y < 256 → y ||| 128 = y % 128 + 128 := by decide +kernel
  exact key x h
/-- The low part and the high part do not meet. -/
theorem or_low {a b i : Nat} (ha : a < 2 ^ i) (hs : a + b * 2 ^ i < 18446744073709551616) : bits .or .u64 (a : Int) ((b * 2 ^ i : Nat) : Int) = ((a + b * 2 ^ i : Nat) : Int) := by
  rw [u64_or_nat a (b * 2 ^ i) (by omega) (by omega)]
  congr 1
  rw [Nat.or_comm, Nat.mul_comm b, ← Nat.two_pow_add_eq_or_of_lt ha]
  omega
theorem or_high {a b i : Nat} (ha : a < 2 ^ i) (hs : b * 2 ^ i + a < 18446744073709551616) : bits .or .u64 ((b * 2 ^ i : Nat) : Int) (a : Int) = ((b * 2 ^ i + a : Nat) : Int) := by
  rw [u64_or_nat (b * 2 ^ i) a (by omega) (by omega)]
  congr 1
  rw [Nat.mul_comm b, ← Nat.two_pow_add_eq_or_of_lt ha]
theorem pow128 (k : Nat) : 128 ^ k = 2 ^ (7 * k) := by
  rw [Nat.pow_mul]

theorem sev_step (X : Nat → Nat) (k : Nat) (hx : X k < 256) (hv : val X (k + 1) < 18446744073709551616) :
    bits .or .u64 ((val X k : Nat) : Int) (IntKind.u64.wrap (IntKind.u64.wrap (bits .and .u8 (X k : Int) 127) * 2 ^ (7 * k))) = ((val X (k + 1) : Nat) : Int) := by
  rw [and127 hx, wrapU64_of (by omega)]
  have e : ((X k % 128 : Nat) : Int) * 2 ^ (7 * k) = ((X k % 128 * 2 ^ (7 * k) : Nat) : Int) := by push_cast; rfl
  simp only [val, pow128] at hv ⊢
  rw [e, wrapU64_of (by omega), or_low (by rw [← pow128]; exact val_lt X k) hv]

/-- One step of the reckoning from the highest byte down. -/
theorem tv_step (X : Nat → Nat) (i m : Nat) (hx : X i < 256) (hv : tv X i (m + 1) < 18446744073709551616) :
    bits .or .u64 (IntKind.u64.wrap (((tv X (i + 1) m : Nat) : Int) * 128)) (IntKind.u64.wrap (bits .and .u8 (X i : Int) 127)) = ((tv X i (m + 1) : Nat) : Int) := by
  rw [and127 hx, wrapU64_of (by omega)]
  simp only [tv] at hv ⊢
  have e : ((tv X (i + 1) m : Nat) : Int) * 128 = ((tv X (i + 1) m * 2 ^ 7 : Nat) : Int) := by push_cast; rfl
  rw [e, wrapU64_of (by omega), or_high (by omega) (by omega)]
  congr 1
  omega

/-- A byte of a number that goes on. -/
theorem put_byte {n : Nat} : bits .or .u8 (IntKind.u8.wrap (n : Int)) 128 = ((n % 128 + 128 : Nat) : Int) := by
  rw [wrapU8_nat, or128 (by omega)]
  congr 1
  omega
end Go.Proofs.Ytjgfklbhagcbaab

/- What sevens and goodUvarint answer. -/
namespace Go.Proofs.Ytjgfklbhagcbaab
open Go.RowKit

instance (X : Nat → Nat) (E : Nat) : Decidable (good X E) := by unfold good; infer_instance
theorem good_iff {X : Nat → Nat} {E : Nat} {b : Bool} (h : b = true ↔ good X E) : b = decide (good X E) := by
  cases b with
  | true => exact (decide_eq_true (h.1 rfl)).symm
  | false => exact (decide_eq_false fun g => by cases h.2 g).symm

end Go.Proofs.Ytjgfklbhagcbaab

/- What Take answers. -/
namespace Go.Proofs.Ytjgfklbhagcbaab
open Go.RowKit

/-- What Take answers, where the number ends at E. -/
def takeV (X : Nat → Nat) (len E : Nat) : Value :=
  if E < len then (if good X E then .tuple #[.int .u64 (val X (E + 1) : Nat), .int .i64 ((E : Int) + 1), .int .i64 0] else .tuple #[.int .u64 0, .int .i64 0, .int .i64 3]) else .tuple #[.int .u64 0, .int .i64 0, .int .i64 5]

end Go.Proofs.Ytjgfklbhagcbaab
