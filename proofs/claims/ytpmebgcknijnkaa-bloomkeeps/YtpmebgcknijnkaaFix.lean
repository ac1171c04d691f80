/- Numbers of a set size, the highest byte first: what Read and Fixed answer, and the document's own. -/
import Derived.Test.YtpmebgcknijnkaaFresh
import Derived.Test.YtpmebgcknijnkaaBwide
namespace Go.Proofs.Ytpmebgcknijnkaa
open Go.RowKit

/-- The number of the first k bytes, the highest first. -/
def fv (X : Nat → Nat) : Nat → Nat
  | 0 => 0
  | k + 1 => fv X k * 256 + X k
theorem fv_lt (X : Nat → Nat) : ∀ k, (∀ j, j < k → X j < 256) → fv X k < 256 ^ k
  | 0, _ => by simp [fv]
  | k + 1, h => by
    have h1 := fv_lt X k fun j hj => h j (by omega)
    have h2 := h k (by omega)
    simp only [fv, Nat.pow_succ]
    omega
/-- The lowest s bytes of n, the highest first. -/
def fx (n : Nat) : Nat → List Int
  | 0 => []
  | s + 1 => ((n / 256 ^ s % 256 : Nat) : Int) :: fx n s
theorem fx_length (n : Nat) : ∀ s, (fx n s).length = s
  | 0 => rfl
  | s + 1 => by simp [fx, fx_length n s]
theorem okb_fx (n : Nat) : ∀ s, Okb (fx n s)
  | 0 => fun x hx => by cases hx
  | s + 1 => fun x hx => by
    rcases List.mem_cons.1 hx with rfl | hx
    · omega
    · exact okb_fx n s x hx
def InSize (size : Int) : Prop := 1 ≤ size ∧ size ≤ 8
instance (size : Int) : Decidable (InSize size) := by unfold InSize; infer_instance
def fxs (n : Nat) (size : Int) : List Int := if InSize size then fx n size.toNat else []
theorem okb_fxs (n : Nat) (size : Int) : Okb (fxs n size) := by
  unfold fxs
  split
  · exact okb_fx _ _
  · intro x hx; cases hx
theorem fxs_length (n : Nat) (size : Int) : (fxs n size).length ≤ 8 := by
  unfold fxs
  split
  · rename_i h; rw [fx_length]; unfold InSize at h; omega
  · simp
def readV (X : Nat → Nat) (len : Nat) (size : Int) : Value :=
  if InSize size then (if (len : Int) < size then .tuple #[.int .u64 0, .int .i64 5] else .tuple #[.int .u64 (fv X size.toNat : Nat), .int .i64 0]) else .tuple #[.int .u64 0, .int .i64 1]

theorem fv_step (X : Nat → Nat) (k : Nat) (hk : k < 8) (hX : ∀ j, j < k + 1 → X j < 256) :
    bits .or .u64 (IntKind.u64.wrap ((fv X k : Nat) * 256)) ((X k : Nat) : Int) = ((fv X (k + 1) : Nat) : Int) := by
  have h1 := fv_lt X k fun j hj => hX j (by omega)
  have h2 : 256 ^ k ≤ 256 ^ 7 := Nat.pow_le_pow_right (by decide) (by omega)
  have h3 : (256 : Nat) ^ 7 = 72057594037927936 := by decide
  have h4 := hX k (by omega)
  have e : ((fv X k : Nat) : Int) * 256 = ((fv X k * 2 ^ 8 : Nat) : Int) := by omega
  rw [e, wrapU64_of (by omega), or_high (by omega) (by omega)]
  rfl

/-- One byte of a number of a set size. -/
theorem fx_byte (n j : Nat) : IntKind.u8.wrap ((n : Int) / 2 ^ (8 * j)) = ((n / 256 ^ j % 256 : Nat) : Int) := by
  have e : (n : Int) / 2 ^ (8 * j) = ((n / 256 ^ j : Nat) : Int) := by
    rw [show (256 : Nat) = 2 ^ 8 from rfl, ← Nat.pow_mul]
    push_cast
    rfl
  rw [e, wrapU8_nat]

end Go.Proofs.Ytpmebgcknijnkaa
