import Derived.Test.YtnoackenjfpcmaaPk02
import Derived.Test.YtnoackenjfpcmaaPk03
/- Numbers of a set size, the highest byte first: what Read and Fixed answer, and the document's own. -/
namespace Go.Proofs.Ytnoackenjfpcmaa
open Go.RowKit

/-- The number of the first k bytes, the highest first. -/
def fv (X : Nat → Nat) : Nat → Nat
  | 0 => 0
  | k + 1 => fv X k * 256 + X k
theorem fv_lt (X : Nat → Nat) : ∀ k, (∀ j, j < k → X j < 256) → fv X k < 256 ^ k
  | 0, _ => by simp [fv]
  | k + 1, h => by
    have h1 := fv_lt X k fun j hj => h j (by omega)
    have h2 := h k (by omega)
    simp only [fv, Nat.pow_succ]
    omega
/-- The lowest s bytes of n, the highest first. -/
def fx (n : Nat) : Nat → List Int
  | 0 => []
  | s + 1 => ((n / 256 ^ s % 256 : Nat) : Int) :: fx n s
theorem fx_length (n : Nat) : ∀ s, (fx n s).length = s
  | 0 => rfl
  | s + 1 => by simp [fx, fx_length n s]
theorem okb_fx (n : Nat) : ∀ s, Okb (fx n s)
  | 0 => fun x hx => by cases hx
  | s + 1 => fun x hx => by
    rcases List.mem_cons.1 hx with rfl | hx
    · omega
    · exact okb_fx n s x hx
def InSize (size : Int) : Prop := 1 ≤ size ∧ size ≤ 8
instance (size : Int) : Decidable (InSize size) := by unfold InSize; infer_instance
def fxs (n : Nat) (size : Int) : List Int := if InSize size then fx n size.toNat else []
theorem okb_fxs (n : Nat) (size : Int) : Okb (fxs n size) := by
  unfold fxs
  split
  · exact okb_fx _ _
  · intro x hx; cases hx
theorem fxs_length (n : Nat) (size : Int) : (fxs n size).length ≤ 8 := by
  unfold fxs
  split
  · rename_i h; rw [fx_length]; unfold InSize at h; omega
  · simp
def readV (X : Nat → Nat) (len : Nat) (size : Int) : Value :=
  if InSize size then (if (len : Int) < size then .tuple #[.int .u64 0, .int .i64 5] else .tuple #[.int .u64 (fv X size.toNat : Nat), .int .i64 0]) else .tuple #[.int .u64 0, .int .i64 1]

theorem fv_step (X : Nat → Nat) (k : Nat) (hk : k < 8) (hX : ∀ j, j < k + 1 → X j < 256) :
    bits .or .u64 (IntKind.u64.wrap ((fv X k : Nat) * 256)) ((X k : Nat) : Int) = ((fv X (k + 1) : Nat) : Int) := by
  have h1 := fv_lt X k fun j hj => hX j (by omega)
  have h2 : 256 ^ k ≤ 256 ^ 7 := Nat.pow_le_pow_right (by decide) (by omega)
  have h3 : (256 : Nat) ^ 7 = 72057594037927936 := by decide
  have h4 := hX k (by omega)
  have e : ((fv X k : Nat) : Int) * 256 = ((fv X k * 2 ^ 8 : Nat) : Int) := by omega
  rw [e, wrapU64_of (by omega), or_high (by omega) (by omega)]
  rfl

/-- One byte of a number of a set size. -/
theorem fx_byte (n j : Nat) : IntKind.u8.wrap ((n : Int) / 2 ^ (8 * j)) = ((n / 256 ^ j % 256 : Nat) : Int) := by
  have e : (n : Int) / 2 ^ (8 * j) = ((n / 256 ^ j : Nat) : Int) := by
    rw [show (256 : Nat) = 2 ^ 8 from rfl, ← Nat.pow_mul]
    push_cast
    rfl
  rw [e, wrapU8_nat]

end Go.Proofs.Ytnoackenjfpcmaa

/- The bytes of a number, read again: where they end, that they are good, their value; and how many they are. -/
namespace Go.Proofs.Ytnoackenjfpcmaa
open Go.RowKit
set_option linter.unusedVariables false

/-- The row of bytes Z begins with the bytes of n. -/
def Begins (Z : Nat → Nat) (xs : List Int) : Prop := ∀ k, k < xs.length → (Z k : Int) = xs.getD k 0

theorem begins_cons {Z : Nat → Nat} {x : Int} {xs : List Int} (h : Begins Z (x :: xs)) : (Z 0 : Int) = x ∧ Begins (fun k => Z (k + 1)) xs := by
  refine ⟨by simpa using h 0 (by simp), fun k hk => ?_⟩
  have := h (k + 1) (by simpa using hk)
  simpa using this

theorem tv_shift (X : Nat → Nat) : ∀ (m i : Nat), tv X (i + 1) m = tv (fun k => X (k + 1)) i m
  | 0, _ => rfl
  | m + 1, i => by simp only [tv]; rw [tv_shift X m (i + 1)]

/-- All that is known of the bytes of n at the beginning of a row. -/
theorem uv_read (n : Nat) : ∀ (Z : Nat → Nat), Begins Z (uv n) → (∀ j, j + 1 < (uv n).length → 128 ≤ Z j) ∧ Z ((uv n).length - 1) < 128 ∧ tv Z 0 (uv n).length = n ∧ (1 < (uv n).length → Z ((uv n).length - 1) ≠ 0) := by
  induction n using Nat.strongRecOn with
  | _ n ih =>
    intro Z hZ
    by_cases h : n < 128
    · rw [uv_lt h] at hZ ⊢
      have h0 := (begins_cons hZ).1
      simp only [List.length_cons, List.length_nil, tv]
      refine ⟨fun j hj => absurd hj (by omega), by simp; omega, by omega, fun hh => absurd hh (by omega)⟩
    · rw [uv_ge (by omega)] at hZ ⊢
      obtain ⟨h0, h1⟩ := begins_cons hZ
      obtain ⟨i1, i2, i3, i4⟩ := ih (n / 128) (by omega) _ h1
      have hp := uv_pos (n / 128)
      have e : (uv (n / 128)).length + 1 - 1 = (uv (n / 128)).length - 1 + 1 := by omega
      simp only [List.length_cons, tv]
      rw [e]
      refine ⟨fun j hj => ?_, i2, ?_, fun _ => ?_⟩
      · cases j with
        | zero => omega
        | succ j => exact i1 j (by omega)
      · rw [tv_shift, i3]
        omega
      · by_cases g : 1 < (uv (n / 128)).length
        · exact i4 g
        · have h2 : (uv (n / 128)).length = 1 := by omega
          by_cases q : n / 128 < 128
          · have h3 := h1
            rw [uv_lt q] at h3
            have := (begins_cons h3).1
            simp only [h2] at i2 ⊢
            simp at this
            have e1 : Z 1 ≠ 0 := by omega
            exact e1
          · rw [uv_ge (by omega)] at h2
            have := uv_pos (n / 128 / 128)
            rw [List.length_cons] at h2
            omega

theorem uv_mono : ∀ (b a : Nat), a ≤ b → (uv a).length ≤ (uv b).length := by
  intro b
  induction b using Nat.strongRecOn with
  | _ b ih =>
    intro a h
    by_cases ha : a < 128
    · rw [uv_lt ha]; exact uv_pos b
    · rw [uv_ge (by omega : 128 ≤ a), uv_ge (by omega : 128 ≤ b)]
      have := ih (b / 128) (by omega) (a / 128) (by omega)
      simpa using this

/-- A number's bytes, whatever stands behind them: where they end, and that Take takes them. -/
theorem uv_end {n : Nat} {Z : Nat → Nat} {len : Nat} (hZ : Begins Z (uv n)) (hl : (uv n).length ≤ len) : IsEnd Z len ((uv n).length - 1) := by
  obtain ⟨h1, h2, _⟩ := uv_read n Z hZ
  have := uv_pos n
  exact ⟨by omega, fun j hj => h1 j (by omega), fun _ => h2⟩
theorem uv_val {n : Nat} {Z : Nat → Nat} (hZ : Begins Z (uv n)) : val Z ((uv n).length - 1 + 1) = n := by
  have := uv_pos n
  rw [show (uv n).length - 1 + 1 = (uv n).length by omega, val_eq_tv]
  exact (uv_read n Z hZ).2.2.1
theorem uv_good {n : Nat} {Z : Nat → Nat} (hn : n < 18446744073709551616) (hZ : Begins Z (uv n)) : good Z ((uv n).length - 1) := by
  obtain ⟨h1, h2, h3, h4⟩ := uv_read n Z hZ
  have hp := uv_pos n
  have h10 := uv_len64 hn
  refine ⟨fun ⟨q1, q2⟩ => h4 (by omega) q2, ?_⟩
  by_cases q : (uv n).length - 1 < 9
  · exact .inl q
  · have e : (uv n).length = 10 := by omega
    refine .inr ⟨by omega, ?_⟩
    rw [e] at h3 h2
    have h5 := val_eq_tv Z 10
    rw [h3] at h5
    have h6 : val Z 10 = val Z 9 + Z 9 % 128 * 128 ^ 9 := rfl
    have h7 : (128 : Nat) ^ 9 = 9223372036854775808 := by decide
    rw [h7] at h6
    have h8 : Z 9 < 128 := h2
    rcases Nat.lt_or_ge 1 (Z 9) with g | g
    · have : 2 * 9223372036854775808 ≤ Z 9 % 128 * 9223372036854775808 := Nat.mul_le_mul_right _ (by omega)
      omega
    · exact g

theorem takeV_uv {n : Nat} {Z : Nat → Nat} {len : Nat} (hn : n < 18446744073709551616) (hZ : Begins Z (uv n)) (hl : (uv n).length ≤ len) : takeV Z len ((uv n).length - 1) = .tuple #[.int .u64 (n : Int), .int .i64 ((uv n).length : Int), .int .i64 0] := by
  have hp := uv_pos n
  unfold takeV
  rw [if_pos (by omega), if_pos (uv_good hn hZ), uv_val hZ]
  congr 5
  omega
/-- Cut off it is short. -/
theorem takeV_cut {n : Nat} {Z : Nat → Nat} {k : Nat} (hZ : Begins Z (uv n)) (hk : k < (uv n).length) : IsEnd Z k k ∧ takeV Z k k = .tuple #[.int .u64 0, .int .i64 0, .int .i64 5] := by
  obtain ⟨h1, _⟩ := uv_read n Z hZ
  exact ⟨⟨Nat.le_refl _, fun j hj => h1 j (by omega), fun h => absurd h (by omega)⟩, by unfold takeV; rw [if_neg (by omega)]⟩

theorem begins_xof {xs ys : List Int} (h : Okb (xs ++ ys)) : Begins (xof (xs ++ ys)) xs := fun k hk => by
  have hk' : k < (xs ++ ys).length := by simp; omega
  have := h (xs ++ ys)[k] (List.getElem_mem hk')
  have e : (xs ++ ys)[k] = xs[k] := List.getElem_append_left hk
  simp only [xof, List.getD_eq_getElem?_getD, List.getElem?_eq_getElem hk', List.getElem?_eq_getElem hk, Option.getD_some]
  rw [e] at this ⊢
  omega
theorem begins_xof' {xs : List Int} (h : Okb xs) : Begins (xof xs) xs := by
  have := begins_xof (xs := xs) (ys := []) (by simpa using h)
  simpa using this

/-- The number of a set size's bytes. -/
theorem fv_fx (n : Nat) : ∀ (s : Nat) (Z : Nat → Nat) (acc i : Nat), (∀ k, k < s → (Z (i + k) : Int) = (fx n s).getD k 0) → fv Z i = acc → fv Z (i + s) = acc * 256 ^ s + n % 256 ^ s
  | 0, Z, acc, i, _, h => by simp [h]; omega
  | s + 1, Z, acc, i, hZ, h => by
    have h0 := hZ 0 (by omega)
    simp only [fx, Nat.add_zero, List.getD_cons_zero] at h0
    have h1 : fv Z (i + 1) = acc * 256 + n / 256 ^ s % 256 := by simp only [fv, h]; omega
    have := fv_fx n s Z _ (i + 1) (fun k hk => by have := hZ (k + 1) (by omega); simpa [fx, Nat.add_assoc, Nat.add_comm 1 k] using this) h1
    rw [show i + (s + 1) = i + 1 + s by omega, this, Nat.add_mul, Nat.pow_succ, Nat.mul_assoc, Nat.mul_comm 256]
    have e := Nat.mod_mul (x := n) (a := 256 ^ s) (b := 256)
    rw [Nat.mul_comm (n / 256 ^ s % 256)]
    omega
end Go.Proofs.Ytnoackenjfpcmaa

/- What the document's own Take answers. -/
namespace Go.Proofs.Ytnoackenjfpcmaa
open Go.RowKit

theorem good' {X : Nat → Nat} {E : Nat} : good X E ↔ ¬ (0 < E ∧ X E = 0) ∧ (E < 9 ∨ E = 9 ∧ X E ≤ 1) := by
  unfold good
  constructor
  · rintro ⟨h1, h2 | ⟨rfl, h2⟩⟩
    · exact ⟨h1, .inl h2⟩
    · exact ⟨h1, .inr ⟨rfl, h2⟩⟩
  · rintro ⟨h1, h2 | ⟨rfl, h2⟩⟩
    · exact ⟨h1, .inl h2⟩
    · exact ⟨h1, .inr ⟨rfl, h2⟩⟩

end Go.Proofs.Ytnoackenjfpcmaa
