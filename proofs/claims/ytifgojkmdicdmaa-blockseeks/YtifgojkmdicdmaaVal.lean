/- Numbers as bytes of seven bits, the lowest first: the value of such bytes, the bytes of a number, where a number ends. -/
import Derived.Test.YtifgojkmdicdmaaByt
namespace Go.Proofs.Ytifgojkmdicdmaa
open Go.RowKit

/-- The value of the first n bytes. -/
def val (X : Nat → Nat) : Nat → Nat
  | 0 => 0
  | n + 1 => val X n + X n % 128 * 128 ^ n
/-- The value of m bytes from i on. -/
def tv (X : Nat → Nat) : Nat → Nat → Nat
  | _, 0 => 0
  | i, m + 1 => X i % 128 + 128 * tv X (i + 1) m

theorem val_lt (X : Nat → Nat) : ∀ n, val X n < 128 ^ n
  | 0 => by simp [val]
  | n + 1 => by
    have h1 := val_lt X n
    have h2 : X n % 128 ≤ 127 := by omega
    have h3 : X n % 128 * 128 ^ n ≤ 127 * 128 ^ n := Nat.mul_le_mul_right _ h2
    simp only [val, Nat.pow_succ]
    omega
theorem val_tv (X : Nat → Nat) : ∀ m i, val X (i + m) = val X i + 128 ^ i * tv X i m
  | 0, i => by simp [tv]
  | m + 1, i => by
    have h := val_tv X m (i + 1)
    have e : i + (m + 1) = i + 1 + m := by omega
    rw [e, h]
    simp only [val, tv, Nat.pow_succ]
    rw [Nat.mul_add, ← Nat.mul_assoc, Nat.mul_comm (128 ^ i) (X i % 128)]
    omega
theorem val_eq_tv (X : Nat → Nat) (m : Nat) : val X m = tv X 0 m := by
  have := val_tv X m 0
  simpa [val] using this
theorem tv_le (X : Nat → Nat) (i m : Nat) : tv X i m ≤ val X (i + m) := by
  rw [val_tv]
  have : 0 < 128 ^ i := Nat.pow_pos (by decide)
  have := Nat.le_mul_of_pos_left (tv X i m) this
  omega
theorem val_congr {X Y : Nat → Nat} : ∀ {n}, (∀ k, k < n → X k % 128 = Y k % 128) → val X n = val Y n
  | 0, _ => rfl
  | n + 1, h => by simp only [val, val_congr (n := n) fun k hk => h k (by omega), h n (by omega)]
theorem val_mono (X : Nat → Nat) {m n : Nat} (h : m ≤ n) : val X m ≤ val X n := by
  obtain ⟨d, rfl⟩ := Nat.le.dest h
  rw [val_tv]
  omega

/-- It has no needless byte, and no more than 64 bits. -/
def good (X : Nat → Nat) (E : Nat) : Prop := ¬ (0 < E ∧ X E = 0) ∧ (E < 9 ∨ E = 9 ∧ X 9 ≤ 1)
theorem val_good {X : Nat → Nat} {E : Nat} (h : good X E) : val X (E + 1) < 18446744073709551616 := by
  rcases h.2 with g | ⟨rfl, g⟩
  · have h1 := val_lt X (E + 1)
    have h2 : 128 ^ (E + 1) ≤ 128 ^ 9 := Nat.pow_le_pow_right (by decide) (by omega)
    have : (128 : Nat) ^ 9 = 9223372036854775808 := by decide
    omega
  · have h1 := val_lt X 9
    simp only [val] at h1 ⊢
    have : (128 : Nat) ^ 9 = 9223372036854775808 := by decide
    rw [this] at h1 ⊢
    have : X 9 % 128 * 9223372036854775808 ≤ 1 * 9223372036854775808 := Nat.mul_le_mul_right _ (by omega)
    omega

/-- Where the number ends: the first byte below 128, or len. -/
def IsEnd (X : Nat → Nat) (len E : Nat) : Prop := E ≤ len ∧ (∀ j, j < E → 128 ≤ X j) ∧ (E < len → X E < 128)
theorem exists_end (X : Nat → Nat) : ∀ len, ∃ E, IsEnd X len E
  | 0 => ⟨0, Nat.le_refl _, fun j hj => absurd hj (by omega), fun h => absurd h (by omega)⟩
  | len + 1 => by
    obtain ⟨E, h1, h2, h3⟩ := exists_end X len
    by_cases h : E < len
    · exact ⟨E, by omega, h2, fun _ => h3 h⟩
    · by_cases g : X E < 128
      · exact ⟨E, by omega, h2, fun _ => g⟩
      · refine ⟨E + 1, by omega, fun j hj => ?_, fun hh => absurd hh (by omega)⟩
        by_cases e : j = E
        · subst e; omega
        · exact h2 j (by omega)

/-- The bytes of a number. -/
def uv (n : Nat) : List Int := if n < 128 then [(n : Int)] else ((n % 128 + 128 : Nat) : Int) :: uv (n / 128)
theorem uv_lt {n : Nat} (h : n < 128) : uv n = [(n : Int)] := by rw [uv, if_pos h]
theorem uv_ge {n : Nat} (h : 128 ≤ n) : uv n = ((n % 128 + 128 : Nat) : Int) :: uv (n / 128) := by rw [uv, if_neg (by omega)]
theorem okb_uv (n : Nat) : Okb (uv n) := by
  induction n using Nat.strongRecOn with
  | _ n ih =>
    by_cases h : n < 128
    · rw [uv_lt h]; intro x hx; simp at hx; omega
    · rw [uv_ge (by omega)]
      intro x hx
      rcases List.mem_cons.1 hx with rfl | hx
      · omega
      · exact ih (n / 128) (by omega) x hx
theorem uv_pos (n : Nat) : 0 < (uv n).length := by
  by_cases h : n < 128
  · rw [uv_lt h]; simp
  · rw [uv_ge (by omega)]; simp
/-- How many bytes a number below 128^k has. -/
theorem uv_len_le : ∀ (k n : Nat), 0 < k → n < 128 ^ k → (uv n).length ≤ k
  | 0, _, h, _ => absurd h (by decide)
  | k + 1, n, _, h => by
    by_cases g : n < 128
    · rw [uv_lt g]; simp
    · rw [uv_ge (by omega)]
      have hk : 0 < k := by
        rcases k with _ | k
        · simp at h; omega
        · omega
      have := uv_len_le k (n / 128) hk (by rw [Nat.pow_succ] at h; omega)
      simp only [List.length_cons]
      omega
theorem uv_len64 {n : Nat} (h : n < 18446744073709551616) : (uv n).length ≤ 10 :=
  uv_len_le 10 n (by decide) (Nat.lt_trans h (by decide))
end Go.Proofs.Ytifgojkmdicdmaa
