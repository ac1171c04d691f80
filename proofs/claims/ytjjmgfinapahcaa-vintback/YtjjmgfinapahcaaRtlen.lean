/- What the document's own TakeLength answers. -/
import Derived.Test.YtjjmgfinapahcaaTlen
namespace Go.Proofs.Ytjjmgfinapahcaa
open Go.RowKit

theorem wraps_i64 (n : Int) (h₀ : 0 ≤ n) (h₁ : n < 2 ^ 63) : IntKind.i64.wrap n = n := by rw [IntKind.wrap_i64]; omega
theorem or_low_i64 {a b i : Nat} (ha : a < 2 ^ i) (hs : a + b * 2 ^ i < 9223372036854775808) : bits .or .i64 (a : Int) ((b * 2 ^ i : Nat) : Int) = ((a + b * 2 ^ i : Nat) : Int) := by
  rw [(bits_nat .i64 63 (by decide) wraps_i64 a (b * 2 ^ i) (by omega) (by omega)).2]
  congr 1
  rw [Nat.or_comm, Nat.mul_comm b, ← Nat.two_pow_add_eq_or_of_lt ha]
  omega

theorem sev_step_i64 (X : Nat → Nat) (k d : Nat) (hk : k < 4) (hd : d = X k % 128) :
    bits .or .i64 ((val X k : Nat) : Int) (wrap64 ((d : Int) * 2 ^ (7 * k))) = ((val X (k + 1) : Nat) : Int) := by
  have h1 := val_lt X (k + 1)
  have h2 : 128 ^ (k + 1) ≤ 128 ^ 4 := Nat.pow_le_pow_right (by decide) (by omega)
  have h3 : (128 : Nat) ^ 4 = 268435456 := by decide
  have e : (d : Int) * 2 ^ (7 * k) = ((d * 2 ^ (7 * k) : Nat) : Int) := by push_cast; rfl
  simp only [val, pow128] at h1 h2 ⊢
  rw [← hd] at h1 ⊢
  rw [pow128 4] at h2 h3
  have hw : wrap64 ((d * 2 ^ (7 * k) : Nat) : Int) = ((d * 2 ^ (7 * k) : Nat) : Int) := by unfold wrap64; omega
  rw [e, hw, or_low_i64 (by rw [← pow128]; exact val_lt X k) (by omega)]

set_option maxHeartbeats 1000000 in
set_option maxRecDepth 100000 in
theorem rtlen_any (ao : Option Addr) (len cap E : Nat) (X : Nat → Nat) (w : World) (hb : Byt w ao len X) (hl : len ≤ cap) (hE : IsEnd X (min len 4) E) :
    Calls Try.prog 21 #[.slice ao len cap] w fun e w' => e = .returned (tlenV X len E) ∧ w' = w := by
  have HB : Hid (Byt w ao len X) := hb
  have HE : Hid (IsEnd X (min len 4) E) := hE
  clear hb hE
  go_enter Try.func21, Try.ntmps21
  go_wp2
  go_loopg [5, 7] 4 (fun g n i wr => ∃ (k : Nat), k + g = 4 ∧ k ≤ E ∧ n = .int .i64 ((val X k : Nat) : Int) ∧ i = .int .i64 (k : Int) ∧ wr = w)
  case atStart => exact ⟨0, by omega, by omega, rfl, rfl, rfl⟩
  case round =>
    obtain ⟨k, hk, hkE, rfl, rfl, hw⟩ := hrel
    obtain rfl := hw
    have hEm : E ≤ len ∧ E ≤ 4 := by have := HE.out.1; omega
    by_cases h4 : k = 4
    · obtain rfl := h4
      obtain rfl : E = 4 := by omega
      have HT : Hid (tlenV X len 4 = .tuple #[.int .i64 0, .int .i64 0, .int .i64 3]) := by
        show tlenV X len 4 = _
        unfold tlenV
        rw [if_neg (by omega), if_neg (by omega)]
      clear hk hkE HB HE hEm hl
      go_wp2
      exact bodyPost_ret (v := .tuple #[.int .i64 0, .int .i64 0, .int .i64 3]) (by simp [results, Try.results21, go_sem]) rfl ⟨by rw [HT.out], rfl⟩
    · have q4 : (k : Int) < 4 := by omega
      by_cases hkl : k = len
      · have hEk : E = k := by omega
        obtain rfl := hkl
        obtain rfl := hEk
        have HT : Hid (tlenV X E E = .tuple #[.int .i64 0, .int .i64 0, .int .i64 5]) := by
          show tlenV X E E = _
          unfold tlenV
          rw [if_neg (by omega), if_pos (by omega)]
        clear hk hkE HB HE hEm h4 hl
        go_wp2
        exact bodyPost_ret (v := .tuple #[.int .i64 0, .int .i64 0, .int .i64 5]) (by simp [results, Try.results21, go_sem]) rfl ⟨by rw [HT.out], rfl⟩
      · obtain ⟨hx, b, off, rfl, hcell⟩ := HB.out k (by omega)
        have hne : ((k : Int) == (len : Int)) = false := by simp; omega
        have hkl' : (k : Int) < (len : Int) := by omega
        obtain ⟨d, HD⟩ : ∃ d : Nat, Hid (d = X k % 128) := ⟨_, rfl⟩
        have hwa : bits .and .u8 (X k : Int) 127 = (d : Int) := by rw [HD.out]; exact and127 hx
        have hd : (d : Int) < 128 := by have := HD.out; omega
        have HK : Hid (k + gk = 4 ∧ k ≤ E ∧ E ≤ len ∧ E ≤ 4) := ⟨hk, hkE, hEm⟩
        clear hk hkE hEm h4 hkl
        by_cases hs : X k < 128
        · have hs' : (X k : Int) < 128 := by omega
          clear hs
          go_wp2
          have hst := sev_step_i64 X k d (by omega) HD.out
          have hEk : E = k := by
            have h1 := HE.out
            have h2 := HK.out
            rcases Nat.lt_or_ge k E with q | q
            · have := h1.2.1 k q; omega
            · omega
          subst hEk
          refine bodyPost_ret (v := .tuple #[.int .i64 (val X (E + 1) : Nat), .int .i64 ((E : Int) + 1), .int .i64 0]) (by simp [results, Try.results21, go_sem, hst]) rfl ⟨?_, rfl⟩
          unfold tlenV
          rw [if_pos (by omega)]
        · have hs' : (128 : Int) ≤ (X k : Int) := by omega
          clear hs
          obtain ⟨GK, HG⟩ : ∃ g, Hid (g < gk ∧ k + 1 + g = 4) := ⟨gk - 1, by have := HK.out; omega, by have := HK.out; omega⟩
          go_wp2
          have hst := sev_step_i64 X k d (by omega) HD.out
          go_roundg GK
          case measure => exact HG.out.1
          case rel =>
            refine ⟨k + 1, HG.out.2, ?_, by rw [← hst], by go_num, rfl⟩
            have h1 := HE.out
            have h2 := HK.out
            rcases Nat.lt_or_ge k E with q | q
            · omega
            · have := h1.2.2 (by omega)
              rw [show E = k by omega] at this
              omega
end Go.Proofs.Ytjjmgfinapahcaa
