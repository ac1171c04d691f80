/- The document's own disk: what a pick says. -/
import Derived.Test.YtligofmcmjblpaaGreatRspoil
namespace Go.Proofs.YtligofmcmjblpaaGreat
open Go.RowKit
set_option linter.unusedVariables false
set_option linter.unusedSimpArgs false

theorem wrapU (n : Int) : IntKind.u64.wrap n = n % 18446744073709551616 := by simp [IntKind.wrap_u64]
theorem and62 (x : Int) (h : -9223372036854775808 ≤ x) (h0 : x < 0) : bits .and .u64 (x + 18446744073709551616) 4611686018427387903 = x % 4611686018427387904 := by
  obtain ⟨n, hn⟩ := Int.eq_ofNat_of_zero_le (show 0 ≤ x + 18446744073709551616 by omega)
  have e := u64_and_nat n 4611686018427387903 (by omega) (by decide)
  rw [hn]
  have e2 : n &&& 4611686018427387903 = n % 4611686018427387904 := Nat.and_two_pow_sub_one_eq_mod n 62
  rw [show ((4611686018427387903 : Int)) = ((4611686018427387903 : Nat) : Int) from rfl, e, e2]
  omega

set_option maxHeartbeats 1000000 in
set_option maxRecDepth 100000 in
theorem rnext_any (ao : Option Addr) (len cap : Nat) (P : Nat → Int) (k n : Nat) (w : World) (hp : Ints w ao len P) (hl : len ≤ 2 ^ 63 - 1) (hk : k ≤ 2 ^ 40) (hn : n ≤ 2 ^ 40) :
    Calls Tryz.prog 75 #[.slice ao len cap, .int .i64 (k : Int), .int .i64 (n : Int)] w fun e w' => e = .returned (.int .i64 (pick (is P len) k n : Nat)) ∧ w' = w := by
  by_cases h : k < len
  · have h' : (k : Int) < (len : Int) := by omega
    obtain ⟨hr, b, off, rfl, hc⟩ := hp k h
    have hpk : pick (is P len) k n = (if P k < 0 then (P k % 4611686018427387904).toNat else (P k).toNat) % (n + 1) := by
      unfold pick
      rw [is_at, if_pos h]
    rw [hpk]
    clear hpk hp h
    generalize P k = x at hr hc ⊢
    have e1 : IntKind.u64.wrap ((n : Int) + 1) = (n : Int) + 1 := by rw [wrapU]; omega
    have e0 : ¬ ((n : Int) + 1 = 0) := by omega
    by_cases q : x < 0
    · have hand := and62 x hr.1 q
      have e2 : IntKind.u64.wrap x = x + 18446744073709551616 := by rw [wrapU]; omega
      obtain ⟨m, hm⟩ := Int.eq_ofNat_of_zero_le (show 0 ≤ x % 4611686018427387904 by omega)
      have hm2 : m < 4611686018427387904 := by omega
      rw [if_pos q, hm]
      rw [hm] at hand
      have e3 : (((m : Int).toNat % (n + 1) : Nat) : Int) = (m : Int) % ((n : Int) + 1) := by simp
      have e4 : (m : Int) % ((n : Int) + 1) < (n : Int) + 1 := Int.emod_lt_of_pos _ (by omega)
      have e5 : 0 ≤ (m : Int) % ((n : Int) + 1) := Int.emod_nonneg _ (by omega)
      rw [e3]
      generalize hz : (m : Int) % ((n : Int) + 1) = z at e4 e5 ⊢
      clear hm e3
      go_enter Tryz.func75, Tryz.ntmps75
      go_wp2_with fail
      go_ret
      exact ⟨rfl, rfl⟩
    · have q' : 0 ≤ x := by omega
      obtain ⟨m, rfl⟩ := Int.eq_ofNat_of_zero_le q'
      have hm2 : m ≤ 9223372036854775807 := by omega
      have e2 : IntKind.u64.wrap (m : Int) = (m : Int) := by rw [wrapU]; omega
      rw [if_neg q]
      have e3 : (((m : Int).toNat % (n + 1) : Nat) : Int) = (m : Int) % ((n : Int) + 1) := by simp
      have e4 : (m : Int) % ((n : Int) + 1) < (n : Int) + 1 := Int.emod_lt_of_pos _ (by omega)
      have e5 : 0 ≤ (m : Int) % ((n : Int) + 1) := Int.emod_nonneg _ (by omega)
      rw [e3]
      generalize hz : (m : Int) % ((n : Int) + 1) = z at e4 e5 ⊢
      clear e3 q hr
      go_enter Tryz.func75, Tryz.ntmps75
      go_wp2_with fail
      go_ret
      exact ⟨rfl, rfl⟩
  · have h' : (len : Int) ≤ (k : Int) := by omega
    have hpk : pick (is P len) k n = 0 := by
      unfold pick
      rw [is_at, if_neg h]
    rw [hpk]
    clear hpk hp h
    go_enter Tryz.func75, Tryz.ntmps75
    go_wp2_with fail
    go_ret
    exact ⟨rfl, rfl⟩
end Go.Proofs.YtligofmcmjblpaaGreat
