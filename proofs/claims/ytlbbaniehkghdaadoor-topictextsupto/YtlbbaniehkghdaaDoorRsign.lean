/- The document's own look for signs. -/
import Derived.Test.YtlbbaniehkghdaaDoorRtext
namespace Go.Proofs.YtlbbaniehkghdaaDoor
open Go.RowKit
set_option linter.unusedVariables false

theorem drop_bytes (s : ByteArray) (k : Nat) (h : k < s.size) : s.data.toList.drop k = s[k] :: s.data.toList.drop (k + 1) := by
  have h' : k < s.data.toList.length := by rw [Array.length_toList]; exact h
  rw [List.drop_eq_getElem_cons h']
  rfl
theorem u8_nat (c : UInt8) (n : Nat) (hn : n < 256) : (c == UInt8.ofNat n) = ((c.toNat : Int) == (n : Int)) := by
  rw [Bool.eq_iff_iff, beq_iff_eq, beq_iff_eq, ← UInt8.toNat_inj, UInt8.toNat_ofNat']
  simp only [Nat.reducePow]
  rw [Nat.mod_eq_of_lt hn]
  omega

set_option maxHeartbeats 1000000 in
set_option maxRecDepth 100000 in
theorem rsign_any (s : ByteArray) (w : World) (hl : s.size ≤ maxLen) : Calls Tryd.prog 29 #[.string s] w fun e w' => e = .returned (.bool (sgn s.data.toList)) ∧ w' = w := by
  have h63 : s.size ≤ 2 ^ 63 - 1 := by unfold maxLen at hl; omega
  obtain ⟨T, hT⟩ : ∃ T, T = sgn s.data.toList := ⟨_, rfl⟩
  rw [← hT]
  have H0 : Hid (sgn (s.data.toList.drop 0) = T) := hT.symm
  clear hl hT
  go_enter Tryd.func29, Tryd.ntmps29
  go_wp2_with fail
  go_loopg [6] s.size (fun g i wr => ∃ k : Nat, k + g = s.size ∧ i = .int .i64 (k : Int) ∧ wr = w ∧ Hid (sgn (s.data.toList.drop k) = T))
  case atStart => exact ⟨0, by omega, rfl, rfl, H0⟩
  case round =>
    obtain ⟨k, hk, rfl, hw, HT⟩ := hrel
    obtain rfl := hw
    by_cases h : k < s.size
    · have h' : (k : Int) < (s.size : Int) := by omega
      have hd := HT.out
      rw [drop_bytes s k h] at hd
      have e43 : (s[k] == 43) = ((s[k].toNat : Int) == 43) := u8_nat s[k] 43 (by decide)
      have e35 : (s[k] == 35) = ((s[k].toNat : Int) == 35) := u8_nat s[k] 35 (by decide)
      have hs : ((((s[k].toNat : Int) == 43) || ((s[k].toNat : Int) == 35)) || sgn (s.data.toList.drop (k + 1))) = T := by
        rw [← e43, ← e35]
        exact hd
      obtain ⟨GK, HG⟩ : ∃ g, Hid (g < gk ∧ k + 1 + g = s.size) := ⟨gk - 1, by omega, by omega⟩
      clear hd e43 e35 hk
      by_cases q1 : (s[k].toNat : Int) = 43
      · have hT : T = true := by rw [← hs]; simp [q1]
        subst hT
        clear hs
        go_wp2_with fail
        go_ret
        exact ⟨rfl, rfl⟩
      · have b1 : ((s[k].toNat : Int) == 43) = false := by simp [q1]
        by_cases q2 : (s[k].toNat : Int) = 35
        · have hT : T = true := by rw [← hs]; simp [q2]
          subst hT
          clear hs
          go_wp2_with fail
          go_ret
          exact ⟨rfl, rfl⟩
        · have b2 : ((s[k].toNat : Int) == 35) = false := by simp [q2]
          rw [b1, b2] at hs
          have HS : Hid (sgn (s.data.toList.drop (k + 1)) = T) := hs
          clear hs
          go_wp2_with fail
          go_roundg GK
          case measure => exact HG.out.1
          case rel => exact ⟨k + 1, HG.out.2, by go_num, rfl, HS⟩
    · have h' : (s.size : Int) ≤ (k : Int) := by omega
      have hT : T = false := by
        have := HT.out
        rw [List.drop_eq_nil_of_le (by rw [Array.length_toList]; show s.size ≤ k; omega)] at this
        exact this.symm
      subst hT
      clear hk h
      go_wp2_with fail
      go_ret
      exact ⟨rfl, rfl⟩
end Go.Proofs.YtlbbaniehkghdaaDoor
