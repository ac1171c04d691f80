/- The program's sums. -/
import Derived.Test.YtbinabegiikcaaaEight
import Derived.Lib.SlBytesConst
namespace Go.Proofs.Ytbinabegiikcaaa
open Go.RowKit
set_option linter.unusedVariables false

set_option maxHeartbeats 1000000 in
set_option maxRecDepth 100000 in
theorem more_any (sum : Nat) (ao : Option Addr) (len cap : Nat) (X : Nat → Nat) (w : World) (hs : sum < 4294967296) (hb : Byt w ao len X) (hl : len ≤ maxLen) :
    Calls Try.prog 39 #[.int .u32 (sum : Int), .slice ao len cap] w fun e w' => e = .returned (.int .u32 (more sum (bl X len) : Nat)) ∧ w' = w := by
  have HB : Hid (Byt w ao len X) := hb
  have hl63 : len ≤ 2 ^ 63 - 1 := by unfold maxLen at hl; omega
  obtain ⟨s0, hs0⟩ : ∃ s0, s0 = sum ^^^ ones := ⟨_, rfl⟩
  have hs1 : s0 < 4294967296 := by rw [hs0]; exact xor_lt32 hs (by decide)
  have hn := not32 hs
  rw [← hs0] at hn
  have HS : Hid (s0 = sum ^^^ ones ∧ s0 < 4294967296) := ⟨hs0, hs1⟩
  clear hb hl hs0 hs1
  go_enter Try.func39, Try.ntmps39
  go_wp2_with fail
  clear hn
  go_loopg [5, 12] len (fun g s i wr => ∃ k t : Nat, k + g = len ∧ i = .int .i64 (k : Int) ∧ s = .int .u32 (t : Int) ∧ wr = w ∧ Hid (t = crcs s0 (bl X k)))
  case atStart => exact ⟨0, s0, by omega, rfl, rfl, rfl, rfl⟩
  case round =>
    obtain ⟨k, t, hk, rfl, rfl, hw, HT⟩ := hrel
    obtain rfl := hw
    have ht : t < 4294967296 := by rw [HT.out]; exact crcs_lt _ HS.out.2 (bl_lt HB.out (by omega))
    by_cases h : k < len
    · obtain ⟨hx, b, off, rfl, hcell⟩ := HB.out k h
      have h' : (k : Int) < (len : Int) := by omega
      obtain ⟨GK, HG⟩ : ∃ g, Hid (g < gk ∧ k + 1 + g = len) := ⟨gk - 1, by omega, by omega⟩
      obtain ⟨c, hc⟩ : ∃ c, c = X k := ⟨_, rfl⟩
      rw [← hc] at hcell hx
      have hc8 : (c : Int) < 256 := by omega
      obtain ⟨t0, ht0⟩ : ∃ t0, t0 = t ^^^ c := ⟨_, rfl⟩
      have hxor : bits .xor .u32 (t : Int) (c : Int) = (t0 : Int) := by rw [ht0]; exact u32_xor_nat t c ht (by omega)
      have h8 := eight_any t0 wr (by rw [ht0]; exact xor_lt32 ht (by omega))
      obtain ⟨t1, ht1⟩ : ∃ t1, t1 = stps 8 t0 := ⟨_, rfl⟩
      rw [← ht1] at h8
      have HC : Hid (t1 = crcs s0 (bl X (k + 1))) := by
        show t1 = crcs s0 (bl X (k + 1))
        rw [crcs_bl, ← HT.out, ← hc, ht1, ht0]
        rfl
      clear hk h hc hx ht0 ht1
      go_wp2_with (go_at_call 42; refine h8.mono ?_; rintro e wr ⟨rfl, rfl⟩)
      go_roundg GK
      case measure => exact HG.out.1
      case rel => exact ⟨k + 1, t1, HG.out.2, by go_num, rfl, rfl, HC⟩
    · have h' : (len : Int) ≤ (k : Int) := by omega
      have hkl : k = len := by omega
      have hn2 := not32 ht
      obtain ⟨r, hr⟩ : ∃ r, r = t ^^^ ones := ⟨_, rfl⟩
      rw [← hr] at hn2
      have HRR : Hid (r = more sum (bl X len)) := by
        show r = more sum (bl X len)
        rw [hr, HT.out, HS.out.1, hkl]
        rfl
      clear hk h hkl hr ht
      go_wp2_with fail
      go_ret
      exact ⟨by rw [← HRR.out]; rfl, rfl⟩

theorem sum_any (ao : Option Addr) (len cap : Nat) (X : Nat → Nat) (w : World) (hb : Byt w ao len X) (hl : len ≤ maxLen) :
    Calls Try.prog 34 #[.slice ao len cap] w fun e w' => e = .returned (.int .u32 (more 0 (bl X len) : Nat)) ∧ w' = w := by
  have hm := more_any 0 ao len cap X w (by decide) hb hl
  obtain ⟨r, hr⟩ : ∃ r, r = more 0 (bl X len) := ⟨_, rfl⟩
  rw [← hr] at hm ⊢
  clear hb hl hr
  go_enter Try.func34, Try.ntmps34
  go_wp2_with (go_at_call 39; refine hm.mono ?_; rintro e w ⟨rfl, rfl⟩)
  go_ret
  exact ⟨rfl, rfl⟩
theorem rsum_any (ao : Option Addr) (len cap : Nat) (X : Nat → Nat) (w : World) (hb : Byt w ao len X) (hl : len ≤ maxLen) :
    Calls Try.prog 25 #[.slice ao len cap] w fun e w' => e = .returned (.int .u32 (more 0 (bl X len) : Nat)) ∧ w' = w := by
  have hm := rmore_any 0 ao len cap X w (by decide) hb hl
  obtain ⟨r, hr⟩ : ∃ r, r = more 0 (bl X len) := ⟨_, rfl⟩
  rw [← hr] at hm ⊢
  clear hb hl hr
  go_enter Try.func25, Try.ntmps25
  go_wp2_with (go_at_call 36; refine hm.mono ?_; rintro e w ⟨rfl, rfl⟩)
  go_ret
  exact ⟨rfl, rfl⟩

theorem nine : more 0 [49, 50, 51, 52, 53, 54, 55, 56, 57] = 3808858755 := by decide +kernel

end Go.Proofs.Ytbinabegiikcaaa
