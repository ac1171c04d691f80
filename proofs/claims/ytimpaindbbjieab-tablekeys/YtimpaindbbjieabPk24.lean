import Derived.Lib.SlBytesConst
import Derived.Test.YtimpaindbbjieabPk23
/- The eight steps, by goto. -/
namespace Go.Proofs.Ytimpaindbbjieab
open Go.RowKit
set_option linter.unusedVariables false

def cnt (v : Value) : Nat := match v with | .int _ n => n.toNat | _ => 0

set_option maxHeartbeats 1000000 in
set_option maxRecDepth 100000 in
theorem eight_any (s : Nat) (w : World) (hs : s < 4294967296) : Calls Try.prog 94 #[.int .u32 (s : Int)] w fun e w' => e = .returned (.int .u32 (stps 8 s : Nat)) ∧ w' = w := by
  have step : ∀ u : Nat, u < 4294967296 → ∃ v : Nat, Hid (v = stp u ∧ v < 4294967296) ∧ ((bits .and .u32 (u : Int) 1 = 1 ∧ bits .xor .u32 ((u : Int) / 2) 2197175160 = (v : Int)) ∨ (bits .and .u32 (u : Int) 1 = 0 ∧ (u : Int) / 2 = (v : Int))) := fun u hu => by
    refine ⟨stp u, ⟨rfl, stp_lt hu⟩, ?_⟩
    have hand := and1_32 hu
    by_cases hp : u % 2 = 1
    · rw [hp] at hand
      refine .inl ⟨hand, ?_⟩
      have := xorP (a := u / 2) (by omega)
      unfold stp
      rw [if_pos hp, ← this]
      congr 1
    · have hp0 : u % 2 = 0 := by omega
      rw [hp0] at hand
      refine .inr ⟨hand, ?_⟩
      unfold stp
      rw [if_neg hp]
      omega
  have HS : Hid (∀ u : Nat, u < 4294967296 → ∃ v : Nat, Hid (v = stp u ∧ v < 4294967296) ∧ ((bits .and .u32 (u : Int) 1 = 1 ∧ bits .xor .u32 ((u : Int) / 2) 2197175160 = (v : Int)) ∨ (bits .and .u32 (u : Int) 1 = 0 ∧ (u : Int) / 2 = (v : Int)))) := step
  have H0 : Hid (s < 4294967296) := hs
  clear step hs
  go_enter Try.func94, Try.ntmps94
  go_wp2_with fail
  refine wp_scope_jumps 0 (fun a' w' => w' = w ∧ ∃ (j u : Nat) (u1 u4 u5 u6 u7 u8 u9 u10 u11 u12 u13 u14 u15 u16 u17 : Value), a' = { tmps := #[.int .u32 (u : Int), u1, .int .u32 0, .int .i64 (j : Int), u4, u5, u6, u7, u8, u9, u10, u11, u12, u13, u14, u15, u16, u17], defers := [] } ∧ Hid (1 ≤ j ∧ j < 8 ∧ u < 4294967296 ∧ stps j u = stps 8 s)) (fun a _ => cnt (a.eval (.tmp 3))) rfl ?_ ?_
  · obtain ⟨v, HV, ⟨h1, h2⟩ | ⟨h1, h2⟩⟩ := HS.out s H0.out
    · go_wp2_with fail
      go_step3
      go_wp2_with fail
      go_step3
      exact ⟨rfl, rfl, 7, v, _, _, _, _, _, _, _, _, _, _, _, _, _, _, _, rfl, by omega, by omega, HV.out.2, by rw [HV.out.1]; rfl⟩
    · go_wp2_with fail
      go_step3
      go_wp2_with fail
      go_step3
      exact ⟨rfl, rfl, 7, v, _, _, _, _, _, _, _, _, _, _, _, _, _, _, _, by rw [← h2]; rfl, by omega, by omega, HV.out.2, by rw [HV.out.1]; rfl⟩
  · rintro a' w' ⟨rfl, j, u, u1, u4, u5, u6, u7, u8, u9, u10, u11, u12, u13, u14, u15, u16, u17, rfl, HJ⟩
    have hj8 : (j : Int) < 8 := by have := HJ.out; omega
    have hj1 : (1 : Int) ≤ (j : Int) := by have := HJ.out; omega
    obtain ⟨v, HV, hv⟩ := HS.out u HJ.out.2.2.1
    obtain ⟨i, rfl⟩ : ∃ i, j = i + 1 := ⟨j - 1, by have := HJ.out; omega⟩
    have hji : ((i + 1 : Nat) : Int) - 1 = (i : Int) := by omega
    have hst : stps i v = stps 8 s := by
      have h1 := HJ.out
      rw [HV.out.1, ← h1.2.2.2]
      rfl
    have HST : Hid (stps i v = stps 8 s) := hst
    clear hst
    by_cases hl : 0 < i
    · have hl' : (0 : Int) < (i : Int) := by omega
      rcases hv with ⟨h1, h2⟩ | ⟨h1, h2⟩
      · go_wp2_with fail
        go_step3
        refine ⟨rfl, ⟨rfl, i, v, _, _, _, _, _, _, _, _, _, _, _, _, _, _, _, rfl, by omega, by omega, HV.out.2, HST.out⟩, ?_⟩
        simp [cnt, Act.eval]
      · go_wp2_with fail
        go_step3
        refine ⟨rfl, ⟨rfl, i, v, _, _, _, _, _, _, _, _, _, _, _, _, _, _, _, by rw [← h2], by omega, by omega, HV.out.2, HST.out⟩, ?_⟩
        simp [cnt, Act.eval]
    · have hl' : (i : Int) ≤ 0 := by omega
      have hj7 : i = 0 := by omega
      have hr : v = stps 8 s := by have := HST.out; rw [hj7] at this; exact this
      rcases hv with ⟨h1, h2⟩ | ⟨h1, h2⟩
      · go_wp2_with fail
        simp only [Exit.jump]
        go_ret
        exact ⟨rfl, rfl⟩
      · go_wp2_with fail
        simp only [Exit.jump]
        go_ret
        exact ⟨rfl, rfl⟩
end Go.Proofs.Ytimpaindbbjieab

/- The program's sums. -/
namespace Go.Proofs.Ytimpaindbbjieab
open Go.RowKit
set_option linter.unusedVariables false

set_option maxHeartbeats 1000000 in
set_option maxRecDepth 100000 in
theorem more_any (sum : Nat) (ao : Option Addr) (len cap : Nat) (X : Nat → Nat) (w : World) (hs : sum < 4294967296) (hb : Byt w ao len X) (hl : len ≤ maxLen) :
    Calls Try.prog 85 #[.int .u32 (sum : Int), .slice ao len cap] w fun e w' => e = .returned (.int .u32 (more sum (bl X len) : Nat)) ∧ w' = w := by
  have HB : Hid (Byt w ao len X) := hb
  have hl63 : len ≤ 2 ^ 63 - 1 := by unfold maxLen at hl; omega
  obtain ⟨s0, hs0⟩ : ∃ s0, s0 = sum ^^^ ones := ⟨_, rfl⟩
  have hs1 : s0 < 4294967296 := by rw [hs0]; exact xor_lt32 hs (by decide)
  have hn := not32 hs
  rw [← hs0] at hn
  have HS : Hid (s0 = sum ^^^ ones ∧ s0 < 4294967296) := ⟨hs0, hs1⟩
  clear hb hl hs0 hs1
  go_enter Try.func85, Try.ntmps85
  go_wp2_with fail
  clear hn
  go_loopg [5, 12] len (fun g s i wr => ∃ k t : Nat, k + g = len ∧ i = .int .i64 (k : Int) ∧ s = .int .u32 (t : Int) ∧ wr = w ∧ Hid (t = crcs s0 (bl X k)))
  case atStart => exact ⟨0, s0, by omega, rfl, rfl, rfl, rfl⟩
  case round =>
    obtain ⟨k, t, hk, rfl, rfl, hw, HT⟩ := hrel
    obtain rfl := hw
    have ht : t < 4294967296 := by rw [HT.out]; exact crcs_lt _ HS.out.2 (bl_lt HB.out (by omega))
    by_cases h : k < len
    · obtain ⟨hx, b, off, rfl, hcell⟩ := HB.out k h
      have h' : (k : Int) < (len : Int) := by omega
      obtain ⟨GK, HG⟩ : ∃ g, Hid (g < gk ∧ k + 1 + g = len) := ⟨gk - 1, by omega, by omega⟩
      obtain ⟨c, hc⟩ : ∃ c, c = X k := ⟨_, rfl⟩
      rw [← hc] at hcell hx
      have hc8 : (c : Int) < 256 := by omega
      obtain ⟨t0, ht0⟩ : ∃ t0, t0 = t ^^^ c := ⟨_, rfl⟩
      have hxor : bits .xor .u32 (t : Int) (c : Int) = (t0 : Int) := by rw [ht0]; exact u32_xor_nat t c ht (by omega)
      have h8 := eight_any t0 wr (by rw [ht0]; exact xor_lt32 ht (by omega))
      obtain ⟨t1, ht1⟩ : ∃ t1, t1 = stps 8 t0 := ⟨_, rfl⟩
      rw [← ht1] at h8
      have HC : Hid (t1 = crcs s0 (bl X (k + 1))) := by
        show t1 = crcs s0 (bl X (k + 1))
        rw [crcs_bl, ← HT.out, ← hc, ht1, ht0]
        rfl
      clear hk h hc hx ht0 ht1
      go_wp2_with (go_at_call 94; refine h8.mono ?_; rintro e wr ⟨rfl, rfl⟩)
      go_roundg GK
      case measure => exact HG.out.1
      case rel => exact ⟨k + 1, t1, HG.out.2, by go_num, rfl, rfl, HC⟩
    · have h' : (len : Int) ≤ (k : Int) := by omega
      have hkl : k = len := by omega
      have hn2 := not32 ht
      obtain ⟨r, hr⟩ : ∃ r, r = t ^^^ ones := ⟨_, rfl⟩
      rw [← hr] at hn2
      have HRR : Hid (r = more sum (bl X len)) := by
        show r = more sum (bl X len)
        rw [hr, HT.out, HS.out.1, hkl]
        rfl
      clear hk h hkl hr ht
      go_wp2_with fail
      go_ret
      exact ⟨by rw [← HRR.out]; rfl, rfl⟩

theorem sum_any (ao : Option Addr) (len cap : Nat) (X : Nat → Nat) (w : World) (hb : Byt w ao len X) (hl : len ≤ maxLen) :
    Calls Try.prog 70 #[.slice ao len cap] w fun e w' => e = .returned (.int .u32 (more 0 (bl X len) : Nat)) ∧ w' = w := by
  have hm := more_any 0 ao len cap X w (by decide) hb hl
  obtain ⟨r, hr⟩ : ∃ r, r = more 0 (bl X len) := ⟨_, rfl⟩
  rw [← hr] at hm ⊢
  clear hb hl hr
  go_enter Try.func70, Try.ntmps70
  go_wp2_with (go_at_call 85; refine hm.mono ?_; rintro e w ⟨rfl, rfl⟩)
  go_ret
  exact ⟨rfl, rfl⟩
theorem nine : more 0 [49, 50, 51, 52, 53, 54, 55, 56, 57] = 3808858755 := by decide +kernel

end Go.Proofs.Ytimpaindbbjieab

/- What masks a sum, and what brings it back. -/
namespace Go.Proofs.Ytimpaindbbjieab
open Go.RowKit
set_option linter.unusedVariables false

theorem or_add {a b : Nat} (n : Nat) (ha : a < 2 ^ n) : a ||| b * 2 ^ n = a + b * 2 ^ n := by
  rw [Nat.or_comm, Nat.mul_comm, ← Nat.two_pow_add_eq_or_of_lt ha, Nat.add_comm]
/-- Turned right by 15, turned left by 15. -/
theorem turn17 {x : Nat} (hx : x < 4294967296) : bits .or .u32 ((x : Int) / 32768) ((x : Int) * 131072 % 4294967296) = ((x / 32768 + x % 32768 * 131072 : Nat) : Int) := by
  have e1 : ((x : Int) / 32768) = ((x / 32768 : Nat) : Int) := by omega
  have e2 : ((x : Int) * 131072 % 4294967296) = ((x % 32768 * 2 ^ 17 : Nat) : Int) := by omega
  rw [e1, e2, u32_or_nat _ _ (by omega) (by omega), or_add 17 (by omega)]
theorem turn17' {x : Nat} (hx : x < 4294967296) : bits .or .u32 ((x : Int) * 131072 % 4294967296) ((x : Int) / 32768) = ((x / 32768 + x % 32768 * 131072 : Nat) : Int) := by
  have e1 : ((x : Int) / 32768) = ((x / 32768 : Nat) : Int) := by omega
  have e2 : ((x : Int) * 131072 % 4294967296) = ((x % 32768 * 2 ^ 17 : Nat) : Int) := by omega
  rw [e1, e2, u32_or_nat _ _ (by omega) (by omega), Nat.or_comm, or_add 17 (by omega)]
theorem turn15 {y : Nat} (hy : y < 4294967296) : bits .or .u32 ((y : Int) * 32768 % 4294967296) ((y : Int) / 131072) = ((y % 131072 * 32768 + y / 131072 : Nat) : Int) := by
  have e1 : ((y : Int) / 131072) = ((y / 131072 : Nat) : Int) := by omega
  have e2 : ((y : Int) * 32768 % 4294967296) = ((y % 131072 * 2 ^ 15 : Nat) : Int) := by omega
  rw [e1, e2, u32_or_nat _ _ (by omega) (by omega), Nat.or_comm, or_add 15 (by omega), Nat.add_comm]
theorem sub32 {x : Nat} (hx : x < 4294967296) : ((x : Int) - 2726488792) % 4294967296 = (((x + 4294967296 - 2726488792) % 4294967296 : Nat) : Int) := by omega

theorem rotR_any (x : Nat) (w : World) (hx : x < 4294967296) : Calls Try.prog 84 #[.int .u32 (x : Int), .int .i64 (-15)] w fun e w' => e = .returned (.int .u32 ((x / 32768 + x % 32768 * 131072 : Nat) : Int)) ∧ w' = w := by
  have e := turn17' hx
  have hk : bits .and .u64 (IntKind.u64.wrap (-15)) 31 = 17 := by kernel_rfl
  generalize x / 32768 + x % 32768 * 131072 = r at e
  go_enter Try.func84, Try.ntmps84
  go_wp2_with fail
  go_ret
  exact ⟨rfl, rfl⟩
theorem rotL_any (y : Nat) (w : World) (hy : y < 4294967296) : Calls Try.prog 84 #[.int .u32 (y : Int), .int .i64 15] w fun e w' => e = .returned (.int .u32 ((y % 131072 * 32768 + y / 131072 : Nat) : Int)) ∧ w' = w := by
  have e := turn15 hy
  have hk : bits .and .u64 (IntKind.u64.wrap 15) 31 = 15 := by kernel_rfl
  have hk' : bits .and .u64 15 31 = 15 := by kernel_rfl
  generalize y % 131072 * 32768 + y / 131072 = r at e
  go_enter Try.func84, Try.ntmps84
  go_wp2_with fail
  go_ret
  exact ⟨rfl, rfl⟩
theorem mask_any (x : Nat) (w : World) (hx : x < 4294967296) : Calls Try.prog 69 #[.int .u32 (x : Int)] w fun e w' => e = .returned (.int .u32 (mask x : Nat)) ∧ w' = w := by
  have h := rotR_any x w hx
  have e2 : ((mask x : Nat) : Int) = (((x / 32768 + x % 32768 * 131072 : Nat) : Int) + 2726488792) % 4294967296 := by unfold mask; omega
  generalize x / 32768 + x % 32768 * 131072 = r at h e2
  go_enter Try.func69, Try.ntmps69
  go_wp2_with (go_at_call 84; refine h.mono ?_; rintro e w ⟨rfl, rfl⟩)
  go_ret
  rw [e2]
  exact ⟨rfl, rfl⟩
end Go.Proofs.Ytimpaindbbjieab
