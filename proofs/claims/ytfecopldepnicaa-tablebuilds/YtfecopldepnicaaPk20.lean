import Derived.Lib.SlBytesConst
import Derived.Test.YtfecopldepnicaaPk04
import Derived.Test.YtfecopldepnicaaPk13
import Derived.Test.YtfecopldepnicaaPk16
import Derived.Test.YtfecopldepnicaaPk19
/- The program's sums. -/
namespace Go.Proofs.Ytfecopldepnicaa
open Go.RowKit
set_option linter.unusedVariables false

set_option maxHeartbeats 1000000 in
set_option maxRecDepth 100000 in
theorem more_any (sum : Nat) (ao : Option Addr) (len cap : Nat) (X : Nat → Nat) (w : World) (hs : sum < 4294967296) (hb : Byt w ao len X) (hl : len ≤ maxLen) :
    Calls Try.prog 105 #[.int .u32 (sum : Int), .slice ao len cap] w fun e w' => e = .returned (.int .u32 (more sum (bl X len) : Nat)) ∧ w' = w := by
  have HB : Hid (Byt w ao len X) := hb
  have hl63 : len ≤ 2 ^ 63 - 1 := by unfold maxLen at hl; omega
  obtain ⟨s0, hs0⟩ : ∃ s0, s0 = sum ^^^ ones := ⟨_, rfl⟩
  have hs1 : s0 < 4294967296 := by rw [hs0]; exact xor_lt32 hs (by decide)
  have hn := not32 hs
  rw [← hs0] at hn
  have HS : Hid (s0 = sum ^^^ ones ∧ s0 < 4294967296) := ⟨hs0, hs1⟩
  clear hb hl hs0 hs1
  go_enter Try.func105, Try.ntmps105
  go_wp2_with fail
  clear hn
  go_loopg [5, 12] len (fun g s i wr => ∃ k t : Nat, k + g = len ∧ i = .int .i64 (k : Int) ∧ s = .int .u32 (t : Int) ∧ wr = w ∧ Hid (t = crcs s0 (bl X k)))
  case atStart => exact ⟨0, s0, by omega, rfl, rfl, rfl, rfl⟩
  case round =>
    obtain ⟨k, t, hk, rfl, rfl, hw, HT⟩ := hrel
    obtain rfl := hw
    have ht : t < 4294967296 := by rw [HT.out]; exact crcs_lt _ HS.out.2 (bl_lt HB.out (by omega))
    by_cases h : k < len
    · obtain ⟨hx, b, off, rfl, hcell⟩ := HB.out k h
      have h' : (k : Int) < (len : Int) := by omega
      obtain ⟨GK, HG⟩ : ∃ g, Hid (g < gk ∧ k + 1 + g = len) := ⟨gk - 1, by omega, by omega⟩
      obtain ⟨c, hc⟩ : ∃ c, c = X k := ⟨_, rfl⟩
      rw [← hc] at hcell hx
      have hc8 : (c : Int) < 256 := by omega
      obtain ⟨t0, ht0⟩ : ∃ t0, t0 = t ^^^ c := ⟨_, rfl⟩
      have hxor : bits .xor .u32 (t : Int) (c : Int) = (t0 : Int) := by rw [ht0]; exact u32_xor_nat t c ht (by omega)
      have h8 := eight_any t0 wr (by rw [ht0]; exact xor_lt32 ht (by omega))
      obtain ⟨t1, ht1⟩ : ∃ t1, t1 = stps 8 t0 := ⟨_, rfl⟩
      rw [← ht1] at h8
      have HC : Hid (t1 = crcs s0 (bl X (k + 1))) := by
        show t1 = crcs s0 (bl X (k + 1))
        rw [crcs_bl, ← HT.out, ← hc, ht1, ht0]
        rfl
      clear hk h hc hx ht0 ht1
      go_wp2_with (go_at_call 114; refine h8.mono ?_; rintro e wr ⟨rfl, rfl⟩)
      go_roundg GK
      case measure => exact HG.out.1
      case rel => exact ⟨k + 1, t1, HG.out.2, by go_num, rfl, rfl, HC⟩
    · have h' : (len : Int) ≤ (k : Int) := by omega
      have hkl : k = len := by omega
      have hn2 := not32 ht
      obtain ⟨r, hr⟩ : ∃ r, r = t ^^^ ones := ⟨_, rfl⟩
      rw [← hr] at hn2
      have HRR : Hid (r = more sum (bl X len)) := by
        show r = more sum (bl X len)
        rw [hr, HT.out, HS.out.1, hkl]
        rfl
      clear hk h hkl hr ht
      go_wp2_with fail
      go_ret
      exact ⟨by rw [← HRR.out]; rfl, rfl⟩

theorem sum_any (ao : Option Addr) (len cap : Nat) (X : Nat → Nat) (w : World) (hb : Byt w ao len X) (hl : len ≤ maxLen) :
    Calls Try.prog 94 #[.slice ao len cap] w fun e w' => e = .returned (.int .u32 (more 0 (bl X len) : Nat)) ∧ w' = w := by
  have hm := more_any 0 ao len cap X w (by decide) hb hl
  obtain ⟨r, hr⟩ : ∃ r, r = more 0 (bl X len) := ⟨_, rfl⟩
  rw [← hr] at hm ⊢
  clear hb hl hr
  go_enter Try.func94, Try.ntmps94
  go_wp2_with (go_at_call 105; refine hm.mono ?_; rintro e w ⟨rfl, rfl⟩)
  go_ret
  exact ⟨rfl, rfl⟩
theorem rsum_any (ao : Option Addr) (len cap : Nat) (X : Nat → Nat) (w : World) (hb : Byt w ao len X) (hl : len ≤ maxLen) :
    Calls Try.prog 72 #[.slice ao len cap] w fun e w' => e = .returned (.int .u32 (more 0 (bl X len) : Nat)) ∧ w' = w := by
  have hm := rmore_any 0 ao len cap X w (by decide) hb hl
  obtain ⟨r, hr⟩ : ∃ r, r = more 0 (bl X len) := ⟨_, rfl⟩
  rw [← hr] at hm ⊢
  clear hb hl hr
  go_enter Try.func72, Try.ntmps72
  go_wp2_with (go_at_call 95; refine hm.mono ?_; rintro e w ⟨rfl, rfl⟩)
  go_ret
  exact ⟨rfl, rfl⟩

theorem nine : more 0 [49, 50, 51, 52, 53, 54, 55, 56, 57] = 3808858755 := by decide +kernel

end Go.Proofs.Ytfecopldepnicaa

/- What masks a sum, and what brings it back. -/
namespace Go.Proofs.Ytfecopldepnicaa
open Go.RowKit
set_option linter.unusedVariables false

theorem or_add {a b : Nat} (n : Nat) (ha : a < 2 ^ n) : a ||| b * 2 ^ n = a + b * 2 ^ n := by
  rw [Nat.or_comm, Nat.mul_comm, ← Nat.two_pow_add_eq_or_of_lt ha, Nat.add_comm]
/-- Turned right by 15, turned left by 15. -/
theorem turn17 {x : Nat} (hx : x < 4294967296) : bits .or .u32 ((x : Int) / 32768) ((x : Int) * 131072 % 4294967296) = ((x / 32768 + x % 32768 * 131072 : Nat) : Int) := by
  have e1 : ((x : Int) / 32768) = ((x / 32768 : Nat) : Int) := by omega
  have e2 : ((x : Int) * 131072 % 4294967296) = ((x % 32768 * 2 ^ 17 : Nat) : Int) := by omega
  rw [e1, e2, u32_or_nat _ _ (by omega) (by omega), or_add 17 (by omega)]
theorem turn17' {x : Nat} (hx : x < 4294967296) : bits .or .u32 ((x : Int) * 131072 % 4294967296) ((x : Int) / 32768) = ((x / 32768 + x % 32768 * 131072 : Nat) : Int) := by
  have e1 : ((x : Int) / 32768) = ((x / 32768 : Nat) : Int) := by omega
  have e2 : ((x : Int) * 131072 % 4294967296) = ((x % 32768 * 2 ^ 17 : Nat) : Int) := by omega
  rw [e1, e2, u32_or_nat _ _ (by omega) (by omega), Nat.or_comm, or_add 17 (by omega)]
theorem turn15 {y : Nat} (hy : y < 4294967296) : bits .or .u32 ((y : Int) * 32768 % 4294967296) ((y : Int) / 131072) = ((y % 131072 * 32768 + y / 131072 : Nat) : Int) := by
  have e1 : ((y : Int) / 131072) = ((y / 131072 : Nat) : Int) := by omega
  have e2 : ((y : Int) * 32768 % 4294967296) = ((y % 131072 * 2 ^ 15 : Nat) : Int) := by omega
  rw [e1, e2, u32_or_nat _ _ (by omega) (by omega), Nat.or_comm, or_add 15 (by omega), Nat.add_comm]
theorem sub32 {x : Nat} (hx : x < 4294967296) : ((x : Int) - 2726488792) % 4294967296 = (((x + 4294967296 - 2726488792) % 4294967296 : Nat) : Int) := by omega

theorem rmask_any (x : Nat) (w : World) (hx : x < 4294967296) : Calls Try.prog 71 #[.int .u32 (x : Int)] w fun e w' => e = .returned (.int .u32 (mask x : Nat)) ∧ w' = w := by
  have e := turn17 hx
  have e2 : ((mask x : Nat) : Int) = (((x / 32768 + x % 32768 * 131072 : Nat) : Int) + 2726488792) % 4294967296 := by unfold mask; omega
  generalize x / 32768 + x % 32768 * 131072 = r at e e2
  go_enter Try.func71, Try.ntmps71
  go_wp2_with fail
  go_ret
  rw [e2]
  exact ⟨rfl, rfl⟩
theorem rotR_any (x : Nat) (w : World) (hx : x < 4294967296) : Calls Try.prog 104 #[.int .u32 (x : Int), .int .i64 (-15)] w fun e w' => e = .returned (.int .u32 ((x / 32768 + x % 32768 * 131072 : Nat) : Int)) ∧ w' = w := by
  have e := turn17' hx
  have hk : bits .and .u64 (IntKind.u64.wrap (-15)) 31 = 17 := by kernel_rfl
  generalize x / 32768 + x % 32768 * 131072 = r at e
  go_enter Try.func104, Try.ntmps104
  go_wp2_with fail
  go_ret
  exact ⟨rfl, rfl⟩
theorem rotL_any (y : Nat) (w : World) (hy : y < 4294967296) : Calls Try.prog 104 #[.int .u32 (y : Int), .int .i64 15] w fun e w' => e = .returned (.int .u32 ((y % 131072 * 32768 + y / 131072 : Nat) : Int)) ∧ w' = w := by
  have e := turn15 hy
  have hk : bits .and .u64 (IntKind.u64.wrap 15) 31 = 15 := by kernel_rfl
  have hk' : bits .and .u64 15 31 = 15 := by kernel_rfl
  generalize y % 131072 * 32768 + y / 131072 = r at e
  go_enter Try.func104, Try.ntmps104
  go_wp2_with fail
  go_ret
  exact ⟨rfl, rfl⟩
theorem mask_any (x : Nat) (w : World) (hx : x < 4294967296) : Calls Try.prog 93 #[.int .u32 (x : Int)] w fun e w' => e = .returned (.int .u32 (mask x : Nat)) ∧ w' = w := by
  have h := rotR_any x w hx
  have e2 : ((mask x : Nat) : Int) = (((x / 32768 + x % 32768 * 131072 : Nat) : Int) + 2726488792) % 4294967296 := by unfold mask; omega
  generalize x / 32768 + x % 32768 * 131072 = r at h e2
  go_enter Try.func93, Try.ntmps93
  go_wp2_with (go_at_call 104; refine h.mono ?_; rintro e w ⟨rfl, rfl⟩)
  go_ret
  rw [e2]
  exact ⟨rfl, rfl⟩
end Go.Proofs.Ytfecopldepnicaa

/- Slices of bytes as lists: read, cut, summed, taken. -/
namespace Go.Proofs.Ytfecopldepnicaa
open Go.RowKit
set_option linter.unusedVariables false
set_option linter.unusedSimpArgs false

theorem nl_bl (xs : List Int) : bl (xof xs) xs.length = nl xs := by
  apply List.ext_getElem
  · simp [bl, nl]
  · intro i h1 h2
    have hi : i < xs.length := by simpa [nl] using h2
    simp [bl, nl, xof, List.getElem?_eq_getElem hi]
theorem take_l {w : World} {ao : Option Addr} {len cap : Nat} {xs : List Int} (h : Sl w ao len cap xs) : Calls Try.prog 98 #[.slice ao len cap] w fun e w' => e = .returned (takeV (xof xs) len (enL xs)) ∧ w' = w := by
  have he := end_enL xs h.2.1
  rw [h.1] at he
  exact take_any ao len cap _ _ w h.2.2.2.2.2 h.2.2.2.1 h.2.2.2.2.1 he
theorem rsum_l {w : World} {ao : Option Addr} {len cap : Nat} {xs : List Int} (h : Sl w ao len cap xs) : Calls Try.prog 72 #[.slice ao len cap] w fun e w' => e = .returned (.int .u32 (more 0 (nl xs) : Nat)) ∧ w' = w := by
  have := rsum_any ao len cap _ w h.2.2.2.2.2 (by have := h.2.2.2; omega)
  rw [← h.1, nl_bl, h.1] at this
  exact this
theorem sum_l {w : World} {ao : Option Addr} {len cap : Nat} {xs : List Int} (h : Sl w ao len cap xs) : Calls Try.prog 94 #[.slice ao len cap] w fun e w' => e = .returned (.int .u32 (more 0 (nl xs) : Nat)) ∧ w' = w := by
  have := sum_any ao len cap _ w h.2.2.2.2.2 (by have := h.2.2.2; omega)
  rw [← h.1, nl_bl, h.1] at this
  exact this
theorem in4 : InSize 4 := by unfold InSize; decide
theorem read4_l {w : World} {ao : Option Addr} {len cap : Nat} {xs : List Int} (h : Sl w ao len cap xs) (h4 : 4 ≤ len) : Calls Try.prog 96 #[.slice ao len cap, .int .i64 4] w fun e w' => e = .returned (.tuple #[.int .u64 (fv (xof xs) 4 : Nat), .int .i64 0]) ∧ w' = w := by
  have := read_any ao len cap _ 4 w h.2.2.2.2.2 h.2.2.2.1
  unfold readV at this
  rw [if_pos in4, if_neg (by omega)] at this
  exact this
theorem fv4_lt {xs : List Int} (h : Okb xs) (h4 : 4 ≤ xs.length) : fv (xof xs) 4 < 4294967296 := by
  have := fv_lt (xof xs) 4 (fun j hj => by
    have := h xs[j] (List.getElem_mem (by omega))
    simp [xof, List.getElem?_eq_getElem (show j < xs.length by omega)]
    omega)
  omega
theorem more0_lt {xs : List Int} (h : Okb xs) : more 0 (nl xs) < 4294967296 := more_lt (by decide) (nl_lt h)
end Go.Proofs.Ytfecopldepnicaa
