/- The document's own sums. -/
import Derived.Test.YtbinabegiikcaaaByt
import Derived.Test.YtbinabegiikcaaaCrc
namespace Go.Proofs.Ytbinabegiikcaaa
open Go.RowKit
set_option linter.unusedVariables false

/-- The first n bytes that X tells, as natural numbers. -/
def bl (X : Nat → Nat) (n : Nat) : List Nat := (List.range n).map X
theorem bl_succ (X : Nat → Nat) (n : Nat) : bl X (n + 1) = bl X n ++ [X n] := by simp [bl, List.range_succ]
theorem bl_length (X : Nat → Nat) (n : Nat) : (bl X n).length = n := by simp [bl]
theorem bl_lt {w : World} {ao : Option Addr} {len : Nat} {X : Nat → Nat} (h : Byt w ao len X) {n : Nat} (hn : n ≤ len) : ∀ x ∈ bl X n, x < 256 := fun x hx => by
  obtain ⟨k, hk, rfl⟩ := List.mem_map.1 hx
  exact (h k (by have := List.mem_range.1 hk; omega)).1
theorem crcs_bl (s : Nat) (X : Nat → Nat) (n : Nat) : crcs s (bl X (n + 1)) = upd8 (crcs s (bl X n)) (X n) := by
  rw [bl_succ, crcs_append, crcs_cons, crcs_nil]

theorem not32 {a : Nat} (h : a < 4294967296) : bits .xor .u32 IntKind.u32.max (a : Int) = ((a ^^^ ones : Nat) : Int) := by
  have e : IntKind.u32.max = ((4294967295 : Nat) : Int) := by simp [IntKind.max, IntKind.bits, IntKind.signed]
  rw [e, u32_xor_nat _ _ (by decide) h, Nat.xor_comm]
  rfl
theorem and1_32 {t : Nat} (h : t < 4294967296) : bits .and .u32 (t : Int) 1 = ((t % 2 : Nat) : Int) := by
  have := u32_and_nat t 1 h (by decide)
  rw [Nat.and_one_is_mod] at this
  exact this
theorem xorP {a : Nat} (h : a < 4294967296) : bits .xor .u32 (a : Int) 2197175160 = ((a ^^^ poly : Nat) : Int) := u32_xor_nat a 2197175160 h (by decide)
theorem stps_succ (g t : Nat) : stps (g + 1) t = stps g (stp t) := rfl

set_option maxHeartbeats 1000000 in
set_option maxRecDepth 100000 in
theorem rmore_any (sum : Nat) (ao : Option Addr) (len cap : Nat) (X : Nat → Nat) (w : World) (hs : sum < 4294967296) (hb : Byt w ao len X) (hl : len ≤ maxLen) :
    Calls Try.prog 36 #[.int .u32 (sum : Int), .slice ao len cap] w fun e w' => e = .returned (.int .u32 (more sum (bl X len) : Nat)) ∧ w' = w := by
  have HB : Hid (Byt w ao len X) := hb
  have hl63 : len ≤ 2 ^ 63 - 1 := by unfold maxLen at hl; omega
  obtain ⟨s0, hs0⟩ : ∃ s0, s0 = sum ^^^ ones := ⟨_, rfl⟩
  have hs1 : s0 < 4294967296 := by rw [hs0]; exact xor_lt32 hs (by decide)
  have hn := not32 hs
  rw [← hs0] at hn
  have HS : Hid (s0 = sum ^^^ ones ∧ s0 < 4294967296) := ⟨hs0, hs1⟩
  clear hb hl hs0 hs1
  go_enter Try.func36, Try.ntmps36
  go_wp2_with fail
  clear hn
  go_loopg [0, 11] len (fun g s i wr => ∃ k t : Nat, k + g = len ∧ i = .int .i64 (k : Int) ∧ s = .int .u32 (t : Int) ∧ wr = w ∧ Hid (t = crcs s0 (bl X k)))
  case atStart => exact ⟨0, s0, by omega, rfl, rfl, rfl, rfl⟩
  case round =>
    obtain ⟨k, t, hk, rfl, rfl, hw, HT⟩ := hrel
    obtain rfl := hw
    have ht : t < 4294967296 := by rw [HT.out]; exact crcs_lt _ HS.out.2 (bl_lt HB.out (by omega))
    by_cases h : k < len
    · obtain ⟨hx, b, off, rfl, hcell⟩ := HB.out k h
      have h' : (k : Int) < (len : Int) := by omega
      obtain ⟨GK, HG⟩ : ∃ g, Hid (g < gk ∧ k + 1 + g = len) := ⟨gk - 1, by omega, by omega⟩
      obtain ⟨c, hc⟩ : ∃ c, c = X k := ⟨_, rfl⟩
      rw [← hc] at hcell hx
      have hc8 : (c : Int) < 256 := by omega
      obtain ⟨t0, ht0⟩ : ∃ t0, t0 = t ^^^ c := ⟨_, rfl⟩
      have H0 : Hid (t0 = t ^^^ c) := ht0
      have hxor : bits .xor .u32 (t : Int) (c : Int) = (t0 : Int) := by rw [ht0]; exact u32_xor_nat t c ht (by omega)
      have HC : Hid (c = X k ∧ c < 256 ∧ t < 4294967296) := ⟨hc, hx, ht⟩
      clear hk h hc hx ht0
      go_wp2_with fail
      clear hxor
      go_loopg [0, 19] 8 (fun g s i wr2 => ∃ j u : Nat, j + g = 8 ∧ i = .int .i64 (j : Int) ∧ s = .int .u32 (u : Int) ∧ wr2 = wr ∧ Hid (stps g u = upd8 t c ∧ u < 4294967296))
      case atStart => exact ⟨0, t0, by omega, rfl, rfl, rfl, by rw [H0.out]; rfl, by rw [H0.out]; have := HC.out; exact xor_lt32 this.2.2 (by omega)⟩
      case round =>
        obtain ⟨j, u, hj, rfl, rfl, hw, HU⟩ := hrel
        obtain rfl := hw
        by_cases h8 : j < 8
        · have h8' : (j : Int) < 8 := by omega
          obtain ⟨GK2, HG2⟩ : ∃ g, Hid (g < gk ∧ j + 1 + g = 8 ∧ gk = g + 1) := ⟨gk - 1, by omega, by omega, by omega⟩
          have hand := and1_32 HU.out.2
          clear hj h8
          by_cases hp : u % 2 = 1
          · rw [hp] at hand
            have hand' : bits .and .u32 (u : Int) 1 = 1 := hand
            obtain ⟨v, hv⟩ : ∃ v, v = u / 2 ^^^ poly := ⟨_, rfl⟩
            have hxp : bits .xor .u32 ((u : Int) / 2) 2197175160 = (v : Int) := by
              have := xorP (a := u / 2) (by have := HU.out.2; omega)
              rw [← hv] at this
              rw [← this]
              congr 1
            have HV : Hid (v = stp u) := by unfold stp; rw [if_pos hp]; exact hv
            clear hand hv hp
            go_wp2_with fail
            go_roundg GK2
            case measure => exact HG2.out.1
            case rel =>
              refine ⟨j + 1, v, HG2.out.2.1, by go_num, rfl, rfl, ?_, ?_⟩
              · have h1 := HU.out.1
                rw [HG2.out.2.2, stps_succ] at h1
                rw [HV.out]
                exact h1
              · rw [HV.out]; exact stp_lt HU.out.2
          · have hp0 : u % 2 = 0 := by omega
            rw [hp0] at hand
            have hand' : bits .and .u32 (u : Int) 1 = 0 := hand
            have HV : Hid (u / 2 = stp u) := by unfold stp; rw [if_neg hp]; exact rfl
            clear hand hp hp0
            go_wp2_with fail
            go_roundg GK2
            case measure => exact HG2.out.1
            case rel =>
              refine ⟨j + 1, u / 2, HG2.out.2.1, by go_num, by go_num, rfl, ?_, ?_⟩
              · have h1 := HU.out.1
                rw [HG2.out.2.2, stps_succ] at h1
                rw [HV.out]
                exact h1
              · rw [HV.out]; exact stp_lt HU.out.2
        · have h8' : (8 : Int) ≤ (j : Int) := by omega
          have hg0 : gk = 0 := by omega
          have hu : u = upd8 t c := by have := HU.out.1; rw [hg0] at this; exact this
          clear hj h8
          go_wp2_with fail
          go_roundg GK
          case measure => exact HG.out.1
          case rel =>
            refine ⟨k + 1, u, HG.out.2, by go_num, rfl, rfl, ?_⟩
            show u = crcs s0 (bl X (k + 1))
            rw [crcs_bl, ← HT.out, ← HC.out.1]
            exact hu
    · have h' : (len : Int) ≤ (k : Int) := by omega
      have hkl : k = len := by omega
      have hn2 := not32 ht
      obtain ⟨r, hr⟩ : ∃ r, r = t ^^^ ones := ⟨_, rfl⟩
      rw [← hr] at hn2
      have HRR : Hid (r = more sum (bl X len)) := by
        show r = more sum (bl X len)
        rw [hr, HT.out, HS.out.1, hkl]
        rfl
      clear hk h hkl hr ht
      go_wp2_with fail
      go_ret
      exact ⟨by rw [← HRR.out]; rfl, rfl⟩
end Go.Proofs.Ytbinabegiikcaaa
