/- The document's own filters: Has. -/
import Derived.Test.YtpmebgcknijnkaaRblm2
namespace Go.Proofs.Ytpmebgcknijnkaa
open Go.RowKit
set_option linter.unusedVariables false
set_option linter.unusedSimpArgs false

theorem hasb_bit {f : List Int} {p i r X : Nat} (hx : f[i]? = some (X : Int)) (hi : i = p / 8) (hr : r = p % 8) : hasb f p = decide (X / 2 ^ r % 2 = 1) := by
  unfold hasb
  rw [← hi, ← hr, List.getD_eq_getElem?_getD, hx]
  simp only [Option.getD_some, Int.toNat_natCast]
  exact Nat.testBit_eq_decide_div_mod_eq
theorem all_take {P : List Nat} {q : Nat → Bool} {j p : Nat} (h : P[j]? = some p) : (P.take (j + 1)).all q = ((P.take j).all q && q p) := by
  rw [List.take_add_one, h, List.all_append]
  simp

set_option maxHeartbeats 2000000 in
set_option maxRecDepth 100000 in
theorem rhas_any {w : World} {fa ka : Option Addr} {fl fc kl kc : Nat} {f key : List Int} (h1 : Sl w fa fl fc f) (h2 : Sl w ka kl kc key) :
    Calls Try.prog 17 #[.slice fa fl fc, .slice ka kl kc] w fun e w' => e = .returned (.bool (has f key)) ∧ Below w.heap.size w w' := by
  have hfl := h1.1
  have hl63 : fl ≤ 2 ^ 63 - 1 := by have := h1.2.2.2; unfold maxLen at this; omega
  by_cases q0 : fl = 0
  · have hR : has f key = true := by unfold has; rw [if_pos (.inl (by omega))]
    rw [hR]
    have e0 : ((fl : Int) == 0) = true := by simp; omega
    clear h1 h2 hR q0 hfl
    go_enter Try.func17, Try.ntmps17
    go_wp2_with fail
    exact bodyPost_ret (v := .bool true) (by simp [results, Try.results17, go_sem]) rfl ⟨rfl, Below.refl _ _⟩
  by_cases q1 : 1048576 < fl
  · have hR : has f key = true := by unfold has; rw [if_pos (.inr (by omega))]
    rw [hR]
    have e0 : ((fl : Int) == 0) = false := by simp; omega
    have e1 : (1048576 : Int) < (fl : Int) := by omega
    clear h1 h2 hR q0 hfl q1
    go_enter Try.func17, Try.ntmps17
    go_wp2_with fail
    exact bodyPost_ret (v := .bool true) (by simp [results, Try.results17, go_sem]) rfl ⟨rfl, Below.refl _ _⟩
  have hR : has f key = (prbs key (8 * fl)).all (hasb f) := by unfold has; rw [if_neg (by omega), hfl]
  rw [hR]
  have e0 : ((fl : Int) == 0) = false := by simp; omega
  have e1 : (fl : Int) ≤ 1048576 := by omega
  have hpr := rprobes_any (m := ((8 * fl : Nat) : Int)) h2 ⟨by omega, by omega⟩
  have ePI : prI key ((8 * fl : Nat) : Int) = prbs key (8 * fl) := by
    unfold prI
    rw [if_neg (by omega), Int.toNat_natCast]
  rw [ePI, show ((8 * fl : Nat) : Int) = 8 * (fl : Int) by omega] at hpr
  have HP : Hid ((∀ p ∈ prbs key (8 * fl), p < 8 * fl) ∧ (prbs key (8 * fl)).length = 6) := ⟨fun p hp => prbs_lt hp, prbs_len (by omega)⟩
  generalize prbs key (8 * fl) = P at hpr HP
  have HS : Hid (Sl w fa fl fc f) := h1
  obtain ⟨T, hT⟩ : ∃ T, T = P.all (hasb f) := ⟨_, rfl⟩
  rw [← hT]
  have HT : Hid (T = P.all (hasb f)) := hT
  clear h1 h2 hR ePI q0 q1 hT
  go_enter Try.func17, Try.ntmps17
  go_wp2_with (go_at_call 9; refine hpr.mono ?_; rintro e w3 ⟨v3, rfl, r3, b3⟩; obtain ⟨pa, pc, hv3, rs3⟩ := r3.rs; subst hv3)
  have HRS := hid9 rs3
  have HB := hid9 b3
  obtain ⟨n, hn⟩ : ∃ n, n = P.length := ⟨_, rfl⟩
  rw [← hn] at HRS ⊢
  have HN : Hid (n = P.length ∧ n = 6) := ⟨hn, by rw [hn]; exact HP.out.2⟩
  have hn62 : n ≤ 2 ^ 61 := by have := HN.out; omega
  clear hpr r3 rs3 b3 hn
  go_wp2_with fail
  go_loopg [6, 21] n (fun g _ i wr => ∃ j : Nat, j + g = n ∧ i = .int .i64 (j : Int) ∧ wr = w3 ∧ Hid ((P.take j).all (hasb f) = true))
  case atStart => exact ⟨0, by omega, rfl, rfl, rfl⟩
  case round =>
    obtain ⟨j, hj, rfl, hw, HJ⟩ := hrel
    obtain rfl := hw.symm
    by_cases hjn : j < n
    · have hjn' : (j : Int) < (n : Int) := by omega
      have hjx : j < P.length := by have := HN.out; omega
      have HPJ := hid9 (List.getElem?_eq_getElem hjx)
      have hpl := HP.out.1 P[j] (List.getElem_mem hjx)
      obtain ⟨bb, oo, rfl, hcp⟩ := RS.num HRS.out HPJ.out
      generalize P[j] = p at hcp hpl HPJ
      obtain ⟨i, hi⟩ : ∃ i, i = p / 8 := ⟨_, rfl⟩
      obtain ⟨r, hr⟩ : ∃ r, r = p % 8 := ⟨_, rfl⟩
      have hiN : i < fl := by omega
      obtain ⟨hX8, b, off, rfl, hc0⟩ := HS.out.2.2.2.2.2 i hiN
      have hc := cell_later HB.out hc0
      have hfx : f[i]? = some ((xof f i : Nat) : Int) := by
        have hif : i < f.length := by omega
        have h0 := HS.out.2.1 f[i] (List.getElem_mem hif)
        rw [List.getElem?_eq_getElem hif]
        simp only [xof, List.getD_eq_getElem?_getD, List.getElem?_eq_getElem hif, Option.getD_some, Option.some.injEq]
        omega
      have hbit := hasb_bit hfx hi hr
      have hat := all_take (q := hasb f) HPJ.out
      generalize xof f i = X at hX8 hc hbit hc0 hfx
      have hq8 : (p : Int) / 8 = (i : Int) := by omega
      have hr8 : (p : Int) % 8 = (r : Int) := by omega
      have hr7 : r < 8 := by omega
      have hiN' : (i : Int) < (fl : Int) := by omega
      have hp62 : p ≤ 2 ^ 60 := by omega
      have hj62 : j ≤ 2 ^ 61 := by omega
      have HAT : Hid ((P.take (j + 1)).all (hasb f) = decide (X / 2 ^ r % 2 = 1) ∧ (decide (X / 2 ^ r % 2 = 1) = false → T = false)) := by
        rw [HJ.out, hbit, Bool.true_and] at hat
        refine ⟨hat, fun e => ?_⟩
        rw [HT.out, List.all_eq_false]
        exact ⟨p, List.mem_of_getElem? HPJ.out, by rw [hbit, e]; decide⟩
      obtain ⟨GJ, HGJ⟩ : ∃ g, Hid (g < gk ∧ j + 1 + g = n) := ⟨gk - 1, by omega, by omega⟩
      have hpw : 2 ^ r < 2 ^ 8 := Nat.pow_lt_pow_right (by decide) (by omega)
      have hpos : 0 < 2 ^ r := Nat.pow_pos (by decide)
      have hand : bits .and .u8 ((X : Int) / 2 ^ r) 1 = ((X / 2 ^ r % 2 : Nat) : Int) := by
        have e := u8_and_nat (X / 2 ^ r) 1 (Nat.lt_of_le_of_lt (Nat.div_le_self _ _) hX8) (by decide)
        rw [Nat.and_one_is_mod] at e
        rw [← e]
        norm_cast
      clear hi hr hc0 hfx hbit hat hj hpl
      by_cases qb : X / 2 ^ r % 2 = 1
      · have hb : (bits .and .u8 ((X : Int) / 2 ^ r) 1 == 0) = false := by rw [hand, qb]; rfl
        have HNX : Hid ((P.take (j + 1)).all (hasb f) = true) := by show _ = _; rw [HAT.out.1]; simpa using qb
        clear hand qb
        go_wp2_with fail
        go_roundg GJ
        case measure => exact HGJ.out.1
        case rel => exact ⟨j + 1, HGJ.out.2, by go_num, rfl, HNX⟩
      · have hb : (bits .and .u8 ((X : Int) / 2 ^ r) 1 == 0) = true := by rw [hand, show X / 2 ^ r % 2 = 0 by omega]; rfl
        have hTf : T = false := HAT.out.2 (by simpa using qb)
        subst hTf
        clear hand qb
        go_wp2_with fail
        exact bodyPost_ret (v := .bool false) (by simp [results, Try.results17, go_sem]) rfl ⟨rfl, HB.out⟩
    · have hjn' : (n : Int) ≤ (j : Int) := by omega
      have hTT : T = true := by
        have := HJ.out
        rw [List.take_of_length_le (by have := HN.out; omega)] at this
        rw [HT.out, this]
      subst hTT
      clear hj hjn HJ
      go_wp2_with fail
      exact bodyPost_ret (v := .bool true) (by simp [results, Try.results17, go_sem]) rfl ⟨rfl, HB.out⟩
end Go.Proofs.Ytpmebgcknijnkaa
