/- The landed filters: Has. -/
import Derived.Test.YtpmebgcknijnkaaLbl2
import Derived.Test.YtpmebgcknijnkaaRblm3
import Derived.Deep.QuietTactic
import Derived.BigQuiet
namespace Go.Proofs.Ytpmebgcknijnkaa
open Go.RowKit
set_option linter.unusedVariables false
set_option linter.unusedSimpArgs false

theorem run_ix6 (w : World) (A : Array Value) (j : Nat) {k : IntKind} {x : Int} (hA : A.size = 6) (hj : j < 6) (h : A[j]? = some (.int k x)) : (Instr.index 38 (.agg A) (.int .i64 (j : Int))).run Try.prog w = .ok (.int k x) w := by
  have h0 : ¬ ((j : Int) < 0) := by omega
  have hx : A.toList[j]? = some (.int k x) := by rw [Array.getElem?_toList]; exact h
  simp [Instr.index, run_underlying Try.underlying38, asIntOf, go_sem, hj, h]
theorem and_bit {X r : Nat} (hX : X < 256) (hr : r < 8) : (bits .and .u8 (X : Int) ((2 ^ r : Nat) : Int) == 0) = !decide (X / 2 ^ r % 2 = 1) := by
  have hpw : 2 ^ r < 2 ^ 8 := Nat.pow_lt_pow_right (by decide) (by omega)
  rw [u8_and_nat X (2 ^ r) hX (by omega), ← Nat.testBit_eq_decide_div_mod_eq]
  cases hb : X.testBit r
  · have : X &&& 2 ^ r = 0 := by
      apply Nat.eq_of_testBit_eq
      intro i
      rw [Nat.testBit_and, Nat.testBit_two_pow]
      by_cases e : r = i
      · subst e; simp [hb]
      · simp [e]
    rw [this]
    rfl
  · have : X &&& 2 ^ r ≠ 0 := fun e => by
      have h1 : (X &&& 2 ^ r).testBit r = true := by rw [Nat.testBit_and, hb, Nat.testBit_two_pow_self]; rfl
      rw [e] at h1
      simp at h1
    simp only [Bool.not_true, beq_eq_false_iff_ne, ne_eq]
    omega

set_option maxHeartbeats 2000000 in
set_option maxRecDepth 100000 in
theorem bhas_any {w : World} {fa ka : Option Addr} {fl fc kl kc : Nat} {f key : List Int} (h1 : Sl w fa fl fc f) (h2 : Sl w ka kl kc key) :
    Calls Try.prog 16 #[.slice fa fl fc, .slice ka kl kc] w fun e w' => e = .returned (.bool (has f key)) ∧ Below w.heap.size w w' := by
  have hfl := h1.1
  have hl63 : fl ≤ 2 ^ 63 - 1 := by have := h1.2.2.2; unfold maxLen at this; omega
  by_cases q0 : fl = 0
  · have hR : has f key = true := by unfold has; rw [if_pos (.inl (by omega))]
    rw [hR]
    have e0 : ((fl : Int) == 0) = true := by simp; omega
    clear h1 h2 hR q0 hfl
    go_enter Try.func16, Try.ntmps16
    go_wp2_with fail
    exact bodyPost_ret (v := .bool true) (by simp [results, Try.results16, go_sem]) rfl ⟨rfl, Below.refl _ _⟩
  by_cases q1 : 1048576 < fl
  · have hR : has f key = true := by unfold has; rw [if_pos (.inr (by omega))]
    rw [hR]
    have e0 : ((fl : Int) == 0) = false := by simp; omega
    have e1 : (1048576 : Int) < (fl : Int) := by omega
    clear h1 h2 hR q0 hfl q1
    go_enter Try.func16, Try.ntmps16
    go_wp2_with fail
    exact bodyPost_ret (v := .bool true) (by simp [results, Try.results16, go_sem]) rfl ⟨rfl, Below.refl _ _⟩
  have hR : has f key = (prbs key (8 * fl)).all (hasb f) := by unfold has; rw [if_neg (by omega), hfl]
  rw [hR]
  have e0 : ((fl : Int) == 0) = false := by simp; omega
  have e1 : (fl : Int) ≤ 1048576 := by omega
  have hfl62 : fl ≤ 2 ^ 50 := by omega
  have hpr := places_any (M := 8 * fl) h2 (by omega) (by omega)
  rw [show ((8 * fl : Nat) : Int) = (fl : Int) * 8 by omega] at hpr
  have HP : Hid ((∀ p ∈ prbs key (8 * fl), p < 8 * fl) ∧ (prbs key (8 * fl)).length = 6 ∧ (∀ j p, (prbs key (8 * fl))[j]? = some p → (prA key (8 * fl))[j]? = some (Value.int .i64 ((p : Nat) : Int))) ∧ (prA key (8 * fl)).size = 6) := ⟨fun p hp => prbs_lt hp, prbs_len (by omega), fun j p h => prA_at h, prA_size (by omega)⟩
  generalize prA key (8 * fl) = PA at hpr HP
  generalize prbs key (8 * fl) = P at HP
  have HS : Hid (Sl w fa fl fc f) := h1
  obtain ⟨T, hT⟩ : ∃ T, T = P.all (hasb f) := ⟨_, rfl⟩
  rw [← hT]
  have HT : Hid (T = P.all (hasb f)) := hT
  clear h1 h2 hR q0 q1 hT
  go_enter Try.func16, Try.ntmps16
  go_wp2_with (go_at_call 18; refine hpr.mono ?_; rintro e w3 ⟨rfl, b3⟩)
  have HB := hid9 b3
  clear hpr b3
  go_loopg [6, 20] 6 (fun g _ i wr => ∃ j m : Nat, j + g = 6 ∧ i = .int .i64 (j : Int) ∧ wr = w3.drewN m ∧ Hid ((P.take j).all (hasb f) = true))
  case atStart => exact ⟨0, 0, by omega, rfl, rfl, rfl⟩
  case round =>
    obtain ⟨j, m, hj, rfl, hw, HJ⟩ := hrel
    obtain ⟨W3, hW3⟩ : ∃ W, W = w3.drewN m := ⟨_, rfl⟩
    have HB3 : Hid (Below w.heap.size w W3 ∧ W3 = w3.drewN m) := ⟨by rw [hW3]; exact below_drewN HB.out _, hW3⟩
    rw [← hW3] at hw
    subst hw
    clear hW3
    by_cases hjn : j < 6
    · have hjn' : (j : Int) < 6 := by omega
      have hjx : j < P.length := by have := HP.out.2.1; omega
      have HPJ := hid9 (List.getElem?_eq_getElem hjx)
      have hpl := HP.out.1 P[j] (List.getElem_mem hjx)
      have hix := fun w => run_ix6 w PA j HP.out.2.2.2 hjn (HP.out.2.2.1 j P[j] HPJ.out)
      generalize P[j] = p at hix hpl HPJ
      obtain ⟨i, hi⟩ : ∃ i, i = p / 8 := ⟨_, rfl⟩
      obtain ⟨r, hr⟩ : ∃ r, r = p % 8 := ⟨_, rfl⟩
      have hiN : i < fl := by omega
      obtain ⟨hX8, b, off, rfl, hc0⟩ := HS.out.2.2.2.2.2 i hiN
      have hc := cell_later HB3.out.1 hc0
      have hfx : f[i]? = some ((xof f i : Nat) : Int) := by
        have hif : i < f.length := by omega
        have h0 := HS.out.2.1 f[i] (List.getElem_mem hif)
        rw [List.getElem?_eq_getElem hif]
        simp only [xof, List.getD_eq_getElem?_getD, List.getElem?_eq_getElem hif, Option.getD_some, Option.some.injEq]
        omega
      have hbit := hasb_bit hfx hi hr
      have hat := all_take (q := hasb f) HPJ.out
      generalize xof f i = X at hX8 hc hbit hc0 hfx
      have hp62 : p ≤ 2 ^ 60 := by omega
      have hmk := fun (w : World) => bmask_any (w := w) hp62 hr
      have hq8 : (p : Int) / 8 = (i : Int) := by omega
      have hr8 : (p : Int) % 8 = (r : Int) := by omega
      have hr7 : r < 8 := by omega
      have hiN' : (i : Int) < (fl : Int) := by omega
      have hj62 : j ≤ 2 ^ 61 := by omega
      have HAT : Hid ((P.take (j + 1)).all (hasb f) = decide (X / 2 ^ r % 2 = 1) ∧ (decide (X / 2 ^ r % 2 = 1) = false → T = false)) := by
        rw [HJ.out, hbit, Bool.true_and] at hat
        refine ⟨hat, fun e => ?_⟩
        rw [HT.out, List.all_eq_false]
        exact ⟨p, List.mem_of_getElem? HPJ.out, by rw [hbit, e]; decide⟩
      obtain ⟨GJ, HGJ⟩ : ∃ g, Hid (g < gk ∧ j + 1 + g = 6) := ⟨gk - 1, by omega, by omega⟩
      have hand := and_bit hX8 hr7
      generalize ((2 ^ r : Nat) : Int) = R at hand hmk
      clear hi hr hc0 hfx hbit hat hj hpl hr8
      by_cases qb : X / 2 ^ r % 2 = 1
      · have hb : (bits .and .u8 (X : Int) R == 0) = false := by rw [hand]; simp [qb]
        have HNX : Hid ((P.take (j + 1)).all (hasb f) = true) := by show _ = _; rw [HAT.out.1]; simpa using qb
        clear hand qb
        go_wp2_with fail
        go_quiet ((go_at_call 20; exact Calls.quiet_of_same (hmk _)))
        go_wp2_with fail
        go_roundg GJ
        case measure => exact HGJ.out.1
        case rel => exact ⟨j + 1, m + nq, HGJ.out.2, by go_num, by rw [HB3.out.2, World.drewN_drewN], HNX⟩
      · have hb : (bits .and .u8 (X : Int) R == 0) = true := by rw [hand]; simp [qb]
        have hTf : T = false := HAT.out.2 (by simpa using qb)
        subst hTf
        clear hand qb
        go_wp2_with fail
        go_quiet ((go_at_call 20; exact Calls.quiet_of_same (hmk _)))
        go_wp2_with fail
        exact bodyPost_ret (v := .bool false) (by simp [results, Try.results16, go_sem]) rfl ⟨rfl, below_drewN HB3.out.1 _⟩
    · have hjn' : ¬ ((j : Int) < 6) := by omega
      have hTT : T = true := by
        have := HJ.out
        rw [List.take_of_length_le (by have := HP.out.2.1; omega)] at this
        rw [HT.out, this]
      subst hTT
      have HB4 := hid9 HB3.out.1
      clear hj hjn HJ
      go_wp2_with fail
      exact bodyPost_ret (v := .bool true) (by simp [results, Try.results16, go_sem]) rfl ⟨rfl, HB4.out⟩
end Go.Proofs.Ytpmebgcknijnkaa
