/- The landed block: what it takes from bytes: a number, a byte of Gone, a value. -/
import Derived.Test.YtifgojkmdicdmaaLk5
import Derived.Test.YtifgojkmdicdmaaRst
import Derived.Test.YtifgojkmdicdmaaFcat
import Derived.Test.YtifgojkmdicdmaaTby
import Derived.BigQuiet
import Derived.Deep.RegionHeldLaw
namespace Go.Proofs.Ytifgojkmdicdmaa
open Go.RowKit
set_option linter.unusedVariables false
set_option linter.unusedSimpArgs false

set_option maxHeartbeats 1000000 in
set_option maxRecDepth 100000 in
theorem tnum_k {w : World} {ao : Option Addr} {len cap : Nat} {d : List Int} (h : Sl w ao len cap d) :
    Calls Try.prog 57 #[.slice ao len cap] w fun e w' => ∃ v, e = .returned (.tuple #[.int .i64 ((nmL d).1 : Nat), v, .int .i64 ((nmL d).2.2 : Nat)]) ∧ Rests ao len cap d v (rst (nmL d).2) ∧ Below w.heap.size w w' := by
  have ht := tk_l h
  have hlt := tk_lt d
  have hln := h.1
  have hcap := h.2.2.2.1
  have hcm : cap ≤ 2 ^ 63 - 1 := by have := h.2.2.2.2.1; unfold maxLen at this; omega
  rw [nmL_def]
  unfold rst
  by_cases q : (tk d).1 = 0
  · have hus := tk_used q
    rw [if_neg (not_not_intro q)]
    rw [q] at ht
    by_cases q2 : 4611686018427387904 < (tk d).2.1
    · rw [if_pos q2]
      simp only [show (3 : Nat) ≠ 0 by decide, ne_eq, not_false_eq_true, if_true]
      generalize (tk d).2.1 = n at ht hlt q2
      generalize (tk d).2.2 = sz at ht
      have c1 : (4611686018427387904 : Int) < (n : Int) := by omega
      clear h q hlt hln hcap hcm q2
      go_enter Try.func57, Try.ntmps57
      go_wp2_with (go_at_call 64; refine ht.mono ?_; rintro e w' ⟨rfl, hw⟩; obtain rfl := hw.symm)
      exact bodyPost_ret (v := .tuple #[.int .i64 0, .slice none 0 0, .int .i64 3]) (by simp [results, Try.results57, go_sem]) rfl ⟨_, rfl, Rests.nil _ _ _ _, Below.refl _ _⟩
    · rw [if_neg q2]
      simp only [ne_eq, not_true_eq_false, if_false]
      have hf := h.from (tk d).2.2 (by omega)
      have hcf := fun w => run_from w ao len cap (tk d).2.2 (by omega) hcap
      generalize (tk d).2.1 = n at ht hlt q2
      generalize (tk d).2.2 = sz at ht hf hcf hus
      have c1 : (n : Int) ≤ 4611686018427387904 := by omega
      have hn63 : n ≤ 2 ^ 63 - 1 := by omega
      have hsz : sz ≤ 2 ^ 63 - 1 := by omega
      have hF : Hid (Rests ao len cap d (.slice (cutA ao cap sz) (len - sz) (cap - sz)) (d.drop sz)) := Rests.from sz (by omega) hln
      clear h q hlt hln hcap hcm q2 hus hf
      go_enter Try.func57, Try.ntmps57
      go_wp2_with (go_at_call 64; refine ht.mono ?_; rintro e w' ⟨rfl, hw⟩; obtain rfl := hw.symm)
      go_quiet (fail)
      go_wp2_with fail
      exact bodyPost_ret (v := .tuple #[.int .i64 (n : Nat), .slice (cutA ao cap sz) (len - sz) (cap - sz), .int .i64 0]) (by simp [results, Try.results57, go_sem]) rfl ⟨_, rfl, hF.out, below_drewN (Below.refl _ _) _⟩
  · rw [if_pos q]
    simp only [q, ne_eq, not_false_eq_true, if_true]
    generalize (tk d).2.1 = n at ht
    generalize (tk d).2.2 = sz at ht
    generalize (tk d).1 = er at ht q
    have hne : ((er : Int) != 0) = true := by simp; omega
    clear h q hlt hln hcap hcm
    go_enter Try.func57, Try.ntmps57
    go_wp2_with (go_at_call 64; refine ht.mono ?_; rintro e w' ⟨rfl, hw⟩; obtain rfl := hw.symm)
    exact bodyPost_ret (v := .tuple #[.int .i64 0, .slice none 0 0, .int .i64 (er : Nat)]) (by simp [results, Try.results57, go_sem]) rfl ⟨_, rfl, Rests.nil _ _ _ _, Below.refl _ _⟩

set_option maxHeartbeats 1000000 in
set_option maxRecDepth 100000 in
theorem tval_k {w : World} {ao : Option Addr} {len cap : Nat} {d : List Int} (h : Sl w ao len cap d) (hl : len ≤ 175921860444160) :
    Calls Try.prog 59 #[.slice ao len cap] w fun e w' => ∃ v r, e = .returned (.tuple #[v, r, .int .i64 ((rdB 2048 (d, 0)).2.2 : Nat)]) ∧ Row w.heap.size w' v (rdB 2048 (d, 0)).1 ∧ Rests ao len cap d r (rst (rdB 2048 (d, 0)).2) ∧ Below w.heap.size w w' := by
  have ht := tb_l h hl 2048 (by omega)
  have hln := h.1
  have hcap := h.2.2.2.1
  have hcm : cap ≤ 2 ^ 63 - 1 := by have := h.2.2.2.2.1; unfold maxLen at this; omega
  unfold rdB rst
  simp only [ne_eq, not_true_eq_false, if_false]
  by_cases q : (tb d 2048).1 = 0
  · have hus := tb_used q
    rw [if_neg (not_not_intro q)]
    simp only [not_true_eq_false, if_false]
    rw [q] at ht
    have hf := h.from (tb d 2048).2.2 (by omega)
    have hcf := fun w => run_from w ao len cap (tb d 2048).2.2 (by omega) hcap
    generalize (tb d 2048).2.2 = sz at ht hf hcf hus
    generalize (tb d 2048).2.1 = s at ht
    have hsz : sz ≤ 2 ^ 63 - 1 := by omega
    have hF : Hid (Rests ao len cap d (.slice (cutA ao cap sz) (len - sz) (cap - sz)) (d.drop sz)) := Rests.from sz (by omega) hln
    clear h q hln hcap hcm hus hf hl
    go_enter Try.func59, Try.ntmps59
    go_wp2_with (go_at_call 65; refine ht.mono ?_; rintro e w' ⟨v, rfl, r1, b1⟩)
    go_quiet (fail)
    go_wp2_with fail
    exact bodyPost_ret (v := .tuple #[v, .slice (cutA ao cap sz) (len - sz) (cap - sz), .int .i64 0]) (by simp [results, Try.results59, go_sem]) rfl ⟨_, _, rfl, r1.later (below_drewN (Below.refl _ _) _), hF.out, below_drewN b1 _⟩
  · rw [if_pos q]
    simp only [q, not_false_eq_true, if_true]
    generalize (tb d 2048).2.1 = n at ht
    generalize (tb d 2048).2.2 = sz at ht
    generalize (tb d 2048).1 = er at ht q
    have hne : ((er : Int) != 0) = true := by simp; omega
    clear h q hln hcap hcm hl
    go_enter Try.func59, Try.ntmps59
    go_wp2_with (go_at_call 65; refine ht.mono ?_; rintro e w' ⟨v, rfl, r1, b1⟩)
    exact bodyPost_ret (v := .tuple #[.slice none 0 0, .slice none 0 0, .int .i64 (er : Nat)]) (by simp [results, Try.results59, go_sem]) rfl ⟨_, _, rfl, Row.nil _ _, Rests.nil _ _ _ _, b1⟩

set_option maxHeartbeats 1000000 in
set_option maxRecDepth 100000 in
theorem tgone_k {w : World} {ao : Option Addr} {len cap : Nat} {d : List Int} (h : Sl w ao len cap d) :
    Calls Try.prog 58 #[.slice ao len cap] w fun e w' => ∃ r, e = .returned (.tuple #[.bool (rdF (d, 0)).1, r, .int .i64 ((rdF (d, 0)).2.2 : Nat)]) ∧ Rests ao len cap d r (rst (rdF (d, 0)).2) ∧ Below w.heap.size w w' := by
  have hr := read_any ao len cap (xof d) 1 w h.2.2.2.2.2 h.2.2.2.1
  have hcap := h.2.2.2.1
  have hln := h.1
  have hcm : cap ≤ 2 ^ 63 - 1 := by have := h.2.2.2.2.1; unfold maxLen at this; omega
  unfold readV at hr
  rw [if_pos (by unfold InSize; omega)] at hr
  cases d with
  | nil =>
    have h0 : len = 0 := by simpa using hln.symm
    rw [if_pos (by omega)] at hr
    clear h hcap hln hcm h0
    go_enter Try.func58, Try.ntmps58
    go_wp2_with (go_at_call 50; refine hr.mono ?_; rintro e w' ⟨rfl, hw⟩; obtain rfl := hw.symm)
    exact bodyPost_ret (v := .tuple #[.bool false, .slice none 0 0, .int .i64 5]) (by simp [results, Try.results58, go_sem]) rfl ⟨_, rfl, Rests.nil _ _ _ _, Below.refl _ _⟩
  | cons c r =>
    have hl1 : 1 ≤ len := by rw [← hln]; simp
    rw [if_neg (by omega)] at hr
    have hc := h.2.1 c (by simp)
    obtain ⟨n, rfl⟩ := Int.eq_ofNat_of_zero_le hc.1
    have e1 : fv (xof ((n : Int) :: r)) (1 : Int).toNat = n := by simp [fv, xof]
    rw [e1] at hr
    have hf := h.from 1 hl1
    have hcf : ∀ w, (Instr.slice 25 (.slice ao len cap) (some (.int .i64 1)) none none).run Try.prog w = .ok (.slice (cutA ao cap 1) (len - 1) (cap - 1)) w := fun w => run_from w ao len cap 1 hl1 hcap
    have hF : Hid (Rests ao len cap ((n : Int) :: r) (.slice (cutA ao cap 1) (len - 1) (cap - 1)) r) := Rests.from 1 hl1 hln
    clear h hf hln e1 hcap
    by_cases q0 : n = 0
    · subst q0
      clear hc
      go_enter Try.func58, Try.ntmps58
      go_wp2_with (go_at_call 50; refine hr.mono ?_; rintro e w' ⟨rfl, hw⟩; obtain rfl := hw.symm)
      go_quiet (fail)
      go_wp2_with fail
      exact bodyPost_ret (v := .tuple #[.bool false, .slice (cutA ao cap 1) (len - 1) (cap - 1), .int .i64 0]) (by simp [results, Try.results58, go_sem]) rfl ⟨_, rfl, hF.out, below_drewN (Below.refl _ _) _⟩
    by_cases q1 : n = 1
    · subst q1
      clear hc
      go_enter Try.func58, Try.ntmps58
      go_wp2_with (go_at_call 50; refine hr.mono ?_; rintro e w' ⟨rfl, hw⟩; obtain rfl := hw.symm)
      go_quiet (fail)
      go_wp2_with fail
      exact bodyPost_ret (v := .tuple #[.bool true, .slice (cutA ao cap 1) (len - 1) (cap - 1), .int .i64 0]) (by simp [results, Try.results58, go_sem]) rfl ⟨_, rfl, hF.out, below_drewN (Below.refl _ _) _⟩
    · have c0 : ((n : Int) != 0) = true := by simp; omega
      have c1 : ((n : Int) != 1) = true := by simp; omega
      have hR : rdF ((n : Int) :: r, 0) = (false, (r, 3)) := by
        unfold rdF
        simp only [ne_eq, not_true_eq_false, if_false]
        rw [if_pos (by omega), show ((n : Int) == 1) = false by simp; omega]
      rw [hR]
      clear hc q0 q1 hF hR hcf
      go_enter Try.func58, Try.ntmps58
      go_wp2_with (go_at_call 50; refine hr.mono ?_; rintro e w' ⟨rfl, hw⟩; obtain rfl := hw.symm)
      exact bodyPost_ret (v := .tuple #[.bool false, .slice none 0 0, .int .i64 3]) (by simp [results, Try.results58, go_sem]) rfl ⟨_, rfl, Rests.nil _ _ _ _, Below.refl _ _⟩

end Go.Proofs.Ytifgojkmdicdmaa
