import Derived.BigQuiet
import Derived.Deep.RegionHeldLaw
import Derived.Deep.RegionLaw
import Derived.Test.YtifgojkmdicdmaaPk01
import Derived.Test.YtifgojkmdicdmaaPk05
import Derived.Test.YtifgojkmdicdmaaPk12
import Derived.Test.YtifgojkmdicdmaaPk26
import Derived.Test.YtifgojkmdicdmaaPk27
/- What is left of bytes that are read: slices of slices, in any world. -/
namespace Go.Proofs.Ytifgojkmdicdmaa
open Go.RowKit
set_option linter.unusedVariables false
set_option linter.unusedSimpArgs false

/-- What is left, where nothing is wrong. -/
def rst (s : Rd) : List Int := if s.2 ≠ 0 then [] else s.1
/-- A slice of a slice: what it holds, in any world. -/
def Rests (ao : Option Addr) (len cap : Nat) (d : List Int) (r : Value) (xs : List Int) : Prop := ∀ w, Sl w ao len cap d → SlV w r xs
theorem SlV.sl {w : World} {a : Option Addr} {n c : Nat} {xs : List Int} (h : SlV w (.slice a n c) xs) : Sl w a n c xs := by
  obtain ⟨a', c', e, hs⟩ := h
  simp only [Value.slice.injEq] at e
  obtain ⟨rfl, rfl, rfl⟩ := e
  exact hs
theorem Rests.trans {ao a : Option Addr} {len cap n c : Nat} {d xs ys : List Int} {r : Value} (h : Rests ao len cap d (.slice a n c) xs) (g : Rests a n c xs r ys) : Rests ao len cap d r ys := fun w hw => g w (h w hw).sl
theorem Rests.nil (ao : Option Addr) (len cap : Nat) (d : List Int) : Rests ao len cap d (.slice none 0 0) [] := fun w _ => slv_nil w
theorem Rests.from {ao : Option Addr} {len cap : Nat} {d : List Int} (i : Nat) (hi : i ≤ len) (hd : d.length = len) : Rests ao len cap d (.slice (cutA ao cap i) (len - i) (cap - i)) (d.drop i) := fun w h => by
  have e : (d.drop i).length = len - i := by rw [List.length_drop, hd]
  exact ⟨_, _, by rw [e], by rw [e]; exact h.from i hi⟩
end Go.Proofs.Ytifgojkmdicdmaa

/- The landed block: what it takes from bytes: a number, a byte of Gone, a value. -/
namespace Go.Proofs.Ytifgojkmdicdmaa
open Go.RowKit
set_option linter.unusedVariables false
set_option linter.unusedSimpArgs false

set_option maxHeartbeats 1000000 in
set_option maxRecDepth 100000 in
theorem tnum_k {w : World} {ao : Option Addr} {len cap : Nat} {d : List Int} (h : Sl w ao len cap d) :
    Calls Try.prog 57 #[.slice ao len cap] w fun e w' => ∃ v, e = .returned (.tuple #[.int .i64 ((nmL d).1 : Nat), v, .int .i64 ((nmL d).2.2 : Nat)]) ∧ Rests ao len cap d v (rst (nmL d).2) ∧ Below w.heap.size w w' := by
  have ht := tk_l h
  have hlt := tk_lt d
  have hln := h.1
  have hcap := h.2.2.2.1
  have hcm : cap ≤ 2 ^ 63 - 1 := by have := h.2.2.2.2.1; unfold maxLen at this; omega
  rw [nmL_def]
  unfold rst
  by_cases q : (tk d).1 = 0
  · have hus := tk_used q
    rw [if_neg (not_not_intro q)]
    rw [q] at ht
    by_cases q2 : 4611686018427387904 < (tk d).2.1
    · rw [if_pos q2]
      simp only [show (3 : Nat) ≠ 0 by decide, ne_eq, not_false_eq_true, if_true]
      generalize (tk d).2.1 = n at ht hlt q2
      generalize (tk d).2.2 = sz at ht
      have c1 : (4611686018427387904 : Int) < (n : Int) := by omega
      clear h q hlt hln hcap hcm q2
      go_enter Try.func57, Try.ntmps57
      go_wp2_with (go_at_call 64; refine ht.mono ?_; rintro e w' ⟨rfl, hw⟩; obtain rfl := hw.symm)
      exact bodyPost_ret (v := .tuple #[.int .i64 0, .slice none 0 0, .int .i64 3]) (by simp [results, Try.results57, go_sem]) rfl ⟨_, rfl, Rests.nil _ _ _ _, Below.refl _ _⟩
    · rw [if_neg q2]
      simp only [ne_eq, not_true_eq_false, if_false]
      have hf := h.from (tk d).2.2 (by omega)
      have hcf := fun w => run_from w ao len cap (tk d).2.2 (by omega) hcap
      generalize (tk d).2.1 = n at ht hlt q2
      generalize (tk d).2.2 = sz at ht hf hcf hus
      have c1 : (n : Int) ≤ 4611686018427387904 := by omega
      have hn63 : n ≤ 2 ^ 63 - 1 := by omega
      have hsz : sz ≤ 2 ^ 63 - 1 := by omega
      have hF : Hid (Rests ao len cap d (.slice (cutA ao cap sz) (len - sz) (cap - sz)) (d.drop sz)) := Rests.from sz (by omega) hln
      clear h q hlt hln hcap hcm q2 hus hf
      go_enter Try.func57, Try.ntmps57
      go_wp2_with (go_at_call 64; refine ht.mono ?_; rintro e w' ⟨rfl, hw⟩; obtain rfl := hw.symm)
      go_quiet (fail)
      go_wp2_with fail
      exact bodyPost_ret (v := .tuple #[.int .i64 (n : Nat), .slice (cutA ao cap sz) (len - sz) (cap - sz), .int .i64 0]) (by simp [results, Try.results57, go_sem]) rfl ⟨_, rfl, hF.out, below_drewN (Below.refl _ _) _⟩
  · rw [if_pos q]
    simp only [q, ne_eq, not_false_eq_true, if_true]
    generalize (tk d).2.1 = n at ht
    generalize (tk d).2.2 = sz at ht
    generalize (tk d).1 = er at ht q
    have hne : ((er : Int) != 0) = true := by simp; omega
    clear h q hlt hln hcap hcm
    go_enter Try.func57, Try.ntmps57
    go_wp2_with (go_at_call 64; refine ht.mono ?_; rintro e w' ⟨rfl, hw⟩; obtain rfl := hw.symm)
    exact bodyPost_ret (v := .tuple #[.int .i64 0, .slice none 0 0, .int .i64 (er : Nat)]) (by simp [results, Try.results57, go_sem]) rfl ⟨_, rfl, Rests.nil _ _ _ _, Below.refl _ _⟩

set_option maxHeartbeats 1000000 in
set_option maxRecDepth 100000 in
theorem tval_k {w : World} {ao : Option Addr} {len cap : Nat} {d : List Int} (h : Sl w ao len cap d) (hl : len ≤ 175921860444160) :
    Calls Try.prog 59 #[.slice ao len cap] w fun e w' => ∃ v r, e = .returned (.tuple #[v, r, .int .i64 ((rdB 2048 (d, 0)).2.2 : Nat)]) ∧ Row w.heap.size w' v (rdB 2048 (d, 0)).1 ∧ Rests ao len cap d r (rst (rdB 2048 (d, 0)).2) ∧ Below w.heap.size w w' := by
  have ht := tb_l h hl 2048 (by omega)
  have hln := h.1
  have hcap := h.2.2.2.1
  have hcm : cap ≤ 2 ^ 63 - 1 := by have := h.2.2.2.2.1; unfold maxLen at this; omega
  unfold rdB rst
  simp only [ne_eq, not_true_eq_false, if_false]
  by_cases q : (tb d 2048).1 = 0
  · have hus := tb_used q
    rw [if_neg (not_not_intro q)]
    simp only [not_true_eq_false, if_false]
    rw [q] at ht
    have hf := h.from (tb d 2048).2.2 (by omega)
    have hcf := fun w => run_from w ao len cap (tb d 2048).2.2 (by omega) hcap
    generalize (tb d 2048).2.2 = sz at ht hf hcf hus
    generalize (tb d 2048).2.1 = s at ht
    have hsz : sz ≤ 2 ^ 63 - 1 := by omega
    have hF : Hid (Rests ao len cap d (.slice (cutA ao cap sz) (len - sz) (cap - sz)) (d.drop sz)) := Rests.from sz (by omega) hln
    clear h q hln hcap hcm hus hf hl
    go_enter Try.func59, Try.ntmps59
    go_wp2_with (go_at_call 65; refine ht.mono ?_; rintro e w' ⟨v, rfl, r1, b1⟩)
    go_quiet (fail)
    go_wp2_with fail
    exact bodyPost_ret (v := .tuple #[v, .slice (cutA ao cap sz) (len - sz) (cap - sz), .int .i64 0]) (by simp [results, Try.results59, go_sem]) rfl ⟨_, _, rfl, r1.later (below_drewN (Below.refl _ _) _), hF.out, below_drewN b1 _⟩
  · rw [if_pos q]
    simp only [q, not_false_eq_true, if_true]
    generalize (tb d 2048).2.1 = n at ht
    generalize (tb d 2048).2.2 = sz at ht
    generalize (tb d 2048).1 = er at ht q
    have hne : ((er : Int) != 0) = true := by simp; omega
    clear h q hln hcap hcm hl
    go_enter Try.func59, Try.ntmps59
    go_wp2_with (go_at_call 65; refine ht.mono ?_; rintro e w' ⟨v, rfl, r1, b1⟩)
    exact bodyPost_ret (v := .tuple #[.slice none 0 0, .slice none 0 0, .int .i64 (er : Nat)]) (by simp [results, Try.results59, go_sem]) rfl ⟨_, _, rfl, Row.nil _ _, Rests.nil _ _ _ _, b1⟩

set_option maxHeartbeats 1000000 in
set_option maxRecDepth 100000 in
theorem tgone_k {w : World} {ao : Option Addr} {len cap : Nat} {d : List Int} (h : Sl w ao len cap d) :
    Calls Try.prog 58 #[.slice ao len cap] w fun e w' => ∃ r, e = .returned (.tuple #[.bool (rdF (d, 0)).1, r, .int .i64 ((rdF (d, 0)).2.2 : Nat)]) ∧ Rests ao len cap d r (rst (rdF (d, 0)).2) ∧ Below w.heap.size w w' := by
  have hr := read_any ao len cap (xof d) 1 w h.2.2.2.2.2 h.2.2.2.1
  have hcap := h.2.2.2.1
  have hln := h.1
  have hcm : cap ≤ 2 ^ 63 - 1 := by have := h.2.2.2.2.1; unfold maxLen at this; omega
  unfold readV at hr
  rw [if_pos (by unfold InSize; omega)] at hr
  cases d with
  | nil =>
    have h0 : len = 0 := by simpa using hln.symm
    rw [if_pos (by omega)] at hr
    clear h hcap hln hcm h0
    go_enter Try.func58, Try.ntmps58
    go_wp2_with (go_at_call 50; refine hr.mono ?_; rintro e w' ⟨rfl, hw⟩; obtain rfl := hw.symm)
    exact bodyPost_ret (v := .tuple #[.bool false, .slice none 0 0, .int .i64 5]) (by simp [results, Try.results58, go_sem]) rfl ⟨_, rfl, Rests.nil _ _ _ _, Below.refl _ _⟩
  | cons c r =>
    have hl1 : 1 ≤ len := by rw [← hln]; simp
    rw [if_neg (by omega)] at hr
    have hc := h.2.1 c (by simp)
    obtain ⟨n, rfl⟩ := Int.eq_ofNat_of_zero_le hc.1
    have e1 : fv (xof ((n : Int) :: r)) (1 : Int).toNat = n := by simp [fv, xof]
    rw [e1] at hr
    have hf := h.from 1 hl1
    have hcf : ∀ w, (Instr.slice 25 (.slice ao len cap) (some (.int .i64 1)) none none).run Try.prog w = .ok (.slice (cutA ao cap 1) (len - 1) (cap - 1)) w := fun w => run_from w ao len cap 1 hl1 hcap
    have hF : Hid (Rests ao len cap ((n : Int) :: r) (.slice (cutA ao cap 1) (len - 1) (cap - 1)) r) := Rests.from 1 hl1 hln
    clear h hf hln e1 hcap
    by_cases q0 : n = 0
    · subst q0
      clear hc
      go_enter Try.func58, Try.ntmps58
      go_wp2_with (go_at_call 50; refine hr.mono ?_; rintro e w' ⟨rfl, hw⟩; obtain rfl := hw.symm)
      go_quiet (fail)
      go_wp2_with fail
      exact bodyPost_ret (v := .tuple #[.bool false, .slice (cutA ao cap 1) (len - 1) (cap - 1), .int .i64 0]) (by simp [results, Try.results58, go_sem]) rfl ⟨_, rfl, hF.out, below_drewN (Below.refl _ _) _⟩
    by_cases q1 : n = 1
    · subst q1
      clear hc
      go_enter Try.func58, Try.ntmps58
      go_wp2_with (go_at_call 50; refine hr.mono ?_; rintro e w' ⟨rfl, hw⟩; obtain rfl := hw.symm)
      go_quiet (fail)
      go_wp2_with fail
      exact bodyPost_ret (v := .tuple #[.bool true, .slice (cutA ao cap 1) (len - 1) (cap - 1), .int .i64 0]) (by simp [results, Try.results58, go_sem]) rfl ⟨_, rfl, hF.out, below_drewN (Below.refl _ _) _⟩
    · have c0 : ((n : Int) != 0) = true := by simp; omega
      have c1 : ((n : Int) != 1) = true := by simp; omega
      have hR : rdF ((n : Int) :: r, 0) = (false, (r, 3)) := by
        unfold rdF
        simp only [ne_eq, not_true_eq_false, if_false]
        rw [if_pos (by omega), show ((n : Int) == 1) = false by simp; omega]
      rw [hR]
      clear hc q0 q1 hF hR hcf
      go_enter Try.func58, Try.ntmps58
      go_wp2_with (go_at_call 50; refine hr.mono ?_; rintro e w' ⟨rfl, hw⟩; obtain rfl := hw.symm)
      exact bodyPost_ret (v := .tuple #[.bool false, .slice none 0 0, .int .i64 3]) (by simp [results, Try.results58, go_sem]) rfl ⟨_, rfl, Rests.nil _ _ _ _, Below.refl _ _⟩

end Go.Proofs.Ytifgojkmdicdmaa

/- A call of a Go function as one step of a region that draws its order. -/
namespace Go.Proofs.Ytifgojkmdicdmaa
open Go.RowKit
set_option linter.unusedVariables false
set_option linter.unusedSimpArgs false

theorem step_fn {P : Program} {ops : Array Oper} {w : World} {o : Oper} {a : Act} {K : Act → World → Prop} {Q : Exit → Act → World → Prop} {E : Prop} {R : Ending → World → Prop} (f : FuncId) {xs : Array Operand} {ts : Array TypeId} {args : Array Value} (hgd : o.guard = none)
    (hop : o.op = .call { callee := .value (.func f), args := xs, argTypes := ts }) (hargs : xs.map a.eval = args) (hf : (callFunc f args).run P w = .ok (.enter f args) w) (hc : Calls P f args w R) (h : ∀ e w', R e w' → ∃ v, e = .returned v ∧ K (a.put o.dst v) w') :
    if Region.wanted o (yielded ops a.tmps) = true then Oper.wp P o a w K Q else E := by
  have hw : Region.wanted o (yielded ops a.tmps) = true := by simp [Region.wanted, hgd]
  rw [if_pos hw]
  have hrun : (execOp a.eval o).run P w = .ok (.enter f args) w := by
    unfold execOp
    rw [hop]
    simp [resolve, invoke, Act.eval, go_sem, hargs, hf]
  unfold Oper.wp
  rw [hrun]
  exact hc.mono fun e w' hR => by
    obtain ⟨v, he, hk⟩ := h e w' hR
    subst he
    exact hk
end Go.Proofs.Ytifgojkmdicdmaa
