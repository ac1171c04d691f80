/- PhaseBack, proved: what was sent forth and comes back is what it was, for every row of whole numbers that the law brings below 2^36; the powers of the unit add up, for every two int32; for every input, without a condition. -/
import Derived.Test.YtchnjoikjadciaaRows
import Derived.Test.YtchnjoikjadciaaBack
import Derived.Test.YtchnjoikjadciaaOpen
namespace Go.Proofs.Ytchnjoikjadciaa.phaseBack
open Go.ChangeShapes Go.WideShapes Go.ChangeAt Go.RowKit
set_option linter.unusedVariables false

theorem own : ownKnob Try.prog.godebug = none := by kernel_rfl
theorem laidOut : laidOutB Try.prog = true := by kernel_rfl

theorem four_back (p q : Nat → Int) : ∀ t, t < 4 → Sre (fun k => Sre p q (-1) k 4) (fun k => Sim p q (-1) k 4) 1 t 4 = 4 * p t ∧ Sim (fun k => Sre p q (-1) k 4) (fun k => Sim p q (-1) k 4) 1 t 4 = 4 * q t := by
  intro t ht
  have : t = 0 ∨ t = 1 ∨ t = 2 ∨ t = 3 := by omega
  rcases this with h | h | h | h <;> subst h <;> simp [Sre, Sim, mre, mim, rre, rim] <;> omega

theorem turn_add (a b : Int) : ∃ r i, cMulBits (tre (a % 4)) (tim (a % 4)) (tre (b % 4)) (tim (b % 4)) = some (r, i) ∧ (FloatKind.f64.format.order r (tre ((a + b) % 4)) == some .eq) = true ∧ (FloatKind.f64.format.order i (tim ((a + b) % 4)) == some .eq) = true := by
  have sm : ∀ n : Int, n = 0 ∨ n = 1 ∨ n = -1 → Small (2 ^ 50) n := fun n h => by unfold Small; rcases h with h | h | h <;> subst h <;> decide
  obtain ⟨r, i, e, w1, w2⟩ := unit_mul (whole_tre (a % 4)) (whole_tim (a % 4)) (whole_tre (b % 4)) (whole_tim (b % 4)) (sm _ (rre_cases _)) (sm _ (rim_cases _)) (rre_cases _) (rim_cases _)
  have k : rre (a % 4) * rre (b % 4) - rim (a % 4) * rim (b % 4) = rre ((a + b) % 4) ∧ rre (a % 4) * rim (b % 4) + rim (a % 4) * rre (b % 4) = rim ((a + b) % 4) := by
    have ha : a % 4 = 0 ∨ a % 4 = 1 ∨ a % 4 = 2 ∨ a % 4 = 3 := by omega
    have hb : b % 4 = 0 ∨ b % 4 = 1 ∨ b % 4 = 2 ∨ b % 4 = 3 := by omega
    have hab : (a + b) % 4 = (a % 4 + b % 4) % 4 := by omega
    rw [hab]
    rcases ha with h | h | h | h <;> rcases hb with g | g | g | g <;> rw [h, g] <;> decide
  rw [k.1] at w1
  rw [k.2] at w2
  exact ⟨r, i, e, same w1 (whole_tre _), same w2 (whole_tim _)⟩

theorem facts (X Y : Nat → Int) (sX : ∀ j, j < 4 → Small (2 ^ 36) (X j)) (sY : ∀ j, j < 4 → Small (2 ^ 36) (Y j)) :
    (∀ w, Calls Try.prog 14 #[.agg (c4 (fr X) (fr Y))] w fun e w' => e = .returned (.agg (c4 (fR (fr X) (fr Y)) (fI (fr X) (fr Y)))) ∧ Below w.heap.size w w') ∧
    (∀ w, Calls Try.prog 22 #[.agg (c4 (fR (fr X) (fr Y)) (fI (fr X) (fr Y)))] w fun e w' => e = .returned (.agg (c4 (bR (fR (fr X) (fr Y)) (fI (fr X) (fr Y))) (bI (fR (fr X) (fr Y)) (fI (fr X) (fr Y))))) ∧ Below w.heap.size w w') ∧
    (∀ w, (Op.equalIn 10000 31 (.agg (c4 (bR (fR (fr X) (fr Y)) (fI (fr X) (fr Y))) (bI (fR (fr X) (fr Y)) (fI (fr X) (fr Y))))) (.agg (c4 (fr X) (fr Y)))).run Try.prog w = .ok true w) := by
  have hX : ∀ j, j < 4 → Whole (fr X j) (X j) := fun j hj => fr_whole j (by have := sX j hj; unfold Small at *; omega)
  have hY : ∀ j, j < 4 → Whole (fr Y j) (Y j) := fun j hj => fr_whole j (by have := sY j hj; unfold Small at *; omega)
  have tX : ∀ j, j < 4 → Small (2 ^ 40) (X j) := fun j hj => by have := sX j hj; unfold Small at *; omega
  have tY : ∀ j, j < 4 → Small (2 ^ 40) (Y j) := fun j hj => by have := sY j hj; unfold Small at *; omega
  have hF := fun t => fR_whole hX hY tX tY t
  have uX : ∀ j, j < 4 → Small (2 ^ 40) (Sre X Y (-1) j 4) := fun j _ => by have := (S_small X Y (-1) j sX sY (by decide) 4 (by decide)).1; unfold Small at *; omega
  have uY : ∀ j, j < 4 → Small (2 ^ 40) (Sim X Y (-1) j 4) := fun j _ => by have := (S_small X Y (-1) j sX sY (by decide) 4 (by decide)).2; unfold Small at *; omega
  have vXY : ∀ t, t < 4 → Small (2 ^ 50) (X t) ∧ Small (2 ^ 50) (Y t) := fun t ht => ⟨by have := sX t ht; unfold Small at *; omega, by have := sY t ht; unfold Small at *; omega⟩
  refine ⟨fun w => (forth_any (fr X) (fr Y) X Y hX hY tX tY w).mono fun e w' ⟨he, n, hw⟩ => ⟨he, ?_⟩, fun w => (back_any _ _ (fun k => Sre X Y (-1) k 4) (fun k => Sim X Y (-1) k 4) X Y (fun j _ => (hF j).1) (fun j _ => (hF j).2) uX uY (four_back X Y) vXY w).mono fun e w' ⟨he, n, hw⟩ => ⟨he, ?_⟩, fun w => ?_⟩
  · rw [hw]
    refine Below_drewN ?_ n
    repeat (first | exact Below.refl _ _ | (refine Below.alloc ?_ (by simp <;> omega) _))
  · rw [hw]
    refine Below_drewN ?_ n
    repeat (first | exact Below.refl _ _ | (refine Below.alloc ?_ (by simp <;> omega) _))
  · refine (eq_c4 _ _ (fr X) (fr Y) w).trans ?_
    have h := bR_whole (fun j _ => (hF j).1) (fun j _ => (hF j).2) uX uY (four_back X Y) vXY
    have e : ∀ t, t < 4 → (Ieee.double.order (bR (fR (fr X) (fr Y)) (fI (fr X) (fr Y)) t) (fr X t) == some .eq) = true ∧ (Ieee.double.order (bI (fR (fr X) (fr Y)) (fI (fr X) (fr Y)) t) (fr Y t) == some .eq) = true := fun t ht => ⟨same (h t ht).1.2 (hX t ht), same (h t ht).2.2 (hY t ht)⟩
    rw [(e 0 (by decide)).1, (e 1 (by decide)).1, (e 2 (by decide)).1, (e 3 (by decide)).1, (e 0 (by decide)).2, (e 1 (by decide)).2, (e 2 (by decide)).2, (e 3 (by decide)).2]
    rfl

set_option maxHeartbeats 1000000 in
theorem walk (x y : Nat → Int) (a b : Int) (wa : (Lit.int .i32 a).wf = true) (wb : (Lit.int .i32 b).wf = true) (w : World) :
    Calls Try.prog 7 #[.agg #[.int .i64 (x 0), .int .i64 (y 0), .int .i64 (x 1), .int .i64 (y 1), .int .i64 (x 2), .int .i64 (y 2), .int .i64 (x 3), .int .i64 (y 3)], .int .i32 a, .int .i32 b] w fun e w' => e = .returned (.bool true) ∧ Below w.heap.size w w' := by
  have hfour := fun w => four_b x y w
  obtain ⟨X, hX⟩ : ∃ X, X = rm 68719476736 x := ⟨_, rfl⟩
  obtain ⟨Y, hY⟩ : ∃ Y, Y = rm 68719476736 y := ⟨_, rfl⟩
  rw [← hX, ← hY] at hfour
  have sX : ∀ j, j < 4 → Small (2 ^ 36) (X j) := fun j _ => by subst hX; have := tmod_small 68719476736 (x j) (by decide); unfold Small rm at *; omega
  have sY : ∀ j, j < 4 → Small (2 ^ 36) (Y j) := fun j _ => by subst hY; have := tmod_small 68719476736 (y j) (by decide); unfold Small rm at *; omega
  obtain ⟨f1, f2, f3⟩ := facts X Y sX sY
  have F3 : ∀ w, (Op.equalIn 10000 31 (.agg (c4 (bR (fR (fr X) (fr Y)) (fI (fr X) (fr Y))) (bI (fR (fr X) (fr Y)) (fI (fr X) (fr Y))))) (.agg #[.complex .f64 (fr X 0) (fr Y 0), .complex .f64 (fr X 1) (fr Y 1), .complex .f64 (fr X 2) (fr Y 2), .complex .f64 (fr X 3) (fr Y 3)])).run Try.prog w = .ok true w := f3
  clear hX hY sX sY f3
  obtain ⟨mr, mi, em, ho1, ho2⟩ := turn_add a b
  have hmul := fun t w => run_complex_mul (P := Try.prog) w t _ _ _ _ _ _ em
  have ha0 : wrap64 a = a := by simp [Lit.wf, IntKind.min, IntKind.max, IntKind.bits, IntKind.signed] at wa; unfold wrap64; omega
  have hb0 : wrap64 b = b := by simp [Lit.wf, IntKind.min, IntKind.max, IntKind.bits, IntKind.signed] at wb; unfold wrap64; omega
  have hab : wrap64 (a + b) = a + b := by simp [Lit.wf, IntKind.min, IntKind.max, IntKind.bits, IntKind.signed] at wa wb; unfold wrap64; omega
  clear em
  go_enter Try.func7, Try.ntmps7
  go_wp2_with (go_at_call 13; refine (hfour _).mono ?_; rintro e w1 ⟨rfl, hB⟩)
  have hc0 : ∀ z : Later ((w1.alloc (.cells #[.int .i64 (X 0), .int .i64 (Y 0), .int .i64 (X 1), .int .i64 (Y 1), .int .i64 (X 2), .int .i64 (Y 2), .int .i64 (X 3), .int .i64 (Y 3)] 30)).alloc (.cells #[.complex .f64 (fr X 0) (fr Y 0), .complex .f64 (fr X 1) (fr Y 1), .complex .f64 (fr X 2) (fr Y 2), .complex .f64 (fr X 3) (fr Y 3)] 31)), z.val.cell? ⟨w1.heap.size + 1, 0, none⟩ = some (.complex .f64 (fr X 0) (fr Y 0)) := fun z => z.cell (by simp [go_sem])
  have hc1 : ∀ z : Later ((w1.alloc (.cells #[.int .i64 (X 0), .int .i64 (Y 0), .int .i64 (X 1), .int .i64 (Y 1), .int .i64 (X 2), .int .i64 (Y 2), .int .i64 (X 3), .int .i64 (Y 3)] 30)).alloc (.cells #[.complex .f64 (fr X 0) (fr Y 0), .complex .f64 (fr X 1) (fr Y 1), .complex .f64 (fr X 2) (fr Y 2), .complex .f64 (fr X 3) (fr Y 3)] 31)), z.val.cell? ⟨w1.heap.size + 1, 1, none⟩ = some (.complex .f64 (fr X 1) (fr Y 1)) := fun z => z.cell (by simp [go_sem])
  have hc2 : ∀ z : Later ((w1.alloc (.cells #[.int .i64 (X 0), .int .i64 (Y 0), .int .i64 (X 1), .int .i64 (Y 1), .int .i64 (X 2), .int .i64 (Y 2), .int .i64 (X 3), .int .i64 (Y 3)] 30)).alloc (.cells #[.complex .f64 (fr X 0) (fr Y 0), .complex .f64 (fr X 1) (fr Y 1), .complex .f64 (fr X 2) (fr Y 2), .complex .f64 (fr X 3) (fr Y 3)] 31)), z.val.cell? ⟨w1.heap.size + 1, 2, none⟩ = some (.complex .f64 (fr X 2) (fr Y 2)) := fun z => z.cell (by simp [go_sem])
  have hc3 : ∀ z : Later ((w1.alloc (.cells #[.int .i64 (X 0), .int .i64 (Y 0), .int .i64 (X 1), .int .i64 (Y 1), .int .i64 (X 2), .int .i64 (Y 2), .int .i64 (X 3), .int .i64 (Y 3)] 30)).alloc (.cells #[.complex .f64 (fr X 0) (fr Y 0), .complex .f64 (fr X 1) (fr Y 1), .complex .f64 (fr X 2) (fr Y 2), .complex .f64 (fr X 3) (fr Y 3)] 31)), z.val.cell? ⟨w1.heap.size + 1, 3, none⟩ = some (.complex .f64 (fr X 3) (fr Y 3)) := fun z => z.cell (by simp [go_sem])
  refine wp_region_later (by kernel_rfl) (by kernel_rfl) ?_
  repeat (go_big_quiet_step (first | exact rfl | (go_at_call 14; exact later_call f1 _) | (go_at_call 22; exact later_call f2 _) | (go_at_call 10; exact later_same (fun w => turn_any _ w) _) | (go_at_call 12; exact later_same (fun w => awake_any w) _)))
  refine wpQuiet_nil ?_
  rintro _ ⟨z, rfl⟩
  go_wp2
  go_ret
  refine ⟨rfl, ?_⟩
  have h1 : Below w.heap.size w w1 := (((Below.refl _ _).alloc (Nat.le_refl _) _).trans (hB.mono (by simp)))
  have h2 := (h1.alloc h1.size _).alloc (by have := h1.size; simp; omega) _ |>.trans (z.2.mono (by have := h1.size; simp; omega))
  exact h2

set_option maxRecDepth 100000 in
theorem lifted (os : Os) (started : os.Started) (H : Type) (enc : TypeId × Value → H) :
    ReturnsInHanded {} Try.checked os 7 .any (Rows.phaseBackSpec.pre6 enc Try.prog Try.f7 Rows.phaseBackRow.domain false) (Rows.phaseBackSpec.post enc Try.prog Try.f7 false true false false) := by
  refine returnsInHanded_of_change (C := Try.checked) own started (by kernel_rfl) Try.func7
    (ChangeSpec.witness6 (enc := enc) (C := Try.checked) false ⟨#[], #[.agg #[.int .i64 0, .int .i64 0, .int .i64 0, .int .i64 0, .int .i64 0, .int .i64 0, .int .i64 0, .int .i64 0], .int .i32 0, .int .i32 0], []⟩ 8 (by kernel_rfl) (by kernel_rfl) (by kernel_rfl) (by kernel_rfl)) ?_
  intro W base args ds gs before hval0 hW hcnd _
  have hval : ∀ (j : Nat) t v, Try.f7.params[j]? = some t → args[j]? = some v → Value.okWide Try.prog W .any base t v := hval0
  have hW' := hW
  obtain ⟨p, q, hA0, hV, rfl, hfz, hnd⟩ := hW
  have hA : DataW.TrodAll enc Try.prog W 0 (fun _ => true) true Try.f7.params.toList args.toList ds p := hA0
  rw [Try.params7] at hA hval
  obtain ⟨v0, vs0, d0, ds0, p0, q0, hargs, rfl, rfl, h0, r0⟩ := trodAll_cons hA
  obtain ⟨v1, vs1, d1, ds1, p1, q1, rfl, rfl, rfl, h1, r1⟩ := trodAll_cons r0
  obtain ⟨v2, vs2, d2, ds2, p2, q2, rfl, rfl, rfl, h2, r2⟩ := trodAll_cons r1
  obtain ⟨rfl, rfl, rfl⟩ := trodAll_nil r2
  obtain rfl : args = #[v0, v1, v2] := by cases args; simp_all
  obtain ⟨rfl, rfl⟩ := trodVars_none hV
  have k0 := h0
  have lt0 : ∀ x ∈ p0, x.block < W.heap.size := by obtain ⟨m, hm⟩ := k0; exact DataW.trod_lt m _ _ _ hm
  obtain ⟨x, y, rfl⟩ := open30 (hval 0 30 v0 rfl rfl)
  obtain ⟨a1, rfl, rfl, rfl, w1⟩ := open_int Try.underlying21 (hval 1 21 v1 rfl rfl) h1
  obtain ⟨a2, rfl, rfl, rfl, w2⟩ := open_int Try.underlying21 (hval 2 21 v2 rfl rfl) h2
  clear hA0 hval0
  refine (walk x y a1 a2 w1 w2 W).mono fun e W' ⟨he, bel⟩ => ?_
  subst he
  exact ⟨_, rfl, _, _, _, [], _, [], hW', trodAll_mk1 (shut_bool Try.underlying4 _), (trodAll_cons_mk (Below.trod laidOut (by kernel_rfl) (of_decide_eq_true (by kernel_rfl)) k0 bel lt0) (trodAll_cons_mk (shut_int Try.underlying21 w1) (trodAll_cons_mk (shut_int Try.underlying21 w2) trodAll_mk0))), rfl, bel.frame _, fun h => by cases h⟩

theorem over : Rows.phaseBackRow.holds Try.pinned (OpenSpec.ofChange Rows.phaseBackSpec) :=
  OpenClaim.holds_of_wide 7 Try.f7 rfl rfl rfl rfl rfl rfl rfl ⟨rfl, rfl, rfl, rfl, rfl⟩ rfl rfl rfl rfl rfl (by kernel_rfl) Try.func7 (by kernel_rfl)
    (of_decide_eq_true (by kernel_rfl)) (by unfold Func.isWrapper; first | (rw [if_pos (by decide +kernel)]; kernel_rfl) | (rw [if_neg (by decide +kernel)]; exact ⟨rfl, rfl⟩))
    (fun os started H enc _ => lifted os started H enc)
end Go.Proofs.Ytchnjoikjadciaa.phaseBack

namespace Go.Proofs.Ytchnjoikjadciaa
theorem phaseBack_holds : Rows.PhaseBackSaid := phaseBack.over
end Go.Proofs.Ytchnjoikjadciaa
