/- PhaseForth, proved: the program's Forth is the reference's four sums, for every row of whole numbers that the law brings below 2^36; for every input, without a condition. -/
import Derived.Test.YtchnjoikjadciaaRows
import Derived.Test.YtchnjoikjadciaaRforth
import Derived.Test.YtchnjoikjadciaaOpen
namespace Go.Proofs.Ytchnjoikjadciaa.phaseForth
open Go.ChangeShapes Go.WideShapes Go.ChangeAt Go.RowKit
set_option linter.unusedVariables false

theorem own : ownKnob Try.prog.godebug = none := by kernel_rfl
theorem laidOut : laidOutB Try.prog = true := by kernel_rfl

theorem t8_at (U V : Nat → Int) (k : Nat) (hk : k < 4) (w : World) : (Instr.index 30 (.agg (t8 U V)) (.int .i64 (k : Int))).run Try.prog w = .ok (.agg #[.int .i64 (U k), .int .i64 (V k)]) w := by
  have : k = 0 ∨ k = 1 ∨ k = 2 ∨ k = 3 := by omega
  rcases this with h | h | h | h <;> subst h
  · show (Instr.index 30 _ (.int .i64 0)).run Try.prog w = _
    kernel_rfl
  · show (Instr.index 30 _ (.int .i64 1)).run Try.prog w = _
    kernel_rfl
  · show (Instr.index 30 _ (.int .i64 2)).run Try.prog w = _
    kernel_rfl
  · show (Instr.index 30 _ (.int .i64 3)).run Try.prog w = _
    kernel_rfl

set_option maxHeartbeats 1000000 in
theorem walk (x y : Nat → Int) (w : World) :
    Calls Try.prog 4 #[.agg #[.int .i64 (x 0), .int .i64 (y 0), .int .i64 (x 1), .int .i64 (y 1), .int .i64 (x 2), .int .i64 (y 2), .int .i64 (x 3), .int .i64 (y 3)]] w fun e w' => e = .returned (.bool true) ∧ Below w.heap.size w w' := by
  have hfour := fun w => four_any x y w
  obtain ⟨X, hX⟩ : ∃ X, X = rm 68719476736 x := ⟨_, rfl⟩
  obtain ⟨Y, hY⟩ : ∃ Y, Y = rm 68719476736 y := ⟨_, rfl⟩
  rw [← hX, ← hY] at hfour
  simp only [four_world] at hfour
  have sX : ∀ j, j < 4 → Small (2 ^ 36) (X j) := fun j _ => by subst hX; have := tmod_small 68719476736 (x j) (by decide); unfold Small rm at *; omega
  have sY : ∀ j, j < 4 → Small (2 ^ 36) (Y j) := fun j _ => by subst hY; have := tmod_small 68719476736 (y j) (by decide); unfold Small rm at *; omega
  have tX : ∀ j, j < 4 → Small (2 ^ 40) (X j) := fun j hj => by have := sX j hj; unfold Small at *; omega
  have tY : ∀ j, j < 4 → Small (2 ^ 40) (Y j) := fun j hj => by have := sY j hj; unfold Small at *; omega
  have hXw : ∀ j, j < 4 → Whole (fr X j) (X j) := fun j hj => fr_whole j (by have := sX j hj; unfold Small at *; omega)
  have hYw : ∀ j, j < 4 → Whole (fr Y j) (Y j) := fun j hj => fr_whole j (by have := sY j hj; unfold Small at *; omega)
  have hforth := fun w => forth_any (fr X) (fr Y) X Y hXw hYw tX tY w
  have hr := fun w => rforth_any X Y w tX tY
  have hs : Hid (∀ t, t < 4 → (FloatKind.f64.format.order (fR (fr X) (fr Y) t) (floatOfInt .f64 (Sre X Y (-1) t 4)) == some .eq) = true ∧ (FloatKind.f64.format.order (fI (fr X) (fr Y) t) (floatOfInt .f64 (Sim X Y (-1) t 4)) == some .eq) = true) := fun t ht => by
    have h := fR_whole hXw hYw tX tY t
    have k := S_small X Y (-1) t sX sY (by decide) 4 (by decide)
    exact ⟨same h.1 (whole_int _ (by have := k.1; unfold Small at this; omega)), same h.2 (whole_int _ (by have := k.2; unfold Small at this; omega))⟩
  clear hX hY sX sY tX tY hXw hYw
  go_enter Try.func4, Try.ntmps4
  go_wp2_with (first | (go_at_call 13; refine (hfour _).mono ?_; rintro e w' ⟨n0, rfl, rfl⟩) | (go_at_call 14; refine (hforth _).mono ?_; rintro e w' ⟨rfl, n1, rfl⟩) | (go_at_call 15; refine (hr _).mono ?_; rintro e w2 ⟨rfl, hB⟩))
  have hb0 : Below w.heap.size w w2 ∧ (w.heap.size + 1 + 1 + 1 + 1 + 1 + 1 + 1 + 1 + 1 + 1 + 1 + 1 + 1 + 1 + 1) < w2.heap.size ∧ ∀ t, t < 4 → w2.cell? ⟨(w.heap.size + 1 + 1 + 1 + 1 + 1 + 1 + 1 + 1 + 1 + 1 + 1 + 1 + 1 + 1 + 1), t, none⟩ = some (.complex .f64 (fR (fr X) (fr Y) t) (fI (fr X) (fr Y) t)) := by
    refine ⟨Below.trans (b := _) ?_ (hB.mono ?_), ?_, ?_⟩
    · refine Below_drewN ?_ _
      repeat (first | exact Below.refl _ _ | (refine Below.alloc ?_ (by simp <;> omega) _))
    · simp; omega
    · have := hB.size; simp at this; omega
    · intro t ht
      refine cell_later hB ?_
      have : t = 0 ∨ t = 1 ∨ t = 2 ∨ t = 3 := by omega
      rcases this with h | h | h | h <;> subst h <;> simp [go_sem]
  have HB := hb0
  clear hB hb0 hfour hforth hr
  go_loopg [16] 4 (fun g i wr => ∃ k : Nat, k + g = 4 ∧ i = .int .i64 (k : Int) ∧ Hid (Below w.heap.size w wr ∧ (w.heap.size + 1 + 1 + 1 + 1 + 1 + 1 + 1 + 1 + 1 + 1 + 1 + 1 + 1 + 1 + 1) < wr.heap.size ∧ ∀ t, t < 4 → wr.cell? ⟨(w.heap.size + 1 + 1 + 1 + 1 + 1 + 1 + 1 + 1 + 1 + 1 + 1 + 1 + 1 + 1 + 1), t, none⟩ = some (.complex .f64 (fR (fr X) (fr Y) t) (fI (fr X) (fr Y) t))))
  case atStart => exact ⟨0, by omega, rfl, HB⟩
  case round =>
    clear HB
    obtain ⟨k, hk, rfl, HR⟩ := hrel
    by_cases hk4 : k = 4
    · subst hk4
      clear hk hs
      go_wp2_with (go_at_call 12; refine (awake_any _).mono ?_; rintro e w' ⟨rfl, rfl⟩)
      go_ret
      exact ⟨rfl, HR.out.1⟩
    have hk3 : k < 4 := by omega
    have hk3' : (k : Int) < 4 := by omega
    obtain ⟨GK, HG⟩ : ∃ g, Hid (g < gk ∧ k + 1 + g = 4) := ⟨gk - 1, by omega, by omega⟩
    clear hk hk4
    have hix := fun w => t8_at (fun k => Sre X Y (-1) k 4) (fun k => Sim X Y (-1) k 4) k hk3 w
    have his : ∀ w, Calls Try.prog 9 #[.complex .f64 (fR (fr X) (fr Y) k) (fI (fr X) (fr Y) k), .agg #[.int .i64 (Sre X Y (-1) k 4), .int .i64 (Sim X Y (-1) k 4)]] w fun e w' => e = .returned (.bool true) ∧ Below w.heap.size w w' := fun w =>
      (is_any _ _ _ _ w).mono fun e w' ⟨he, hw⟩ => by
        have h := hs.out k hk3
        have h' : ((Ieee.double.order (fR (fr X) (fr Y) k) (floatOfInt .f64 (Sre X Y (-1) k 4)) == some .eq) && (Ieee.double.order (fI (fr X) (fr Y) k) (floatOfInt .f64 (Sim X Y (-1) k 4)) == some .eq)) = true := by
          rw [show (Ieee.double.order (fR (fr X) (fr Y) k) (floatOfInt .f64 (Sre X Y (-1) k 4)) == some .eq) = true from h.1, show (Ieee.double.order (fI (fr X) (fr Y) k) (floatOfInt .f64 (Sim X Y (-1) k 4)) == some .eq) = true from h.2]; rfl
        rw [h'] at he
        exact ⟨he, by rw [hw]; exact (Below.refl _ _).alloc (Nat.le_refl _) _⟩
    have hzs := HR.out.2.1
    have hzc := HR.out.2.2 k hk3
    go_wp2
    have z0 : ∀ z : Later (wr.alloc (.cells #[.int .i64 (Sre X Y (-1) k 4), .int .i64 (Sim X Y (-1) k 4)] 26)), z.val.cell? ⟨(w.heap.size + 1 + 1 + 1 + 1 + 1 + 1 + 1 + 1 + 1 + 1 + 1 + 1 + 1 + 1 + 1), k, none⟩ = some (.complex .f64 (fR (fr X) (fr Y) k) (fI (fr X) (fr Y) k)) := fun z => z.cell (by rw [World.cell?_alloc_past _ _ _ hzs]; exact hzc)
    have z1 : ∀ z : Later (wr.alloc (.cells #[.int .i64 (Sre X Y (-1) k 4), .int .i64 (Sim X Y (-1) k 4)] 26)), z.val.cell? ⟨wr.heap.size, 0, none⟩ = some (.int .i64 (Sre X Y (-1) k 4)) := fun z => z.cell (by simp [go_sem])
    have z2 : ∀ z : Later (wr.alloc (.cells #[.int .i64 (Sre X Y (-1) k 4), .int .i64 (Sim X Y (-1) k 4)] 26)), z.val.cell? ⟨wr.heap.size, 1, none⟩ = some (.int .i64 (Sim X Y (-1) k 4)) := fun z => z.cell (by simp [go_sem])
    refine wp_region_later (by kernel_rfl) (by kernel_rfl) ?_
    repeat (go_big_quiet_step (first | exact rfl | (go_at_call 9; exact later_call his _)))
    refine wpQuiet_nil ?_
    rintro _ ⟨z, rfl⟩
    go_wp2
    go_roundg GK
    case measure => exact HG.out.1
    case rel =>
      have hw := HR.out
      refine ⟨k + 1, HG.out.2, by go_num, (hw.1.alloc hw.1.size _).trans (z.2.mono (by have := hw.1.size; simp; omega)), ?_, fun t ht => z.cell (by rw [World.cell?_alloc_past _ _ _ hzs]; exact hw.2.2 t ht)⟩
      have := z.2.size
      simp at this
      omega

set_option maxRecDepth 100000 in
theorem lifted (os : Os) (started : os.Started) (H : Type) (enc : TypeId × Value → H) :
    ReturnsInHanded {} Try.checked os 4 .any (Rows.phaseForthSpec.pre6 enc Try.prog Try.f4 Rows.phaseForthRow.domain false) (Rows.phaseForthSpec.post enc Try.prog Try.f4 false true false false) := by
  refine returnsInHanded_of_change (C := Try.checked) own started (by kernel_rfl) Try.func4
    (ChangeSpec.witness6 (enc := enc) (C := Try.checked) false ⟨#[], #[.agg #[.int .i64 0, .int .i64 0, .int .i64 0, .int .i64 0, .int .i64 0, .int .i64 0, .int .i64 0, .int .i64 0]], []⟩ 8 (by kernel_rfl) (by kernel_rfl) (by kernel_rfl) (by kernel_rfl)) ?_
  intro W base args ds gs before hval0 hW hcnd _
  have hval : ∀ (j : Nat) t v, Try.f4.params[j]? = some t → args[j]? = some v → Value.okWide Try.prog W .any base t v := hval0
  have hW' := hW
  obtain ⟨p, q, hA0, hV, rfl, hfz, hnd⟩ := hW
  have hA : DataW.TrodAll enc Try.prog W 0 (fun _ => true) true Try.f4.params.toList args.toList ds p := hA0
  rw [Try.params4] at hA hval
  obtain ⟨v0, vs0, d0, ds0, p0, q0, hargs, rfl, rfl, h0, r0⟩ := trodAll_cons hA
  obtain ⟨rfl, rfl, rfl⟩ := trodAll_nil r0
  obtain rfl : args = #[v0] := by cases args; simp_all
  obtain ⟨rfl, rfl⟩ := trodVars_none hV
  have k0 := h0
  have lt0 : ∀ x ∈ p0, x.block < W.heap.size := by obtain ⟨m, hm⟩ := k0; exact DataW.trod_lt m _ _ _ hm
  obtain ⟨x, y, rfl⟩ := open30 (hval 0 30 v0 rfl rfl)
  clear hA0 hval0
  refine (walk x y W).mono fun e W' ⟨he, bel⟩ => ?_
  subst he
  exact ⟨_, rfl, _, _, _, [], _, [], hW', trodAll_mk1 (shut_bool Try.underlying4 _), (trodAll_cons_mk (Below.trod laidOut (by kernel_rfl) (of_decide_eq_true (by kernel_rfl)) k0 bel lt0) trodAll_mk0), rfl, bel.frame _, fun h => by cases h⟩

theorem over : Rows.phaseForthRow.holds Try.pinned (OpenSpec.ofChange Rows.phaseForthSpec) :=
  OpenClaim.holds_of_wide 4 Try.f4 rfl rfl rfl rfl rfl rfl rfl ⟨rfl, rfl, rfl, rfl, rfl⟩ rfl rfl rfl rfl rfl (by kernel_rfl) Try.func4 (by kernel_rfl)
    (of_decide_eq_true (by kernel_rfl)) (by unfold Func.isWrapper; first | (rw [if_pos (by decide +kernel)]; kernel_rfl) | (rw [if_neg (by decide +kernel)]; exact ⟨rfl, rfl⟩))
    (fun os started H enc _ => lifted os started H enc)
end Go.Proofs.Ytchnjoikjadciaa.phaseForth

namespace Go.Proofs.Ytchnjoikjadciaa
theorem phaseForth_holds : Rows.PhaseForthSaid := phaseForth.over
end Go.Proofs.Ytchnjoikjadciaa
