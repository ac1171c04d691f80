/- PhaseNil, proved: a nil meter takes nothing and answers with zero values, at every tick and number; for every input, without a condition. -/
import Derived.Test.YtchnjoikjadciaaRows
import Derived.Test.YtchnjoikjadciaaEq
import Derived.WalkKit
import Derived.ProofKit
import Derived.OpenShut
namespace Go.Proofs.Ytchnjoikjadciaa.phaseNil
open Go.ChangeShapes Go.WideShapes Go.ChangeAt Go.RowKit
set_option linter.unusedVariables false

theorem own : ownKnob Try.prog.godebug = none := by kernel_rfl

set_option maxHeartbeats 8000000 in
theorem walk (a0 : Int) (a1 : Int) (w0 : (Lit.int .i64 a0).wf = true) (w1 : (Lit.int .i64 a1).wf = true) (w : World) :
    Calls Try.prog 6 #[.int .i64 a0, .int .i64 a1] w fun e w' => e = .returned (.bool true) ∧ Grown w w' := by
  have hcn := fun w => counts_nil w
  have hwv := fun w => wave_of (.pointer none) (fun _ => 0) a1 w (counts_nil _) (fun _ _ => by unfold Small; decide)
  have hpk := fun w => peak_of (.pointer none) (fun _ => 0) w (counts_nil _)
  have hp0 : pk (fun _ => 0) = 0 := by decide
  have heq : ∀ w, (Op.equalIn 10000 41 (.agg (k4 fun _ => 0)) (.agg #[.int .i64 0, .int .i64 0, .int .i64 0, .int .i64 0])).run Try.prog w = .ok true w := fun w => eq_k4 (fun _ => 0) (fun _ => 0) w
  have hz : Hid (∀ cr ci : Nat → Nat, (∀ t, t < 4 → Whole (cr t) (Sre (fun _ => 0) (fun _ => 0) (-1) t 4) ∧ Whole (ci t) (Sim (fun _ => 0) (fun _ => 0) (-1) t 4)) → (FloatKind.f64.format.order (cr (a1 % 4).toNat) 0 == some .eq) = true ∧ (FloatKind.f64.format.order (ci (a1 % 4).toNat) 0 == some .eq) = true) := fun cr ci h => by
    have hm := h (a1 % 4).toNat (by omega)
    simp only [Sre, Sim, mre, mim, Int.zero_mul, Int.sub_zero, Int.add_zero] at hm
    exact ⟨same hm.1 whole_zero, same hm.2 whole_zero⟩
  go_enter Try.func6, Try.ntmps6
  go_wp2_with (first | (go_at_call 18; refine (add_nil _ _ _).mono ?_; rintro e w' ⟨rfl, rfl⟩) | (go_at_call 19; refine (hcn _).mono ?_; rintro e w' ⟨rfl, rfl⟩) | (go_at_call 20; refine (hwv _).mono ?_; rintro e w' ⟨cr, ci, n, rfl, rfl, hS⟩; obtain ⟨hx, hy⟩ := hz.out _ _ hS.out) | (go_at_call 21; refine (hpk _).mono ?_; rintro e w' ⟨rfl, rfl⟩) | (go_at_call 12; refine (awake_any _).mono ?_; rintro e w' ⟨rfl, rfl⟩))
  go_ret
  exact ⟨rfl, Grown_drewN (by repeat (first | with_reducible exact Grown.refl _ | with_reducible refine Grown.alloc ?_ _ _)) _⟩

set_option maxRecDepth 100000 in
theorem lifted (os : Os) (started : os.Started) (H : Type) (enc : TypeId × Value → H) :
    ReturnsInHanded {} Try.checked os 6 .any (Rows.phaseNilSpec.pre6 enc Try.prog Try.f6 Rows.phaseNilRow.domain false) (Rows.phaseNilSpec.post enc Try.prog Try.f6 false true false false) := by
  refine returnsInHanded_of_change (C := Try.checked) own started (by kernel_rfl) Try.func6
    (ChangeSpec.witness6 (enc := enc) (C := Try.checked) false ⟨#[], #[.int .i64 0, .int .i64 0], []⟩ 8 (by kernel_rfl) (by kernel_rfl) (by kernel_rfl) (by kernel_rfl)) ?_
  intro W base args ds gs before hval0 hW hcnd _
  have hval : ∀ (j : Nat) t v, Try.f6.params[j]? = some t → args[j]? = some v → Value.okWide Try.prog W .any base t v := hval0
  have hW' := hW
  obtain ⟨p, q, hA0, hV, rfl, hfz, hnd⟩ := hW
  have hA : DataW.TrodAll enc Try.prog W 0 (fun _ => true) true Try.f6.params.toList args.toList ds p := hA0
  rw [Try.params6] at hA hval
  obtain ⟨v0, vs0, d0, ds0, p0, q0, hargs, rfl, rfl, h0, r0⟩ := trodAll_cons hA
  obtain ⟨v1, vs1, d1, ds1, p1, q1, rfl, rfl, rfl, h1, r1⟩ := trodAll_cons r0
  obtain ⟨rfl, rfl, rfl⟩ := trodAll_nil r1
  obtain rfl : args = #[v0, v1] := by cases args; simp_all
  obtain ⟨rfl, rfl⟩ := trodVars_none hV
  obtain ⟨a0, rfl, rfl, rfl, w0⟩ := open_int Try.underlying2 (hval 0 2 v0 rfl rfl) h0
  obtain ⟨a1, rfl, rfl, rfl, w1⟩ := open_int Try.underlying3 (hval 1 3 v1 rfl rfl) h1
  clear hA0 hval0
  simp only [List.append_nil] at hW'
  refine (walk a0 a1 w0 w1 W).mono fun e W' ⟨he, hg⟩ => ?_
  subst he
  exact ⟨_, rfl, post_of_same (pa := []) (pv := []) hW' (fun _ _ _ => (trodAll_cons_mk (shut_bool Try.underlying4 _) trodAll_mk0)) (fun sp _ => (trodAll_cons_mk (shut_int Try.underlying2 w0) (trodAll_cons_mk (shut_int Try.underlying3 w1) trodAll_mk0))) (fun _ _ => rfl) rfl
    (hg.frame _) hg.2.1 (ok_one (by kernel_rfl) rfl (okWide_bool_mk Try.underlying4 _))⟩

theorem over : Rows.phaseNilRow.holds Try.pinned (OpenSpec.ofChange Rows.phaseNilSpec) :=
  OpenClaim.holds_of_wide 6 Try.f6 rfl rfl rfl rfl rfl rfl rfl ⟨rfl, rfl, rfl, rfl, rfl⟩ rfl rfl rfl rfl rfl (by kernel_rfl) Try.func6 (by kernel_rfl)
    (of_decide_eq_true (by kernel_rfl)) (by unfold Func.isWrapper; first | (rw [if_pos (by decide +kernel)]; kernel_rfl) | (rw [if_neg (by decide +kernel)]; exact ⟨rfl, rfl⟩))
    (fun os started H enc _ => lifted os started H enc)

end Go.Proofs.Ytchnjoikjadciaa.phaseNil

namespace Go.Proofs.Ytchnjoikjadciaa
theorem phaseNil_holds : Rows.PhaseNilSaid := phaseNil.over
end Go.Proofs.Ytchnjoikjadciaa
