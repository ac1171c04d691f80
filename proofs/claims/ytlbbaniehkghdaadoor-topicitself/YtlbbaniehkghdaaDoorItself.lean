/- The law that a topic meets itself. -/
import Derived.Test.YtlbbaniehkghdaaDoorLaws
import Derived.Deep.RegionWith
namespace Go.Proofs.YtlbbaniehkghdaaDoor
open Go.RowKit
set_option linter.unusedVariables false

/-- The worlds that hold all that W held. -/
def Later (W : World) : Type := { w : World // Below W.heap.size W w }
theorem wp_region_later {P : Program} {id : Nat} {Q : Exit → Act → World → Prop} {a : Act} {w : World} {l : List Oper} (hm : P.follows .mixedOrders = true) (hB : Region.lexB .any l.toArray = true)
    (h : wpQuiet P l.toArray (fun w' => ∃ x : Later w, w' = x.val) (fun a' => ∀ w', (∃ x : Later w, w' = x.val) → Q .normal a' w') l a) : (Code.region id l.toArray true).wp P Q a w :=
  wp_region_quiet (C := fun w' => ∃ x : Later w, w' = x.val) hm hB ⟨⟨w.drew, (Below.refl _ _).drew⟩, rfl⟩ (by simpa using h)
theorem later_call {P : Program} {f : FuncId} {args : Array Value} {W : World} {v : Value} (h : ∀ w, Calls P f args w fun e w' => e = .returned v ∧ Below w.heap.size w w') (x : Later W) :
    Calls P f args x.val fun e w'' => e = .returned v ∧ ∃ y : Later W, w'' = y.val :=
  (h x.val).mono fun _ w' ⟨he, hw⟩ => ⟨he, ⟨w', x.2.trans (hw.mono x.2.size)⟩, rfl⟩

set_option maxHeartbeats 1000000 in
set_option maxRecDepth 100000 in
theorem itself_any (a b : ByteArray) (w : World) (ha : a.size ≤ maxLen) (hb : b.size ≤ maxLen) : Calls Tryd.prog 6 #[.string a, .string b] w fun e w' => e = .returned (.bool true) ∧ Below w.heap.size w w' := by
  have h1 := fun w => tname_any a w ha
  have h2 := fun w => tfil_any a w ha
  have h3 := fun w => tmat_any a a w ha ha
  have h4 := fun w => tmat_any ⟨#[35]⟩ a w (small_ok (by decide)) ha
  have h5 := fun w => tname_any b w hb
  have h6 := fun w => tmat_any a b w ha hb
  have h7 := fun w => tfil_any b w hb
  have h8 := fun w => tcov_any b b w hb hb
  have k8 := @cov_self b.data.toList
  have kb := fil_size b
  generalize fil b.data.toList = FB at h7 k8 kb
  generalize cov b.data.toList b.data.toList = CB at h8 k8
  cases hna : nam a.data.toList with
  | false =>
    simp only [hna] at h1
    clear h2 h3 h4 h5 h6 ha hb
    cases FB with
    | false =>
      go_enter Tryd.func6, Tryd.ntmps6
      go_wp2_with fail
      refine (h1 w).mono ?_
      rintro e w1 ⟨rfl, hb1⟩
      go_wp2_with fail
      refine (h7 w1).mono ?_
      rintro e w2 ⟨rfl, hb2⟩
      go_wp2_with fail
      refine (awake_any w2).mono ?_
      rintro e w3 ⟨rfl, hb3⟩
      go_wp2_with fail
      go_ret
      have b2 := hb1.trans (hb2.mono hb1.size)
      exact ⟨rfl, b2.trans (hb3.mono b2.size)⟩
    | true =>
      obtain rfl := k8 rfl
      go_enter Tryd.func6, Tryd.ntmps6
      go_wp2_with fail
      refine (h1 w).mono ?_
      rintro e w1 ⟨rfl, hb1⟩
      go_wp2_with fail
      refine (h7 w1).mono ?_
      rintro e w2 ⟨rfl, hb2⟩
      go_wp2_with fail
      refine (h8 w2).mono ?_
      rintro e w3 ⟨rfl, hb3⟩
      go_wp2_with fail
      refine (awake_any w3).mono ?_
      rintro e w4 ⟨rfl, hb4⟩
      go_wp2_with fail
      go_ret
      have b2 := hb1.trans (hb2.mono hb1.size)
      have b3 := b2.trans (hb3.mono b2.size)
      exact ⟨rfl, b3.trans (hb4.mono b3.size)⟩
  | true =>
    obtain ⟨a1, _⟩ := nam_size a hna
    have a1' : (0 : Int) < (a.size : Int) := by omega
    have e3 : mat a.data.toList a.data.toList = true := (mat_self hna hna).2 rfl
    have e36 : (a[0] == 36) = ((a[0].toNat : Int) == 36) := u8_nat a[0] 36 (by decide)
    have e4 : mat (ByteArray.mk #[35]).data.toList a.data.toList = !((a[0].toNat : Int) == 36) := by
      have := mat_all hna
      rw [head_str a a1] at this
      rw [← e36]
      exact this
    simp only [hna] at h1
    simp only [nam_fil hna] at h2
    simp only [e3] at h3
    simp only [e4] at h4
    obtain ⟨d, hd⟩ : ∃ d : Bool, ((a[0].toNat : Int) == 36) = d := ⟨_, rfl⟩
    simp only [hd] at h4
    have hd' : ((a[0].toNat : Int) != 36) = !d := by unfold bne; rw [hd]
    have hab : nam b.data.toList = true → (mat a.data.toList b.data.toList = (a.toList == b.toList)) := fun h => by
      rw [Bool.eq_iff_iff, mat_self hna h, tl_eq, tl_eq, beq_iff_eq]
    generalize nam b.data.toList = NB at h5 hab
    generalize mat a.data.toList b.data.toList = MAB at h6 hab
    have hidx : ∀ w, (Instr.index 9 (.string a) (.int .i64 0)).run Tryd.prog w = .ok (.int .u8 (a[0].toNat : Int)) w := fun w => by
      simp [go_sem, show 0 < a.size from a1]
    clear ha hb e3 e36 e4 hna
    go_enter Tryd.func6, Tryd.ntmps6
    go_wp2_with fail
    refine (h1 w).mono ?_
    rintro e w1 ⟨rfl, hb1⟩
    go_wp2_with fail
    refine wp_region_later (by kernel_rfl) (by kernel_rfl) ?_
    repeat (go_big_quiet_step (first | exact rfl | (go_at_call 19; exact later_call h2 _)))
    go_big_quiet_step (first | (go_at_call 21; exact later_call h3 _))
    repeat (go_big_quiet_step (exact rfl))
    go_big_quiet_step (first | (go_at_call 21; exact later_call h4 _))
    repeat (go_big_quiet_step (exact rfl))
    refine wpQuiet_nil ?_
    rintro _ ⟨z, rfl⟩
    have hw1 : Hid (Below w.heap.size w w1) := hb1
    clear h1 h2 h3 h4 hidx
    cases NB with
    | false =>
      clear h6 hab
      cases FB with
      | false =>
        go_wp2_with fail
        refine (h5 z.val).mono ?_
        rintro e w2 ⟨rfl, hb2⟩
        go_wp2_with fail
        refine (h7 w2).mono ?_
        rintro e w3 ⟨rfl, hb3⟩
        go_wp2_with fail
        refine (awake_any w3).mono ?_
        rintro e w4 ⟨rfl, hb4⟩
        go_wp2_with fail
        go_ret
        have B0 := hb1.trans (z.2.mono hb1.size)
        have B1 := B0.trans (hb2.mono B0.size)
        have B2 := B1.trans (hb3.mono B1.size)
        exact ⟨rfl, B2.trans (hb4.mono B2.size)⟩
      | true =>
        obtain rfl := k8 rfl
        go_wp2_with fail
        refine (h5 z.val).mono ?_
        rintro e w2 ⟨rfl, hb2⟩
        go_wp2_with fail
        refine (h7 w2).mono ?_
        rintro e w3 ⟨rfl, hb3⟩
        go_wp2_with fail
        refine (h8 w3).mono ?_
        rintro e w4 ⟨rfl, hb4⟩
        go_wp2_with fail
        refine (awake_any w4).mono ?_
        rintro e w5 ⟨rfl, hb5⟩
        go_wp2_with fail
        go_ret
        have B0 := hb1.trans (z.2.mono hb1.size)
        have B1 := B0.trans (hb2.mono B0.size)
        have B2 := B1.trans (hb3.mono B1.size)
        have B3 := B2.trans (hb4.mono B2.size)
        exact ⟨rfl, B3.trans (hb5.mono B3.size)⟩
    | true =>
      have hE := hab rfl
      obtain ⟨E, hEe⟩ : ∃ E : Bool, (a.toList == b.toList) = E := ⟨_, rfl⟩
      rw [hEe] at hE
      subst hE
      clear hab
      cases FB with
      | false =>
        go_wp2_with fail
        refine (h5 z.val).mono ?_
        rintro e w2 ⟨rfl, hb2⟩
        go_wp2_with fail
        refine (h6 w2).mono ?_
        rintro e w3 ⟨rfl, hb3⟩
        go_wp2_with fail
        refine (h7 w3).mono ?_
        rintro e w4 ⟨rfl, hb4⟩
        go_wp2_with fail
        refine (awake_any w4).mono ?_
        rintro e w5 ⟨rfl, hb5⟩
        go_wp2_with fail
        go_ret
        have B0 := hb1.trans (z.2.mono hb1.size)
        have B1 := B0.trans (hb2.mono B0.size)
        have B2 := B1.trans (hb3.mono B1.size)
        have B3 := B2.trans (hb4.mono B2.size)
        exact ⟨rfl, B3.trans (hb5.mono B3.size)⟩
      | true =>
        obtain rfl := k8 rfl
        go_wp2_with fail
        refine (h5 z.val).mono ?_
        rintro e w2 ⟨rfl, hb2⟩
        go_wp2_with fail
        refine (h6 w2).mono ?_
        rintro e w3 ⟨rfl, hb3⟩
        go_wp2_with fail
        refine (h7 w3).mono ?_
        rintro e w4 ⟨rfl, hb4⟩
        go_wp2_with fail
        refine (h8 w4).mono ?_
        rintro e w5 ⟨rfl, hb5⟩
        go_wp2_with fail
        refine (awake_any w5).mono ?_
        rintro e w6 ⟨rfl, hb6⟩
        go_wp2_with fail
        go_ret
        have B0 := hb1.trans (z.2.mono hb1.size)
        have B1 := B0.trans (hb2.mono B0.size)
        have B2 := B1.trans (hb3.mono B1.size)
        have B3 := B2.trans (hb4.mono B2.size)
        have B4 := B3.trans (hb5.mono B3.size)
        exact ⟨rfl, B4.trans (hb6.mono B4.size)⟩
end Go.Proofs.YtlbbaniehkghdaaDoor
