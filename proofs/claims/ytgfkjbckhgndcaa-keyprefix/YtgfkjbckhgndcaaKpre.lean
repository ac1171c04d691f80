/- The law on what begins with a prefix. -/
import Derived.Test.YtgfkjbckhgndcaaKlaw
namespace Go.Proofs.Ytgfkjbckhgndcaa
open Go.RowKit
set_option linter.unusedVariables false
set_option linter.unusedSimpArgs false

theorem begins_iff {xs ys : List Int} : xs <+: ys ↔ ys.take xs.length = xs := by
  rw [List.prefix_iff_eq_take]
  exact ⟨fun h => h.symm, fun h => h.symm⟩

set_option maxHeartbeats 2000000 in
set_option maxRecDepth 100000 in
theorem prefix_any (D : PK) {w : World} {ao bo : Option Addr} {la ca lb cb : Nat} {xs ys : List Int} (ha : Sl w ao la ca xs) (hb : Sl w bo lb cb ys) (hl : la ≤ 140737488355000) :
    Calls Try.prog 8 #[.slice ao la ca, .slice bo lb cb] w fun e w' => e = .returned (.bool true) ∧ Below w.heap.size w w' := by
  obtain ⟨bb, hbb⟩ : ∃ bb : Bool, bb = decide (xs <+: ys) := ⟨_, rfl⟩
  have HS : Hid (Sl w ao la ca xs ∧ Sl w bo lb cb ys ∧ la ≤ 140737488355000 ∧ bb = decide (xs <+: ys)) := ⟨ha, hb, hl, hbb⟩
  have la62 : la ≤ 2 ^ 63 - 1 := by omega
  have lb62 : lb ≤ 2 ^ 63 - 1 := by have := hb.2.2.2; unfold maxLen at this; omega
  clear ha hb hl hbb
  go_enter Try.func8, Try.ntmps8
  go_upto_region 1 with fail
  go_cut [5] from 9 to 23 (fun s5 wx => s5 = .bool bb ∧ Hid (Below w.heap.size w wx))
  case first =>
    have g2 := fun j => str_l (HS.out.1.drewN j)
    by_cases q : la ≤ lb
    · have q' : (la : Int) ≤ (lb : Int) := by omega
      have qd : decide (la ≤ lb) = true := by simp; exact q
      have hh := fun w => run_head22 w bo lb cb la (by have := HS.out.2.1.2.2.2.1; omega)
      have hs := HS.out.2.1.head la q
      have g1 := fun j => str_l (hs.drewN j)
      have heq : ((strOfNums (ys.take la)).toList == (strOfNums xs).toList) = bb := by
        rw [str_eq hs.2.1 HS.out.1.2.1, HS.out.2.2.2]
        have := begins_iff (xs := xs) (ys := ys)
        rw [HS.out.1.1] at this
        simp only [this]
      generalize strOfNums (ys.take la) = S1 at g1 heq
      generalize strOfNums xs = S2 at g2 heq
      clear q hs
      go_quiet (fail)
      go_wp2_with fail
      go_meet
      exact ⟨by simp, below_drewN (Below.refl _ _) _⟩
    · have q' : (lb : Int) < (la : Int) := by omega
      have qd : decide (la ≤ lb) = false := by simp; omega
      have hbf : bb = false := by
        rw [HS.out.2.2.2, decide_eq_false_iff_not]
        intro h
        have := h.length_le
        rw [HS.out.1.1, HS.out.2.1.1] at this
        omega
      subst hbf
      clear q
      go_quiet (fail)
      go_wp2_with fail
      go_meet
      exact ⟨by simp, below_drewN (Below.refl _ _) _⟩
  case rest =>
    obtain ⟨rfl, HB⟩ := hcut
    rename_i wx
    have hbt := between xs ys HS.out.1.2.1 HS.out.2.1.2.1
    have h1 := D.after (HS.out.1.later HB.out) HS.out.2.2.1
    cases hA : aft xs with
    | none =>
      rw [hA] at h1 hbt
      have hbb : bb = decide (0 ≤ cmp ys xs) := by
        rw [HS.out.2.2.2]
        simp only [hbt]
        simp
      go_wp2_with fail
      refine h1.mono ?_
      rintro e w1 ⟨v1, rfl, ⟨a1, c1, rfl, hs1⟩, hb1⟩
      have B1 := HB.out.trans (hb1.mono HB.out.size)
      have k3 := D.compare (HS.out.2.1.later B1) (HS.out.1.later B1)
      generalize cmp ys xs = c at hbb k3
      simp only [Option.isSome_none]
      by_cases q : 0 ≤ c
      · have qd : decide (0 ≤ c) = true := by simp; exact q
        rw [qd] at hbb
        subst hbb
        clear h1 hbt hA
        go_wp2_with fail
        refine k3.mono ?_
        rintro e w2 ⟨rfl, hb2⟩
        have B2 := B1.trans (hb2.mono B1.size)
        clear k3
        go_wp2_with fail
        refine (awake7_any D w2).mono ?_
        rintro e w5 ⟨rfl, hb5⟩
        go_wp2_with fail
        go_ret
        exact ⟨rfl, B2.trans (hb5.mono B2.size)⟩
      · have qd : decide (0 ≤ c) = false := by simp; omega
        have q' : c < 0 := by omega
        rw [qd] at hbb
        subst hbb
        clear h1 hbt hA q
        go_wp2_with fail
        refine k3.mono ?_
        rintro e w2 ⟨rfl, hb2⟩
        have B2 := B1.trans (hb2.mono B1.size)
        clear k3
        go_wp2_with fail
        refine (awake7_any D w2).mono ?_
        rintro e w5 ⟨rfl, hb5⟩
        go_wp2_with fail
        go_ret
        exact ⟨rfl, B2.trans (hb5.mono B2.size)⟩
    | some E =>
      rw [hA] at h1 hbt
      have hbb : bb = (decide (0 ≤ cmp ys xs) && decide (cmp ys E < 0)) := by
        have e1 : (∀ e, (some E : Option (List Int)) = some e → cmp ys e < 0) ↔ cmp ys E < 0 := ⟨fun h => h E rfl, fun h e he => by cases he; exact h⟩
        rw [HS.out.2.2.2, ← Bool.decide_and]
        simp only [hbt, e1]
      simp only [Option.getD_some, Option.isSome_some] at h1
      go_wp2_with fail
      refine h1.mono ?_
      rintro e w1 ⟨v1, rfl, ⟨a1, c1, rfl, hs1⟩, hb1⟩
      have B1 := HB.out.trans (hb1.mono HB.out.size)
      have k3 := D.compare (HS.out.2.1.later B1) (HS.out.1.later B1)
      have K4 : Hid (∀ w2, Below w1.heap.size w1 w2 → Calls Try.prog 20 #[.slice bo lb cb, .slice a1 E.length c1] w2 fun e w' => e = .returned (.int .i64 (cmp ys E)) ∧ Below w2.heap.size w2 w') := fun w2 h => D.compare ((HS.out.2.1.later B1).later h) (hs1.later h)
      generalize cmp ys xs = c at hbb k3
      generalize cmp ys E = d at hbb K4
      generalize E.length = n at K4 ⊢
      by_cases q : 0 ≤ c
      · have qd : decide (0 ≤ c) = true := by simp; exact q
        rw [qd, Bool.true_and] at hbb
        clear h1 hbt hA hs1
        go_wp2_with fail
        refine k3.mono ?_
        rintro e w2 ⟨rfl, hb2⟩
        have B2 := B1.trans (hb2.mono B1.size)
        have k4 := K4.out w2 hb2
        clear k3
        go_wp2_with fail
        refine k4.mono ?_
        rintro e w3 ⟨rfl, hb3⟩
        have B3 := B2.trans (hb3.mono B2.size)
        have haw := awake7_any D w3
        have hdd : decide (d < 0) = bb := hbb.symm
        have hbq : (bb == bb) = true := by simp
        clear k4 hbb
        go_wp2_with fail
        refine haw.mono ?_
        rintro e w5 ⟨rfl, hb5⟩
        go_wp2_with fail
        go_ret
        exact ⟨rfl, B3.trans (hb5.mono B3.size)⟩
      · have qd : decide (0 ≤ c) = false := by simp; omega
        have q' : c < 0 := by omega
        rw [qd, Bool.false_and] at hbb
        subst hbb
        clear h1 hbt hA q hs1
        go_wp2_with fail
        refine k3.mono ?_
        rintro e w2 ⟨rfl, hb2⟩
        have B2 := B1.trans (hb2.mono B1.size)
        clear k3
        go_wp2_with fail
        refine (awake7_any D w2).mono ?_
        rintro e w5 ⟨rfl, hb5⟩
        go_wp2_with fail
        go_ret
        exact ⟨rfl, B2.trans (hb5.mono B2.size)⟩
end Go.Proofs.Ytgfkjbckhgndcaa
