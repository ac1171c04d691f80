import Derived.Test.YtligofmcmjblpaaGreatPk21
/- The landed disk: what counts a call that changes, and lets it go on. -/
namespace Go.Proofs.YtligofmcmjblpaaGreat
open Go.RowKit Go.Maps
set_option linter.unusedVariables false
set_option linter.unusedSimpArgs false

theorem DkL.set4 {w : World} {p : Nat} {room : Int} {nv sv cv : Value} {c : Cn} (h : DkL w p room nv sv cv c) (v : Int) : DkL (w.setCell ⟨p, 4, none⟩ (.int .i64 v)) p room nv sv cv { c with calls := v } := heap_set h 4 _
theorem DkL.set5 {w : World} {p : Nat} {room : Int} {nv sv cv : Value} {c : Cn} (h : DkL w p room nv sv cv c) (v : Bool) : DkL (w.setCell ⟨p, 5, none⟩ (.bool v)) p room nv sv cv { c with off := v } := heap_set h 5 _
theorem DkL.set1 {w : World} {p : Nat} {room : Int} {nv sv cv : Value} {c : Cn} (h : DkL w p room nv sv cv c) (v : Value) : DkL (w.setCell ⟨p, 1, none⟩ v) p room v sv cv c := heap_set h 1 _
theorem DkL.set2 {w : World} {p : Nat} {room : Int} {nv sv cv : Value} {c : Cn} (h : DkL w p room nv sv cv c) (v : Value) : DkL (w.setCell ⟨p, 2, none⟩ v) p room nv v cv c := heap_set h 2 _
theorem DkL.set3 {w : World} {p : Nat} {room : Int} {nv sv cv : Value} {c : Cn} (h : DkL w p room nv sv cv c) (v : Value) : DkL (w.setCell ⟨p, 3, none⟩ v) p room nv sv v c := heap_set h 3 _

set_option maxHeartbeats 1000000 in
set_option maxRecDepth 100000 in
theorem changing_any (N : Nat) (caps : Array Value) (p : Nat) (σ : DS) (F A : Nat → Prop) (loc : Nat → Nat) (dv : Nat → Value) (nv sv cv : Value) (sd : List Ent) (ch : List Chg) (w : World) (h : LAt w p σ F A loc dv nv sv cv sd ch) (hi : Inv σ) (Q : Int → World → Prop) (hN : ∀ w, (callFunc N caps).run Tryz.prog w = .ok (.enter N caps) w)
    (HW : σ.c.ce = 0 → ∀ w1, w.grownBy w1 (some p) → LAt w1 p σ.cnt F A loc dv nv sv cv sd ch → Calls Tryz.prog N caps w1 fun e w' => ∃ r : Int, e = .returned (.int .i64 r) ∧ Q r w') :
    Calls Tryz.prog 51 #[ptr p, .func (.func N) #[] caps] w fun e w' => (σ.c.ce ≠ 0 ∧ e = .returned (.int .i64 σ.c.ce) ∧ Nx RL w p σ.cnt F w') ∨ (σ.c.ce = 0 ∧ ∃ r, e = .returned (.int .i64 (endE r σ.c.cl)) ∧ Q r w') := by
  have hb := h.blk
  have HB : Hid (DkL w p σ.room nv sv cv σ.c) := hb
  have HN : Hid (∀ w1, DkL w1 p σ.room nv sv cv σ.c.cc → w.grownBy w1 (some p) → Nx RL w p σ.cnt F w1) := fun w1 d g => h.disk_nx g d (Below.refl _ _)
  have HC : Hid (σ.c.ce = 0 → ∀ w1, DkL w1 p σ.room nv sv cv σ.c.cc → w.grownBy w1 (some p) → Calls Tryz.prog N caps w1 fun e w' => ∃ r : Int, e = .returned (.int .i64 r) ∧ Q r w') := fun e w1 d g => HW e w1 g (h.disk g d)
  have HO : Hid σ.c.Ok := hi.ok
  have c4 : w.cell? ⟨p, 4, none⟩ = some (.int .i64 σ.c.calls) := cell_of hb 4
  have c5 : w.cell? ⟨p, 5, none⟩ = some (.bool σ.c.off) := cell_of hb 5
  have f4 := frozen_of hb 4
  have hcl : 0 ≤ σ.c.calls ∧ σ.c.calls ≤ 1048576 := ⟨hi.ok.1, hi.ok.2.1⟩
  obtain ⟨l1, l2⟩ := hcl
  generalize hcc : σ.c = c at *
  clear h hi hb HW hcc
  obtain ⟨calls, fuse, wait, fails, off⟩ := c
  simp only at c4 c5 l1 l2
  unfold ptr
  cases off with
  | true =>
    have q1 : Cn.ce ⟨calls, fuse, wait, fails, true⟩ = 10 := rfl
    rw [q1]
    go_enter Tryz.func51, Tryz.ntmps51
    go_wp2_with fail
    go_ret
    exact .inl ⟨by decide, rfl, HN.out _ (HB.out.set4 _) (grown_set _ _ _ _)⟩
  | false =>
    have HO' := HO.out
    have HE : Hid (Cn.cc ⟨calls, fuse, wait, fails, false⟩ = { Cn.fs (Cn.ft ⟨calls + 1, fuse, wait, fails, false⟩) with off := decide (fuse = 1) }) := rfl
    have d1 : DkL (w.setCell ⟨p, 4, none⟩ (.int .i64 (calls + 1))) p σ.room nv sv cv ⟨calls + 1, fuse, wait, fails, false⟩ := HB.out.set4 _
    have k1 := next_fault p σ.room nv sv cv ⟨calls + 1, fuse, wait, fails, false⟩ _ d1 HO'.2.2.2.2
    have hg1 : w.grownBy (w.setCell ⟨p, 4, none⟩ (.int .i64 (calls + 1))) (some p) := grown_set _ _ _ _
    have k2 : Hid (∀ w2, DkL w2 p σ.room nv sv cv (Cn.ft ⟨calls + 1, fuse, wait, fails, false⟩) → Calls Tryz.prog 77 #[.pointer (some ⟨p, 6, none⟩)] w2 fun e w' => e = .returned (.bool (decide (fuse = 1))) ∧ DkL w' p σ.room nv sv cv (Cn.fs (Cn.ft ⟨calls + 1, fuse, wait, fails, false⟩)) ∧ w2.grownBy w' (some p)) :=
      fun w2 d2 => next_fuse p σ.room nv sv cv (Cn.ft ⟨calls + 1, fuse, wait, fails, false⟩) w2 d2 ⟨HO'.2.2.1, HO'.2.2.2.1⟩
    clear d1 HO'
    have HFL : Hid (Cn.fl ⟨calls, fuse, wait, fails, false⟩ = Cn.fl ⟨calls + 1, fuse, wait, fails, false⟩) := rfl
    have HF3 : Hid (Cn.fs (Cn.ft ⟨calls + 1, fuse, wait, fails, false⟩) = { Cn.fs (Cn.ft ⟨calls + 1, fuse, wait, fails, false⟩) with off := false }) := rfl
    generalize Cn.fs (Cn.ft ⟨calls + 1, fuse, wait, fails, false⟩) = c3 at k2 HE HF3
    generalize Cn.ft ⟨calls + 1, fuse, wait, fails, false⟩ = c2 at k1 k2
    cases hfl : Cn.fl ⟨calls + 1, fuse, wait, fails, false⟩ with
    | true =>
      rw [hfl] at k1
      by_cases hq : fuse = 1
      · have q1 : Cn.ce ⟨calls, fuse, wait, fails, false⟩ = 10 := by rw [Cn.ce, HFL.out, hfl]; simp [hq]
        rw [q1]
        have k2' := k2.out
        simp only [hq, decide_true] at k2'
        have HE' := HE.out
        simp only [hq, decide_true] at HE'
        have HE2 : Hid _ := HE'
        clear k2 HE HE' q1 hfl HFL
        go_enter Tryz.func51, Tryz.ntmps51
        go_wp2_with fail
        refine k1.mono ?_
        rintro e w2 ⟨rfl, d2, g2⟩
        go_wp2_with fail
        refine (k2' w2 d2).mono ?_
        rintro e w3 ⟨rfl, d3, g3⟩
        have c5' : w3.cell? ⟨p, 5, none⟩ = some (.bool c3.off) := cell_of d3 5
        have f5' := frozen_of d3 5
        go_wp2_with fail
        go_ret
        refine .inl ⟨by decide, rfl, HN.out _ ?_ (grown_trans (grown_trans (grown_trans hg1 g2) g3) (grown_set _ _ _ _))⟩
        rw [hq, HE2]
        exact d3.set5 true
      · have q1 : Cn.ce ⟨calls, fuse, wait, fails, false⟩ = 9 := by rw [Cn.ce, HFL.out, hfl]; simp [hq]
        rw [q1]
        have k2' := k2.out
        simp only [hq, decide_false] at k2'
        have HE' := HE.out
        simp only [hq, decide_false] at HE'
        have HE2 : Hid _ := HE'
        clear k2 HE HE' q1 hfl HFL
        go_enter Tryz.func51, Tryz.ntmps51
        go_wp2_with fail
        refine k1.mono ?_
        rintro e w2 ⟨rfl, d2, g2⟩
        go_wp2_with fail
        refine (k2' w2 d2).mono ?_
        rintro e w3 ⟨rfl, d3, g3⟩
        go_wp2_with fail
        go_ret
        refine .inl ⟨by decide, rfl, HN.out _ ?_ (grown_trans (grown_trans hg1 g2) g3)⟩
        rw [HE2, ← HF3.out]
        exact d3
    | false =>
      rw [hfl] at k1
      by_cases hq : fuse = 1
      · have q1 : Cn.ce ⟨calls, fuse, wait, fails, false⟩ = 0 := by rw [Cn.ce, HFL.out, hfl]; simp [hq]
        have q2 : Cn.cl ⟨calls, fuse, wait, fails, false⟩ = true := by rw [Cn.cl, HFL.out, hfl]; simp [hq]
        rw [q1, q2]
        have k2' := k2.out
        simp only [hq, decide_true] at k2'
        have HE' := HE.out
        simp only [hq, decide_true] at HE'
        have HC2 : Hid (∀ w1, DkL w1 p σ.room nv sv cv { c3 with off := true } → w.grownBy w1 (some p) → Calls Tryz.prog N caps w1 fun e w' => ∃ r : Int, e = .returned (.int .i64 r) ∧ Q r w') := fun w1 d g => HC.out q1 w1 (by rw [hq, HE']; exact d) g
        clear k2 HE HE' q1 q2 hfl HFL HC
        go_enter Tryz.func51, Tryz.ntmps51
        go_wp2_with fail
        refine k1.mono ?_
        rintro e w2 ⟨rfl, d2, g2⟩
        go_wp2_with fail
        refine (k2' w2 d2).mono ?_
        rintro e w3 ⟨rfl, d3, g3⟩
        have c5' : w3.cell? ⟨p, 5, none⟩ = some (.bool c3.off) := cell_of d3 5
        have f5' := frozen_of d3 5
        go_wp2_with fail
        refine (HC2.out _ (d3.set5 true) (grown_trans (grown_trans (grown_trans hg1 g2) g3) (grown_set _ _ _ _))).mono ?_
        rintro e w4 ⟨r, rfl, hQ⟩
        go_wp2_with fail
        go_ret
        exact .inr ⟨trivial, r, rfl, hQ⟩
      · have q1 : Cn.ce ⟨calls, fuse, wait, fails, false⟩ = 0 := by rw [Cn.ce, HFL.out, hfl]; simp [hq]
        have q2 : Cn.cl ⟨calls, fuse, wait, fails, false⟩ = false := by rw [Cn.cl, HFL.out, hfl]; simp [hq]
        rw [q1, q2]
        have k2' := k2.out
        simp only [hq, decide_false] at k2'
        have HE' := HE.out
        simp only [hq, decide_false] at HE'
        have HC2 : Hid (∀ w1, DkL w1 p σ.room nv sv cv c3 → w.grownBy w1 (some p) → Calls Tryz.prog N caps w1 fun e w' => ∃ r : Int, e = .returned (.int .i64 r) ∧ Q r w') := fun w1 d g => HC.out q1 w1 (by rw [HE', ← HF3.out]; exact d) g
        clear k2 HE HE' q1 q2 hfl HFL HC
        go_enter Tryz.func51, Tryz.ntmps51
        go_wp2_with fail
        refine k1.mono ?_
        rintro e w2 ⟨rfl, d2, g2⟩
        go_wp2_with fail
        refine (k2' w2 d2).mono ?_
        rintro e w3 ⟨rfl, d3, g3⟩
        go_wp2_with fail
        refine (HC2.out _ d3 (grown_trans (grown_trans hg1 g2) g3)).mono ?_
        rintro e w4 ⟨r, rfl, hQ⟩
        go_wp2_with fail
        go_ret
        exact .inr ⟨trivial, r, rfl, hQ⟩
end Go.Proofs.YtligofmcmjblpaaGreat
