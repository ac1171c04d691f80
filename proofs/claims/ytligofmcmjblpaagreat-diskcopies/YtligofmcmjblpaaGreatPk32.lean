import Derived.Test.YtligofmcmjblpaaGreatPk25
import Derived.Test.YtligofmcmjblpaaGreatPk31
/- The landed disk: the copier of files. -/
namespace Go.Proofs.YtligofmcmjblpaaGreat
open Go.RowKit Go.Maps
set_option linter.unusedVariables false
set_option linter.unusedSimpArgs false

theorem copier_any (w : World) : Calls Tryz.prog 48 #[] w fun e w' => e = .returned (.func (.func 76) #[] #[.pointer (some ⟨w.heap.size + 1, 0, none⟩)]) ∧ w' = (w.alloc (.map #[] 0)).alloc (.cells #[.map (some w.heap.size)] 103 (0, 0)) := by
  have hmm := @run_makeMap Tryz.prog
  go_enter Tryz.func48, Tryz.ntmps48
  go_wp2_with fail
  go_ret
  exact ⟨rfl, rfl⟩
set_option maxHeartbeats 1000000 in
theorem copier1_nil (xb tb : Nat) (tw : List (Nat × Nat)) (w : World) (hx : w.cell? ⟨xb, 0, none⟩ = some (.map (some tb))) (h : TwM w tb tw) : Calls Tryz.prog 76 #[.pointer none, .pointer (some ⟨xb, 0, none⟩)] w fun e w' => e = .returned (.pointer none) ∧ w' = w := by
  have hl := h.lookNil
  clear h
  go_enter Tryz.func76, Tryz.ntmps76
  go_wp2_with fail
  go_ret
  exact ⟨rfl, rfl⟩
set_option maxHeartbeats 1000000 in
theorem copier1_old (xb tb g b : Nat) (tw : List (Nat × Nat)) (w : World) (hx : w.cell? ⟨xb, 0, none⟩ = some (.map (some tb))) (h : TwM w tb tw) (hf : ∀ x ∈ tw, FB w x.1) (hg : FB w g) (ht : twL tw g = some b) : Calls Tryz.prog 76 #[ptr g, .pointer (some ⟨xb, 0, none⟩)] w fun e w' => e = .returned (ptr b) ∧ w' = w := by
  have hl := h.look hf hg
  rw [ht] at hl
  simp only [pv, id] at hl
  unfold ptr at *
  clear h hf hg
  go_enter Tryz.func76, Tryz.ntmps76
  go_wp2_with fail
  go_ret
  exact ⟨rfl, rfl⟩
theorem step_putT {ops : Array Oper} {w : World} {o : Oper} {a : Act} {K : Act → World → Prop} {Q : Exit → Act → World → Prop} {E : Prop} (hgd : o.guard = none) (m x v : Operand) (ho : o.op = Op.mapUpdate 103 m x v)
    (tb : Nat) (tw : List (Nat × Nat)) (k b : Nat) (hm : a.eval m = .map (some tb)) (hx : a.eval x = .pointer (some ⟨k, 0, none⟩)) (hv : a.eval v = .pointer (some ⟨b, 0, none⟩)) (hn : twL tw k = none) (h : TwM w tb tw ∧ (∀ x ∈ tw, FB w x.1) ∧ FB w k)
    (hK : ∀ w', TwM w' tb (tw ++ [(k, b)]) → w.grownBy w' (some tb) → K (a.put o.dst undef) w') :
    if Region.wanted o (yielded ops a.tmps) = true then Oper.wp Tryz.prog o a w K Q else E := by
  have hw : Region.wanted o (yielded ops a.tmps) = true := by simp [Region.wanted, hgd]
  rw [if_pos hw]
  obtain ⟨w', hrun, r1, r2⟩ := h.1.put h.2.1 h.2.2 hn b
  unfold ptr at hrun
  unfold Oper.wp
  simp [execOp, ho, hm, hx, hv, hrun, Result.andThen]
  exact hK w' r1 r2
theorem FB.later {w w' : World} {a : Nat} (h : FB w a) (hb : Below w.heap.size w w') : FB w' a := by
  obtain ⟨c, t, h⟩ := h
  exact ⟨c, t, (hb.block a (Array.getElem?_eq_some_iff.1 h).1).trans h⟩
theorem FB.grown {w w' : World} {a : Nat} {r : Option Nat} (h : FB w a) (hb : w.grownBy w' r) (hn : r ≠ some a) : FB w' a := by
  obtain ⟨c, t, h⟩ := h
  exact ⟨c, t, (hb.block a (Array.getElem?_eq_some_iff.1 h).1 fun e => hn e.symm).trans h⟩
theorem FB.ne {w : World} {tb g : Nat} {tw : List (Nat × Nat)} (h : TwM w tb tw) (k : FB w g) : tb ≠ g := by
  obtain ⟨c, t, hc⟩ := k
  exact h.ne ⟨c, _, hc⟩
set_option maxHeartbeats 4000000 in
set_option maxRecDepth 100000 in
theorem copier1_new (xb tb g : Nat) (tw : List (Nat × Nat)) (w : World) (hx : w.cell? ⟨xb, 0, none⟩ = some (.map (some tb))) (h : TwM w tb tw) (hf : ∀ x ∈ tw, FB w x.1) (ht : twL tw g = none) (F : Nat → Prop) (dv : Value) (f : List Int × Nat) (hfm : FileM w F g dv f) (ho : Okb f.1) (hl4 : f.1.length ≤ 4194304) :
    Calls Tryz.prog 76 #[ptr g, .pointer (some ⟨xb, 0, none⟩)] w fun e w' => ∃ nb dv', e = .returned (ptr nb) ∧ w.heap.size ≤ nb ∧ TwM w' tb (tw ++ [(g, nb)]) ∧ w.grownBy w' (some tb) ∧ FileM w' (fun k => w.heap.size ≤ k) nb dv' f := by
  have hg : FB w g := ⟨_, _, hfm.blk⟩
  have hl := h.look hf hg
  rw [ht] at hl
  simp only [pv] at hl
  obtain ⟨ao, cap, e0, e1, e2, e3⟩ := hfm.byt ho
  have c0 := hfm.cell0
  have c1 := hfm.cell1
  rw [e0] at c0
  have htl : tb < w.heap.size := by obtain ⟨_, _, hh, _⟩ := h; exact (Array.getElem?_eq_some_iff.1 hh).1
  have HS : Hid (∀ wx, Below w.heap.size w wx → wx.cell? ⟨xb, 0, none⟩ = some (.map (some tb)) ∧ wx.cell? ⟨g, 0, none⟩ = some (.slice ao f.1.length cap) ∧ wx.cell? ⟨g, 1, none⟩ = some (.int .i64 (f.2 : Int))) := fun wx hb => ⟨cell_later hb hx, cell_later hb c0, cell_later hb c1⟩
  have KC : Hid (∀ wx, Below w.heap.size w wx → Calls Tryz.prog 46 #[.slice ao f.1.length cap] wx fun e w' => ∃ ao' n' c', e = .returned (.slice ao' n' c') ∧ Row w.heap.size w' (.slice ao' n' c') f.1 ∧ Below w.heap.size w w') := fun wx hb => by
    refine (clone_byt ao f.1.length cap (xof f.1) wx (e3.later hb) (fun e => (e1 e).1) (by omega)).mono ?_
    rintro e w' ⟨v, rfl, hv, hb2⟩
    rw [bs_xof ho] at hv
    have hv2 : Row w.heap.size w' v f.1 := ⟨hv.1, hv.2.imp id fun ⟨g, cap, cur, a, b, c⟩ => ⟨g, cap, cur, a, Nat.le_trans hb.size b, c⟩⟩
    have hb3 : Below w.heap.size w w' := hb.trans (hb2.mono hb.size)
    rcases hv2.2 with ⟨rfl, _⟩ | ⟨g, cap, cur, rfl, _⟩
    · exact ⟨_, _, _, rfl, hv2, hb3⟩
    · exact ⟨_, _, _, rfl, hv2, hb3⟩
  have HT : Hid (∀ wx, Below w.heap.size w wx → TwM wx tb tw ∧ (∀ x ∈ tw, FB wx x.1) ∧ FB wx g) := fun wx hb => ⟨h.same (hb.block tb htl), fun x hx => (hf x hx).later hb, hg.later hb⟩
  have HE : Hid (∀ w2 v w4, Below w.heap.size w w2 → Row w.heap.size w2 v f.1 → TwM w4 tb (tw ++ [(g, w2.heap.size)]) → (w2.alloc (.cells #[v, .int .i64 (f.2 : Int)] 72 (0, 0))).grownBy w4 (some tb) →
      (Instr.lookup 103 (.map (some tb)) (.pointer (some ⟨g, 0, none⟩)) false).run Tryz.prog w4 = .ok (.pointer (some ⟨w2.heap.size, 0, none⟩)) w4 ∧ w4.cell? ⟨xb, 0, none⟩ = some (.map (some tb)) ∧ w.heap.size ≤ w2.heap.size ∧ w.grownBy w4 (some tb) ∧ FileM w4 (fun k => w.heap.size ≤ k) w2.heap.size v f) := fun w2 v w4 hb hr ht4 hg4 => by
    have hb3 : Below w.heap.size w (w2.alloc (.cells #[v, .int .i64 (f.2 : Int)] 72 (0, 0))) := hb.alloc hb.size _
    have htn : TwM (w2.alloc (.cells #[v, .int .i64 (f.2 : Int)] 72 (0, 0))) tb tw := h.same (hb3.block tb htl)
    have hfb : ∀ a, FB w a → FB w4 a := fun a ha => (ha.later hb3).grown hg4 fun e => FB.ne htn (ha.later hb3) (Option.some.inj e)
    have hlk := ht4.look (a := g) (fun x hx => by
      rcases List.mem_append.1 hx with hx | hx
      · exact hfb _ (hf x hx)
      · simp only [List.mem_singleton] at hx
        subst hx
        exact hfb _ hg) (hfb _ hg)
    rw [twL_snoc, ht] at hlk
    simp only [if_true, pv, ptr, id] at hlk
    have hxb : FB w xb → True := fun _ => trivial
    have hsz := hb.size
    have hne : tb ≠ xb := fun e => by
      obtain ⟨_, _, hh, _⟩ := h
      rw [World.cell?, ← e, hh] at hx
      cases hx
    refine ⟨hlk, ?_, hsz, ?_, ?_⟩
    · refine (World.cell?_of_block (w := w2.alloc (.cells #[v, .int .i64 (f.2 : Int)] 72 (0, 0))) (hg4.block xb ?_ fun e => hne (Option.some.inj e).symm)).trans (cell_later hb3 hx)
      have h1 : xb < w.heap.size := block_lt_of_cell hx
      exact Nat.lt_of_lt_of_le h1 hb3.size
    · exact grown_trans (below_grown hb3 (some tb)) hg4
    · have hn : (w2.alloc (.cells #[v, .int .i64 (f.2 : Int)] 72 (0, 0))).heap[w2.heap.size]? = some (.cells #[v, .int .i64 (f.2 : Int)] 72 (0, 0)) := heap_alloc_new w2 _
      refine ⟨hsz, (hg4.block w2.heap.size (by simp) fun e => by have := Option.some.inj e; omega).trans hn, ?_, fun b eb => ?_⟩
      · refine owns_same (w := w2) ⟨hr.1, hr.2.imp id fun ⟨g, cap, cur, a, b, c⟩ => ⟨g, cap, cur, a, Nat.zero_le _, c⟩⟩ fun b eb => ?_
        have hty := owns_ty hr eb
        have hty2 : TyOf (w2.alloc (.cells #[v, .int .i64 (f.2 : Int)] 72 (0, 0))) b 5 := by
          obtain ⟨c, z, hc⟩ := hty
          exact ⟨c, z, (Below.heap_alloc _ _ _ (Array.getElem?_eq_some_iff.1 hc).1).trans hc⟩
        rw [hg4.block b hty2.lt fun e => htn.ne hty2 (Option.some.inj e).symm]
        exact Below.heap_alloc _ _ _ hty.lt
      · rcases hr.2 with ⟨rfl, _⟩ | ⟨g', cap', cur, rfl, hbb, _⟩
        · cases eb
        · simp only [Value.ownBlock, Option.some.injEq] at eb
          omega
  have HP : Hid (∀ w2 ao n c, Below w.heap.size w w2 → ∃ w4, (Instr.mapUpdate 103 (.map (some tb)) (.pointer (some ⟨g, 0, none⟩)) (.pointer (some ⟨w2.heap.size, 0, none⟩))).run Tryz.prog (w2.alloc (.cells #[.slice ao n c, .int .i64 (f.2 : Int)] 72 (0, 0))) = .ok () w4 ∧ TwM w4 tb (tw ++ [(g, w2.heap.size)]) ∧ (w2.alloc (.cells #[.slice ao n c, .int .i64 (f.2 : Int)] 72 (0, 0))).grownBy w4 (some tb)) := fun w2 ao n c hb => by
    obtain ⟨q1, q2, q3⟩ := HT.out _ (hb.alloc hb.size (.cells #[.slice ao n c, .int .i64 (f.2 : Int)] 72 (0, 0)))
    exact q1.put q2 q3 ht w2.heap.size
  have HB0 : Hid (Below w.heap.size w w) := Below.refl _ _
  unfold ptr at *
  clear h hf hg e3 e0 e1 e2 hfm ho
  generalize f.1.length = D at *
  go_enter Tryz.func76, Tryz.ntmps76
  go_wp2_with fail
  go_region_law (first | (refine step_fnL 46 (args := #[.slice ao D cap]) rfl rfl (by simp [Act.eval]) (by kernel_rfl) (KC.out _ (by repeat (first | exact HB0.out | refine Below.drew ?_))) ?_; rintro e w2 ⟨ao', n', c', rfl, hv, hb2⟩; obtain ⟨y1, y2, y3⟩ := HS.out _ hb2; obtain ⟨y4, y5, y6⟩ := HS.out _ (hb2.alloc hb2.size (.cells #[.slice ao' n' c', .int .i64 (f.2 : Int)] 72 (0, 0))); obtain ⟨w4, hrun, t4, g4⟩ := HP.out w2 ao' n' c' hb2; obtain ⟨z1, z2, z3, z4, z5⟩ := HE.out w2 _ w4 hb2 hv t4 g4; refine ⟨_, rfl, ?_⟩))
  all_goals
    go_wp2_with fail
    go_ret
    exact ⟨_, _, rfl, z3, t4, z4, z5⟩
end Go.Proofs.YtligofmcmjblpaaGreat
