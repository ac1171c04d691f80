import Derived.Deep.RegionHeldLaw
import Derived.Deep.RegionLaw
import Derived.Test.YtnoackenjfpcmaaPk01
import Derived.Test.YtnoackenjfpcmaaPk10
import Derived.Test.YtnoackenjfpcmaaPk11
import Derived.Test.YtnoackenjfpcmaaPk12
import Derived.Test.YtnoackenjfpcmaaPk18
import Derived.Test.YtnoackenjfpcmaaPk19
/- A call of a Go function as one step of a region that draws its order. -/
namespace Go.Proofs.Ytnoackenjfpcmaa
open Go.RowKit
set_option linter.unusedVariables false
set_option linter.unusedSimpArgs false

theorem step_fn {P : Program} {ops : Array Oper} {w : World} {o : Oper} {a : Act} {K : Act → World → Prop} {Q : Exit → Act → World → Prop} {E : Prop} {R : Ending → World → Prop} (f : FuncId) {xs : Array Operand} {ts : Array TypeId} {args : Array Value} (hgd : o.guard = none)
    (hop : o.op = .call { callee := .value (.func f), args := xs, argTypes := ts }) (hargs : xs.map a.eval = args) (hf : (callFunc f args).run P w = .ok (.enter f args) w) (hc : Calls P f args w R) (h : ∀ e w', R e w' → ∃ v, e = .returned v ∧ K (a.put o.dst v) w') :
    if Region.wanted o (yielded ops a.tmps) = true then Oper.wp P o a w K Q else E := by
  have hw : Region.wanted o (yielded ops a.tmps) = true := by simp [Region.wanted, hgd]
  rw [if_pos hw]
  have hrun : (execOp a.eval o).run P w = .ok (.enter f args) w := by
    unfold execOp
    rw [hop]
    simp [resolve, invoke, Act.eval, go_sem, hargs, hf]
  unfold Oper.wp
  rw [hrun]
  exact hc.mono fun e w' hR => by
    obtain ⟨v, he, hk⟩ := h e w' hR
    subst he
    exact hk
end Go.Proofs.Ytnoackenjfpcmaa

/- The landed merge: an entry with bytes of its own. -/
namespace Go.Proofs.Ytnoackenjfpcmaa
open Go.RowKit
set_option linter.unusedVariables false
set_option linter.unusedSimpArgs false

theorem refs_own {B : Nat} {w : World} {v : Value} {xs : List Int} (h : Row B w v xs) (hok : Okb xs) : ∃ a c, v = .slice a xs.length c ∧ Sl w a xs.length c xs ∧ ∀ b, Refs (.slice a xs.length c) b → B ≤ b := by
  have hlt := World.ownsRow.lt h
  obtain ⟨a, c, e, h1, h2, h3, h4⟩ := h.byt hok
  refine ⟨a, c, e, ⟨rfl, hok, h1, h2, h3, h4⟩, fun b hr => ?_⟩
  obtain ⟨off, l, c', e', _⟩ := hr
  simp only [Value.slice.injEq] at e'
  obtain ⟨rfl, _, _⟩ := e'
  exact (hlt b (by rw [e]; rfl)).1
theorem hset_other (w : World) (g k b : Nat) (v : Value) (h : b ≠ g) : (w.setCell ⟨g, k, none⟩ v).heap[b]? = w.heap[b]? := by
  simp only [World.setCell]
  simp [Array.getElem?_modify, Ne.symm h]
theorem cell_set_other (w : World) (g k b j : Nat) (v : Value) (h : b ≠ g) : (w.setCell ⟨g, k, none⟩ v).cell? ⟨b, j, none⟩ = w.cell? ⟨b, j, none⟩ := World.cell?_of_block (w := w) (a := ⟨b, j, none⟩) (hset_other w g k b v h)
theorem set5_c {w : World} {g : Nat} {u0 u1 u2 u3 u4 : Value} (z0 : w.cell? ⟨g, 0, none⟩ = some u0) (z1 : w.cell? ⟨g, 1, none⟩ = some u1) (z2 : w.cell? ⟨g, 2, none⟩ = some u2) (z3 : w.cell? ⟨g, 3, none⟩ = some u3) (z4 : w.cell? ⟨g, 4, none⟩ = some u4) (v0 v1 v2 v3 v4 : Value) :
    (((((w.setCell ⟨g, 0, none⟩ v0).setCell ⟨g, 1, none⟩ v1).setCell ⟨g, 2, none⟩ v2).setCell ⟨g, 3, none⟩ v3).setCell ⟨g, 4, none⟩ v4).cell? ⟨g, 0, none⟩ = some v0 ∧ (((((w.setCell ⟨g, 0, none⟩ v0).setCell ⟨g, 1, none⟩ v1).setCell ⟨g, 2, none⟩ v2).setCell ⟨g, 3, none⟩ v3).setCell ⟨g, 4, none⟩ v4).cell? ⟨g, 1, none⟩ = some v1 ∧ (((((w.setCell ⟨g, 0, none⟩ v0).setCell ⟨g, 1, none⟩ v1).setCell ⟨g, 2, none⟩ v2).setCell ⟨g, 3, none⟩ v3).setCell ⟨g, 4, none⟩ v4).cell? ⟨g, 2, none⟩ = some v2 ∧ (((((w.setCell ⟨g, 0, none⟩ v0).setCell ⟨g, 1, none⟩ v1).setCell ⟨g, 2, none⟩ v2).setCell ⟨g, 3, none⟩ v3).setCell ⟨g, 4, none⟩ v4).cell? ⟨g, 3, none⟩ = some v3 ∧ (((((w.setCell ⟨g, 0, none⟩ v0).setCell ⟨g, 1, none⟩ v1).setCell ⟨g, 2, none⟩ v2).setCell ⟨g, 3, none⟩ v3).setCell ⟨g, 4, none⟩ v4).cell? ⟨g, 4, none⟩ = some v4 := by
  refine ⟨?_, ?_, ?_, ?_, ?_⟩
  · rw [hp_cso _ _ _ _ _ (by decide)]; rw [hp_cso _ _ _ _ _ (by decide)]; rw [hp_cso _ _ _ _ _ (by decide)]; rw [hp_cso _ _ _ _ _ (by decide)]; rw [hp_css _ _ _ _ (z0)]
  · rw [hp_cso _ _ _ _ _ (by decide)]; rw [hp_cso _ _ _ _ _ (by decide)]; rw [hp_cso _ _ _ _ _ (by decide)]; rw [hp_css _ _ _ _ ((hp_cso _ _ _ _ _ (by decide)).trans (z1))]
  · rw [hp_cso _ _ _ _ _ (by decide)]; rw [hp_cso _ _ _ _ _ (by decide)]; rw [hp_css _ _ _ _ ((hp_cso _ _ _ _ _ (by decide)).trans ((hp_cso _ _ _ _ _ (by decide)).trans (z2)))]
  · rw [hp_cso _ _ _ _ _ (by decide)]; rw [hp_css _ _ _ _ ((hp_cso _ _ _ _ _ (by decide)).trans ((hp_cso _ _ _ _ _ (by decide)).trans ((hp_cso _ _ _ _ _ (by decide)).trans (z3))))]
  · rw [hp_css _ _ _ _ ((hp_cso _ _ _ _ _ (by decide)).trans ((hp_cso _ _ _ _ _ (by decide)).trans ((hp_cso _ _ _ _ _ (by decide)).trans ((hp_cso _ _ _ _ _ (by decide)).trans (z4)))))]
theorem set5_far (w : World) (g : Nat) (v0 v1 v2 v3 v4 : Value) (b : Nat) (h : b ≠ g) : (((((w.setCell ⟨g, 0, none⟩ v0).setCell ⟨g, 1, none⟩ v1).setCell ⟨g, 2, none⟩ v2).setCell ⟨g, 3, none⟩ v3).setCell ⟨g, 4, none⟩ v4).heap[b]? = w.heap[b]? := by
  rw [hset_other _ _ _ _ _ h, hset_other _ _ _ _ _ h, hset_other _ _ _ _ _ h, hset_other _ _ _ _ _ h, hset_other _ _ _ _ _ h]
theorem set5_grown (w : World) (g : Nat) (v0 v1 v2 v3 v4 : Value) : w.grownBy (((((w.setCell ⟨g, 0, none⟩ v0).setCell ⟨g, 1, none⟩ v1).setCell ⟨g, 2, none⟩ v2).setCell ⟨g, 3, none⟩ v3).setCell ⟨g, 4, none⟩ v4) (some g) :=
  ((((hp_gset _ _ _ _).trans (hp_gset _ _ _ _)).trans (hp_gset _ _ _ _)).trans (hp_gset _ _ _ _)).trans (hp_gset _ _ _ _)
set_option maxHeartbeats 4000000 in
set_option maxRecDepth 100000 in
theorem copied_t {w : World} {ka va : Option Addr} {kc vc : Nat} {e : EntV} (hk : Sl w ka e.key.length kc e.key) (hv : Sl w va e.val.length vc e.val) (h1 : e.key.length ≤ 1000000) (h2 : e.val.length ≤ 1000000) :
    Calls Try.prog 30 #[entA ka kc va vc e] w fun r w' => ∃ ka' kc' va' vc', r = .returned (entA ka' kc' va' vc' e) ∧ Sl w' ka' e.key.length kc' e.key ∧ Sl w' va' e.val.length vc' e.val ∧ (∀ b, Refs (.slice ka' e.key.length kc') b → w.heap.size ≤ b) ∧ (∀ b, Refs (.slice va' e.val.length vc') b → w.heap.size ≤ b) ∧ Below w.heap.size w w' := by
  obtain ⟨key, seq, gone, till, vl⟩ := e
  unfold entA
  simp only at hk hv h1 h2 ⊢
  obtain ⟨L1, hL1⟩ : ∃ L, L = key.length := ⟨_, rfl⟩
  obtain ⟨L2, hL2⟩ : ∃ L, L = vl.length := ⟨_, rfl⟩
  rw [← hL1] at hk h1 ⊢
  rw [← hL2] at hv h2 ⊢
  obtain ⟨W0, hW0⟩ : ∃ W, W = w.alloc (.cells #[.slice ka L1 kc, .int .i64 seq, .bool gone, .int .i64 till, .slice va L2 vc] 35) := ⟨_, rfl⟩
  obtain ⟨W, hW⟩ : ∃ W, W = W0.alloc (.cells #[.slice none 0 0, .int .i64 0, .bool false, .int .i64 0, .slice none 0 0] 35) := ⟨_, rfl⟩
  have b0 : Below w.heap.size w W0 := by rw [hW0]; exact (Below.refl _ _).alloc (Nat.le_refl _) _
  have b1 : Below W0.heap.size W0 W := by rw [hW]; exact (Below.refl _ _).alloc (Nat.le_refl _) _
  have bW : Below w.heap.size w W := b0.trans (b1.mono b0.size)
  have s0 : W0.heap.size = w.heap.size + 1 := by rw [hW0]; simp
  have s1 : W.heap.size = w.heap.size + 1 + 1 := by rw [hW]; simp [s0]
  have HA : Hid (∀ wx, Below W.heap.size W wx → (wx.cell? ⟨w.heap.size, 0, none⟩ = some (.slice ka L1 kc) ∧ wx.cell? ⟨w.heap.size, 1, none⟩ = some (.int .i64 seq) ∧ wx.cell? ⟨w.heap.size, 2, none⟩ = some (.bool gone) ∧ wx.cell? ⟨w.heap.size, 3, none⟩ = some (.int .i64 till) ∧ wx.cell? ⟨w.heap.size, 4, none⟩ = some (.slice va L2 vc)) ∧ (∀ k, wx.frozen? ⟨w.heap.size, k, none⟩ = false) ∧ (∀ k, k < 5 → ∃ v, wx.cell? ⟨w.heap.size + 1, k, none⟩ = some v) ∧ (∀ k, wx.frozen? ⟨w.heap.size + 1, k, none⟩ = false)) := fun wx hb => by
    have e0 : wx.heap[w.heap.size]? = some (.cells #[.slice ka L1 kc, .int .i64 seq, .bool gone, .int .i64 till, .slice va L2 vc] 35) := by
      rw [hb.block _ (by omega), b1.block _ (by omega), hW0]; exact heap_alloc_new w _
    have e1 : wx.heap[w.heap.size + 1]? = some (.cells #[.slice none 0 0, .int .i64 0, .bool false, .int .i64 0, .slice none 0 0] 35) := by
      rw [hb.block _ (by omega), hW, ← s0]; exact heap_alloc_new W0 _
    refine ⟨⟨?_, ?_, ?_, ?_, ?_⟩, fun k => by simp [World.frozen?, e0], fun k hk => ?_, fun k => by simp [World.frozen?, e1]⟩
    iterate 5 (rw [cell_of e0]; rfl)
    rw [cell_of e1]
    have : k = 0 ∨ k = 1 ∨ k = 2 ∨ k = 3 ∨ k = 4 := by omega
    rcases this with rfl | rfl | rfl | rfl | rfl <;> exact ⟨_, rfl⟩
  have HC1 : Hid (∀ wx, Below W.heap.size W wx → Calls Try.prog 35 #[.slice ka L1 kc] wx fun e w' => ∃ a c, e = .returned (.slice a L1 c) ∧ Below wx.heap.size wx w' ∧ Below W.heap.size W w' ∧ Sl w' a L1 c key ∧ ∀ b, Refs (.slice a L1 c) b → W.heap.size ≤ b) := fun wx hb => by
    refine (clone_n (hk.later (bW.trans (hb.mono bW.size))) (by omega)).mono ?_
    rintro e w' ⟨v, rfl, hr, hb'⟩
    obtain ⟨a, c, rfl, q1, q2⟩ := refs_own hr hk.2.1
    rw [← hL1] at q1 q2 ⊢
    exact ⟨a, c, rfl, hb', hb.trans (hb'.mono hb.size), q1, fun b hr => Nat.le_trans hb.size (q2 b hr)⟩
  have HC2 : Hid (∀ wx, Below W.heap.size W wx → Calls Try.prog 35 #[.slice va L2 vc] wx fun e w' => ∃ a c, e = .returned (.slice a L2 c) ∧ Below wx.heap.size wx w' ∧ Below W.heap.size W w' ∧ Sl w' a L2 c vl ∧ ∀ b, Refs (.slice a L2 c) b → W.heap.size ≤ b) := fun wx hb => by
    refine (clone_n (hv.later (bW.trans (hb.mono bW.size))) (by omega)).mono ?_
    rintro e w' ⟨v, rfl, hr, hb'⟩
    obtain ⟨a, c, rfl, q1, q2⟩ := refs_own hr hv.2.1
    rw [← hL2] at q1 q2 ⊢
    exact ⟨a, c, rfl, hb', hb.trans (hb'.mono hb.size), q1, fun b hr => Nat.le_trans hb.size (q2 b hr)⟩
  have HB := hidM (And.intro bW s1)
  have HW : Hid (W = (w.alloc (.cells #[.slice ka L1 kc, .int .i64 seq, .bool gone, .int .i64 till, .slice va L2 vc] 35)).alloc (.cells #[.slice none 0 0, .int .i64 0, .bool false, .int .i64 0, .slice none 0 0] 35)) := by show _ = _; rw [hW, hW0]
  have HLL := hidM (And.intro hL1 hL2)
  clear hk hv h1 h2 hL1 hL2 b0 b1 bW s0 s1 hW hW0
  go_enter Try.func30, Try.ntmps30
  go_wp2_with fail
  rw [← HW.out]
  obtain ⟨⟨x0, x1, x2, x3, x4⟩, x5, -, -⟩ := HA.out W.drew ((Below.refl _ W).drew)
  generalize hP : w.heap.size = P at x0 x1 x2 x3 x4 x5 ⊢
  have HP := hidM hP
  clear hP
  go_region_law (first | (refine step_fn 35 (args := #[.slice ka L1 kc]) rfl rfl (by simp [Act.eval]) (by kernel_rfl) (HC1.out _ ((Below.refl _ W).drew)) ?_; rintro e w2 ⟨a1, c1, rfl, hb12, hb2, hs1, hr1⟩; obtain ⟨⟨y0, y1, y2, y3, y4⟩, y5, -, -⟩ := HA.out _ hb2; rw [HP.out] at y0 y1 y2 y3 y4 y5; refine ⟨_, rfl, ?_⟩) | (refine step_fn 35 (args := #[.slice va L2 vc]) rfl rfl (by simp [Act.eval, Act.put]) (by kernel_rfl) (HC2.out _ hb2) ?_; rintro e w3 ⟨a2, c2, rfl, hb23, hb3, hs2, hr2⟩; obtain ⟨⟨z0, z1, z2, z3, z4⟩, z5, z6, z7⟩ := HA.out _ hb3; rw [HP.out] at z0 z1 z2 z3 z4 z5 z6 z7; refine ⟨_, rfl, ?_⟩))
  all_goals
    clear x0 x1 x2 x3 x4 x5 y0 y1 y2 y3 y4 y5
    have hs1' := hs1.later hb23
    have HE : Hid (Sl w3 a1 L1 c1 key ∧ Sl w3 a2 L2 c2 vl ∧ (∀ b, Refs (.slice a1 L1 c1) b → W.heap.size ≤ b) ∧ (∀ b, Refs (.slice a2 L2 c2) b → W.heap.size ≤ b) ∧ Below W.heap.size W w3) := ⟨hs1', hs2, hr1, hr2, hb3⟩
    obtain ⟨v0, u0⟩ := z6 0 (by omega)
    obtain ⟨v1, u1⟩ := z6 1 (by omega)
    obtain ⟨v2, u2⟩ := z6 2 (by omega)
    obtain ⟨v3, u3⟩ := z6 3 (by omega)
    obtain ⟨v4, u4⟩ := z6 4 (by omega)
    obtain ⟨w9, hw9⟩ : ∃ x, x = (w3.setCell ⟨P, 0, none⟩ (.slice a1 L1 c1)).setCell ⟨P, 4, none⟩ (.slice a2 L2 c2) := ⟨_, rfl⟩
    have t0 : w9.cell? ⟨P, 0, none⟩ = some (.slice a1 L1 c1) := by rw [hw9, hp_cso _ _ _ _ _ (by omega), hp_css _ _ _ _ z0]
    have t1 : w9.cell? ⟨P, 1, none⟩ = some (.int .i64 seq) := by rw [hw9, hp_cso _ _ _ _ _ (by omega), hp_cso _ _ _ _ _ (by omega), z1]
    have t2 : w9.cell? ⟨P, 2, none⟩ = some (.bool gone) := by rw [hw9, hp_cso _ _ _ _ _ (by omega), hp_cso _ _ _ _ _ (by omega), z2]
    have t3 : w9.cell? ⟨P, 3, none⟩ = some (.int .i64 till) := by rw [hw9, hp_cso _ _ _ _ _ (by omega), hp_cso _ _ _ _ _ (by omega), z3]
    have t4 : w9.cell? ⟨P, 4, none⟩ = some (.slice a2 L2 c2) := by rw [hw9, hp_css _ _ _ _ ((hp_cso _ _ _ _ _ (by omega)).trans z4)]
    have hne : P + 1 ≠ P := by omega
    have r0 : w9.cell? ⟨P + 1, 0, none⟩ = some v0 := by rw [hw9, cell_set_other _ _ _ _ _ _ hne, cell_set_other _ _ _ _ _ _ hne, u0]
    have r1 : w9.cell? ⟨P + 1, 1, none⟩ = some v1 := by rw [hw9, cell_set_other _ _ _ _ _ _ hne, cell_set_other _ _ _ _ _ _ hne, u1]
    have r2 : w9.cell? ⟨P + 1, 2, none⟩ = some v2 := by rw [hw9, cell_set_other _ _ _ _ _ _ hne, cell_set_other _ _ _ _ _ _ hne, u2]
    have r3 : w9.cell? ⟨P + 1, 3, none⟩ = some v3 := by rw [hw9, cell_set_other _ _ _ _ _ _ hne, cell_set_other _ _ _ _ _ _ hne, u3]
    have r4 : w9.cell? ⟨P + 1, 4, none⟩ = some v4 := by rw [hw9, cell_set_other _ _ _ _ _ _ hne, cell_set_other _ _ _ _ _ _ hne, u4]
    have rf : ∀ k, w9.frozen? ⟨P + 1, k, none⟩ = false := fun k => by rw [hw9, World.frozen?_setCell, World.frozen?_setCell]; exact z7 k
    have f0 := rf 0
    have f1 := rf 1
    have f2 := rf 2
    have f3 := rf 3
    have f4 := rf 4
    have H9 : Hid (Sl w9 a1 L1 c1 key ∧ Sl w9 a2 L2 c2 vl ∧ Below w.heap.size w w9 ∧ P + 2 ≤ w9.heap.size) := by
      have hk : ∀ b, W.heap.size ≤ b → w9.heap[b]? = w3.heap[b]? := fun b hb => by
        have := HB.out.2
        have := HP.out
        rw [hw9, hset_other _ _ _ _ _ (by omega), hset_other _ _ _ _ _ (by omega)]
      refine ⟨HE.out.1.keep fun b hr => hk b (HE.out.2.2.1 b hr), HE.out.2.1.keep fun b hr => hk b (HE.out.2.2.2.1 b hr), ?_, ?_⟩
      · have q := HB.out.1.trans (HE.out.2.2.2.2.mono HB.out.1.size)
        rw [hw9]
        exact (q.grown (hp_gset w3 P 0 (.slice a1 L1 c1)) q.size (fun z hz => by have := HP.out; simp only [Option.some.injEq] at hz; omega)).grown (hp_gset _ P 4 (.slice a2 L2 c2)) (by simp; exact q.size) (fun z hz => by have := HP.out; simp only [Option.some.injEq] at hz; omega)
      · have q := HE.out.2.2.2.2.size
        have := HB.out.2
        have := HP.out
        rw [hw9]
        simp
        omega
    rw [← hw9]
    clear hs1 hs2 hr1 hr2 hb12 hb23 hb2 hb3 hs1' z0 z1 z2 z3 z4 z5 z6 z7 u0 u1 u2 u3 u4 rf hw9
    go_wp2_with fail
    obtain ⟨q0, q1, q2, q3, q4⟩ := set5_c r0 r1 r2 r3 r4 (.slice a1 L1 c1) (.int .i64 seq) (.bool gone) (.int .i64 till) (.slice a2 L2 c2)
    have hf := set5_far w9 (P + 1) (.slice a1 L1 c1) (.int .i64 seq) (.bool gone) (.int .i64 till) (.slice a2 L2 c2)
    have hg := set5_grown w9 (P + 1) (.slice a1 L1 c1) (.int .i64 seq) (.bool gone) (.int .i64 till) (.slice a2 L2 c2)
    generalize (((((w9.setCell ⟨P + 1, 0, none⟩ (.slice a1 L1 c1)).setCell ⟨P + 1, 1, none⟩ (.int .i64 seq)).setCell ⟨P + 1, 2, none⟩ (.bool gone)).setCell ⟨P + 1, 3, none⟩ (.int .i64 till)).setCell ⟨P + 1, 4, none⟩ (.slice a2 L2 c2)) = X at q0 q1 q2 q3 q4 hf hg ⊢
    have hs := HB.out.2
    have hp := HP.out
    refine bodyPost_ret (v := .agg #[.slice a1 L1 c1, .int .i64 seq, .bool gone, .int .i64 till, .slice a2 L2 c2]) (by simp [results, Try.results30, go_sem, q0, q1, q2, q3, q4]) rfl ⟨a1, c1, a2, c2, rfl, H9.out.1.keep fun b hr => hf b (by have := HE.out.2.2.1 b hr; omega), H9.out.2.1.keep fun b hr => hf b (by have := HE.out.2.2.2.1 b hr; omega), fun b hr => by have := HE.out.2.2.1 b hr; omega, fun b hr => by have := HE.out.2.2.2.1 b hr; omega, ?_⟩
    exact H9.out.2.2.1.grown hg H9.out.2.2.1.size (fun z hz => by simp only [Option.some.injEq] at hz; omega)
end Go.Proofs.Ytnoackenjfpcmaa

/- The landed merge: what is known while rows are put together. -/
namespace Go.Proofs.Ytnoackenjfpcmaa
open Go.RowKit
set_option linter.unusedVariables false
set_option linter.unusedSimpArgs false

theorem elem66 : Try.prog.elem 66 = 70 := by kernel_rfl
theorem under66 : Try.prog.underlying 66 = some (.slice (Try.prog.elem 66)) := by rw [elem66]; exact Try.underlying66
theorem run_headH (w : World) (g len cap j : Nat) (h2 : j ≤ cap) : (Instr.slice 66 (.slice (some ⟨g, 0, none⟩) len cap) none (some (.int .i64 (j : Int))) none).run Try.prog w = .ok (.slice (some ⟨g, 0, none⟩) j cap) w := by
  rw [run_slice_h (P := Try.prog) (w := w) 66 (some ⟨g, 0, none⟩) len cap under66 .i64 (j : Int) (by omega) (by omega), elem66, Try.sizeOf70]
  simp only [Result.andThen, Int.toNat_natCast]
  unfold sliced
  rw [Nat.zero_mul, Nat.sub_zero, Nat.sub_zero]
  simp [Addr.add_lit]
theorem RS.tailE {w : World} {ao : Option Addr} {len cap : Nat} {l : List EntV} (h : RS entE w ao len cap l) (hi : 1 ≤ len) : RS entE w (cutS ao cap 1 5) (len - 1) (cap - 1) (l.drop 1) := by
  have := (RSG.any h).cut (by decide) 1 len hi (Nat.le_refl _)
  have e : (l.drop 1).take (len - 1) = l.drop 1 := List.take_of_length_le (by rw [List.length_drop, h.len.1]; exact Nat.le_refl _)
  rw [e] at this
  exact this.rs
/-- The last one comes to the top: what is left of the others. -/
theorem last_turn {x' y : HpV} {H2 : List HpV} {N : Nat} (hN : (x' :: H2).length = N) (hy : (x' :: H2)[N - 1]? = some y) :
    (((x' :: H2).set 0 y).take (N - 1)).Perm H2 ∧ (∀ i, 0 < i → i < (((x' :: H2).set 0 y).take (N - 1)).length → (((x' :: H2).set 0 y).take (N - 1))[i]? = (x' :: H2)[i]?) := by
  cases H2 with
  | nil =>
    simp at hN
    subst hN
    exact ⟨List.Perm.refl _, fun i h0 hi => by simp at hi⟩
  | cons a r =>
    have hN' : N = r.length + 2 := by simpa using hN.symm
    subst hN'
    have hy' : (a :: r)[r.length]? = some y := by simpa using hy
    have e1 : (a :: r) = (a :: r).take r.length ++ [y] := by
      have h := List.take_add_one (l := a :: r) (i := r.length)
      rw [hy', List.take_of_length_le (by simp)] at h
      exact h
    have e2 : ((x' :: a :: r).set 0 y).take (r.length + 2 - 1) = y :: (a :: r).take r.length := rfl
    rw [e2]
    refine ⟨?_, fun i h0 hi => ?_⟩
    · conv => rhs; rw [e1]
      exact (List.perm_append_singleton y _).symm
    · obtain ⟨j, rfl⟩ : ∃ j, i = j + 1 := ⟨i - 1, by omega⟩
      rw [List.getElem?_cons_succ, List.getElem?_cons_succ, List.getElem?_take]
      simp at hi
      rw [if_pos (by omega)]
theorem HpAt.take {w : World} {g : Nat} {H : List HpV} (h : HpAt w g H) (n : Nat) : HpAt w g (H.take n) := fun i x hx => by
  rw [List.getElem?_take] at hx
  split at hx
  · exact h i x hx
  · cases hx
theorem HpAt.set0 {w : World} {g : Nat} {H : List HpV} {x : HpV} (h : HpAt w g H) (hx : H[0]? = some x) (l : List EntV) (la : Option Addr) (lc : Nat) :
    HpAt (w.setCell ⟨g, 0, none⟩ (.slice la l.length lc)) g (H.set 0 ⟨l, x.row, la, lc⟩) := fun j z hz => by
  have hil := (List.getElem?_eq_some_iff.1 hx).1
  simp only [World.frozen?_setCell]
  have q := h 0 x hx
  rw [Nat.zero_mul] at q
  by_cases e : j = 0
  · subst e
    rw [List.getElem?_set_self hil] at hz
    obtain rfl := by simpa using hz
    rw [Nat.zero_mul]
    refine ⟨⟨?_, ?_⟩, q.2⟩
    · rw [hp_css _ _ _ _ q.1.1]
    · rw [hp_cso _ _ _ _ _ (by omega)]; exact q.1.2
  · rw [List.getElem?_set_ne (fun e' => e e'.symm)] at hz
    have p := h j z hz
    refine ⟨⟨?_, ?_⟩, p.2⟩
    · rw [hp_cso _ _ _ _ _ (by omega)]; exact p.1.1
    · rw [hp_cso _ _ _ _ _ (by omega)]; exact p.1.2
theorem HpAt.grown {w w' : World} {g : Nat} {r : Option Nat} {H : List HpV} (h : HpAt w g H) (hg : g < w.heap.size) (hb : w.grownBy w' r) (hne : some g ≠ r) : HpAt w' g H := fun i x hx => by
  obtain ⟨⟨h0, h1⟩, h2, h3⟩ := h i x hx
  refine ⟨⟨hb.cell h0 hne, hb.cell h1 hne⟩, ?_, ?_⟩
  · simp only [World.frozen?] at h2 ⊢; rw [hb.block _ hg hne]; exact h2
  · simp only [World.frozen?] at h3 ⊢; rw [hb.block _ hg hne]; exact h3
structure MG (w : World) (rs : List (List EntV)) (g : Nat) (wr : World) (v : Value) (dn : List EntV) (H : List HpV) : Prop where
  row : RowF entE w.heap.size (fun b => w.heap.size ≤ b ∧ b ≠ g) wr v dn
  ne : v.ownBlock ≠ some g
  hp : HpF H
  its : HpIts w H
  ord : ∀ x ∈ H, ordE x.l
  sml : ∀ x ∈ H, ∀ e ∈ x.l, e.key.length ≤ 1000000 ∧ e.val.length ≤ 1000000
  res : ∃ R : List (EntV × Nat), R.Pairwise tlt ∧ R.Perm (flatH H) ∧ dn ++ R.map (·.1) = mrgE rs
  bel : Below w.heap.size w wr
  len : H.length ≤ 64
theorem MG.end {w : World} {rs : List (List EntV)} {g : Nat} {wr : World} {v : Value} {dn : List EntV} (h : MG w rs g wr v dn []) : dn = mrgE rs := by
  obtain ⟨R, _, p, e⟩ := h.res
  have : R = [] := List.Perm.eq_nil p
  rw [this, List.map_nil, List.append_nil] at e
  exact e
theorem MG.cnt {w : World} {rs : List (List EntV)} {g : Nat} {wr : World} {v : Value} {dn : List EntV} {x : HpV} {H : List HpV} (h : MG w rs g wr v dn (x :: H)) : dn.length + x.l.length ≤ (rs.map List.length).sum := by
  obtain ⟨R, _, p, e⟩ := h.res
  have h1 := congrArg List.length e
  rw [List.length_append, List.length_map, mrgE_len, p.length_eq, flatH_cons, List.length_append, List.length_map] at h1
  omega
/-- What is appended. -/
theorem MG.app {w : World} {rs : List (List EntV)} {g : Nat} {wr w5 : World} {v : Value} {dn : List EntV} {H : List HpV} (h : MG w rs g wr v dn H) (hg : g < wr.heap.size) {ka va : Option Addr} {kc vc : Nat} {e : EntV} (i1 : In64 e.seq) (i2 : In64 e.till)
    (h5 : Sl w5 ka e.key.length kc e.key ∧ Sl w5 va e.val.length vc e.val ∧ (∀ b, Refs (.slice ka e.key.length kc) b → wr.heap.size ≤ b) ∧ (∀ b, Refs (.slice va e.val.length vc) b → wr.heap.size ≤ b) ∧ Below wr.heap.size wr w5) :
    RowF entE w.heap.size (fun b => w.heap.size ≤ b ∧ b ≠ g) (w5.alloc (.cells #[.slice ka e.key.length kc, .int .i64 e.seq, .bool e.gone, .int .i64 e.till, .slice va e.val.length vc] 35)) v dn ∧
    RSu entE (w5.alloc (.cells #[.slice ka e.key.length kc, .int .i64 e.seq, .bool e.gone, .int .i64 e.till, .slice va e.val.length vc] 35)) (some ⟨w5.heap.size, 0, none⟩) 1 1 [.slice ka e.key.length kc, .int .i64 e.seq, .bool e.gone, .int .i64 e.till, .slice va e.val.length vc] [e] ∧
    (∀ u ∈ [Value.slice ka e.key.length kc, .int .i64 e.seq, .bool e.gone, .int .i64 e.till, .slice va e.val.length vc], ∀ b, Refs u b → v.ownBlock ≠ some b) ∧
    (∀ u ∈ [Value.slice ka e.key.length kc, .int .i64 e.seq, .bool e.gone, .int .i64 e.till, .slice va e.val.length vc], ∀ b, Refs u b → w.heap.size ≤ b ∧ b ≠ g) ∧
    Below wr.heap.size wr (w5.alloc (.cells #[.slice ka e.key.length kc, .int .i64 e.seq, .bool e.gone, .int .i64 e.till, .slice va e.val.length vc] 35)) := by
  obtain ⟨s1, s2, r1, r2, hb⟩ := h5
  have hb6 : Below wr.heap.size wr (w5.alloc (.cells #[.slice ka e.key.length kc, .int .i64 e.seq, .bool e.gone, .int .i64 e.till, .slice va e.val.length vc] 35)) := hb.alloc hb.size _
  have hR : ∀ u ∈ [Value.slice ka e.key.length kc, .int .i64 e.seq, .bool e.gone, .int .i64 e.till, .slice va e.val.length vc], ∀ b, Refs u b → wr.heap.size ≤ b := fun u hu b hr => by
    simp only [List.mem_cons, List.not_mem_nil, or_false] at hu
    rcases hu with rfl | rfl | rfl | rfl | rfl
    · exact r1 b hr
    · exact (refs_int hr).elim
    · exact (refs_bool hr).elim
    · exact (refs_int hr).elim
    · exact r2 b hr
  refine ⟨h.row.later hb6, rs_one (E := entE) ⟨ka, kc, va, vc, rfl, s1, s2, i1, i2⟩, fun u hu b hr e => ?_, fun u hu b hr => ?_, hb6⟩
  · have h1 := hR u hu b hr
    have h2 := (h.row.own_lt e).2
    omega
  · have h1 := hR u hu b hr
    have h2 := h.bel.size
    exact ⟨by omega, by omega⟩
/-- Behind the append. -/
theorem MG.put {w : World} {rs : List (List EntV)} {g : Nat} {wr w6 w9 : World} {v v9 : Value} {dn dn9 : List EntV} {H : List HpV} (h : MG w rs g wr v dn H) (hg : g < wr.heap.size) (hat : HpAt wr g H) (hwg : w.heap.size ≤ g) (hb : Below wr.heap.size wr w6) (r9 : RowF entE w.heap.size (fun b => w.heap.size ≤ b ∧ b ≠ g) w9 v9 dn9) (g9 : w6.grownBy w9 v.ownBlock) (m9 : Moved w6 v v9) :
    HpAt w9 g H ∧ v9.ownBlock ≠ some g ∧ Below w.heap.size w w9 ∧ g < w9.heap.size := by
  have hg6 : g < w6.heap.size := Nat.lt_of_lt_of_le hg hb.size
  refine ⟨(hat.later hg hb).grown hg6 g9 (fun e => h.ne e.symm), ?_, ?_, Nat.lt_of_lt_of_le hg6 g9.size⟩
  · rcases m9 with q | ⟨z, q1, q2⟩
    · rw [q]; exact h.ne
    · rw [q1]; intro e; simp only [Option.some.injEq] at e; omega
  · have hbw := h.bel.trans (hb.mono h.bel.size)
    exact hbw.grown g9 hbw.size fun z hz => (h.row.own_lt hz).1
/-- A step: with what is left of the others let down. -/
theorem MG.next {w : World} {rs : List (List EntV)} {g : Nat} {wr w9 wy : World} {v v9 : Value} {dn : List EntV} {x : HpV} {H2 H3 H4 : List HpV} {e : EntV} {q : List EntV} (h : MG w rs g wr v dn (x :: H2)) (hl : x.l = e :: q) (hp3 : (flatH H3).Perm ((q.map fun z => (z, x.row)) ++ flatH H2)) (hi3 : HpIts w H3) (ho3 : ∀ y ∈ H3, ordE y.l) (hs3 : ∀ y ∈ H3, ∀ z ∈ y.l, z.key.length ≤ 1000000 ∧ z.val.length ≤ 1000000) (hl3 : H3.length ≤ 64)
    (hp4 : H4.Perm H3) (hf4 : HpF H4) (r9 : RowF entE w.heap.size (fun b => w.heap.size ≤ b ∧ b ≠ g) w9 v9 (dn ++ [e])) (hne : v9.ownBlock ≠ some g) (hb : Below w.heap.size w w9) (hwg : w.heap.size ≤ g) (hgy : w9.grownBy wy (some g)) : MG w rs g wy v9 (dn ++ [e]) H4 := by
  obtain ⟨R, hR, hp, he⟩ := h.res
  obtain ⟨R', rfl, hR', hp'⟩ := flatH_step h.hp h.ord (x := x) (e := e) (q := q) rfl hl hR hp
  refine ⟨r9.grown hgy (fun b hv e' => hne (by rw [hv]; exact e')) (fun b hF e' => hF.2 (by simpa using e')), hne, hf4, hi3.perm hp4, fun y hy => ho3 y (hp4.mem_iff.1 hy), fun y hy => hs3 y (hp4.mem_iff.1 hy), ⟨R', hR', hp'.trans (hp3.symm.trans (flatH_perm hp4.symm)), ?_⟩, hb.grown hgy hb.size (fun z hz => by simp only [Option.some.injEq] at hz; omega), by rw [hp4.length_eq]; exact hl3⟩
  rw [List.append_assoc]
  exact he
end Go.Proofs.Ytnoackenjfpcmaa
