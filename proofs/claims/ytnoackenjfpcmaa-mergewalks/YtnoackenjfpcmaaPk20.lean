import Derived.Test.YtnoackenjfpcmaaPk09
import Derived.Test.YtnoackenjfpcmaaPk11
import Derived.Test.YtnoackenjfpcmaaPk12
import Derived.Test.YtnoackenjfpcmaaPk18
import Derived.Test.YtnoackenjfpcmaaPk19
/- The landed merge: an entry with bytes of its own. -/
namespace Go.Proofs.Ytnoackenjfpcmaa
open Go.RowKit
set_option linter.unusedVariables false
set_option linter.unusedSimpArgs false

theorem refs_own {B : Nat} {w : World} {v : Value} {xs : List Int} (h : Row B w v xs) (hok : Okb xs) : ∃ a c, v = .slice a xs.length c ∧ Sl w a xs.length c xs ∧ ∀ b, Refs (.slice a xs.length c) b → B ≤ b := by
  have hlt := World.ownsRow.lt h
  obtain ⟨a, c, e, h1, h2, h3, h4⟩ := h.byt hok
  refine ⟨a, c, e, ⟨rfl, hok, h1, h2, h3, h4⟩, fun b hr => ?_⟩
  obtain ⟨off, l, c', e', _⟩ := hr
  simp only [Value.slice.injEq] at e'
  obtain ⟨rfl, _, _⟩ := e'
  exact (hlt b (by rw [e]; rfl)).1
theorem hset_other (w : World) (g k b : Nat) (v : Value) (h : b ≠ g) : (w.setCell ⟨g, k, none⟩ v).heap[b]? = w.heap[b]? := by
  simp only [World.setCell]
  simp [Array.getElem?_modify, Ne.symm h]
theorem cell_set_other (w : World) (g k b j : Nat) (v : Value) (h : b ≠ g) : (w.setCell ⟨g, k, none⟩ v).cell? ⟨b, j, none⟩ = w.cell? ⟨b, j, none⟩ := World.cell?_of_block (w := w) (a := ⟨b, j, none⟩) (hset_other w g k b v h)
theorem set5_c {w : World} {g : Nat} {u0 u1 u2 u3 u4 : Value} (z0 : w.cell? ⟨g, 0, none⟩ = some u0) (z1 : w.cell? ⟨g, 1, none⟩ = some u1) (z2 : w.cell? ⟨g, 2, none⟩ = some u2) (z3 : w.cell? ⟨g, 3, none⟩ = some u3) (z4 : w.cell? ⟨g, 4, none⟩ = some u4) (v0 v1 v2 v3 v4 : Value) :
    (((((w.setCell ⟨g, 0, none⟩ v0).setCell ⟨g, 1, none⟩ v1).setCell ⟨g, 2, none⟩ v2).setCell ⟨g, 3, none⟩ v3).setCell ⟨g, 4, none⟩ v4).cell? ⟨g, 0, none⟩ = some v0 ∧ (((((w.setCell ⟨g, 0, none⟩ v0).setCell ⟨g, 1, none⟩ v1).setCell ⟨g, 2, none⟩ v2).setCell ⟨g, 3, none⟩ v3).setCell ⟨g, 4, none⟩ v4).cell? ⟨g, 1, none⟩ = some v1 ∧ (((((w.setCell ⟨g, 0, none⟩ v0).setCell ⟨g, 1, none⟩ v1).setCell ⟨g, 2, none⟩ v2).setCell ⟨g, 3, none⟩ v3).setCell ⟨g, 4, none⟩ v4).cell? ⟨g, 2, none⟩ = some v2 ∧ (((((w.setCell ⟨g, 0, none⟩ v0).setCell ⟨g, 1, none⟩ v1).setCell ⟨g, 2, none⟩ v2).setCell ⟨g, 3, none⟩ v3).setCell ⟨g, 4, none⟩ v4).cell? ⟨g, 3, none⟩ = some v3 ∧ (((((w.setCell ⟨g, 0, none⟩ v0).setCell ⟨g, 1, none⟩ v1).setCell ⟨g, 2, none⟩ v2).setCell ⟨g, 3, none⟩ v3).setCell ⟨g, 4, none⟩ v4).cell? ⟨g, 4, none⟩ = some v4 := by
  refine ⟨?_, ?_, ?_, ?_, ?_⟩
  · rw [hp_cso _ _ _ _ _ (by decide)]; rw [hp_cso _ _ _ _ _ (by decide)]; rw [hp_cso _ _ _ _ _ (by decide)]; rw [hp_cso _ _ _ _ _ (by decide)]; rw [hp_css _ _ _ _ (z0)]
  · rw [hp_cso _ _ _ _ _ (by decide)]; rw [hp_cso _ _ _ _ _ (by decide)]; rw [hp_cso _ _ _ _ _ (by decide)]; rw [hp_css _ _ _ _ ((hp_cso _ _ _ _ _ (by decide)).trans (z1))]
  · rw [hp_cso _ _ _ _ _ (by decide)]; rw [hp_cso _ _ _ _ _ (by decide)]; rw [hp_css _ _ _ _ ((hp_cso _ _ _ _ _ (by decide)).trans ((hp_cso _ _ _ _ _ (by decide)).trans (z2)))]
  · rw [hp_cso _ _ _ _ _ (by decide)]; rw [hp_css _ _ _ _ ((hp_cso _ _ _ _ _ (by decide)).trans ((hp_cso _ _ _ _ _ (by decide)).trans ((hp_cso _ _ _ _ _ (by decide)).trans (z3))))]
  · rw [hp_css _ _ _ _ ((hp_cso _ _ _ _ _ (by decide)).trans ((hp_cso _ _ _ _ _ (by decide)).trans ((hp_cso _ _ _ _ _ (by decide)).trans ((hp_cso _ _ _ _ _ (by decide)).trans (z4)))))]
theorem set5_far (w : World) (g : Nat) (v0 v1 v2 v3 v4 : Value) (b : Nat) (h : b ≠ g) : (((((w.setCell ⟨g, 0, none⟩ v0).setCell ⟨g, 1, none⟩ v1).setCell ⟨g, 2, none⟩ v2).setCell ⟨g, 3, none⟩ v3).setCell ⟨g, 4, none⟩ v4).heap[b]? = w.heap[b]? := by
  rw [hset_other _ _ _ _ _ h, hset_other _ _ _ _ _ h, hset_other _ _ _ _ _ h, hset_other _ _ _ _ _ h, hset_other _ _ _ _ _ h]
theorem set5_grown (w : World) (g : Nat) (v0 v1 v2 v3 v4 : Value) : w.grownBy (((((w.setCell ⟨g, 0, none⟩ v0).setCell ⟨g, 1, none⟩ v1).setCell ⟨g, 2, none⟩ v2).setCell ⟨g, 3, none⟩ v3).setCell ⟨g, 4, none⟩ v4) (some g) :=
  ((((hp_gset _ _ _ _).trans (hp_gset _ _ _ _)).trans (hp_gset _ _ _ _)).trans (hp_gset _ _ _ _)).trans (hp_gset _ _ _ _)
set_option maxHeartbeats 4000000 in
set_option maxRecDepth 100000 in
theorem copied_t {w : World} {ka va : Option Addr} {kc vc : Nat} {e : EntV} (hk : Sl w ka e.key.length kc e.key) (hv : Sl w va e.val.length vc e.val) (h1 : e.key.length ≤ 1000000) (h2 : e.val.length ≤ 1000000) :
    Calls Try.prog 30 #[entA ka kc va vc e] w fun r w' => ∃ ka' kc' va' vc', r = .returned (entA ka' kc' va' vc' e) ∧ Sl w' ka' e.key.length kc' e.key ∧ Sl w' va' e.val.length vc' e.val ∧ (∀ b, Refs (.slice ka' e.key.length kc') b → w.heap.size ≤ b) ∧ (∀ b, Refs (.slice va' e.val.length vc') b → w.heap.size ≤ b) ∧ Below w.heap.size w w' := by
  obtain ⟨key, seq, gone, till, vl⟩ := e
  unfold entA
  simp only at hk hv h1 h2 ⊢
  obtain ⟨L1, hL1⟩ : ∃ L, L = key.length := ⟨_, rfl⟩
  obtain ⟨L2, hL2⟩ : ∃ L, L = vl.length := ⟨_, rfl⟩
  rw [← hL1] at hk h1 ⊢
  rw [← hL2] at hv h2 ⊢
  obtain ⟨W0, hW0⟩ : ∃ W, W = w.alloc (.cells #[.slice ka L1 kc, .int .i64 seq, .bool gone, .int .i64 till, .slice va L2 vc] 35) := ⟨_, rfl⟩
  obtain ⟨W, hW⟩ : ∃ W, W = W0.alloc (.cells #[.slice none 0 0, .int .i64 0, .bool false, .int .i64 0, .slice none 0 0] 35) := ⟨_, rfl⟩
  have b0 : Below w.heap.size w W0 := by rw [hW0]; exact (Below.refl _ _).alloc (Nat.le_refl _) _
  have b1 : Below W0.heap.size W0 W := by rw [hW]; exact (Below.refl _ _).alloc (Nat.le_refl _) _
  have bW : Below w.heap.size w W := b0.trans (b1.mono b0.size)
  have s0 : W0.heap.size = w.heap.size + 1 := by rw [hW0]; simp
  have s1 : W.heap.size = w.heap.size + 1 + 1 := by rw [hW]; simp [s0]
  have HA : Hid (∀ wx, Below W.heap.size W wx → (wx.cell? ⟨w.heap.size, 0, none⟩ = some (.slice ka L1 kc) ∧ wx.cell? ⟨w.heap.size, 1, none⟩ = some (.int .i64 seq) ∧ wx.cell? ⟨w.heap.size, 2, none⟩ = some (.bool gone) ∧ wx.cell? ⟨w.heap.size, 3, none⟩ = some (.int .i64 till) ∧ wx.cell? ⟨w.heap.size, 4, none⟩ = some (.slice va L2 vc)) ∧ (∀ k, wx.frozen? ⟨w.heap.size, k, none⟩ = false) ∧ (∀ k, k < 5 → ∃ v, wx.cell? ⟨w.heap.size + 1, k, none⟩ = some v) ∧ (∀ k, wx.frozen? ⟨w.heap.size + 1, k, none⟩ = false)) := fun wx hb => by
    have e0 : wx.heap[w.heap.size]? = some (.cells #[.slice ka L1 kc, .int .i64 seq, .bool gone, .int .i64 till, .slice va L2 vc] 35) := by
      rw [hb.block _ (by omega), b1.block _ (by omega), hW0]; exact heap_alloc_new w _
    have e1 : wx.heap[w.heap.size + 1]? = some (.cells #[.slice none 0 0, .int .i64 0, .bool false, .int .i64 0, .slice none 0 0] 35) := by
      rw [hb.block _ (by omega), hW, ← s0]; exact heap_alloc_new W0 _
    refine ⟨⟨?_, ?_, ?_, ?_, ?_⟩, fun k => by simp [World.frozen?, e0], fun k hk => ?_, fun k => by simp [World.frozen?, e1]⟩
    iterate 5 (rw [cell_of e0]; rfl)
    rw [cell_of e1]
    have : k = 0 ∨ k = 1 ∨ k = 2 ∨ k = 3 ∨ k = 4 := by omega
    rcases this with rfl | rfl | rfl | rfl | rfl <;> exact ⟨_, rfl⟩
  have HC1 : Hid (∀ wx, Below W.heap.size W wx → Calls Try.prog 35 #[.slice ka L1 kc] wx fun e w' => ∃ a c, e = .returned (.slice a L1 c) ∧ Below wx.heap.size wx w' ∧ Below W.heap.size W w' ∧ Sl w' a L1 c key ∧ ∀ b, Refs (.slice a L1 c) b → W.heap.size ≤ b) := fun wx hb => by
    refine (clone_n (hk.later (bW.trans (hb.mono bW.size))) (by omega)).mono ?_
    rintro e w' ⟨v, rfl, hr, hb'⟩
    obtain ⟨a, c, rfl, q1, q2⟩ := refs_own hr hk.2.1
    rw [← hL1] at q1 q2 ⊢
    exact ⟨a, c, rfl, hb', hb.trans (hb'.mono hb.size), q1, fun b hr => Nat.le_trans hb.size (q2 b hr)⟩
  have HC2 : Hid (∀ wx, Below W.heap.size W wx → Calls Try.prog 35 #[.slice va L2 vc] wx fun e w' => ∃ a c, e = .returned (.slice a L2 c) ∧ Below wx.heap.size wx w' ∧ Below W.heap.size W w' ∧ Sl w' a L2 c vl ∧ ∀ b, Refs (.slice a L2 c) b → W.heap.size ≤ b) := fun wx hb => by
    refine (clone_n (hv.later (bW.trans (hb.mono bW.size))) (by omega)).mono ?_
    rintro e w' ⟨v, rfl, hr, hb'⟩
    obtain ⟨a, c, rfl, q1, q2⟩ := refs_own hr hv.2.1
    rw [← hL2] at q1 q2 ⊢
    exact ⟨a, c, rfl, hb', hb.trans (hb'.mono hb.size), q1, fun b hr => Nat.le_trans hb.size (q2 b hr)⟩
  have HB := hidM (And.intro bW s1)
  have HW : Hid (W = (w.alloc (.cells #[.slice ka L1 kc, .int .i64 seq, .bool gone, .int .i64 till, .slice va L2 vc] 35)).alloc (.cells #[.slice none 0 0, .int .i64 0, .bool false, .int .i64 0, .slice none 0 0] 35)) := by show _ = _; rw [hW, hW0]
  have HLL := hidM (And.intro hL1 hL2)
  clear hk hv h1 h2 hL1 hL2 b0 b1 bW s0 s1 hW hW0
  go_enter Try.func30, Try.ntmps30
  go_wp2_with fail
  rw [← HW.out]
  obtain ⟨⟨x0, x1, x2, x3, x4⟩, x5, -, -⟩ := HA.out W.drew ((Below.refl _ W).drew)
  generalize hP : w.heap.size = P at x0 x1 x2 x3 x4 x5 ⊢
  have HP := hidM hP
  clear hP
  go_region_law (first | (refine step_fn 35 (args := #[.slice ka L1 kc]) rfl rfl (by simp [Act.eval]) (by kernel_rfl) (HC1.out _ ((Below.refl _ W).drew)) ?_; rintro e w2 ⟨a1, c1, rfl, hb12, hb2, hs1, hr1⟩; obtain ⟨⟨y0, y1, y2, y3, y4⟩, y5, -, -⟩ := HA.out _ hb2; rw [HP.out] at y0 y1 y2 y3 y4 y5; refine ⟨_, rfl, ?_⟩) | (refine step_fn 35 (args := #[.slice va L2 vc]) rfl rfl (by simp [Act.eval, Act.put]) (by kernel_rfl) (HC2.out _ hb2) ?_; rintro e w3 ⟨a2, c2, rfl, hb23, hb3, hs2, hr2⟩; obtain ⟨⟨z0, z1, z2, z3, z4⟩, z5, z6, z7⟩ := HA.out _ hb3; rw [HP.out] at z0 z1 z2 z3 z4 z5 z6 z7; refine ⟨_, rfl, ?_⟩))
  all_goals
    clear x0 x1 x2 x3 x4 x5 y0 y1 y2 y3 y4 y5
    have hs1' := hs1.later hb23
    have HE : Hid (Sl w3 a1 L1 c1 key ∧ Sl w3 a2 L2 c2 vl ∧ (∀ b, Refs (.slice a1 L1 c1) b → W.heap.size ≤ b) ∧ (∀ b, Refs (.slice a2 L2 c2) b → W.heap.size ≤ b) ∧ Below W.heap.size W w3) := ⟨hs1', hs2, hr1, hr2, hb3⟩
    obtain ⟨v0, u0⟩ := z6 0 (by omega)
    obtain ⟨v1, u1⟩ := z6 1 (by omega)
    obtain ⟨v2, u2⟩ := z6 2 (by omega)
    obtain ⟨v3, u3⟩ := z6 3 (by omega)
    obtain ⟨v4, u4⟩ := z6 4 (by omega)
    obtain ⟨w9, hw9⟩ : ∃ x, x = (w3.setCell ⟨P, 0, none⟩ (.slice a1 L1 c1)).setCell ⟨P, 4, none⟩ (.slice a2 L2 c2) := ⟨_, rfl⟩
    have t0 : w9.cell? ⟨P, 0, none⟩ = some (.slice a1 L1 c1) := by rw [hw9, hp_cso _ _ _ _ _ (by omega), hp_css _ _ _ _ z0]
    have t1 : w9.cell? ⟨P, 1, none⟩ = some (.int .i64 seq) := by rw [hw9, hp_cso _ _ _ _ _ (by omega), hp_cso _ _ _ _ _ (by omega), z1]
    have t2 : w9.cell? ⟨P, 2, none⟩ = some (.bool gone) := by rw [hw9, hp_cso _ _ _ _ _ (by omega), hp_cso _ _ _ _ _ (by omega), z2]
    have t3 : w9.cell? ⟨P, 3, none⟩ = some (.int .i64 till) := by rw [hw9, hp_cso _ _ _ _ _ (by omega), hp_cso _ _ _ _ _ (by omega), z3]
    have t4 : w9.cell? ⟨P, 4, none⟩ = some (.slice a2 L2 c2) := by rw [hw9, hp_css _ _ _ _ ((hp_cso _ _ _ _ _ (by omega)).trans z4)]
    have hne : P + 1 ≠ P := by omega
    have r0 : w9.cell? ⟨P + 1, 0, none⟩ = some v0 := by rw [hw9, cell_set_other _ _ _ _ _ _ hne, cell_set_other _ _ _ _ _ _ hne, u0]
    have r1 : w9.cell? ⟨P + 1, 1, none⟩ = some v1 := by rw [hw9, cell_set_other _ _ _ _ _ _ hne, cell_set_other _ _ _ _ _ _ hne, u1]
    have r2 : w9.cell? ⟨P + 1, 2, none⟩ = some v2 := by rw [hw9, cell_set_other _ _ _ _ _ _ hne, cell_set_other _ _ _ _ _ _ hne, u2]
    have r3 : w9.cell? ⟨P + 1, 3, none⟩ = some v3 := by rw [hw9, cell_set_other _ _ _ _ _ _ hne, cell_set_other _ _ _ _ _ _ hne, u3]
    have r4 : w9.cell? ⟨P + 1, 4, none⟩ = some v4 := by rw [hw9, cell_set_other _ _ _ _ _ _ hne, cell_set_other _ _ _ _ _ _ hne, u4]
    have rf : ∀ k, w9.frozen? ⟨P + 1, k, none⟩ = false := fun k => by rw [hw9, World.frozen?_setCell, World.frozen?_setCell]; exact z7 k
    have f0 := rf 0
    have f1 := rf 1
    have f2 := rf 2
    have f3 := rf 3
    have f4 := rf 4
    have H9 : Hid (Sl w9 a1 L1 c1 key ∧ Sl w9 a2 L2 c2 vl ∧ Below w.heap.size w w9 ∧ P + 2 ≤ w9.heap.size) := by
      have hk : ∀ b, W.heap.size ≤ b → w9.heap[b]? = w3.heap[b]? := fun b hb => by
        have := HB.out.2
        have := HP.out
        rw [hw9, hset_other _ _ _ _ _ (by omega), hset_other _ _ _ _ _ (by omega)]
      refine ⟨HE.out.1.keep fun b hr => hk b (HE.out.2.2.1 b hr), HE.out.2.1.keep fun b hr => hk b (HE.out.2.2.2.1 b hr), ?_, ?_⟩
      · have q := HB.out.1.trans (HE.out.2.2.2.2.mono HB.out.1.size)
        rw [hw9]
        exact (q.grown (hp_gset w3 P 0 (.slice a1 L1 c1)) q.size (fun z hz => by have := HP.out; simp only [Option.some.injEq] at hz; omega)).grown (hp_gset _ P 4 (.slice a2 L2 c2)) (by simp; exact q.size) (fun z hz => by have := HP.out; simp only [Option.some.injEq] at hz; omega)
      · have q := HE.out.2.2.2.2.size
        have := HB.out.2
        have := HP.out
        rw [hw9]
        simp
        omega
    rw [← hw9]
    clear hs1 hs2 hr1 hr2 hb12 hb23 hb2 hb3 hs1' z0 z1 z2 z3 z4 z5 z6 z7 u0 u1 u2 u3 u4 rf hw9
    go_wp2_with fail
    obtain ⟨q0, q1, q2, q3, q4⟩ := set5_c r0 r1 r2 r3 r4 (.slice a1 L1 c1) (.int .i64 seq) (.bool gone) (.int .i64 till) (.slice a2 L2 c2)
    have hf := set5_far w9 (P + 1) (.slice a1 L1 c1) (.int .i64 seq) (.bool gone) (.int .i64 till) (.slice a2 L2 c2)
    have hg := set5_grown w9 (P + 1) (.slice a1 L1 c1) (.int .i64 seq) (.bool gone) (.int .i64 till) (.slice a2 L2 c2)
    generalize (((((w9.setCell ⟨P + 1, 0, none⟩ (.slice a1 L1 c1)).setCell ⟨P + 1, 1, none⟩ (.int .i64 seq)).setCell ⟨P + 1, 2, none⟩ (.bool gone)).setCell ⟨P + 1, 3, none⟩ (.int .i64 till)).setCell ⟨P + 1, 4, none⟩ (.slice a2 L2 c2)) = X at q0 q1 q2 q3 q4 hf hg ⊢
    have hs := HB.out.2
    have hp := HP.out
    refine bodyPost_ret (v := .agg #[.slice a1 L1 c1, .int .i64 seq, .bool gone, .int .i64 till, .slice a2 L2 c2]) (by simp [results, Try.results30, go_sem, q0, q1, q2, q3, q4]) rfl ⟨a1, c1, a2, c2, rfl, H9.out.1.keep fun b hr => hf b (by have := HE.out.2.2.1 b hr; omega), H9.out.2.1.keep fun b hr => hf b (by have := HE.out.2.2.2.1 b hr; omega), fun b hr => by have := HE.out.2.2.1 b hr; omega, fun b hr => by have := HE.out.2.2.2.1 b hr; omega, ?_⟩
    exact H9.out.2.2.1.grown hg H9.out.2.2.1.size (fun z hz => by simp only [Option.some.injEq] at hz; omega)
end Go.Proofs.Ytnoackenjfpcmaa

/- The landed merge: what is known while rows are put together. -/
namespace Go.Proofs.Ytnoackenjfpcmaa
open Go.RowKit
set_option linter.unusedVariables false
set_option linter.unusedSimpArgs false

theorem elem66 : Try.prog.elem 66 = 70 := by kernel_rfl
theorem under66 : Try.prog.underlying 66 = some (.slice (Try.prog.elem 66)) := by rw [elem66]; exact Try.underlying66
theorem run_headH (w : World) (g len cap j : Nat) (h2 : j ≤ cap) : (Instr.slice 66 (.slice (some ⟨g, 0, none⟩) len cap) none (some (.int .i64 (j : Int))) none).run Try.prog w = .ok (.slice (some ⟨g, 0, none⟩) j cap) w := by
  rw [run_slice_h (P := Try.prog) (w := w) 66 (some ⟨g, 0, none⟩) len cap under66 .i64 (j : Int) (by omega) (by omega), elem66, Try.sizeOf70]
  simp only [Result.andThen, Int.toNat_natCast]
  unfold sliced
  rw [Nat.zero_mul, Nat.sub_zero, Nat.sub_zero]
  simp [Addr.add_lit]
theorem RS.tailE {w : World} {ao : Option Addr} {len cap : Nat} {l : List EntV} (h : RS entE w ao len cap l) (hi : 1 ≤ len) : RS entE w (cutS ao cap 1 5) (len - 1) (cap - 1) (l.drop 1) := by
  have := (RSG.any h).cut (by decide) 1 len hi (Nat.le_refl _)
  have e : (l.drop 1).take (len - 1) = l.drop 1 := List.take_of_length_le (by rw [List.length_drop, h.len.1]; exact Nat.le_refl _)
  rw [e] at this
  exact this.rs
/-- The last one comes to the top: what is left of the others. -/
theorem last_turn {x' y : HpV} {H2 : List HpV} {N : Nat} (hN : (x' :: H2).length = N) (hy : (x' :: H2)[N - 1]? = some y) :
    (((x' :: H2).set 0 y).take (N - 1)).Perm H2 ∧ (∀ i, 0 < i → i < (((x' :: H2).set 0 y).take (N - 1)).length → (((x' :: H2).set 0 y).take (N - 1))[i]? = (x' :: H2)[i]?) := by
  cases H2 with
  | nil =>
    simp at hN
    subst hN
    exact ⟨List.Perm.refl _, fun i h0 hi => by simp at hi⟩
  | cons a r =>
    have hN' : N = r.length + 2 := by simpa using hN.symm
    subst hN'
    have hy' : (a :: r)[r.length]? = some y := by simpa using hy
    have e1 : (a :: r) = (a :: r).take r.length ++ [y] := by
      have h := List.take_add_one (l := a :: r) (i := r.length)
      rw [hy', List.take_of_length_le (by simp)] at h
      exact h
    have e2 : ((x' :: a :: r).set 0 y).take (r.length + 2 - 1) = y :: (a :: r).take r.length := rfl
    rw [e2]
    refine ⟨?_, fun i h0 hi => ?_⟩
    · conv => rhs; rw [e1]
      exact (List.perm_append_singleton y _).symm
    · obtain ⟨j, rfl⟩ : ∃ j, i = j + 1 := ⟨i - 1, by omega⟩
      rw [List.getElem?_cons_succ, List.getElem?_cons_succ, List.getElem?_take]
      simp at hi
      rw [if_pos (by omega)]
theorem HpAt.take {w : World} {g : Nat} {H : List HpV} (h : HpAt w g H) (n : Nat) : HpAt w g (H.take n) := fun i x hx => by
  rw [List.getElem?_take] at hx
  split at hx
  · exact h i x hx
  · cases hx
theorem HpAt.set0 {w : World} {g : Nat} {H : List HpV} {x : HpV} (h : HpAt w g H) (hx : H[0]? = some x) (l : List EntV) (la : Option Addr) (lc : Nat) :
    HpAt (w.setCell ⟨g, 0, none⟩ (.slice la l.length lc)) g (H.set 0 ⟨l, x.row, la, lc⟩) := fun j z hz => by
  have hil := (List.getElem?_eq_some_iff.1 hx).1
  simp only [World.frozen?_setCell]
  have q := h 0 x hx
  rw [Nat.zero_mul] at q
  by_cases e : j = 0
  · subst e
    rw [List.getElem?_set_self hil] at hz
    obtain rfl := by simpa using hz
    rw [Nat.zero_mul]
    refine ⟨⟨?_, ?_⟩, q.2⟩
    · rw [hp_css _ _ _ _ q.1.1]
    · rw [hp_cso _ _ _ _ _ (by omega)]; exact q.1.2
  · rw [List.getElem?_set_ne (fun e' => e e'.symm)] at hz
    have p := h j z hz
    refine ⟨⟨?_, ?_⟩, p.2⟩
    · rw [hp_cso _ _ _ _ _ (by omega)]; exact p.1.1
    · rw [hp_cso _ _ _ _ _ (by omega)]; exact p.1.2
theorem HpAt.grown {w w' : World} {g : Nat} {r : Option Nat} {H : List HpV} (h : HpAt w g H) (hg : g < w.heap.size) (hb : w.grownBy w' r) (hne : some g ≠ r) : HpAt w' g H := fun i x hx => by
  obtain ⟨⟨h0, h1⟩, h2, h3⟩ := h i x hx
  refine ⟨⟨hb.cell h0 hne, hb.cell h1 hne⟩, ?_, ?_⟩
  · simp only [World.frozen?] at h2 ⊢; rw [hb.block _ hg hne]; exact h2
  · simp only [World.frozen?] at h3 ⊢; rw [hb.block _ hg hne]; exact h3
structure MG (w : World) (rs : List (List EntV)) (g : Nat) (wr : World) (v : Value) (dn : List EntV) (H : List HpV) : Prop where
  row : RowF entE w.heap.size (fun b => w.heap.size ≤ b ∧ b ≠ g) wr v dn
  ne : v.ownBlock ≠ some g
  hp : HpF H
  its : HpIts w H
  ord : ∀ x ∈ H, ordE x.l
  sml : ∀ x ∈ H, ∀ e ∈ x.l, e.key.length ≤ 1000000 ∧ e.val.length ≤ 1000000
  res : ∃ R : List (EntV × Nat), R.Pairwise tlt ∧ R.Perm (flatH H) ∧ dn ++ R.map (·.1) = mrgE rs
  bel : Below w.heap.size w wr
  len : H.length ≤ 64
theorem MG.end {w : World} {rs : List (List EntV)} {g : Nat} {wr : World} {v : Value} {dn : List EntV} (h : MG w rs g wr v dn []) : dn = mrgE rs := by
  obtain ⟨R, _, p, e⟩ := h.res
  have : R = [] := List.Perm.eq_nil p
  rw [this, List.map_nil, List.append_nil] at e
  exact e
theorem MG.cnt {w : World} {rs : List (List EntV)} {g : Nat} {wr : World} {v : Value} {dn : List EntV} {x : HpV} {H : List HpV} (h : MG w rs g wr v dn (x :: H)) : dn.length + x.l.length ≤ (rs.map List.length).sum := by
  obtain ⟨R, _, p, e⟩ := h.res
  have h1 := congrArg List.length e
  rw [List.length_append, List.length_map, mrgE_len, p.length_eq, flatH_cons, List.length_append, List.length_map] at h1
  omega
/-- What is appended. -/
theorem MG.app {w : World} {rs : List (List EntV)} {g : Nat} {wr w5 : World} {v : Value} {dn : List EntV} {H : List HpV} (h : MG w rs g wr v dn H) (hg : g < wr.heap.size) {ka va : Option Addr} {kc vc : Nat} {e : EntV} (i1 : In64 e.seq) (i2 : In64 e.till)
    (h5 : Sl w5 ka e.key.length kc e.key ∧ Sl w5 va e.val.length vc e.val ∧ (∀ b, Refs (.slice ka e.key.length kc) b → wr.heap.size ≤ b) ∧ (∀ b, Refs (.slice va e.val.length vc) b → wr.heap.size ≤ b) ∧ Below wr.heap.size wr w5) :
    RowF entE w.heap.size (fun b => w.heap.size ≤ b ∧ b ≠ g) (w5.alloc (.cells #[.slice ka e.key.length kc, .int .i64 e.seq, .bool e.gone, .int .i64 e.till, .slice va e.val.length vc] 35)) v dn ∧
    RSu entE (w5.alloc (.cells #[.slice ka e.key.length kc, .int .i64 e.seq, .bool e.gone, .int .i64 e.till, .slice va e.val.length vc] 35)) (some ⟨w5.heap.size, 0, none⟩) 1 1 [.slice ka e.key.length kc, .int .i64 e.seq, .bool e.gone, .int .i64 e.till, .slice va e.val.length vc] [e] ∧
    (∀ u ∈ [Value.slice ka e.key.length kc, .int .i64 e.seq, .bool e.gone, .int .i64 e.till, .slice va e.val.length vc], ∀ b, Refs u b → v.ownBlock ≠ some b) ∧
    (∀ u ∈ [Value.slice ka e.key.length kc, .int .i64 e.seq, .bool e.gone, .int .i64 e.till, .slice va e.val.length vc], ∀ b, Refs u b → w.heap.size ≤ b ∧ b ≠ g) ∧
    Below wr.heap.size wr (w5.alloc (.cells #[.slice ka e.key.length kc, .int .i64 e.seq, .bool e.gone, .int .i64 e.till, .slice va e.val.length vc] 35)) := by
  obtain ⟨s1, s2, r1, r2, hb⟩ := h5
  have hb6 : Below wr.heap.size wr (w5.alloc (.cells #[.slice ka e.key.length kc, .int .i64 e.seq, .bool e.gone, .int .i64 e.till, .slice va e.val.length vc] 35)) := hb.alloc hb.size _
  have hR : ∀ u ∈ [Value.slice ka e.key.length kc, .int .i64 e.seq, .bool e.gone, .int .i64 e.till, .slice va e.val.length vc], ∀ b, Refs u b → wr.heap.size ≤ b := fun u hu b hr => by
    simp only [List.mem_cons, List.not_mem_nil, or_false] at hu
    rcases hu with rfl | rfl | rfl | rfl | rfl
    · exact r1 b hr
    · exact (refs_int hr).elim
    · exact (refs_bool hr).elim
    · exact (refs_int hr).elim
    · exact r2 b hr
  refine ⟨h.row.later hb6, rs_one (E := entE) ⟨ka, kc, va, vc, rfl, s1, s2, i1, i2⟩, fun u hu b hr e => ?_, fun u hu b hr => ?_, hb6⟩
  · have h1 := hR u hu b hr
    have h2 := (h.row.own_lt e).2
    omega
  · have h1 := hR u hu b hr
    have h2 := h.bel.size
    exact ⟨by omega, by omega⟩
/-- Behind the append. -/
theorem MG.put {w : World} {rs : List (List EntV)} {g : Nat} {wr w6 w9 : World} {v v9 : Value} {dn dn9 : List EntV} {H : List HpV} (h : MG w rs g wr v dn H) (hg : g < wr.heap.size) (hat : HpAt wr g H) (hwg : w.heap.size ≤ g) (hb : Below wr.heap.size wr w6) (r9 : RowF entE w.heap.size (fun b => w.heap.size ≤ b ∧ b ≠ g) w9 v9 dn9) (g9 : w6.grownBy w9 v.ownBlock) (m9 : Moved w6 v v9) :
    HpAt w9 g H ∧ v9.ownBlock ≠ some g ∧ Below w.heap.size w w9 ∧ g < w9.heap.size := by
  have hg6 : g < w6.heap.size := Nat.lt_of_lt_of_le hg hb.size
  refine ⟨(hat.later hg hb).grown hg6 g9 (fun e => h.ne e.symm), ?_, ?_, Nat.lt_of_lt_of_le hg6 g9.size⟩
  · rcases m9 with q | ⟨z, q1, q2⟩
    · rw [q]; exact h.ne
    · rw [q1]; intro e; simp only [Option.some.injEq] at e; omega
  · have hbw := h.bel.trans (hb.mono h.bel.size)
    exact hbw.grown g9 hbw.size fun z hz => (h.row.own_lt hz).1
/-- A step: with what is left of the others let down. -/
theorem MG.next {w : World} {rs : List (List EntV)} {g : Nat} {wr w9 wy : World} {v v9 : Value} {dn : List EntV} {x : HpV} {H2 H3 H4 : List HpV} {e : EntV} {q : List EntV} (h : MG w rs g wr v dn (x :: H2)) (hl : x.l = e :: q) (hp3 : (flatH H3).Perm ((q.map fun z => (z, x.row)) ++ flatH H2)) (hi3 : HpIts w H3) (ho3 : ∀ y ∈ H3, ordE y.l) (hs3 : ∀ y ∈ H3, ∀ z ∈ y.l, z.key.length ≤ 1000000 ∧ z.val.length ≤ 1000000) (hl3 : H3.length ≤ 64)
    (hp4 : H4.Perm H3) (hf4 : HpF H4) (r9 : RowF entE w.heap.size (fun b => w.heap.size ≤ b ∧ b ≠ g) w9 v9 (dn ++ [e])) (hne : v9.ownBlock ≠ some g) (hb : Below w.heap.size w w9) (hwg : w.heap.size ≤ g) (hgy : w9.grownBy wy (some g)) : MG w rs g wy v9 (dn ++ [e]) H4 := by
  obtain ⟨R, hR, hp, he⟩ := h.res
  obtain ⟨R', rfl, hR', hp'⟩ := flatH_step h.hp h.ord (x := x) (e := e) (q := q) rfl hl hR hp
  refine ⟨r9.grown hgy (fun b hv e' => hne (by rw [hv]; exact e')) (fun b hF e' => hF.2 (by simpa using e')), hne, hf4, hi3.perm hp4, fun y hy => ho3 y (hp4.mem_iff.1 hy), fun y hy => hs3 y (hp4.mem_iff.1 hy), ⟨R', hR', hp'.trans (hp3.symm.trans (flatH_perm hp4.symm)), ?_⟩, hb.grown hgy hb.size (fun z hz => by simp only [Option.some.injEq] at hz; omega), by rw [hp4.length_eq]; exact hl3⟩
  rw [List.append_assoc]
  exact he
end Go.Proofs.Ytnoackenjfpcmaa

/- The landed merge: rows are put together. -/
namespace Go.Proofs.Ytnoackenjfpcmaa
open Go.RowKit
set_option linter.unusedVariables false
set_option linter.unusedSimpArgs false

def slen (v : Value) : Nat := match v with | .slice _ n _ => n | _ => 0
theorem slen_mk (a : Option Addr) (n c : Nat) : slen (.slice a n c) = n := rfl
theorem RowF.isl {α : Type} {E : El α} {B : Nat} {F : Nat → Prop} {w : World} {v : Value} {xs : List α} (h : RowF E B F w v xs) : ∃ a c, v = .slice a xs.length c := by
  obtain ⟨a, c, e, _⟩ := h.rsg
  exact ⟨a, c, e⟩
theorem mk_below {w w' : World} (h : w.grownBy w' none) : Below w.heap.size w w' := ⟨h.os, h.tape, h.output, h.size, fun k hk => h.block k hk (by simp)⟩
set_option maxHeartbeats 8000000 in
set_option maxRecDepth 100000 in
theorem merged_t {w : World} {ao : Option Addr} {n cap tot : Nat} {rs : List (List EntV)} (h : ErRow w ao n cap rs) (hn : n ≤ 64) (ho : ∀ l ∈ rs, ordE l) (ht : (rs.map List.length).sum = tot) (ht2 : tot ≤ 40000) (hs : ∀ l ∈ rs, ∀ e ∈ l, e.key.length ≤ 1000000 ∧ e.val.length ≤ 1000000) :
    Calls Try.prog 26 #[.slice ao n cap, .int .i64 (tot : Int)] w fun r w' => ∃ v, r = .returned v ∧ RowS entE w.heap.size w' v (mrgE rs) ∧ Below w.heap.size w w' := by
  have H0 := hidM h
  have HS : Hid ((∀ l ∈ rs, ordE l) ∧ (rs.map List.length).sum = tot ∧ tot ≤ 40000 ∧ (∀ l ∈ rs, ∀ e ∈ l, e.key.length ≤ 1000000 ∧ e.val.length ≤ 1000000) ∧ n ≤ 64) := ⟨ho, ht, ht2, hs, hn⟩
  have mixed : Try.prog.follows .mixedOrders = true := by kernel_rfl
  have ht3 : tot ≤ 2 ^ 20 := by omega
  obtain ⟨i0, hi0, hz0, hs0, hb0⟩ := info_parts entE_info
  have HI : Hid (Try.prog.info? 35 = some i0 ∧ i0.size = 5 ∧ i0.bytes * tot ≤ 281474976710656) := ⟨hi0, hs0, by rw [hb0]; omega⟩
  have HZ := hidM hz0
  clear h hn ho ht ht2 hs hi0 hz0 hs0 hb0
  go_enter Try.func26, Try.ntmps26
  go_wp2_with fail
  refine scope_back 0 (fun a' wr => ∃ (g : Nat) (v : Value) (ha : Option Addr) (hc N : Nat) (dn : List EntV) (H : List HpV), Hid (MG w rs g wr v dn H ∧ H.length = N ∧ N ≤ hc ∧ hc ≤ maxLen ∧ (H ≠ [] → ha = some ⟨g, 0, none⟩ ∧ w.heap.size ≤ g ∧ g < wr.heap.size ∧ HpAt wr g H)) ∧ ∃ (u2 u3 u4 u7 u8 u9 u10 u11 u12 u13 u14 u15 u16 u17 u18 u19 u20 u21 u22 u23 u24 u25 u26 u27 u28 u29 u30 u31 u32 u33 u34 u35 u36 u37 u38 u39 u40 u41 u42 u43 u44 u45 u46 u47 u48 u49 u50 u51 u52 u53 u54 u55 u56 : Value), a' = { tmps := #[.slice ao n cap, .int .i64 (tot : Int), u2, u3, u4, v, .slice ha N hc, u7, u8, u9, u10, u11, u12, u13, u14, u15, u16, u17, u18, u19, u20, u21, u22, u23, u24, u25, u26, u27, u28, u29, u30, u31, u32, u33, u34, u35, u36, u37, u38, u39, u40, u41, u42, u43, u44, u45, u46, u47, u48, u49, u50, u51, u52, u53, u54, u55, u56], defers := [] }) (fun a _ => tot - slen (a.eval (.tmp 5))) rfl ?_ ?_
  rotate_left
  · intro pass
    go_wp2_with (first | (at_make; refine wpList_make_own w rfl (.const _) (.tmp 8) 27 rfl w.heap.size 35 i0 _ 5 Try.underlying27 HI.out.1 HZ.out HI.out.2.1 .i64 .i64 _ tot rfl rfl rfl HI.out.2.2 (by unfold maxLen; omega) (Nat.le_refl _) ?_; intro w1 hown hg1; have HO : Hid (w1.ownsRow w.heap.size 35 5 (.slice (some ⟨w.heap.size, 0, none⟩) 0 tot) 0 [] ∧ Below w.heap.size w w1) := ⟨hown, mk_below hg1⟩; clear hown hg1) | (go_at_call 32; refine (heaped_t H0.out HO.out.2 HS.out.2.2.2.2).mono ?_; rintro r w2 ⟨its, ha, hc, rfl, hh⟩; have HH := hidM hh; clear hh))
    refine wp_label ?_
    rename_i hk
    refine hk _ _ ?_
    obtain ⟨h1, h2, h3, h4, h5, h6, h7, h8, h9⟩ := HH.out
    have hv : w.heap.size < w1.heap.size := (World.ownsRow.lt HO.out.1 w.heap.size rfl).2
    have hmg : ∀ g, g ≠ w.heap.size → MG w rs g w2 (.slice (some ⟨w.heap.size, 0, none⟩) 0 tot) [] its := fun g hg => by
      refine ⟨RowF.later (w := w1) ⟨[], HO.out.1, rfl, (fun u hu => by cases hu), fun u hu => by cases hu⟩ h6, fun e => hg (by simpa [Value.ownBlock] using e.symm), h3, h4, fun x hx => HS.out.1 _ (h8 x hx), fun x hx => HS.out.2.2.2.1 _ (h8 x hx), ⟨mrgT rs, mrgT_srt HS.out.1, (mrgT_perm rs).trans h5.symm, rfl⟩, HO.out.2.trans (h6.mono HO.out.2.size), h7⟩
    by_cases hi : its = []
    · exact pass _ _ ⟨w.heap.size + 1, _, ha, hc, its.length, [], its, ⟨hmg _ (by omega), rfl, h1, h2, fun q => absurd hi q⟩, _, _, _, _, _, _, _, _, _, _, _, _, _, _, _, _, _, _, _, _, _, _, _, _, _, _, _, _, _, _, _, _, _, _, _, _, _, _, _, _, _, _, _, _, _, _, _, _, _, _, _, _, _, rfl⟩
    · obtain ⟨g, q1, q2, q3, q4⟩ := h9 hi
      exact pass _ _ ⟨g, _, ha, hc, its.length, [], its, ⟨hmg g (by omega), rfl, h1, h2, fun _ => ⟨q1, by omega, q3, q4⟩⟩, _, _, _, _, _, _, _, _, _, _, _, _, _, _, _, _, _, _, _, _, _, _, _, _, _, _, _, _, _, _, _, _, _, _, _, _, _, _, _, _, _, _, _, _, _, _, _, _, _, _, _, _, _, rfl⟩
  · rintro a1 wr ⟨g, v, ha, hc, N, dn, H, HK, u2, u3, u4, u7, u8, u9, u10, u11, u12, u13, u14, u15, u16, u17, u18, u19, u20, u21, u22, u23, u24, u25, u26, u27, u28, u29, u30, u31, u32, u33, u34, u35, u36, u37, u38, u39, u40, u41, u42, u43, u44, u45, u46, u47, u48, u49, u50, u51, u52, u53, u54, u55, u56, rfl⟩
    obtain ⟨oa, oc, hv⟩ := HK.out.1.row.isl
    obtain ⟨dl, hdl⟩ : ∃ d, d = dn.length := ⟨_, rfl⟩
    rw [← hdl] at hv
    subst hv
    have HDL := hidM hdl
    clear hdl
    by_cases hH : H = []
    · subst hH
      have hN : N = 0 := HK.out.2.1.symm
      subst hN
      go_wp2_with fail
      simp only [Exit.jump]
      refine bodyPost_ret (v := .slice oa dl oc) (by simp [results, Try.results26, go_sem]) rfl ⟨_, rfl, ?_, HK.out.1.bel⟩
      have := HK.out.1.row.s
      rwa [HK.out.1.end] at this
    · obtain ⟨x, H2, rfl⟩ : ∃ x H2, H = x :: H2 := by cases H with | nil => exact absurd rfl hH | cons x H2 => exact ⟨x, H2, rfl⟩
      obtain ⟨rfl, hwg, hgr, hat⟩ := HK.out.2.2.2.2 hH
      obtain ⟨m, rfl⟩ : ∃ m, N = m + 1 := ⟨H2.length, HK.out.2.1.symm⟩
      have hx := HK.out.1.its x (List.mem_cons_self ..)
      obtain ⟨e, q, hl⟩ : ∃ e q, x.l = e :: q := by cases hxl : x.l with | nil => exact absurd hxl hx.2 | cons e q => exact ⟨e, q, rfl⟩
      obtain ⟨b, off, ka, kc, va, vc, hxa, d0, d1, d2, d3, d4, s1, s2, i1, i2⟩ := RS.ent (hx.1.1.later HK.out.1.bel) (i := 0) (o := e) (by rw [hl]; rfl)
      rw [Nat.zero_mul, Nat.add_zero] at d0 d1 d2 d3 d4
      have hsm := HK.out.1.sml x (List.mem_cons_self ..) e (by rw [hl]; exact List.mem_cons_self ..)
      have HCP : Hid (Calls Try.prog 30 #[.agg #[.slice ka e.key.length kc, .int .i64 e.seq, .bool e.gone, .int .i64 e.till, .slice va e.val.length vc]] wr fun r w' => ∃ ka' kc' va' vc', r = .returned (.agg #[.slice ka' e.key.length kc', .int .i64 e.seq, .bool e.gone, .int .i64 e.till, .slice va' e.val.length vc']) ∧ Sl w' ka' e.key.length kc' e.key ∧ Sl w' va' e.val.length vc' e.val ∧ (∀ b, Refs (.slice ka' e.key.length kc') b → wr.heap.size ≤ b) ∧ (∀ b, Refs (.slice va' e.val.length vc') b → wr.heap.size ≤ b) ∧ Below wr.heap.size wr w') := by
        have := copied_t s1 s2 hsm.1 hsm.2
        unfold entA at this
        exact this
      have HAPP : Hid (∀ w5 ka va kc vc, (Sl w5 ka e.key.length kc e.key ∧ Sl w5 va e.val.length vc e.val ∧ (∀ b, Refs (.slice ka e.key.length kc) b → wr.heap.size ≤ b) ∧ (∀ b, Refs (.slice va e.val.length vc) b → wr.heap.size ≤ b) ∧ Below wr.heap.size wr w5) →
          RowF entE w.heap.size (fun b => w.heap.size ≤ b ∧ b ≠ g) (w5.alloc (.cells #[.slice ka e.key.length kc, .int .i64 e.seq, .bool e.gone, .int .i64 e.till, .slice va e.val.length vc] 35)) (.slice oa dl oc) dn ∧
          RSu entE (w5.alloc (.cells #[.slice ka e.key.length kc, .int .i64 e.seq, .bool e.gone, .int .i64 e.till, .slice va e.val.length vc] 35)) (some ⟨w5.heap.size, 0, none⟩) 1 1 [.slice ka e.key.length kc, .int .i64 e.seq, .bool e.gone, .int .i64 e.till, .slice va e.val.length vc] [e] ∧
          (∀ u ∈ [Value.slice ka e.key.length kc, .int .i64 e.seq, .bool e.gone, .int .i64 e.till, .slice va e.val.length vc], ∀ b, Refs u b → (Value.slice oa dl oc).ownBlock ≠ some b) ∧
          (∀ u ∈ [Value.slice ka e.key.length kc, .int .i64 e.seq, .bool e.gone, .int .i64 e.till, .slice va e.val.length vc], ∀ b, Refs u b → w.heap.size ≤ b ∧ b ≠ g) ∧
          Below wr.heap.size wr (w5.alloc (.cells #[.slice ka e.key.length kc, .int .i64 e.seq, .bool e.gone, .int .i64 e.till, .slice va e.val.length vc] 35))) := fun w5 ka va kc vc h5 => HK.out.1.app hgr i1 i2 h5
      have HCT : Hid (dn.length + 1 ≤ tot ∧ tot ≤ 40000 ∧ w.heap.size ≤ wr.heap.size ∧ m ≤ 63 ∧ w.heap.size ≤ g) := ⟨by have := HK.out.1.cnt; have := HS.out.2.1; rw [hl, List.length_cons] at *; omega, HS.out.2.2.1, HK.out.1.bel.size, by have := HK.out.1.len; have := HK.out.2.1; omega, hwg⟩
      have hta := RS.tailE hx.1.1 (by rw [hl]; simp)
      rw [hl] at hta
      have hcut := fun w => run_fromE w x.la x.l.length x.lc 1 (by rw [hl]; simp) hx.1.1.len.2.1
      have c0 := (hat 0 x rfl).1.1
      have c1 := (hat 0 x rfl).1.2
      rw [Nat.zero_mul] at c0 c1
      rw [hl] at c0 hcut
      rw [hxa] at c0 hcut hta
      have hmc : m + 1 ≤ hc := HK.out.2.2.1
      have HX := hidM (And.intro hx (And.intro hl hxa))
      have HTA := hidM hta
      obtain ⟨k, hk⟩ : ∃ k, k = q.length := ⟨_, rfl⟩
      have HKL := hidM hk
      have e1 : (e :: q).length = k + 1 := by rw [hk]; rfl
      rw [e1] at c0 hcut
      have hcut' : ∀ w, (Instr.slice 27 (.slice (some ⟨b, off, none⟩) (k + 1) x.lc) (some (.int .i64 (1 : Int))) none none).run Try.prog w = .ok (.slice (cutS (some ⟨b, off, none⟩) x.lc 1 5) k (x.lc - 1)) w := fun w => by
        have := hcut w
        simpa using this
      have HTA2 : Hid (RS entE w (cutS (some ⟨b, off, none⟩) x.lc 1 5) k (x.lc - 1) q) := by
        show RS entE w _ k _ q
        have := HTA.out
        rw [e1] at this
        simpa using this
      have hk62 : k ≤ 2 ^ 60 := by have := HK.out.1.cnt; have := HS.out.2.1; have := HCT.out; rw [hl, e1] at *; omega
      have hm62 : m ≤ 2 ^ 60 := by have := HCT.out; omega
      have hdl62 : dl ≤ 2 ^ 60 := by have := HCT.out; have := HDL.out; omega
      generalize cutS (some ⟨b, off, none⟩) x.lc 1 5 = ca at hcut' HTA2
      obtain ⟨xc1, hxc1⟩ : ∃ c, c = x.lc - 1 := ⟨_, rfl⟩
      rw [← hxc1] at hcut' HTA2
      obtain ⟨xc, hxc⟩ : ∃ c, c = x.lc := ⟨_, rfl⟩
      rw [← hxc] at hcut' c0
      obtain ⟨xr, hxr⟩ : ∃ r, r = x.row := ⟨_, rfl⟩
      have HXR := hidM hxr
      rw [← hxr] at c1
      generalize e.key.length = kl at d0 HCP HAPP
      generalize e.val.length = vl at d4 HCP HAPP
      generalize e.seq = sq at d1 HCP HAPP
      generalize e.gone = gn at d2 HCP HAPP
      generalize e.till = tl at d3 HCP HAPP
      have HPUT : Hid (∀ w6 w9 v9, Below wr.heap.size wr w6 → RowF entE w.heap.size (fun b => w.heap.size ≤ b ∧ b ≠ g) w9 v9 (dn ++ [e]) → w6.grownBy w9 (Value.slice oa dl oc).ownBlock → Moved w6 (.slice oa dl oc) v9 → (HpAt w9 g (x :: H2) ∧ v9.ownBlock ≠ some g ∧ Below w.heap.size w w9 ∧ g < w9.heap.size) ∧ w9.cell? ⟨g, 0, none⟩ = some (.slice (some ⟨b, off, none⟩) (k + 1) xc) ∧ w9.cell? ⟨g, 1, none⟩ = some (.int .i64 xr) ∧ w9.frozen? ⟨g, 0, none⟩ = false ∧ w9.frozen? ⟨g, 1, none⟩ = false) := fun w6 w9 v9 hb r9 g9 m9 => by
        have hh := HK.out.1.put hgr hat hwg hb r9 g9 m9
        obtain ⟨⟨a0, a1⟩, a2, a3⟩ := hh.1 0 x rfl
        rw [Nat.zero_mul] at a0 a1 a2 a3
        rw [hl, hxa, e1, ← hxc] at a0
        rw [← hxr] at a1
        exact ⟨hh, a0, a1, a2, a3⟩
      clear hta hcut hx hl hxa s1 s2 i1 i2 hsm hat hk e1 hxc1 hxc hxr HTA hH
      have HQ : Hid (HpIts w (x :: H2) ∧ (∀ y ∈ x :: H2, ordE y.l) ∧ (∀ y ∈ x :: H2, ∀ z ∈ y.l, z.key.length ≤ 1000000 ∧ z.val.length ≤ 1000000) ∧ (x :: H2).length ≤ 64 ∧ H2.length = m) := ⟨HK.out.1.its, HK.out.1.ord, HK.out.1.sml, HK.out.1.len, by have := HK.out.2.1; simpa using this⟩
      by_cases qk : k = 0
      · subst qk
        go_upto_region 9 with (first | (go_at_call 30; refine HCP.out.mono ?_; rintro r w5 ⟨ka', kc', va', vc', rfl, hs5⟩; have HS5 := hidM hs5; clear hs5) | (at_builtin; refine wpList_appF entE (t := 27) (z := .agg #[.slice none 0 0, .int .i64 0, .bool false, .int .i64 0, .slice none 0 0]) (bytes := 72) Try.underlying27 entE_info rfl (by decide) rfl (.tmp 18) (.tmp 26) rfl rfl (HAPP.out _ _ _ _ _ HS5.out).1 rfl (HAPP.out _ _ _ _ _ HS5.out).2.1 (HAPP.out _ _ _ _ _ HS5.out).2.2.1 (HAPP.out _ _ _ _ _ HS5.out).2.2.2.1 (by have := HCT.out; omega) (by have := HCT.out; omega) (Nat.le_trans HCT.out.2.2.1 (HAPP.out _ _ _ _ _ HS5.out).2.2.2.2.size) ?_; intro v9 w9 r9 g9 m9; have hp9 := HPUT.out _ _ _ (HAPP.out _ _ _ _ _ HS5.out).2.2.2.2 r9 g9 m9; have HR9 := hidM (And.intro r9 hp9.1); obtain ⟨-, q0, q1, q2, q3⟩ := hp9; clear r9 g9 m9))
        obtain ⟨hl, hxa⟩ := HX.out.2
        have hq0 : q = [] := List.eq_nil_of_length_eq_zero HKL.out.symm
        subst hq0
        have hat9 : HpAt (w9.setCell ⟨g, 0, none⟩ (.slice ca 0 xc1)) g (⟨[], x.row, ca, xc1⟩ :: H2) := HR9.out.2.1.set0 (x := x) rfl [] ca xc1
        obtain ⟨y, hy⟩ : ∃ y, ((⟨[], x.row, ca, xc1⟩ : HpV) :: H2)[m]? = some y := ⟨_, List.getElem?_eq_getElem (by rw [List.length_cons, HQ.out.2.2.2.2]; omega)⟩
        have hlt := last_turn (x' := ⟨[], x.row, ca, xc1⟩) (y := y) (H2 := H2) (N := m + 1) (by rw [List.length_cons, HQ.out.2.2.2.2]) hy
        rw [Nat.add_sub_cancel] at hlt
        have hg9 : w9.grownBy (w9.setCell ⟨g, 0, none⟩ (.slice ca 0 xc1)) (some g) := hp_gset _ _ _ _
        have t0 : (w9.setCell ⟨g, 0, none⟩ (.slice ca 0 xc1)).cell? ⟨g, 0, none⟩ = some (.slice ca 0 xc1) := by rw [hp_css _ _ _ _ q0]
        have t1 : (w9.setCell ⟨g, 0, none⟩ (.slice ca 0 xc1)).cell? ⟨g, 1, none⟩ = some (.int .i64 xr) := by rw [hp_cso _ _ _ _ _ (by omega), q1]
        have t2 : (w9.setCell ⟨g, 0, none⟩ (.slice ca 0 xc1)).frozen? ⟨g, 0, none⟩ = false := by rw [World.frozen?_setCell, q2]
        have t3 : (w9.setCell ⟨g, 0, none⟩ (.slice ca 0 xc1)).frozen? ⟨g, 1, none⟩ = false := by rw [World.frozen?_setCell, q3]
        generalize w9.setCell ⟨g, 0, none⟩ (.slice ca 0 xc1) = W9 at hat9 hg9 t0 t1 t2 t3 ⊢
        obtain ⟨⟨y0, y1⟩, -, -⟩ := hat9 m y hy
        have hput := hat9.put (i := 0) (x := ⟨[], x.row, ca, xc1⟩) rfl y
        rw [Nat.zero_mul, Nat.zero_add] at hput
        have hg10 : w9.grownBy ((W9.setCell ⟨g, 0, none⟩ (.slice y.la y.l.length y.lc)).setCell ⟨g, 1, none⟩ (.int .i64 y.row)) (some g) := (hg9.trans (hp_gset _ _ _ _)).trans (hp_gset _ _ _ _)
        have hb10 : Below w.heap.size w ((W9.setCell ⟨g, 0, none⟩ (.slice y.la y.l.length y.lc)).setCell ⟨g, 1, none⟩ (.int .i64 y.row)) := HR9.out.2.2.2.1.grown hg10 HR9.out.2.2.2.1.size (fun z hz => by have := HCT.out; simp only [Option.some.injEq] at hz; omega)
        have hi3 : HpIts w ((((⟨[], x.row, ca, xc1⟩ : HpV) :: H2).set 0 y).take m) := fun z hz => HQ.out.1 z (List.mem_cons_of_mem _ (hlt.1.mem_iff.1 hz))
        have hp3 : Hp ((((⟨[], x.row, ca, xc1⟩ : HpV) :: H2).set 0 y).take m) 0 := HK.out.1.hp.start fun i h0 hi => by
          rw [hlt.2 i h0 hi]
          obtain ⟨j, rfl⟩ : ∃ j, i = j + 1 := ⟨i - 1, by omega⟩
          rw [List.getElem?_cons_succ, List.getElem?_cons_succ]
        have hs := sink_t (cap := hc) (n := m) (by rw [hlt.1.length_eq]; exact HQ.out.2.2.2.2) (hput.take m) hi3 hp3 hb10 HCT.out.2.2.2.2 (Nat.lt_of_lt_of_le HR9.out.2.2.2.2 hg10.size) (by have := HCT.out; omega) (by omega)
        have HN : Hid (∀ wy H4, H4.Perm ((((⟨[], x.row, ca, xc1⟩ : HpV) :: H2).set 0 y).take m) → HpF H4 → ((W9.setCell ⟨g, 0, none⟩ (.slice y.la y.l.length y.lc)).setCell ⟨g, 1, none⟩ (.int .i64 y.row)).grownBy wy (some g) → MG w rs g wy v9 (dn ++ [e]) H4 ∧ H4.length = m ∧ g < wy.heap.size) := fun wy H4 p4 f4 g4 => by
          refine ⟨HK.out.1.next hl (by simpa using flatH_perm hlt.1) hi3 (fun z hz => HQ.out.2.1 z (List.mem_cons_of_mem _ (hlt.1.mem_iff.1 hz))) (fun z hz => HQ.out.2.2.1 z (List.mem_cons_of_mem _ (hlt.1.mem_iff.1 hz))) ?_ p4 f4 HR9.out.1 HR9.out.2.2.1 HR9.out.2.2.2.1 HCT.out.2.2.2.2 (hg10.trans g4), ?_, ?_⟩
          · rw [hlt.1.length_eq, HQ.out.2.2.2.2]; have := HCT.out; omega
          · rw [p4.length_eq, hlt.1.length_eq, HQ.out.2.2.2.2]
          · exact Nat.lt_of_lt_of_le HR9.out.2.2.2.2 (Nat.le_trans hg10.size g4.size)
        have hh := fun w => run_headH w g (m + 1) hc m (by omega)
        obtain ⟨a9, c9, hv9⟩ := HR9.out.1.isl
        generalize (((⟨[], x.row, ca, xc1⟩ : HpV) :: H2).set 0 y).take m = H3 at hs HN
        generalize y.l.length = yl at y0 hs HN
        generalize y.la = ya at y0 hs HN
        generalize y.lc = yc at y0 hs HN
        generalize y.row = yr at y1 hs HN
        have HV9 := hidM hv9
        clear hlt hat9 hput hg10 hb10 hi3 hp3 hl hxa hy hg9 q0 q1 q2 q3 hv9
        go_wp2_with (go_at_call 33; refine hs.mono ?_; rintro r w7 ⟨rfl, H4, p4, f4, a4, g4⟩)
        go_step3
        have hn := HN.out w7 H4 p4 f4 g4
        exact ⟨rfl, ⟨g, v9, some ⟨g, 0, none⟩, hc, m, dn ++ [e], H4, ⟨hn.1, hn.2.1, by omega, HK.out.2.2.2.1, fun _ => ⟨rfl, HCT.out.2.2.2.2, hn.2.2, a4⟩⟩, _, _, _, _, _, _, _, _, _, _, _, _, _, _, _, _, _, _, _, _, _, _, _, _, _, _, _, _, _, _, _, _, _, _, _, _, _, _, _, _, _, _, _, _, _, _, _, _, _, _, _, _, _, rfl⟩, (by have := HCT.out; have := HDL.out; show tot - slen v9 < tot - slen (.slice oa dl oc); rw [HV9.out, slen_mk, slen_mk, List.length_append, List.length_singleton]; omega)⟩
      · have qk' : ((k : Int) == 0) = false := by simp; omega
        go_upto_region 11 with (first | (go_at_call 30; refine HCP.out.mono ?_; rintro r w5 ⟨ka', kc', va', vc', rfl, hs5⟩; have HS5 := hidM hs5; clear hs5) | (at_builtin; refine wpList_appF entE (t := 27) (z := .agg #[.slice none 0 0, .int .i64 0, .bool false, .int .i64 0, .slice none 0 0]) (bytes := 72) Try.underlying27 entE_info rfl (by decide) rfl (.tmp 18) (.tmp 26) rfl rfl (HAPP.out _ _ _ _ _ HS5.out).1 rfl (HAPP.out _ _ _ _ _ HS5.out).2.1 (HAPP.out _ _ _ _ _ HS5.out).2.2.1 (HAPP.out _ _ _ _ _ HS5.out).2.2.2.1 (by have := HCT.out; omega) (by have := HCT.out; omega) (Nat.le_trans HCT.out.2.2.1 (HAPP.out _ _ _ _ _ HS5.out).2.2.2.2.size) ?_; intro v9 w9 r9 g9 m9; have hp9 := HPUT.out _ _ _ (HAPP.out _ _ _ _ _ HS5.out).2.2.2.2 r9 g9 m9; have HR9 := hidM (And.intro r9 hp9.1); obtain ⟨-, q0, q1, q2, q3⟩ := hp9; clear r9 g9 m9))
        obtain ⟨hl, hxa⟩ := HX.out.2
        have hkl := HKL.out
        have hqn : q ≠ [] := fun e' => qk (by rw [hkl, e']; rfl)
        have hat9 : HpAt (w9.setCell ⟨g, 0, none⟩ (.slice ca k xc1)) g (⟨q, x.row, ca, xc1⟩ :: H2) := by rw [hkl]; exact HR9.out.2.1.set0 (x := x) rfl q ca xc1
        have hg9 : w9.grownBy (w9.setCell ⟨g, 0, none⟩ (.slice ca k xc1)) (some g) := hp_gset _ _ _ _
        generalize w9.setCell ⟨g, 0, none⟩ (.slice ca k xc1) = W9 at hat9 hg9 ⊢
        have hb10 : Below w.heap.size w W9 := HR9.out.2.2.2.1.grown hg9 HR9.out.2.2.2.1.size (fun z hz => by have := HCT.out; simp only [Option.some.injEq] at hz; omega)
        have hi3 : HpIts w ((⟨q, x.row, ca, xc1⟩ : HpV) :: H2) := fun z hz => by
          rcases List.mem_cons.1 hz with rfl | hz
          · exact ⟨⟨by have := HTA2.out; rw [hkl] at this; exact this, HX.out.1.1.2⟩, hqn⟩
          · exact HQ.out.1 z (List.mem_cons_of_mem _ hz)
        have hp3 : Hp ((⟨q, x.row, ca, xc1⟩ : HpV) :: H2) 0 := HK.out.1.hp.start fun i h0 hi => by
          obtain ⟨j, rfl⟩ : ∃ j, i = j + 1 := ⟨i - 1, by omega⟩
          rw [List.getElem?_cons_succ, List.getElem?_cons_succ]
        have hs := sink_t (cap := hc) (n := m + 1) (by rw [List.length_cons, HQ.out.2.2.2.2]) hat9 hi3 hp3 hb10 HCT.out.2.2.2.2 (Nat.lt_of_lt_of_le HR9.out.2.2.2.2 hg9.size) (by have := HCT.out; omega) hmc
        have HN : Hid (∀ wy H4, H4.Perm ((⟨q, x.row, ca, xc1⟩ : HpV) :: H2) → HpF H4 → W9.grownBy wy (some g) → MG w rs g wy v9 (dn ++ [e]) H4 ∧ H4.length = m + 1 ∧ g < wy.heap.size) := fun wy H4 p4 f4 g4 => by
          refine ⟨HK.out.1.next hl (by rw [flatH_cons]) hi3 (fun z hz => ?_) (fun z hz => ?_) ?_ p4 f4 HR9.out.1 HR9.out.2.2.1 HR9.out.2.2.2.1 HCT.out.2.2.2.2 (hg9.trans g4), ?_, ?_⟩
          · rcases List.mem_cons.1 hz with rfl | hz
            · have := HQ.out.2.1 x (List.mem_cons_self ..)
              rw [hl] at this
              exact (List.pairwise_cons.1 this).2
            · exact HQ.out.2.1 z (List.mem_cons_of_mem _ hz)
          · rcases List.mem_cons.1 hz with rfl | hz
            · intro z' hz'
              exact HQ.out.2.2.1 x (List.mem_cons_self ..) z' (by rw [hl]; exact List.mem_cons_of_mem _ hz')
            · exact HQ.out.2.2.1 z (List.mem_cons_of_mem _ hz)
          · rw [List.length_cons, HQ.out.2.2.2.2]; have := HCT.out; omega
          · rw [p4.length_eq, List.length_cons, HQ.out.2.2.2.2]
          · exact Nat.lt_of_lt_of_le HR9.out.2.2.2.2 (Nat.le_trans hg9.size g4.size)
        obtain ⟨a9, c9, hv9⟩ := HR9.out.1.isl
        generalize (⟨q, x.row, ca, xc1⟩ : HpV) :: H2 = H3 at hs HN
        have HV9 := hidM hv9
        clear hat9 hb10 hi3 hp3 hl hxa hg9 q0 q1 q2 q3 hv9 hkl
        go_wp2_with (go_at_call 33; refine hs.mono ?_; rintro r w7 ⟨rfl, H4, p4, f4, a4, g4⟩)
        go_step3
        have hn := HN.out w7 H4 p4 f4 g4
        exact ⟨rfl, ⟨g, v9, some ⟨g, 0, none⟩, hc, m + 1, dn ++ [e], H4, ⟨hn.1, hn.2.1, by omega, HK.out.2.2.2.1, fun _ => ⟨rfl, HCT.out.2.2.2.2, hn.2.2, a4⟩⟩, _, _, _, _, _, _, _, _, _, _, _, _, _, _, _, _, _, _, _, _, _, _, _, _, _, _, _, _, _, _, _, _, _, _, _, _, _, _, _, _, _, _, _, _, _, _, _, _, _, _, _, _, _, rfl⟩, (by have := HCT.out; have := HDL.out; show tot - slen v9 < tot - slen (.slice oa dl oc); rw [HV9.out, slen_mk, slen_mk, List.length_append, List.length_singleton]; omega)⟩
end Go.Proofs.Ytnoackenjfpcmaa
