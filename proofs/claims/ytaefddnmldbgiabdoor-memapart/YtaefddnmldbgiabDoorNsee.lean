/- What the landed mem's nodes answer: has, ahead, entry. -/
import Derived.Test.YtaefddnmldbgiabDoorNplc
import Derived.Test.YtaefddnmldbgiabDoorMwr
import Derived.Test.YtaefddnmldbgiabDoorMget
import Derived.Test.YtaefddnmldbgiabDoorNclo
import Derived.Deep.RegionHeldLaw
import Derived.Deep.RegionLaw
namespace Go.Proofs.YtaefddnmldbgiabDoor
open Go.RowKit
set_option linter.unusedVariables false
set_option linter.unusedSimpArgs false

theorem has_m {w : World} {n : Nd} (h : NdAt w n) {ka : Option Addr} {kl kc : Nat} {key : List Int} (hk : Sl w ka kl kc key) : Calls Tryd.prog 15 #[ptr n.b, .slice ka kl kc] w fun e w' => e = .returned (.bool (decide (n.key = key))) ∧ w' = w := by
  obtain ⟨a, c, hv, hs⟩ := h.sl
  have hc := h.cells.1
  rw [hv] at hc
  have he := eql_m hs hk
  clear h hs hk hv
  unfold ptr
  generalize decide (n.key = key) = T at he ⊢
  go_enter Tryd.func15, Tryd.ntmps15
  go_wp2_with fail
  refine he.mono ?_
  rintro e w' ⟨rfl, rfl⟩
  clear he
  go_wp2_with fail
  go_ret
  exact ⟨by simp, rfl⟩
theorem has_nil {w : World} {ka : Option Addr} {kl kc : Nat} : Calls Tryd.prog 15 #[.pointer none, .slice ka kl kc] w fun e w' => e = .returned (.bool false) ∧ w' = w := by
  go_enter Tryd.func15, Tryd.ntmps15
  go_wp2_with fail
  go_ret
  exact ⟨by simp, rfl⟩
theorem ahead_nil {w : World} {ka : Option Addr} {kl kc : Nat} : Calls Tryd.prog 23 #[.pointer none, .slice ka kl kc] w fun e w' => e = .returned (.bool false) ∧ w' = w := by
  go_enter Tryd.func23, Tryd.ntmps23
  go_wp2_with fail
  go_ret
  exact ⟨by simp, rfl⟩
theorem ahead_m {w : World} {n : Nd} (h : NdAt w n) {ka : Option Addr} {kl kc : Nat} {key : List Int} (hk : Sl w ka kl kc key) : Calls Tryd.prog 23 #[ptr n.b, .slice ka kl kc] w fun e w' => e = .returned (.bool (decide (key.length = 0 ∨ cmp n.key key < 0))) ∧ w' = w := by
  obtain ⟨a, c, hv, hs⟩ := h.sl
  have hc := h.cells.1
  rw [hv] at hc
  have he := compare_l hs hk
  have hl : key.length = kl := hk.1
  have hl63 : kl ≤ 2 ^ 63 - 1 := by have := hk.2.2.2.2.1; have := hk.2.2.2.1; unfold maxLen at *; omega
  rw [hl]
  clear h hs hk hv hl
  unfold ptr
  by_cases hz : kl = 0
  · subst hz
    go_enter Tryd.func23, Tryd.ntmps23
    go_wp2_with fail
    go_ret
    exact ⟨by simp, rfl⟩
  · have hz' : ((kl : Int) == 0) = false := by simpa using hz
    have e1 : decide (kl = 0 ∨ cmp n.key key < 0) = decide (cmp n.key key < 0) := by simp [hz]
    rw [e1]
    generalize cmp n.key key = S at he ⊢
    go_enter Tryd.func23, Tryd.ntmps23
    go_wp2_with fail
    refine he.mono ?_
    rintro e w' ⟨rfl, rfl⟩
    clear he
    go_wp2_with fail
    go_ret
    exact ⟨by simp, rfl⟩

theorem clone_w {w : World} {ao : Option Addr} {len cap : Nat} {xs : List Int} (h : Sl w ao len cap xs) (hl : len ≤ 3000) : Calls Tryd.prog 26 #[.slice ao len cap] w fun e w' => ∃ a c, e = .returned (.slice a len c) ∧ Sl w' a len c xs ∧ Wr w' a len ∧ (∀ b off, a = some ⟨b, off, none⟩ → w.heap.size ≤ b) ∧ Below w.heap.size w w' := by
  have e := h.1
  refine (clone_n h (by omega)).mono ?_
  rintro e1 w' ⟨v, rfl, r, b⟩
  obtain ⟨a, c, rfl, h1, h2, h3⟩ := wr_row r h.2.1
  rw [e] at h1 h2
  exact ⟨a, c, by rw [e], h1, h2, h3, b⟩
theorem Sl.set5 {w : World} {q : Nat} {a : Option Addr} {n c : Nat} {xs : List Int} (h : Sl w a n c xs) (hq : ∀ b off, a = some ⟨b, off, none⟩ → b ≠ q) (x0 x1 x2 x3 x4 : Value) : Sl (((((w.setCell ⟨q, 0, none⟩ x0).setCell ⟨q, 1, none⟩ x1).setCell ⟨q, 2, none⟩ x2).setCell ⟨q, 3, none⟩ x3).setCell ⟨q, 4, none⟩ x4) a n c xs := by
  refine h.keep fun b hr => ?_
  obtain ⟨off, l, cc, e, h0⟩ := hr
  simp only [Value.slice.injEq] at e
  have hb := hq b off e.1
  rw [heap_ne _ _ _ hb, heap_ne _ _ _ hb, heap_ne _ _ _ hb, heap_ne _ _ _ hb, heap_ne _ _ _ hb]
theorem Wr.set5 {w : World} {q : Nat} {a : Option Addr} {n : Nat} (h : Wr w a n) (hq : ∀ b off, a = some ⟨b, off, none⟩ → b ≠ q) (x0 x1 x2 x3 x4 : Value) : Wr (((((w.setCell ⟨q, 0, none⟩ x0).setCell ⟨q, 1, none⟩ x1).setCell ⟨q, 2, none⟩ x2).setCell ⟨q, 3, none⟩ x3).setCell ⟨q, 4, none⟩ x4) a n := by
  refine h.keep fun b off e hn => ?_
  have hb := hq b off e
  rw [heap_ne _ _ _ hb, heap_ne _ _ _ hb, heap_ne _ _ _ hb, heap_ne _ _ _ hb, heap_ne _ _ _ hb]
theorem ent0_cells {w : World} {q : Nat} (hg : w.heap[q]? = some (.cells #[.slice none 0 0, .int .i64 0, .bool false, .int .i64 0, .slice none 0 0] 28 (0, 0))) : w.cell? ⟨q, 0, none⟩ = some (.slice none 0 0) ∧ w.cell? ⟨q, 1, none⟩ = some (.int .i64 0) ∧ w.cell? ⟨q, 2, none⟩ = some (.bool false) ∧ w.cell? ⟨q, 3, none⟩ = some (.int .i64 0) ∧ w.cell? ⟨q, 4, none⟩ = some (.slice none 0 0) ∧ w.frozen? ⟨q, 0, none⟩ = false ∧ w.frozen? ⟨q, 1, none⟩ = false ∧ w.frozen? ⟨q, 2, none⟩ = false ∧ w.frozen? ⟨q, 3, none⟩ = false ∧ w.frozen? ⟨q, 4, none⟩ = false := by
  refine ⟨?_, ?_, ?_, ?_, ?_, frozen_ofW hg 0, frozen_ofW hg 1, frozen_ofW hg 2, frozen_ofW hg 3, frozen_ofW hg 4⟩ <;> rw [cell_of hg] <;> rfl
/-- What was told of an entry. -/
def ToldE (w : World) (x : EntV) (e : Ending) (w' : World) : Prop :=
  ∃ ka kc va vc, e = .returned (entA ka kc va vc x) ∧ EntM w' (entL ka kc va vc x) x ∧ (∀ u ∈ entL ka kc va vc x, ∀ b, Refs u b → w.heap.size ≤ b) ∧ Wr w' ka x.key.length ∧ Wr w' va x.val.length ∧ Below w.heap.size w w'
theorem told_of {w w' : World} {x : EntV} {ka va : Option Addr} {kc vc : Nat} (h1 : Sl w' ka x.key.length kc x.key) (h2 : Sl w' va x.val.length vc x.val) (i1 : In64 x.seq) (i2 : In64 x.till) (n1 : ∀ b off, ka = some ⟨b, off, none⟩ → w.heap.size ≤ b) (n2 : ∀ b off, va = some ⟨b, off, none⟩ → w.heap.size ≤ b) (r1 : Wr w' ka x.key.length) (r2 : Wr w' va x.val.length) (hb : Below w.heap.size w w') : ToldE w x (.returned (entA ka kc va vc x)) w' := by
  refine ⟨ka, kc, va, vc, rfl, ⟨ka, kc, va, vc, rfl, h1, h2, i1, i2⟩, fun u hu b hr => ?_, r1, r2, hb⟩
  unfold entL at hu
  simp only [List.mem_cons, List.not_mem_nil, or_false] at hu
  rcases hu with rfl | rfl | rfl | rfl | rfl
  · obtain ⟨off, l, c, e, _⟩ := hr
    simp only [Value.slice.injEq] at e
    exact n1 b off e.1
  · exact (refs_int hr).elim
  · exact (refs_bool hr).elim
  · exact (refs_int hr).elim
  · obtain ⟨off, l, c, e, _⟩ := hr
    simp only [Value.slice.injEq] at e
    exact n2 b off e.1

set_option maxHeartbeats 1000000 in
set_option maxRecDepth 100000 in
/-- An entry that is told: memory of the caller's own. -/
theorem entry_m {w : World} {n : Nd} {v : Vr} (h : NdAt w n) (hv : v ∈ n.vs) (hk : n.key.length ≤ 3000) (hl : v.val.length ≤ 3000) : Calls Tryd.prog 21 #[ptr n.b, ptr v.b] w fun e w' => ToldE w (v.ent n.key) e w' := by
  obtain ⟨a, c, hkv, hs⟩ := h.sl
  have hvat := h.vs v hv
  obtain ⟨a2, c2, hvv, hs2⟩ := hvat.sl
  have hc := h.cells.1
  obtain ⟨c0, c1, c3, c4⟩ := hvat.cells
  rw [hkv] at hc
  rw [hvv] at c4
  unfold ptr Vr.ent
  have hI := hid (And.intro hvat.i1 hvat.i2)
  obtain ⟨nb, key, kv, nh, nvs, rv⟩ := n
  obtain ⟨vb, seq, gone, till, vv, vl⟩ := v
  simp only at *
  clear h hv hvat hkv hvv
  have hbn : nb < w.heap.size := World.block_lt_of_cell? _ _ hc
  have hbv : vb < w.heap.size := World.block_lt_of_cell? _ _ c0
  have HX : Hid (∀ wx, Below w.heap.size w wx → wx.cell? ⟨nb, 0, none⟩ = some (.slice a key.length c) ∧ wx.cell? ⟨vb, 0, none⟩ = some (.int .i64 seq) ∧ wx.cell? ⟨vb, 1, none⟩ = some (.bool gone) ∧ wx.cell? ⟨vb, 2, none⟩ = some (.int .i64 till) ∧ wx.cell? ⟨vb, 3, none⟩ = some (.slice a2 vl.length c2)) := fun wx hb => ⟨cell_below hb hbn hc, cell_below hb hbv c0, cell_below hb hbv c1, cell_below hb hbv c3, cell_below hb hbv c4⟩
  obtain ⟨W, hW⟩ : ∃ W, W = w.alloc (.cells #[.slice none 0 0, .int .i64 0, .bool false, .int .i64 0, .slice none 0 0] 28) := ⟨_, rfl⟩
  have hWb : Below w.heap.size w W := by rw [hW]; exact (Below.refl _ w).alloc (Nat.le_refl _) _
  have hWs : W.heap.size = w.heap.size + 1 := by rw [hW]; simp
  have hWk : W.heap[w.heap.size]? = some (.cells #[.slice none 0 0, .int .i64 0, .bool false, .int .i64 0, .slice none 0 0] 28 (0, 0)) := by rw [hW]; exact heap_alloc_new w _
  have HQ : Hid (∀ wx, Below W.heap.size W wx → wx.heap[w.heap.size]? = some (.cells #[.slice none 0 0, .int .i64 0, .bool false, .int .i64 0, .slice none 0 0] 28 (0, 0))) := fun wx hb => (hb.block _ (by omega)).trans hWk
  have HWB := hid (And.intro hWb hWs)
  have HCK : Hid (∀ wx, Below W.heap.size W wx → Calls Tryd.prog 26 #[.slice a key.length c] wx fun e w' => ∃ a' c', e = .returned (.slice a' key.length c') ∧ Sl w' a' key.length c' key ∧ Wr w' a' key.length ∧ (∀ b off, a' = some ⟨b, off, none⟩ → W.heap.size ≤ b) ∧ Below W.heap.size W w' ∧ Below wx.heap.size wx w') := fun wx hb => by
    refine (clone_w (hs.later (HWB.out.1.trans (hb.mono HWB.out.1.size))) hk).mono ?_
    rintro e w' ⟨a', c', rfl, h1, h2, h3, h4⟩
    exact ⟨a', c', rfl, h1, h2, fun b off q => by have := h3 b off q; have := hb.size; omega, hb.trans (h4.mono hb.size), h4⟩
  have HCV : Hid (∀ wx, Below W.heap.size W wx → Calls Tryd.prog 26 #[.slice a2 vl.length c2] wx fun e w' => ∃ a' c', e = .returned (.slice a' vl.length c') ∧ Sl w' a' vl.length c' vl ∧ Wr w' a' vl.length ∧ (∀ b off, a' = some ⟨b, off, none⟩ → W.heap.size ≤ b) ∧ Below W.heap.size W w' ∧ Below wx.heap.size wx w') := fun wx hb => by
    refine (clone_w (hs2.later (HWB.out.1.trans (hb.mono HWB.out.1.size))) hl).mono ?_
    rintro e w' ⟨a', c', rfl, h1, h2, h3, h4⟩
    exact ⟨a', c', rfl, h1, h2, fun b off q => by have := h3 b off q; have := hb.size; omega, hb.trans (h4.mono hb.size), h4⟩
  have HY : Hid (∀ wx, Below W.heap.size W wx → wx.cell? ⟨nb, 0, none⟩ = some (.slice a key.length c) ∧ wx.cell? ⟨vb, 0, none⟩ = some (.int .i64 seq) ∧ wx.cell? ⟨vb, 1, none⟩ = some (.bool gone) ∧ wx.cell? ⟨vb, 2, none⟩ = some (.int .i64 till) ∧ wx.cell? ⟨vb, 3, none⟩ = some (.slice a2 vl.length c2)) := fun wx hb => HX.out wx (HWB.out.1.trans (hb.mono HWB.out.1.size))
  have HS5 : Hid (∀ wx (x0 x1 x2 x3 x4 : Value), Below W.heap.size W wx → (((((wx.setCell ⟨w.heap.size, 0, none⟩ x0).setCell ⟨w.heap.size, 1, none⟩ x1).setCell ⟨w.heap.size, 2, none⟩ x2).setCell ⟨w.heap.size, 3, none⟩ x3).setCell ⟨w.heap.size, 4, none⟩ x4).cell? ⟨nb, 0, none⟩ = some (.slice a key.length c) ∧ (((((wx.setCell ⟨w.heap.size, 0, none⟩ x0).setCell ⟨w.heap.size, 1, none⟩ x1).setCell ⟨w.heap.size, 2, none⟩ x2).setCell ⟨w.heap.size, 3, none⟩ x3).setCell ⟨w.heap.size, 4, none⟩ x4).cell? ⟨vb, 0, none⟩ = some (.int .i64 seq) ∧ (((((wx.setCell ⟨w.heap.size, 0, none⟩ x0).setCell ⟨w.heap.size, 1, none⟩ x1).setCell ⟨w.heap.size, 2, none⟩ x2).setCell ⟨w.heap.size, 3, none⟩ x3).setCell ⟨w.heap.size, 4, none⟩ x4).cell? ⟨vb, 1, none⟩ = some (.bool gone) ∧ (((((wx.setCell ⟨w.heap.size, 0, none⟩ x0).setCell ⟨w.heap.size, 1, none⟩ x1).setCell ⟨w.heap.size, 2, none⟩ x2).setCell ⟨w.heap.size, 3, none⟩ x3).setCell ⟨w.heap.size, 4, none⟩ x4).cell? ⟨vb, 2, none⟩ = some (.int .i64 till) ∧ (((((wx.setCell ⟨w.heap.size, 0, none⟩ x0).setCell ⟨w.heap.size, 1, none⟩ x1).setCell ⟨w.heap.size, 2, none⟩ x2).setCell ⟨w.heap.size, 3, none⟩ x3).setCell ⟨w.heap.size, 4, none⟩ x4).cell? ⟨vb, 3, none⟩ = some (.slice a2 vl.length c2)) := fun wx x0 x1 x2 x3 x4 hb => HX.out _ (below_set5 (HWB.out.1.trans (hb.mono HWB.out.1.size)) x0 x1 x2 x3 x4)
  have BW : Hid (Below W.heap.size W W.drew) := (Below.refl _ W).drew
  have hne1 : vb ≠ w.heap.size := by omega
  have hne2 : nb ≠ w.heap.size := by omega
  have HW := hid hW
  clear hs hs2 hc c0 c1 c3 c4 hbn hbv hWb hWs hWk hk hl HX hW
  go_enter Tryd.func21, Tryd.ntmps21
  go_upto_region 1 with fail
  rw [← HW.out]
  have S0 := HY.out W.drew BW.out
  go_region_held_law (fun w' => w'.cell? ⟨nb, 0, none⟩ = some (.slice a key.length c) ∧ w'.cell? ⟨vb, 0, none⟩ = some (.int .i64 seq) ∧ w'.cell? ⟨vb, 1, none⟩ = some (.bool gone) ∧ w'.cell? ⟨vb, 2, none⟩ = some (.int .i64 till) ∧ w'.cell? ⟨vb, 3, none⟩ = some (.slice a2 vl.length c2)) (first | (with_reducible exact S0) | (with_reducible exact S9) | (with_reducible exact S6) | (with_reducible exact S5) | (go_loud (fail "S"))) (first | (go_at_call 26; refine (HCK.out _ BW.out).mono ?_; rintro e w5 ⟨a5, c5, rfl, s5, k5, n5, B5, b5⟩; have S5 := HY.out _ B5) | (go_at_call 26; refine (HCV.out _ B5).mono ?_; rintro e w6 ⟨a6, c6, rfl, s6, k6, n6, B6, b6⟩; obtain ⟨z0, z1, z2, z3, z4, f0, f1, f2, f3, f4⟩ := ent0_cells (HQ.out _ B6); have S6 := HY.out _ B6; have S9 := HS5.out w6 (.slice a5 key.length c5) (.int .i64 seq) (.bool gone) (.int .i64 till) (.slice a6 vl.length c6) B6))
  have hne5 : ∀ b off, a5 = some ⟨b, off, none⟩ → b ≠ w.heap.size := fun b off e => by have := n5 b off e; have := HWB.out.2; omega
  have hne6 : ∀ b off, a6 = some ⟨b, off, none⟩ → b ≠ w.heap.size := fun b off e => by have := n6 b off e; have := HWB.out.2; omega
  have HF := hid (told_of (w := w) (x := ⟨key, seq, gone, till, vl⟩) ((s5.later b6).set5 hne5 (.slice a5 key.length c5) (.int .i64 seq) (.bool gone) (.int .i64 till) (.slice a6 vl.length c6)) (s6.set5 hne6 (.slice a5 key.length c5) (.int .i64 seq) (.bool gone) (.int .i64 till) (.slice a6 vl.length c6)) hI.out.1 hI.out.2 (fun b off e => by have := n5 b off e; have := HWB.out.2; omega) (fun b off e => by have := n6 b off e; have := HWB.out.2; omega) ((k5.later b6).set5 hne5 (.slice a5 key.length c5) (.int .i64 seq) (.bool gone) (.int .i64 till) (.slice a6 vl.length c6)) (k6.set5 hne6 (.slice a5 key.length c5) (.int .i64 seq) (.bool gone) (.int .i64 till) (.slice a6 vl.length c6)) (below_set5 (HWB.out.1.trans (B6.mono HWB.out.1.size)) (.slice a5 key.length c5) (.int .i64 seq) (.bool gone) (.int .i64 till) (.slice a6 vl.length c6)))
  obtain ⟨o0, o1, o2, o3, o4⟩ := cells_set5 (HQ.out _ B6) (.slice a5 key.length c5) (.int .i64 seq) (.bool gone) (.int .i64 till) (.slice a6 vl.length c6)
  have HO : Hid (_ ∧ _ ∧ _ ∧ _ ∧ _) := ⟨o0, o1, o2, o3, o4⟩
  clear o0 o1 o2 o3 o4 S0 S5 S6 S9 z0 z1 z2 z3 z4 f0 f1 f2 f3 f4 s5 s6 k5 k6 n5 n6 B5 b5 B6 b6 hne5 hne6
  go_wp2_with fail
  obtain ⟨o0, o1, o2, o3, o4⟩ := HO.out
  exact bodyPost_ret (v := entA a5 c5 a6 c6 ⟨key, seq, gone, till, vl⟩) (by simp [results, Tryd.results21, go_sem, o0, o1, o2, o3, o4, entA]) rfl HF.out
end Go.Proofs.YtaefddnmldbgiabDoor
