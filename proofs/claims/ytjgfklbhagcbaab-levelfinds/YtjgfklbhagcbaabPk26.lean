import Derived.Test.YtjgfklbhagcbaabPk14
import Derived.Test.YtjgfklbhagcbaabPk21
import Derived.Test.YtjgfklbhagcbaabPk22
import Derived.Test.YtjgfklbhagcbaabPk25
/- The version that the document's Apply makes: its box, its row. -/
namespace Go.Proofs.Ytjgfklbhagcbaab
open Go.RowKit
set_option linter.unusedVariables false
set_option linter.unusedSimpArgs false

theorem set3_blk {w : World} {Q : Nat} {c0 c1 c2 c3 : Value} {t : TypeId} (h : w.heap[Q]? = some (.cells #[c0, c1, c2, c3] t (0, 0))) (v : Value) : (w.setCell ⟨Q, 3, none⟩ v).heap[Q]? = some (.cells #[c0, c1, c2, v] t (0, 0)) := by
  rw [heap_set h 3 v]; rfl
/-- A version in a box at Q that is being filled: its row is its own and leans on G, the rest of memory up to Q is as it was. -/
structure OV (G : Nat → Prop) (W : World) (Q : Nat) (c0 c1 c2 : Value) (wx : World) (v : Value) (l : List LnV) : Prop where
  box : wx.heap[Q]? = some (.cells #[c0, c1, c2, v] 26 (0, 0))
  row : RowF lnE (Q + 1) G wx v l
  below : Below Q W wx
theorem OV.later {G : Nat → Prop} {W : World} {Q : Nat} {c0 c1 c2 : Value} {wx wy : World} {v : Value} {l : List LnV} (h : OV G W Q c0 c1 c2 wx v l) (hb : Below wx.heap.size wx wy) : OV G W Q c0 c1 c2 wy v l :=
  ⟨by rw [hb.block Q (Array.getElem?_eq_some_iff.1 h.box).1]; exact h.box, h.row.later hb, h.below.trans (hb.mono (Nat.le_of_lt (Array.getElem?_eq_some_iff.1 h.box).1))⟩
theorem OV.lt {G : Nat → Prop} {W : World} {Q : Nat} {c0 c1 c2 : Value} {wx : World} {v : Value} {l : List LnV} (h : OV G W Q c0 c1 c2 wx v l) : Q < wx.heap.size := (Array.getElem?_eq_some_iff.1 h.box).1
theorem OV.cells {G : Nat → Prop} {W : World} {Q : Nat} {c0 c1 c2 : Value} {wx : World} {v : Value} {l : List LnV} (h : OV G W Q c0 c1 c2 wx v l) :
    (wx.cell? ⟨Q, 0, none⟩ = some c0 ∧ wx.cell? ⟨Q, 1, none⟩ = some c1 ∧ wx.cell? ⟨Q, 2, none⟩ = some c2 ∧ wx.cell? ⟨Q, 3, none⟩ = some v) ∧ wx.frozen? ⟨Q, 3, none⟩ = false := by
  have q := fun i z hz => blk_cells (wx := wx) h.box (Array.getElem?_eq_some_iff.1 h.box).1 (Below.refl _ _) i z hz
  exact ⟨⟨(q 0 _ rfl).1, (q 1 _ rfl).1, (q 2 _ rfl).1, (q 3 _ rfl).1⟩, (q 3 _ rfl).2⟩
theorem OV.set {G : Nat → Prop} {W : World} {Q : Nat} {c0 c1 c2 : Value} {wx wy w9 : World} {v v' : Value} {l l' : List LnV} (h : OV G W Q c0 c1 c2 wx v l) (hb : Below wx.heap.size wx wy) (hb9 : Below (Q + 1) wy w9) (hr : RowF lnE (Q + 1) G w9 v' l') (hQ : Q ≤ W.heap.size) (hG : ∀ b, G b → b < Q) : OV G W Q c0 c1 c2 (w9.setCell ⟨Q, 3, none⟩ v') v' l' := by
  have h2 := h.later hb
  have hk := (hb9.block Q (Nat.lt_succ_self Q)).trans h2.box
  have hb2 : Below Q W w9 := h2.below.trans (hb9.mono (Nat.le_succ Q))
  have hg := grown_set w9 Q 3 v'
  refine ⟨set3_blk hk v', hr.grown hg (fun b e z => ?_) (fun b hb' z => ?_), hb2.grown hg (Nat.le_trans hQ hb2.size) fun z hz => ?_⟩
  · have := (hr.own_lt e).1
    simp only [Option.some.injEq] at z
    omega
  · have := hG b hb'
    simp only [Option.some.injEq] at z
    omega
  · simp only [Option.some.injEq] at hz
    omega
theorem OV.vr {G : Nat → Prop} {W : World} {Q : Nat} {lg nx sq : Int} {wx : World} {v : Value} {l : List LnV} (h : OV G W Q (.int .i64 lg) (.int .i64 nx) (.int .i64 sq) wx v l) (h1 : In64 lg) (h2 : In64 nx) (h3 : In64 sq) : ∃ a c, v = .slice a l.length c ∧ VrM wx ⟨lg, nx, sq, l⟩ a c := by
  obtain ⟨a', c', e, hr⟩ := h.row.s.rs
  exact ⟨a', c', e, h1, h2, h3, hr⟩
/-- What is left of it when it was copied into the result's box. -/
theorem OV.fin {G : Nat → Prop} {W : World} {Q P : Nat} {lg nx sq : Int} {wx : World} {a : Option Addr} {c : Nat} {l : List LnV} (h : OV G W Q (.int .i64 lg) (.int .i64 nx) (.int .i64 sq) wx (.slice a l.length c) l) (h1 : In64 lg) (h2 : In64 nx) (h3 : In64 sq) (hP : P < Q) (hG : ∀ b, G b → b < P) (v0 v1 v2 v3 : Value) :
    VrM ((((wx.setCell ⟨P, 0, none⟩ v0).setCell ⟨P, 1, none⟩ v1).setCell ⟨P, 2, none⟩ v2).setCell ⟨P, 3, none⟩ v3) ⟨lg, nx, sq, l⟩ a c := by
  have one : ∀ (w : World) k (v : Value), RowF lnE (Q + 1) G w (.slice a l.length c) l → RowF lnE (Q + 1) G (w.setCell ⟨P, k, none⟩ v) (.slice a l.length c) l := fun w k v hr => hr.grown (grown_set w P k v) (fun b e z => by have := (hr.own_lt e).1; simp only [Option.some.injEq] at z; omega) (fun b hb z => by have := hG b hb; simp only [Option.some.injEq] at z; omega)
  have hr := one _ 3 v3 (one _ 2 v2 (one _ 1 v1 (one _ 0 v0 h.row)))
  obtain ⟨a', c', e, hrs⟩ := hr.s.rs
  simp only [Value.slice.injEq, true_and] at e
  obtain ⟨rfl, rfl⟩ := e
  exact ⟨h1, h2, h3, hrs⟩
theorem stay_take {tabs : List LnV} {rem : List Int} {k : Nat} {x : LnV} (h : tabs[k]? = some x) : (tabs.take (k + 1)).filter (fun t => !decide (t.num ∈ rem)) = (tabs.take k).filter (fun t => !decide (t.num ∈ rem)) ++ (if x.num ∈ rem then [] else [x]) := by
  obtain ⟨hkl, rfl⟩ := List.getElem?_eq_some_iff.1 h
  rw [List.take_add_one, List.getElem?_eq_getElem hkl, List.filter_append]
  simp only [Option.toList]
  congr 1
  by_cases q : tabs[k].num ∈ rem
  · rw [if_pos q, List.filter_cons_of_neg (by simp [q])]; rfl
  · rw [if_neg q, List.filter_cons_of_pos (by simp [q])]; rfl
theorem put_take {add : List LnV} {k : Nat} {x : LnV} (h : add[k]? = some x) (l : List LnV) : (add.take (k + 1)).foldl putL l = putL ((add.take k).foldl putL l) x := by
  obtain ⟨hkl, rfl⟩ := List.getElem?_eq_some_iff.1 h
  rw [List.take_add_one, List.getElem?_eq_getElem hkl, List.foldl_append]
  rfl
theorem foldl_put_len (add l : List LnV) : (add.foldl putL l).length = l.length + add.length := by
  rw [(foldl_put add l).1.length_eq, List.length_append]
end Go.Proofs.Ytjgfklbhagcbaab

/- The document's Apply. -/
namespace Go.Proofs.Ytjgfklbhagcbaab
open Go.RowKit
set_option linter.unusedVariables false
set_option linter.unusedSimpArgs false

set_option maxHeartbeats 16000000 in
set_option maxRecDepth 100000 in
theorem rapply_t {w : World} {v : VrV} {a : Option Addr} {c : Nat} {ed : EdV} {aa ra : Option Addr} {ac rc : Nat} (hv : VrM w v a c) (he : EdM w ed aa ac ra rc) :
    Calls Try.prog 9 #[vrV v a c, edV ed aa ac ra rc] w fun e w' => ∃ a' c', e = .returned (.tuple #[vrV (apV v ed) a' c', .int .i64 (apE v ed : Nat)]) ∧ VrM w' (apV v ed) a' c' ∧ Below w.heap.size w w' := by
  obtain ⟨W, hW⟩ : ∃ W, W = ((w.alloc (.cells #[.int .i64 v.log, .int .i64 v.next, .int .i64 v.seq, .slice a v.tabs.length c] 26)).alloc (.cells #[.int .i64 ed.log, .int .i64 ed.next, .int .i64 ed.seq, .slice aa ed.add.length ac, .slice ra ed.rem.length rc] 37)).alloc (.cells #[.int .i64 0, .int .i64 0, .int .i64 0, .slice none 0 0] 26) := ⟨_, rfl⟩
  have hWs : W.heap.size = w.heap.size + 1 + 1 + 1 := by rw [hW]; simp
  have hWb : Below w.heap.size w W := by rw [hW]; exact (((Below.refl _ w).alloc (Nat.le_refl _) _).alloc (by simp) _).alloc (by simp <;> omega) _
  have k0 : W.heap[w.heap.size]? = some (.cells #[.int .i64 v.log, .int .i64 v.next, .int .i64 v.seq, .slice a v.tabs.length c] 26 (0, 0)) := by
    rw [hW, old_alloc _ _ _ (by simp <;> omega), old_alloc _ _ _ (by simp)]; exact heap_alloc_new _ _
  have k1 : W.heap[w.heap.size + 1]? = some (.cells #[.int .i64 ed.log, .int .i64 ed.next, .int .i64 ed.seq, .slice aa ed.add.length ac, .slice ra ed.rem.length rc] 37 (0, 0)) := by
    have e : w.heap.size + 1 = (w.alloc (.cells #[.int .i64 v.log, .int .i64 v.next, .int .i64 v.seq, .slice a v.tabs.length c] 26)).heap.size := by simp
    rw [hW, old_alloc _ _ _ (by simp <;> omega), e]; exact heap_alloc_new _ _
  have k2 : W.heap[w.heap.size + 1 + 1]? = some (.cells #[.int .i64 0, .int .i64 0, .int .i64 0, .slice none 0 0] 26 (0, 0)) := by
    have e : w.heap.size + 1 + 1 = ((w.alloc (.cells #[.int .i64 v.log, .int .i64 v.next, .int .i64 v.seq, .slice a v.tabs.length c] 26)).alloc (.cells #[.int .i64 ed.log, .int .i64 ed.next, .int .i64 ed.seq, .slice aa ed.add.length ac, .slice ra ed.rem.length rc] 37)).heap.size := by simp
    rw [hW, e]; exact heap_alloc_new _ _
  have F0 : Hid (∀ wx, Below W.heap.size W wx → wx.cell? ⟨w.heap.size, 0, none⟩ = some (.int .i64 v.log) ∧ wx.cell? ⟨w.heap.size, 1, none⟩ = some (.int .i64 v.next) ∧ wx.cell? ⟨w.heap.size, 2, none⟩ = some (.int .i64 v.seq) ∧ wx.cell? ⟨w.heap.size, 3, none⟩ = some (.slice a v.tabs.length c)) := fun wx hb => by
    have z := blk_cells k0 (by omega) hb
    exact ⟨(z 0 _ rfl).1, (z 1 _ rfl).1, (z 2 _ rfl).1, (z 3 _ rfl).1⟩
  have F1 : Hid (∀ wx, Below W.heap.size W wx → wx.cell? ⟨w.heap.size + 1, 0, none⟩ = some (.int .i64 ed.log) ∧ wx.cell? ⟨w.heap.size + 1, 1, none⟩ = some (.int .i64 ed.next) ∧ wx.cell? ⟨w.heap.size + 1, 2, none⟩ = some (.int .i64 ed.seq) ∧ wx.cell? ⟨w.heap.size + 1, 3, none⟩ = some (.slice aa ed.add.length ac) ∧ wx.cell? ⟨w.heap.size + 1, 4, none⟩ = some (.slice ra ed.rem.length rc)) := fun wx hb => by
    have z := blk_cells k1 (by omega) hb
    exact ⟨(z 0 _ rfl).1, (z 1 _ rfl).1, (z 2 _ rfl).1, (z 3 _ rfl).1, (z 4 _ rfl).1⟩
  have F2 : Hid (∀ wx, Below W.heap.size W wx → (wx.cell? ⟨w.heap.size + 1 + 1, 0, none⟩ = some (.int .i64 0) ∧ wx.cell? ⟨w.heap.size + 1 + 1, 1, none⟩ = some (.int .i64 0) ∧ wx.cell? ⟨w.heap.size + 1 + 1, 2, none⟩ = some (.int .i64 0) ∧ wx.cell? ⟨w.heap.size + 1 + 1, 3, none⟩ = some (.slice none 0 0)) ∧ wx.frozen? ⟨w.heap.size + 1 + 1, 0, none⟩ = false ∧ wx.frozen? ⟨w.heap.size + 1 + 1, 1, none⟩ = false ∧ wx.frozen? ⟨w.heap.size + 1 + 1, 2, none⟩ = false ∧ wx.frozen? ⟨w.heap.size + 1 + 1, 3, none⟩ = false) := fun wx hb => by
    have z := blk_cells k2 (by omega) hb
    exact ⟨⟨(z 0 _ rfl).1, (z 1 _ rfl).1, (z 2 _ rfl).1, (z 3 _ rfl).1⟩, (z 0 _ rfl).2, (z 1 _ rfl).2, (z 2 _ rfl).2, (z 3 _ rfl).2⟩
  have HTR : Hid (∀ wx wy, Below W.heap.size W wx → Below wx.heap.size wx wy → Below W.heap.size W wy) := fun wx wy h1 h2 => h1.trans (h2.mono h1.size)
  have HVV : Hid (∀ wx, Below W.heap.size W wx → VrM wx v a c ∧ EdM wx ed aa ac ra rc) := fun wx hb => ⟨hv.later (hWb.trans (hb.mono hWb.size)), he.later (hWb.trans (hb.mono hWb.size))⟩
  have HEND : Hid (∀ wx, Below W.heap.size W wx → ∀ v0 v1 v2 v3, Below w.heap.size w ((((wx.setCell ⟨w.heap.size + 1 + 1, 0, none⟩ v0).setCell ⟨w.heap.size + 1 + 1, 1, none⟩ v1).setCell ⟨w.heap.size + 1 + 1, 2, none⟩ v2).setCell ⟨w.heap.size + 1 + 1, 3, none⟩ v3)) := fun wx hb v0 v1 v2 v3 => below_set4 (hWb.trans (hb.mono hWb.size)) (by omega) (Nat.le_refl _) _ _ _ _
  have M1 : Hid (∀ wx, Below W.heap.size W wx → Calls Try.prog 16 #[vrV v a c] wx fun e w' => e = .returned (.bool (mayVr v)) ∧ Below W.heap.size W w') := fun wx hb => (rmay_vr (HVV.out wx hb).1).mono fun e w' hh => ⟨hh.1, HTR.out _ _ hb hh.2⟩
  have M2 : Hid (∀ wx, Below W.heap.size W wx → Calls Try.prog 17 #[edV ed aa ac ra rc] wx fun e w' => e = .returned (.bool (mayEd ed)) ∧ Below W.heap.size W w') := fun wx hb => (rmay_ed (HVV.out wx hb).2).mono fun e w' hh => ⟨hh.1, HTR.out _ _ hb hh.2⟩
  have HW0 : Hid (Below W.heap.size W W) := Below.refl _ _
  have HNO : Hid (∀ wx : World, VrM wx noVr none 0) := fun wx => ⟨by unfold In64 noVr; simp, by unfold In64 noVr; simp, by unfold In64 noVr; simp, RS.nil _⟩
  unfold vrV at M1
  unfold edV at M2
  have HW := hidS hW
  obtain ⟨m1, hm1⟩ : ∃ m, m = mayVr v := ⟨_, rfl⟩
  obtain ⟨m2, hm2⟩ : ∃ m, m = mayEd ed := ⟨_, rfl⟩
  rw [← hm1] at M1
  rw [← hm2] at M2
  have HM := hidS (And.intro hm1 hm2)
  have HLT : Hid (w.heap.size < W.heap.size ∧ Below w.heap.size w W) := ⟨by omega, hWb⟩
  have HLT2 : Hid (W.heap.size = w.heap.size + 1 + 1 + 1) := hWs
  have F2H : Hid (∀ wx, Below W.heap.size W wx → wx.heap[w.heap.size + 1 + 1]? = some (.cells #[.int .i64 0, .int .i64 0, .int .i64 0, .slice none 0 0] 26 (0, 0))) := fun wx hb => (hb.block _ (by omega)).trans k2
  clear hW hWs hWb k0 k1 k2 hm1 hm2
  have HVE := hidS (And.intro hv he)
  clear hv he
  obtain ⟨P0, hP0⟩ : ∃ P, P = w.heap.size := ⟨_, rfl⟩
  by_cases hm : m1 = true
  · subst hm
    have hmv : mayVr v = true := HM.out.1.symm
    by_cases hm' : m2 = true
    · subst hm'
      have hme : mayEd ed = true := HM.out.2.symm
      have htl : v.tabs.length ≤ 200 := (mayAd_ok (mayVr_ok hmv).2.1).1
      have hal : ed.add.length ≤ 200 := (mayAd_ok (mayEd_ok hme).2.2.2.1).1
      have hrl : ed.rem.length ≤ 200 := (mayRm_ok (mayEd_ok hme).2.2.2.2).1
      have HN7 : Hid ((v.tabs.length < (stayL v ed).length + ed.rem.length) ↔ ∃ n ∈ ed.rem, n ∉ nosL v.tabs) := none_iff (mayAd_ok (mayVr_ok hmv).2.1).2.2 (mayRm_ok (mayEd_ok hme).2.2.2.2).2.2
      have HSL : Hid (v.tabs.length ≤ (stayL v ed).length + ed.rem.length) := by
        have h1 := stay_len (rem := ed.rem) (mayAd_ok (mayVr_ok hmv).2.1).2.2
        have h2 : ((nosL v.tabs).filter fun n => decide (n ∈ ed.rem)).length ≤ ed.rem.length := nodup_sub_len ((mayAd_ok (mayVr_ok hmv).2.1).2.2.filter _) fun x hx => by simpa using (List.mem_filter.1 hx).2
        show _ ≤ _
        unfold stayL
        omega
      have HIF : Hid (mayVr v = true ∧ mayEd ed = true) := ⟨hmv, hme⟩
      obtain ⟨rn, hrn⟩ : ∃ n, n = ed.rem.length := ⟨_, rfl⟩
      obtain ⟨an, han⟩ : ∃ n, n = ed.add.length := ⟨_, rfl⟩
      obtain ⟨tn, htn⟩ : ∃ n, n = v.tabs.length := ⟨_, rfl⟩
      have HLN : Hid ((rn = ed.rem.length ∧ an = ed.add.length ∧ tn = v.tabs.length) ∧ rn ≤ 200 ∧ an ≤ 200 ∧ tn ≤ 200) := ⟨⟨hrn, han, htn⟩, by omega, by omega, by omega⟩
      have HTAB : Hid (∀ wx, Below W.heap.size W wx → ∀ x : Int, Calls Try.prog 18 #[.slice a tn c, .int .i64 x] wx fun e w' => ∃ (num lvl size : Int) (la ma : Option Addr) (L1 lc L2 mc : Nat), e = .returned (.tuple #[.agg #[.int .i64 num, .int .i64 lvl, .int .i64 size, .slice la L1 lc, .slice ma L2 mc], .bool (decide (x ∈ nosL v.tabs))]) ∧ Below W.heap.size W w' ∧ Below wx.heap.size wx w') := fun wx hb x => by
        rw [htn]
        refine (rtable2_t (HVV.out wx hb).1.tabs x).mono ?_
        rintro e w' ⟨⟨num, lvl, size, la, ma, L1, lc, L2, mc, he, _⟩, hb2⟩
        exact ⟨num, lvl, size, la, ma, L1, lc, L2, mc, he, HTR.out _ _ hb hb2, hb2⟩
      have HHAS : Hid (∀ wx, Below W.heap.size W wx → ∀ x : Int, Calls Try.prog 19 #[.slice ra rn rc, .int .i64 x] wx fun e w' => e = .returned (.bool (decide (x ∈ ed.rem))) ∧ w' = wx) := fun wx hb x => by
        rw [hrn]
        exact rhas_t (HVV.out wx hb).2.rem x
      unfold vrV edV
      rw [← hrn, ← han] at F1 M2
      rw [← htn] at F0 M1
      rw [← hrn, ← han, ← htn] at HW ⊢
      clear hP0
      obtain ⟨x0, x1, x2, x3⟩ := F0.out _ HW0.out
      obtain ⟨y0, y1, y2, y3, y4⟩ := F1.out _ HW0.out
      obtain ⟨⟨z0, z1, z2, z3⟩, f0, f1, f2, f3⟩ := F2.out _ HW0.out
      have hc1 := M1.out _ HW0.out
      rw [HW.out] at x0 x1 x2 x3 y0 y1 y2 y3 y4 z0 z1 z2 z3 f0 f1 f2 f3 hc1
      clear htl hal hrl hmv hme hrn han htn
      have HXE : Hid (∀ (E : Nat) wx, Below W.heap.size W wx → apE v ed = E → E ≠ 0 → ∃ a' c', Ending.returned (.tuple #[.agg #[.int .i64 0, .int .i64 0, .int .i64 0, .slice none 0 0], .int .i64 (E : Int)]) = Ending.returned (.tuple #[.agg #[.int .i64 (apV v ed).log, .int .i64 (apV v ed).next, .int .i64 (apV v ed).seq, .slice a' (apV v ed).tabs.length c'], .int .i64 (apE v ed : Nat)]) ∧ VrM ((((wx.setCell ⟨w.heap.size + 1 + 1, 0, none⟩ (.int .i64 0)).setCell ⟨w.heap.size + 1 + 1, 1, none⟩ (.int .i64 0)).setCell ⟨w.heap.size + 1 + 1, 2, none⟩ (.int .i64 0)).setCell ⟨w.heap.size + 1 + 1, 3, none⟩ (.slice none 0 0)) (apV v ed) a' c' ∧ Below w.heap.size w ((((wx.setCell ⟨w.heap.size + 1 + 1, 0, none⟩ (.int .i64 0)).setCell ⟨w.heap.size + 1 + 1, 1, none⟩ (.int .i64 0)).setCell ⟨w.heap.size + 1 + 1, 2, none⟩ (.int .i64 0)).setCell ⟨w.heap.size + 1 + 1, 3, none⟩ (.slice none 0 0))) := fun E wx hb he h0 => by
        have hv : apV v ed = noVr := by unfold apV; rw [if_neg (by omega)]
        rw [he, hv]
        exact ⟨none, 0, rfl, HNO.out _, HEND.out _ hb _ _ _ _⟩
      go_enter Try.func9, Try.ntmps9
      go_wp2_with (first | (go_at_call 16; refine hc1.mono ?_; rintro e w1 ⟨rfl, b1⟩; rw [← HW.out] at b1; clear hc1; clear x0 x1 x2 x3 y0 y1 y2 y3 y4 z0 z1 z2 z3 f0 f1 f2 f3; obtain ⟨x0, x1, x2, x3⟩ := F0.out _ b1; obtain ⟨y0, y1, y2, y3, y4⟩ := F1.out _ b1; obtain ⟨⟨z0, z1, z2, z3⟩, f0, f1, f2, f3⟩ := F2.out _ b1) | (go_at_call 17; refine (M2.out _ b1).mono ?_; rintro e w2 ⟨rfl, b2⟩; clear x0 x1 x2 x3 y0 y1 y2 y3 y4 z0 z1 z2 z3 f0 f1 f2 f3; obtain ⟨x0, x1, x2, x3⟩ := F0.out _ b2; obtain ⟨y0, y1, y2, y3, y4⟩ := F1.out _ b2; obtain ⟨⟨z0, z1, z2, z3⟩, f0, f1, f2, f3⟩ := F2.out _ b2))
      clear x0 x1 x2 x3 y0 y1 y2 y3 y4 z0 z1 z2 z3 f0 f1 f2 f3
      have HB2 := hidS b2
      clear b2 b1
      go_loopg [31] rn (fun kx s31 wr => ∃ k : Nat, s31 = .int .i64 k ∧ k + kx = rn ∧ Hid (Below W.heap.size W wr ∧ ∀ n ∈ ed.rem.take k, n ∈ nosL v.tabs))
      case atStart => exact ⟨0, rfl, by omega, HB2.out, by simp⟩
      case round =>
        obtain ⟨k, rfl, hg, HK⟩ := hrel
        by_cases hk : k < rn
        · have hk' : (k : Int) < (rn : Int) := by omega
          obtain ⟨x, hx⟩ : ∃ x, ed.rem[k]? = some x := ⟨_, List.getElem?_eq_getElem (by have := HLN.out.1.1; omega)⟩
          obtain ⟨b, off, rfl, r0, -⟩ := RS.i64 (HVV.out _ HK.out.1).2.rem hx
          have HR := hidS (And.intro hg (And.intro hk hx))
          have hk62 : k ≤ 2 ^ 60 := by have := HLN.out.2.1; omega
          obtain ⟨x0, x1, x2, x3⟩ := F0.out _ HK.out.1
          obtain ⟨q, hq⟩ : ∃ q : Bool, q = decide (x ∈ nosL v.tabs) := ⟨_, rfl⟩
          have HT := hidS (HTAB.out _ HK.out.1 x)
          rw [← hq] at HT
          cases q with
          | true =>
            have HIN : Hid (x ∈ nosL v.tabs) := (of_decide_eq_true hq.symm : x ∈ nosL v.tabs)
            clear hg hk hx hq
            go_wp2_with (go_at_call 18; refine HT.out.mono ?_; rintro e w3 ⟨num, lvl, size, la, ma, L1, lc, L2, mc, rfl, b3, -⟩)
            go_roundg (rn - (k + 1))
            case measure => have := HR.out; omega
            case rel =>
              refine ⟨k + 1, by go_num, by have := HR.out; omega, b3.alloc b3.size _, fun n hn => ?_⟩
              obtain ⟨hkl, he⟩ := List.getElem?_eq_some_iff.1 HR.out.2.2
              rw [List.take_add_one, List.getElem?_eq_getElem hkl, he] at hn
              simp only [Option.toList, List.mem_append, List.mem_singleton] at hn
              rcases hn with hn | rfl
              · exact HK.out.2 n hn
              · exact HIN.out
          | false =>
            have HE : Hid (apE v ed = 7) := by
              show _ = _
              unfold apE
              rw [if_pos HIF.out, if_pos ⟨x, List.mem_of_getElem? hx, of_decide_eq_false hq.symm⟩]
            clear hg hk hx hq
            go_wp2_with (go_at_call 18; refine HT.out.mono ?_; rintro e w3 ⟨num, lvl, size, la, ma, L1, lc, L2, mc, rfl, b3, -⟩; have b4 := b3.alloc b3.size (.cells #[.int .i64 num, .int .i64 lvl, .int .i64 size, .slice la L1 lc, .slice ma L2 mc] 30); obtain ⟨⟨z0, z1, z2, z3⟩, f0, f1, f2, f3⟩ := F2.out _ b4)
            have S4 := set4_cells z0 z1 z2 z3 (.int .i64 0) (.int .i64 0) (.int .i64 0) (.slice none 0 0)
            exact bodyPost_ret (v := .tuple #[.agg #[.int .i64 0, .int .i64 0, .int .i64 0, .slice none 0 0], .int .i64 7]) (by simp [results, Try.results9, go_sem, S4.1, S4.2.1, S4.2.2.1, S4.2.2.2]) rfl (HXE.out 7 _ b4 HE.out (by decide))
        · have hk' : ¬ (k : Int) < (rn : Int) := by omega
          have HC7 : Hid (∀ n ∈ ed.rem, n ∈ nosL v.tabs) := by
            have := HK.out.2
            rwa [List.take_of_length_le (by have := HLN.out.1.1; omega)] at this
          have HKB := hidS HK.out.1
          obtain ⟨y0, y1, y2, y3, y4⟩ := F1.out _ HK.out.1
          clear hg hk HK
          go_wp2_with fail
          clear y0 y1 y2 y3 y4
          go_loopg [49] an (fun kx s49 wr => ∃ k : Nat, s49 = .int .i64 k ∧ k + kx = an ∧ Hid (Below W.heap.size W wr ∧ ∀ t ∈ ed.add.take k, ¬ (t.num ∈ nosL v.tabs ∧ t.num ∉ ed.rem)))
          case atStart => exact ⟨0, rfl, by omega, HKB.out, by simp⟩
          case round =>
            obtain ⟨k, rfl, hg, HK⟩ := hrel
            by_cases hk : k < an
            · have hk' : (k : Int) < (an : Int) := by omega
              obtain ⟨x, hx⟩ : ∃ x, ed.add[k]? = some x := ⟨_, List.getElem?_eq_getElem (by have := HLN.out.1.2.1; omega)⟩
              obtain ⟨b, off, la, lc, ma, mc, rfl, r0, r1, r2, r3, r4, -, -, -, -, -⟩ := RS.ln (HVV.out _ HK.out.1).2.add hx
              have HR := hidS (And.intro hg (And.intro hk hx))
              have hk62 : k ≤ 2 ^ 60 := by have := HLN.out.2.2.1; omega
              have hbx := fun (wx : World) hb => box5 wr (.int .i64 x.num) (.int .i64 x.lvl) (.int .i64 x.size) (.slice la x.least.length lc) (.slice ma x.most.length mc) 30 (wx := wx) hb
              obtain ⟨W1, hW1⟩ : ∃ W1, W1 = wr.alloc (.cells #[.int .i64 x.num, .int .i64 x.lvl, .int .i64 x.size, .slice la x.least.length lc, .slice ma x.most.length mc] 30) := ⟨_, rfl⟩
              have hb1 : Below W.heap.size W W1 := by rw [hW1]; exact HK.out.1.alloc HK.out.1.size _
              rw [← hW1] at hbx
              have HBX := hidS hbx
              have HB1 := hidS hb1
              have HTA := hidS (HTAB.out _ hb1 x.num)
              obtain ⟨q1, hq1⟩ : ∃ q : Bool, q = decide (x.num ∈ nosL v.tabs) := ⟨_, rfl⟩
              obtain ⟨q2, hq2⟩ : ∃ q : Bool, q = decide (x.num ∈ ed.rem) := ⟨_, rfl⟩
              rw [← hq1] at HTA
              have HHA : Hid (∀ wx, Below W.heap.size W wx → Calls Try.prog 19 #[.slice ra rn rc, .int .i64 x.num] wx fun e w' => e = .returned (.bool q2) ∧ w' = wx) := fun wx hb => by rw [hq2]; exact HHAS.out wx hb x.num
              have HQQ := hidS (And.intro hq1 hq2)
              have HNX : Hid (¬ (x.num ∈ nosL v.tabs ∧ x.num ∉ ed.rem) → ∀ t ∈ ed.add.take (k + 1), ¬ (t.num ∈ nosL v.tabs ∧ t.num ∉ ed.rem)) := fun hno t ht => by
                obtain ⟨hkl, he⟩ := List.getElem?_eq_some_iff.1 HR.out.2.2
                rw [List.take_add_one, List.getElem?_eq_getElem hkl, he] at ht
                simp only [Option.toList, List.mem_append, List.mem_singleton] at ht
                rcases ht with ht | rfl
                · exact HK.out.2 t ht
                · exact hno
              have H6 : Hid (x.num ∈ nosL v.tabs ∧ x.num ∉ ed.rem → apE v ed = 6) := fun h6 => by
                unfold apE
                rw [if_pos HIF.out, if_neg (by rintro ⟨n, hn, hz⟩; exact hz (HC7.out n hn)), if_pos ⟨x, List.mem_of_getElem? HR.out.2.2, h6.1, h6.2⟩]
              obtain ⟨xn, hxn⟩ : ∃ z, z = x.num := ⟨_, rfl⟩
              rw [← hxn] at r0 hbx HBX HTA HHA hW1 HQQ HNX H6
              generalize x.lvl = lvl2 at r1 hbx HBX hW1
              generalize x.size = size2 at r2 hbx HBX hW1
              generalize x.least.length = K1 at r3 hbx HBX hW1
              generalize x.most.length = K2 at r4 hbx HBX hW1
              obtain ⟨x0, x1, x2, x3⟩ := F0.out _ hb1
              obtain ⟨t0, t1, t2, t3, t4⟩ := hbx _ (Below.refl _ _)
              have HW1 := hidS hW1
              rw [hW1] at x0 x1 x2 x3 t0 t1 t2 t3 t4
              clear hg hk hx hq1 hq2 hbx hb1 hxn hW1
              cases q1 with
              | false =>
                go_wp2_with (go_at_call 18; rw [← HW1.out]; refine HTA.out.mono ?_; rintro e w3 ⟨num, lvl, size, la3, ma3, L1, lc3, L2, mc3, rfl, b3, b13⟩; clear x0 x1 x2 x3 t0 t1 t2 t3 t4)
                go_roundg (an - (k + 1))
                case measure => have := HR.out; omega
                case rel => exact ⟨k + 1, by go_num, by have := HR.out; omega, b3.alloc b3.size _, HNX.out fun z => of_decide_eq_false HQQ.out.1.symm z.1⟩
              | true =>
                cases q2 with
                | true =>
                  go_wp2_with (first | (go_at_call 18; rw [← HW1.out]; refine HTA.out.mono ?_; rintro e w3 ⟨num, lvl, size, la3, ma3, L1, lc3, L2, mc3, rfl, b3, b13⟩; clear x0 x1 x2 x3 t0 t1 t2 t3 t4; have b4 := b3.alloc b3.size (.cells #[.int .i64 num, .int .i64 lvl, .int .i64 size, .slice la3 L1 lc3, .slice ma3 L2 mc3] 30); obtain ⟨y0, y1, y2, y3, y4⟩ := F1.out _ b4; obtain ⟨t0, t1, t2, t3, t4⟩ := HBX.out _ (b13.alloc b13.size (.cells #[.int .i64 num, .int .i64 lvl, .int .i64 size, .slice la3 L1 lc3, .slice ma3 L2 mc3] 30))) | (go_at_call 19; refine (HHA.out _ b4).mono ?_; rintro e w5 ⟨rfl, rfl⟩))
                  go_roundg (an - (k + 1))
                  case measure => have := HR.out; omega
                  case rel => exact ⟨k + 1, by go_num, by have := HR.out; omega, b4, HNX.out fun z => z.2 (of_decide_eq_true HQQ.out.2.symm)⟩
                | false =>
                  have HE : Hid (apE v ed = 6) := H6.out ⟨of_decide_eq_true HQQ.out.1.symm, of_decide_eq_false HQQ.out.2.symm⟩
                  go_wp2_with (first | (go_at_call 18; rw [← HW1.out]; refine HTA.out.mono ?_; rintro e w3 ⟨num, lvl, size, la3, ma3, L1, lc3, L2, mc3, rfl, b3, b13⟩; clear x0 x1 x2 x3 t0 t1 t2 t3 t4; have b4 := b3.alloc b3.size (.cells #[.int .i64 num, .int .i64 lvl, .int .i64 size, .slice la3 L1 lc3, .slice ma3 L2 mc3] 30); obtain ⟨y0, y1, y2, y3, y4⟩ := F1.out _ b4; obtain ⟨⟨z0, z1, z2, z3⟩, f0, f1, f2, f3⟩ := F2.out _ b4; obtain ⟨t0, t1, t2, t3, t4⟩ := HBX.out _ (b13.alloc b13.size (.cells #[.int .i64 num, .int .i64 lvl, .int .i64 size, .slice la3 L1 lc3, .slice ma3 L2 mc3] 30))) | (go_at_call 19; refine (HHA.out _ b4).mono ?_; rintro e w5 ⟨rfl, rfl⟩))
                  have S4 := set4_cells z0 z1 z2 z3 (.int .i64 0) (.int .i64 0) (.int .i64 0) (.slice none 0 0)
                  exact bodyPost_ret (v := .tuple #[.agg #[.int .i64 0, .int .i64 0, .int .i64 0, .slice none 0 0], .int .i64 6]) (by simp [results, Try.results9, go_sem, S4.1, S4.2.1, S4.2.2.1, S4.2.2.2]) rfl (HXE.out 6 _ b4 HE.out (by decide))
            · have hk' : ¬ (k : Int) < (an : Int) := by omega
              have HC6 : Hid (∀ t ∈ ed.add, ¬ (t.num ∈ nosL v.tabs ∧ t.num ∉ ed.rem)) := by
                have := HK.out.2
                rwa [List.take_of_length_le (by have := HLN.out.1.2.1; omega)] at this
              have HKC := hidS HK.out.1
              obtain ⟨x0, x1, x2, x3⟩ := F0.out _ HK.out.1
              obtain ⟨y0, y1, y2, y3, y4⟩ := F1.out _ HK.out.1
              obtain ⟨⟨z0, z1, z2, z3⟩, f0, f1, f2, f3⟩ := F2.out _ HK.out.1
              clear hg hk HK
              have HNE : Hid (¬ (∃ n ∈ ed.rem, n ∉ nosL v.tabs) ∧ ¬ ∃ t ∈ ed.add, t.num ∈ nosL v.tabs ∧ t.num ∉ ed.rem) := ⟨fun ⟨n, hn, hz⟩ => hz (HC7.out n hn), fun ⟨t, ht, h6⟩ => HC6.out t ht h6⟩
              have HE11 : Hid (ed.log < v.log ∨ ed.next < v.next ∨ ed.seq < v.seq → apE v ed = 11) := fun h11 => by
                unfold apE
                rw [if_pos HIF.out, if_neg HNE.out.1, if_neg HNE.out.2, if_pos h11]
              obtain ⟨S, hS⟩ : ∃ S, S = (stayL v ed).length := ⟨_, rfl⟩
              have hts : tn = S + rn := by
                have h1 := HSL.out
                have h2 : ¬ v.tabs.length < (stayL v ed).length + ed.rem.length := fun z => HNE.out.1 (HN7.out.1 z)
                have := HLN.out.1
                omega
              have HSE := hidS (And.intro hS hts)
              by_cases q1 : ed.log < v.log
              · have HE : Hid (apE v ed = 11) := HE11.out (.inl q1)
                clear hS hts
                go_wp2_with fail
                have S4 := set4_cells z0 z1 z2 z3 (.int .i64 0) (.int .i64 0) (.int .i64 0) (.slice none 0 0)
                exact bodyPost_ret (v := .tuple #[.agg #[.int .i64 0, .int .i64 0, .int .i64 0, .slice none 0 0], .int .i64 11]) (by simp [results, Try.results9, go_sem, S4.1, S4.2.1, S4.2.2.1, S4.2.2.2]) rfl (HXE.out 11 _ HKC.out HE.out (by decide))
              · by_cases q2 : ed.next < v.next
                · have HE : Hid (apE v ed = 11) := HE11.out (.inr (.inl q2))
                  clear hS hts
                  go_wp2_with fail
                  have S4 := set4_cells z0 z1 z2 z3 (.int .i64 0) (.int .i64 0) (.int .i64 0) (.slice none 0 0)
                  exact bodyPost_ret (v := .tuple #[.agg #[.int .i64 0, .int .i64 0, .int .i64 0, .slice none 0 0], .int .i64 11]) (by simp [results, Try.results9, go_sem, S4.1, S4.2.1, S4.2.2.1, S4.2.2.2]) rfl (HXE.out 11 _ HKC.out HE.out (by decide))
                · by_cases q3 : ed.seq < v.seq
                  · have HE : Hid (apE v ed = 11) := HE11.out (.inr (.inr q3))
                    clear hS hts
                    go_wp2_with fail
                    have S4 := set4_cells z0 z1 z2 z3 (.int .i64 0) (.int .i64 0) (.int .i64 0) (.slice none 0 0)
                    exact bodyPost_ret (v := .tuple #[.agg #[.int .i64 0, .int .i64 0, .int .i64 0, .slice none 0 0], .int .i64 11]) (by simp [results, Try.results9, go_sem, S4.1, S4.2.1, S4.2.2.1, S4.2.2.2]) rfl (HXE.out 11 _ HKC.out HE.out (by decide))
                  · have H11 : Hid (¬ (ed.log < v.log ∨ ed.next < v.next ∨ ed.seq < v.seq)) := by rintro (z | z | z) <;> contradiction
                    have hsub : (tn : Int) - (rn : Int) = (S : Int) := by omega
                    have hS200 : S ≤ 200 := by have := HLN.out.2.2.2; omega
                    have han2 : an ≤ 200 := HLN.out.2.2.1
                    clear hS hts
                    by_cases q13 : 200 < S + an
                    · have HE : Hid (apE v ed = 13) := by
                        show _ = _
                        unfold apE
                        rw [if_pos HIF.out, if_neg HNE.out.1, if_neg HNE.out.2, if_neg H11.out, if_pos (by rw [← HSE.out.1, ← HLN.out.1.2.1]; exact q13)]
                      have q13' : (200 : Int) < (S : Int) + (an : Int) := by omega
                      clear q13
                      go_wp2_with fail
                      have S4 := set4_cells z0 z1 z2 z3 (.int .i64 0) (.int .i64 0) (.int .i64 0) (.slice none 0 0)
                      exact bodyPost_ret (v := .tuple #[.agg #[.int .i64 0, .int .i64 0, .int .i64 0, .slice none 0 0], .int .i64 13]) (by simp [results, Try.results9, go_sem, S4.1, S4.2.1, S4.2.2.1, S4.2.2.2]) rfl (HXE.out 13 _ HKC.out HE.out (by decide))
                    · have H13 : Hid (¬ 200 < (stayL v ed).length + ed.add.length) := by
                        show ¬ _
                        rw [← HSE.out.1, ← HLN.out.1.2.1]; exact q13
                      have q13' : ¬ (200 : Int) < (S : Int) + (an : Int) := by omega
                      clear q13
                      have b3 := HKC.out.alloc HKC.out.size (.cells #[.int .i64 ed.log, .int .i64 ed.next, .int .i64 ed.seq, .slice none 0 0] 26)
                      obtain ⟨xx0, xx1, xx2, xx3⟩ := F0.out _ b3
                      clear z0 z1 z2 z3 f0 f1 f2 f3
                      have HB3 := hidS b3
                      clear b3
                      go_wp2_with fail
                      clear x0 x1 x2 x3 y0 y1 y2 y3 y4 xx0 xx1 xx2 xx3
                      obtain ⟨V, hV⟩ : ∃ V, V = wr := ⟨_, rfl⟩
                      obtain ⟨Q, hQ⟩ : ∃ Q, Q = wr.heap.size := ⟨_, rfl⟩
                      have HO0 : Hid (OV (fun b => b < w.heap.size) V Q (.int .i64 ed.log) (.int .i64 ed.next) (.int .i64 ed.seq) (wr.alloc (.cells #[.int .i64 ed.log, .int .i64 ed.next, .int .i64 ed.seq, .slice none 0 0] 26)) (.slice none 0 0) []) := by
                        rw [hV, hQ]
                        exact ⟨heap_alloc_new _ _, RowF.nil _ _ _, (Below.refl _ _).alloc (Nat.le_refl _) _⟩
                      have HQW : Hid (W.heap.size ≤ Q ∧ Q ≤ V.heap.size ∧ w.heap.size ≤ Q ∧ Below W.heap.size W V) := by
                        rw [hV, hQ]
                        exact ⟨HKC.out.size, Nat.le_refl _, Nat.le_trans HLT.out.2.size HKC.out.size, HKC.out⟩
                      have HGQ : Hid (∀ b, b < w.heap.size → b < Q) := fun b hb => Nat.lt_of_lt_of_le hb HQW.out.2.2.1
                      have HOW : Hid (∀ wx u l, OV (fun b => b < w.heap.size) V Q (.int .i64 ed.log) (.int .i64 ed.next) (.int .i64 ed.seq) wx u l → Below W.heap.size W wx) := fun wx u l h => HQW.out.2.2.2.trans (h.below.mono HQW.out.1)
                      rw [← hQ]
                      clear hV hQ HB3
                      go_loopg [115] tn (fun kx s115 wx => ∃ k : Nat, s115 = .int .i64 k ∧ k + kx = tn ∧ Hid (∃ u, OV (fun b => b < w.heap.size) V Q (.int .i64 ed.log) (.int .i64 ed.next) (.int .i64 ed.seq) wx u ((v.tabs.take k).filter fun t => !decide (t.num ∈ ed.rem))))
                      case atStart => exact ⟨0, rfl, by omega, _, HO0.out⟩
                      case round =>
                        clear HO0
                        obtain ⟨k, rfl, hg, HK⟩ := hrel
                        obtain ⟨u, hu⟩ := HK.out
                        obtain ⟨l, hl⟩ : ∃ l, l = (v.tabs.take k).filter fun t => !decide (t.num ∈ ed.rem) := ⟨_, rfl⟩
                        rw [← hl] at hu
                        obtain ⟨ua, un, uc, hue, hur, hul⟩ : ∃ ua un uc, u = .slice ua un uc ∧ RSG lnE (fun b => b < w.heap.size) wr ua un uc l ∧ un = l.length := by
                          obtain ⟨ua, uc, hue, hur⟩ := hu.row.rsg
                          exact ⟨ua, _, uc, hue, hur, rfl⟩
                        subst hue
                        have HUL : Hid (l.length = un ∧ un ≤ k) := ⟨hul.symm, by rw [hul, hl]; exact Nat.le_trans (List.length_filter_le _ _) (by rw [List.length_take]; omega)⟩
                        have HLF := hidS hl
                        clear hul hl
                        have HO := hidS hu
                        have HBW := hidS (HOW.out _ _ _ hu)
                        by_cases hk : k < tn
                        · have hk' : (k : Int) < (tn : Int) := by omega
                          obtain ⟨x, hx⟩ : ∃ x, v.tabs[k]? = some x := ⟨_, List.getElem?_eq_getElem (by have := HLN.out.1.2.2; omega)⟩
                          obtain ⟨b, off, la, lc, ma, mc, hae, r0, r1, r2, r3, r4, hM, -, gq⟩ := RSG.ln (RSG.any HVE.out.1.tabs) hx
                          subst hae
                          have HR := hidS (And.intro hg (And.intro hk hx))
                          have HK2 : Hid (k ≤ 200 ∧ un ≤ k) := ⟨by have := HLN.out.2.2.2; omega, HUL.out.2⟩
                          have hk62 : k ≤ 2 ^ 60 := by have := HK2.out; omega
                          have bw : Below w.heap.size w wr := HLT.out.2.trans (HBW.out.mono HLT.out.2.size)
                          replace r0 := cell_later bw r0
                          replace r1 := cell_later bw r1
                          replace r2 := cell_later bw r2
                          replace r3 := cell_later bw r3
                          replace r4 := cell_later bw r4
                          have HX : Hid ((v.tabs.take (k + 1)).filter (fun t => !decide (t.num ∈ ed.rem)) = l ++ (if x.num ∈ ed.rem then [] else [x])) := by
                            show _ = _
                            rw [stay_take hx, HLF.out]
                          have HMX : Hid (LnM w [.int .i64 x.num, .int .i64 x.lvl, .int .i64 x.size, .slice la x.least.length lc, .slice ma x.most.length mc] x ∧ ∀ u ∈ [Value.int .i64 x.num, .int .i64 x.lvl, .int .i64 x.size, .slice la x.least.length lc, .slice ma x.most.length mc], ∀ b, Refs u b → b < w.heap.size) := ⟨hM, gq⟩
                          have HBw := hidS bw
                          obtain ⟨q, hq⟩ : ∃ q : Bool, q = decide (x.num ∈ ed.rem) := ⟨_, rfl⟩
                          have HHA : Hid (∀ wx, Below W.heap.size W wx → Calls Try.prog 19 #[.slice ra rn rc, .int .i64 x.num] wx fun e w' => e = .returned (.bool q) ∧ w' = wx) := fun wx hb => by rw [hq]; exact HHAS.out wx hb x.num
                          have HQ := hidS hq
                          obtain ⟨xn, hxn⟩ : ∃ z, z = x.num := ⟨_, rfl⟩
                          rw [← hxn] at r0 HMX HHA HQ HX
                          generalize x.lvl = lvl2 at r1 HMX
                          generalize x.size = size2 at r2 HMX
                          generalize x.least.length = K1 at r3 HMX
                          generalize x.most.length = K2 at r4 HMX
                          have hb1 : Below wr.heap.size wr (wr.alloc (.cells #[.int .i64 xn, .int .i64 lvl2, .int .i64 size2, .slice la K1 lc, .slice ma K2 mc] 30)) := (Below.refl _ _).alloc (Nat.le_refl _) _
                          have hbW : Below W.heap.size W (wr.alloc (.cells #[.int .i64 xn, .int .i64 lvl2, .int .i64 size2, .slice la K1 lc, .slice ma K2 mc] 30)) := HBW.out.alloc HBW.out.size _
                          obtain ⟨y0, y1, y2, y3, y4⟩ := F1.out _ hbW
                          obtain ⟨t0, t1, t2, t3, t4⟩ := box5 wr (.int .i64 xn) (.int .i64 lvl2) (.int .i64 size2) (.slice la K1 lc) (.slice ma K2 mc) 30 (Below.refl _ _)
                          obtain ⟨⟨o0, o1, o2, o3⟩, fo3⟩ := (HO.out.later hb1).cells
                          have HB1 := hidS (And.intro hb1 hbW)
                          clear hg hk hx hq hxn hM gq bw hb1 hbW hur hu
                          cases q with
                          | true =>
                            have HN : Hid (xn ∈ ed.rem) := (of_decide_eq_true HQ.out.symm : xn ∈ ed.rem)
                            go_wp2_with (go_at_call 19; refine (HHA.out _ HB1.out.2).mono ?_; rintro e w5 ⟨rfl, rfl⟩)
                            go_roundg (tn - (k + 1))
                            case measure => have := HR.out; omega
                            case rel => exact ⟨k + 1, by go_num, by have := HR.out; omega, _, by rw [HX.out, if_pos HN.out, List.append_nil]; exact HO.out.later HB1.out.1⟩
                          | false =>
                            have HN : Hid (xn ∉ ed.rem) := (of_decide_eq_false HQ.out.symm : ¬ xn ∈ ed.rem)
                            have b2 : Below wr.heap.size wr ((wr.alloc (.cells #[.int .i64 xn, .int .i64 lvl2, .int .i64 size2, .slice la K1 lc, .slice ma K2 mc] 30)).alloc (.cells #[.int .i64 xn, .int .i64 lvl2, .int .i64 size2, .slice la K1 lc, .slice ma K2 mc] 30)) := HB1.out.1.trans ((Below.refl _ _).alloc (Nat.le_refl _) _ |>.mono HB1.out.1.size)
                            have hap : RowF lnE (Q + 1) (fun b => b < w.heap.size) ((wr.alloc (.cells #[.int .i64 xn, .int .i64 lvl2, .int .i64 size2, .slice la K1 lc, .slice ma K2 mc] 30)).alloc (.cells #[.int .i64 xn, .int .i64 lvl2, .int .i64 size2, .slice la K1 lc, .slice ma K2 mc] 30)) (.slice ua un uc) l ∧ RSG lnE (fun b => b < w.heap.size) ((wr.alloc (.cells #[.int .i64 xn, .int .i64 lvl2, .int .i64 size2, .slice la K1 lc, .slice ma K2 mc] 30)).alloc (.cells #[.int .i64 xn, .int .i64 lvl2, .int .i64 size2, .slice la K1 lc, .slice ma K2 mc] 30)) (some ⟨(wr.alloc (.cells #[.int .i64 xn, .int .i64 lvl2, .int .i64 size2, .slice la K1 lc, .slice ma K2 mc] 30)).heap.size, 0, none⟩) 1 1 [x] ∧ Q + 1 ≤ ((wr.alloc (.cells #[.int .i64 xn, .int .i64 lvl2, .int .i64 size2, .slice la K1 lc, .slice ma K2 mc] 30)).alloc (.cells #[.int .i64 xn, .int .i64 lvl2, .int .i64 size2, .slice la K1 lc, .slice ma K2 mc] 30)).heap.size := ⟨(HO.out.later b2).row, rsg_one (E := lnE) (El.later (E := lnE) HMX.out.1 (HBw.out.trans (HB1.out.1.mono HBw.out.size))) HMX.out.2, (HO.out.later b2).lt⟩
                            rw [show (wr.alloc (.cells #[.int .i64 xn, .int .i64 lvl2, .int .i64 size2, .slice la K1 lc, .slice ma K2 mc] 30)).heap.size = wr.heap.size + 1 by simp] at hap
                            have HPP := hidE hap
                            have HB2 := hidE b2
                            clear hap b2
                            go_wp2_with (first | (go_at_call 19; refine (HHA.out _ HB1.out.2).mono ?_; rintro e w5 ⟨rfl, rfl⟩) | (at_builtin; refine wpList_appG lnE (t := 24) (z := .agg #[.int .i64 0, .int .i64 0, .int .i64 0, .slice none 0 0, .slice none 0 0]) (bytes := 72) (B := Q + 1) (G := (fun b => b < w.heap.size)) Try.underlying24 lnE_info rfl (by decide) rfl (.tmp 126) (.tmp 128) rfl rfl HPP.out.1 rfl HPP.out.2.1 (fun b hb => Nat.lt_succ_of_lt (HGQ.out b hb)) (by have := HUL.out; have := HK2.out; omega) (by have := HUL.out; have := HK2.out; omega) HPP.out.2.2 ?_; intro v9 w9 r9 g9; obtain ⟨va, vc, ve, -⟩ := r9.rsg; obtain ⟨vn, hvn⟩ : ∃ n, n = (l ++ [x]).length := ⟨_, rfl⟩; rw [← hvn] at ve; clear hvn; subst ve; clear o0 o1 o2 o3 fo3; have hbk := g9.block Q (Nat.lt_succ_self Q); have hbx9 := hbk.trans (HO.out.later HB2.out).box; obtain ⟨o3, fo3⟩ := blk_cells hbx9 (Array.getElem?_eq_some_iff.1 hbx9).1 (Below.refl _ _) 3 _ rfl; have HR9 := hidE (And.intro r9 g9); clear r9 g9 hbk hbx9))
                            go_roundg (tn - (k + 1))
                            case measure => have := HR.out; omega
                            case rel => exact ⟨k + 1, by go_num, by have := HR.out; omega, _, by rw [HX.out, if_neg HN.out]; exact HO.out.set HB2.out HR9.out.2 HR9.out.1 HQW.out.2.1 HGQ.out⟩
                        · have hk' : ¬ (k : Int) < (tn : Int) := by omega
                          have HS0 : Hid (l = stayL v ed) := by
                            show _ = _
                            rw [HLF.out, List.take_of_length_le (by have := HLN.out.1.2.2; omega)]
                            rfl
                          obtain ⟨y0, y1, y2, y3, y4⟩ := F1.out _ HBW.out
                          clear hg hk hur hu
                          go_wp2_with fail
                          clear y0 y1 y2 y3 y4
                          go_loopg [135] an (fun kx s135 wx => ∃ k : Nat, s135 = .int .i64 k ∧ k + kx = an ∧ Hid (∃ u, OV (fun b => b < w.heap.size) V Q (.int .i64 ed.log) (.int .i64 ed.next) (.int .i64 ed.seq) wx u ((ed.add.take k).foldl putL (stayL v ed))))
                          case atStart => exact ⟨0, rfl, by omega, _, by rw [List.take_zero, List.foldl_nil, ← HS0.out]; exact HO.out⟩
                          case round =>
                            clear HS0 HO HBW HK HUL HLF
                            obtain ⟨k2, rfl, hg, HK⟩ := hrel
                            obtain ⟨u, hu⟩ := HK.out
                            obtain ⟨l2, hl⟩ : ∃ l2, l2 = (ed.add.take k2).foldl putL (stayL v ed) := ⟨_, rfl⟩
                            rw [← hl] at hu
                            obtain ⟨ua2, un2, uc2, hue, hur, hul⟩ : ∃ ua un uc, u = .slice ua un uc ∧ RSG lnE (fun b => b < w.heap.size) wr ua un uc l2 ∧ un = l2.length := by
                              obtain ⟨ua, uc, hue, hur⟩ := hu.row.rsg
                              exact ⟨ua, _, uc, hue, hur, rfl⟩
                            subst hue
                            have HUL : Hid (l2.length = un2 ∧ un2 ≤ 400) := ⟨hul.symm, by
                              have h2 := HSE.out.1
                              rw [hul, hl, foldl_put_len, List.length_take, ← h2]; omega⟩
                            have HLF := hidS hl
                            have HO := hidS hu
                            have HBW := hidS (HOW.out _ _ _ hu)
                            clear hul hl
                            by_cases hk : k2 < an
                            · have hk' : (k2 : Int) < (an : Int) := by omega
                              obtain ⟨x, hx⟩ : ∃ x, ed.add[k2]? = some x := ⟨_, List.getElem?_eq_getElem (by have := HLN.out.1.2.1; omega)⟩
                              obtain ⟨b, off, la, lc, ma, mc, hae, r0, r1, r2, r3, r4, hM, ⟨sl1, sl2⟩, gq⟩ := RSG.ln (RSG.any HVE.out.2.add) hx
                              subst hae
                              have HR := hidS (And.intro hg (And.intro hk hx))
                              have hk62 : k2 ≤ 2 ^ 60 := by omega
                              have bw : Below w.heap.size w wr := HLT.out.2.trans (HBW.out.mono HLT.out.2.size)
                              replace r0 := cell_later bw r0
                              replace r1 := cell_later bw r1
                              replace r2 := cell_later bw r2
                              replace r3 := cell_later bw r3
                              replace r4 := cell_later bw r4
                              have HX : Hid ((ed.add.take (k2 + 1)).foldl putL (stayL v ed) = putL l2 x) := by
                                show _ = _
                                rw [put_take hx, HLF.out]
                              have hb1 : Below wr.heap.size wr (wr.alloc (.cells #[.int .i64 x.num, .int .i64 x.lvl, .int .i64 x.size, .slice la x.least.length lc, .slice ma x.most.length mc] 30)) := (Below.refl _ _).alloc (Nat.le_refl _) _
                              have bw1 := bw.trans (hb1.mono bw.size)
                              have HPU : Hid (Calls Try.prog 20 #[.slice ua2 un2 uc2, .agg #[.int .i64 x.num, .int .i64 x.lvl, .int .i64 x.size, .slice la x.least.length lc, .slice ma x.most.length mc]] (wr.alloc (.cells #[.int .i64 x.num, .int .i64 x.lvl, .int .i64 x.size, .slice la x.least.length lc, .slice ma x.most.length mc] 30)) fun r w' => ∃ va vn vc, r = .returned (.slice va vn vc) ∧ Below wr.heap.size wr w' ∧ Below (Q + 1) (wr.alloc (.cells #[.int .i64 x.num, .int .i64 x.lvl, .int .i64 x.size, .slice la x.least.length lc, .slice ma x.most.length mc] 30)) w' ∧ RowF lnE (Q + 1) (fun b => b < w.heap.size) w' (.slice va vn vc) (putL l2 x)) := by
                                refine (rput_t (G := fun b => b < w.heap.size) (hur.later hb1) ⟨sl1.later bw1, sl2.later bw1, hM.choose_spec.choose_spec.choose_spec.choose_spec.2.2.2⟩ (fun b hb => Nat.lt_of_lt_of_le hb bw1.size) gq (by have := HUL.out.2; omega)).mono ?_
                                rintro r w' ⟨hb2, v', rfl, hr⟩
                                obtain ⟨va, vc, hve, -⟩ := hr.rsg
                                have hq1 : Q + 1 ≤ (wr.alloc (.cells #[.int .i64 x.num, .int .i64 x.lvl, .int .i64 x.size, .slice la x.least.length lc, .slice ma x.most.length mc] 30)).heap.size := (HO.out.later hb1).lt
                                exact ⟨va, _, vc, by rw [hve], hb1.trans (hb2.mono hb1.size), hb2.mono hq1, by rw [← hve]; exact hr.base hq1⟩
                              generalize x.num = xn at r0 HPU hb1
                              generalize x.lvl = lvl2 at r1 HPU hb1
                              generalize x.size = size2 at r2 HPU hb1
                              generalize x.least.length = K1 at r3 HPU hb1
                              generalize x.most.length = K2 at r4 HPU hb1
                              obtain ⟨t0, t1, t2, t3, t4⟩ := box5 wr (.int .i64 xn) (.int .i64 lvl2) (.int .i64 size2) (.slice la K1 lc) (.slice ma K2 mc) 30 (Below.refl _ _)
                              obtain ⟨⟨o0, o1, o2, o3⟩, fo3⟩ := (HO.out.later hb1).cells
                              have HB1 := hidS hb1
                              clear hg hk hx hM gq bw hb1 bw1 hur hu sl1 sl2
                              go_wp2_with (go_at_call 20; refine HPU.out.mono ?_; rintro r w5 ⟨va, vn, vc, rfl, b5, b6, hr⟩; clear o0 o1 o2 o3 fo3; obtain ⟨⟨o0, o1, o2, o3⟩, fo3⟩ := (HO.out.later b5).cells; have HR9 := hidE (And.intro hr b6); have HB5 := hidE b5; clear hr b5 b6)
                              go_roundg (an - (k2 + 1))
                              case measure => have := HR.out; omega
                              case rel => exact ⟨k2 + 1, by go_num, by have := HR.out; omega, _, by rw [HX.out]; exact HO.out.set HB1.out HR9.out.2 HR9.out.1 HQW.out.2.1 HGQ.out⟩
                            · have hk' : ¬ (k2 : Int) < (an : Int) := by omega
                              have HAP : Hid (l2 = apT v ed) := by
                                show _ = _
                                rw [HLF.out, List.take_of_length_le (by have := HLN.out.1.2.1; omega)]
                                rfl
                              clear hg hk hur hu
                              rw [HAP.out] at HO HUL
                              have hvm : VrM wr ⟨ed.log, ed.next, ed.seq, apT v ed⟩ ua2 uc2 := by
                                obtain ⟨a', c', e, hvm⟩ := HO.out.vr HVE.out.2.log HVE.out.2.next HVE.out.2.seq
                                simp only [Value.slice.injEq] at e
                                obtain ⟨rfl, -, rfl⟩ := e
                                exact hvm
                              obtain ⟨M3, hM3⟩ : ∃ m, m = mayVr ⟨ed.log, ed.next, ed.seq, apT v ed⟩ := ⟨_, rfl⟩
                              have HMA : Hid (Calls Try.prog 16 #[.agg #[.int .i64 ed.log, .int .i64 ed.next, .int .i64 ed.seq, .slice ua2 un2 uc2]] wr fun e w' => e = .returned (.bool M3) ∧ Below wr.heap.size wr w') := by
                                have h := rmay_vr hvm
                                rw [← hM3] at h
                                unfold vrV at h
                                rw [← HUL.out.1]
                                exact h
                              have HM3 := hidS hM3
                              clear hvm hM3
                              obtain ⟨⟨o0, o1, o2, o3⟩, fo3⟩ := HO.out.cells
                              have HUN := hidS HUL.out.1
                              cases M3 with
                              | false =>
                                have HE : Hid (apE v ed = 1) := by
                                  show _ = _
                                  unfold apE
                                  rw [if_pos HIF.out, if_neg HNE.out.1, if_neg HNE.out.2, if_neg H11.out, if_neg H13.out, if_neg (by rw [← HM3.out]; simp)]
                                go_wp2_with (go_at_call 16; refine HMA.out.mono ?_; rintro e w5 ⟨rfl, b5⟩; have b6 := HBW.out.trans (b5.mono HBW.out.size); obtain ⟨⟨z0, z1, z2, z3⟩, f0, f1, f2, f3⟩ := F2.out _ b6)
                                have S4 := set4_cells z0 z1 z2 z3 (.int .i64 0) (.int .i64 0) (.int .i64 0) (.slice none 0 0)
                                exact bodyPost_ret (v := .tuple #[.agg #[.int .i64 0, .int .i64 0, .int .i64 0, .slice none 0 0], .int .i64 1]) (by simp [results, Try.results9, go_sem, S4.1, S4.2.1, S4.2.2.1, S4.2.2.2]) rfl (HXE.out 1 _ b6 HE.out (by decide))
                              | true =>
                                have HE : Hid (apE v ed = 0 ∧ apV v ed = ⟨ed.log, ed.next, ed.seq, apT v ed⟩) := by
                                  have e : apE v ed = 0 := by
                                    unfold apE
                                    rw [if_pos HIF.out, if_neg HNE.out.1, if_neg HNE.out.2, if_neg H11.out, if_neg H13.out, if_pos HM3.out.symm]
                                  exact ⟨e, by unfold apV; rw [e]; rfl⟩
                                go_wp2_with (go_at_call 16; refine HMA.out.mono ?_; rintro e w5 ⟨rfl, b5⟩; have b6 := HBW.out.trans (b5.mono HBW.out.size); obtain ⟨⟨z0, z1, z2, z3⟩, f0, f1, f2, f3⟩ := F2.out _ b6; clear o0 o1 o2 o3 fo3; obtain ⟨⟨o0, o1, o2, o3⟩, fo3⟩ := (HO.out.later b5).cells)
                                have S4 := set4_cells z0 z1 z2 z3 (.int .i64 ed.log) (.int .i64 ed.next) (.int .i64 ed.seq) (.slice ua2 un2 uc2)
                                refine bodyPost_ret (v := .tuple #[.agg #[.int .i64 ed.log, .int .i64 ed.next, .int .i64 ed.seq, .slice ua2 un2 uc2], .int .i64 0]) (by simp [results, Try.results9, go_sem, S4.1, S4.2.1, S4.2.2.1, S4.2.2.2]) rfl ?_
                                rw [HE.out.1, HE.out.2]
                                have hO5 := HO.out.later b5
                                rw [← HUN.out] at hO5 ⊢

                                exact ⟨ua2, uc2, rfl, hO5.fin HVE.out.2.log HVE.out.2.next HVE.out.2.seq (by have := HQW.out.1; have := HLT2.out; omega) (fun b hb => by omega) _ _ _ _, HEND.out _ b6 _ _ _ _⟩
    · obtain rfl : m2 = false := by simpa using hm'
      clear hm'
      have HE : Hid (apE v ed = 1 ∧ apV v ed = noVr) := by
        have e : apE v ed = 1 := by
          unfold apE
          rw [← HM.out.2, if_neg (by simp)]
        exact ⟨e, by unfold apV; rw [e]; rfl⟩
      rw [HE.out.1, HE.out.2]
      unfold vrV edV
      obtain ⟨x0, x1, x2, x3⟩ := F0.out _ HW0.out
      obtain ⟨y0, y1, y2, y3, y4⟩ := F1.out _ HW0.out
      obtain ⟨⟨z0, z1, z2, z3⟩, f0, f1, f2, f3⟩ := F2.out _ HW0.out
      have hc1 := M1.out _ HW0.out
      rw [HW.out] at x0 x1 x2 x3 y0 y1 y2 y3 y4 z0 z1 z2 z3 f0 f1 f2 f3 hc1
      go_enter Try.func9, Try.ntmps9
      go_wp2_with (first | (go_at_call 16; refine hc1.mono ?_; rintro e w1 ⟨rfl, b1⟩; rw [← HW.out] at b1; clear hc1; clear x0 x1 x2 x3 y0 y1 y2 y3 y4 z0 z1 z2 z3 f0 f1 f2 f3; obtain ⟨x0, x1, x2, x3⟩ := F0.out _ b1; obtain ⟨y0, y1, y2, y3, y4⟩ := F1.out _ b1; obtain ⟨⟨z0, z1, z2, z3⟩, f0, f1, f2, f3⟩ := F2.out _ b1) | (go_at_call 17; refine (M2.out _ b1).mono ?_; rintro e w2 ⟨rfl, b2⟩; clear x0 x1 x2 x3 y0 y1 y2 y3 y4 z0 z1 z2 z3 f0 f1 f2 f3; obtain ⟨x0, x1, x2, x3⟩ := F0.out _ b2; obtain ⟨y0, y1, y2, y3, y4⟩ := F1.out _ b2; obtain ⟨⟨z0, z1, z2, z3⟩, f0, f1, f2, f3⟩ := F2.out _ b2))
      have S4 := set4_cells z0 z1 z2 z3 (.int .i64 0) (.int .i64 0) (.int .i64 0) (.slice none 0 0)
      exact bodyPost_ret (v := .tuple #[.agg #[.int .i64 0, .int .i64 0, .int .i64 0, .slice none 0 0], .int .i64 1]) (by simp [results, Try.results9, go_sem, S4.1, S4.2.1, S4.2.2.1, S4.2.2.2]) rfl ⟨none, 0, rfl, HNO.out _, HEND.out _ b2 _ _ _ _⟩
  · obtain rfl : m1 = false := by simpa using hm
    have HE : Hid (apE v ed = 1 ∧ apV v ed = noVr) := by
      have e : apE v ed = 1 := by unfold apE; rw [← HM.out.1, if_neg (by simp)]
      exact ⟨e, by unfold apV; rw [e]; rfl⟩
    rw [HE.out.1, HE.out.2]
    unfold vrV edV
    obtain ⟨x0, x1, x2, x3⟩ := F0.out _ HW0.out
    obtain ⟨y0, y1, y2, y3, y4⟩ := F1.out _ HW0.out
    obtain ⟨⟨z0, z1, z2, z3⟩, f0, f1, f2, f3⟩ := F2.out _ HW0.out
    have hc1 := M1.out _ HW0.out
    rw [HW.out] at x0 x1 x2 x3 y0 y1 y2 y3 y4 z0 z1 z2 z3 f0 f1 f2 f3 hc1
    clear hm
    go_enter Try.func9, Try.ntmps9
    go_wp2_with (go_at_call 16; refine hc1.mono ?_; rintro e w1 ⟨rfl, b1⟩; rw [← HW.out] at b1; clear z0 z1 z2 z3 f0 f1 f2 f3; obtain ⟨⟨z0, z1, z2, z3⟩, f0, f1, f2, f3⟩ := F2.out _ b1)
    have S4 := set4_cells z0 z1 z2 z3 (.int .i64 0) (.int .i64 0) (.int .i64 0) (.slice none 0 0)
    exact bodyPost_ret (v := .tuple #[.agg #[.int .i64 0, .int .i64 0, .int .i64 0, .slice none 0 0], .int .i64 1]) (by simp [results, Try.results9, go_sem, S4.1, S4.2.1, S4.2.2.1, S4.2.2.2]) rfl ⟨none, 0, rfl, HNO.out _, HEND.out _ b1 _ _ _ _⟩
end Go.Proofs.Ytjgfklbhagcbaab

/- The version that the laws build out of edits. -/
namespace Go.Proofs.Ytjgfklbhagcbaab
open Go.RowKit
set_option linter.unusedVariables false
set_option linter.unusedSimpArgs false

def bstep (v : VrV) (e : EdV) : VrV := if litL e.add = true ∧ e.rem.length ≤ 300 then stepV v e else v
def bltV (es : List EdV) : VrV := (es.take 12).foldl bstep noVr
theorem bstep_may {v : VrV} (h : mayVr v = true) (e : EdV) : mayVr (bstep v e) = true := by
  unfold bstep
  split
  · exact stepV_may h e
  · exact h
theorem foldl_may : ∀ (es : List EdV) (v : VrV), mayVr v = true → mayVr (es.foldl bstep v) = true
  | [], v, h => h
  | e :: r, v, h => foldl_may r _ (bstep_may h e)
theorem noVr_may : mayVr noVr = true := by decide
theorem bltV_may (es : List EdV) : mayVr (bltV es) = true := foldl_may _ _ noVr_may
theorem blt_take {es : List EdV} {k : Nat} {e : EdV} (h : es[k]? = some e) : (es.take (k + 1)).foldl bstep noVr = bstep ((es.take k).foldl bstep noVr) e := by
  obtain ⟨hkl, rfl⟩ := List.getElem?_eq_some_iff.1 h
  rw [List.take_add_one, List.getElem?_eq_getElem hkl, List.foldl_append]
  rfl
set_option maxHeartbeats 8000000 in
set_option maxRecDepth 100000 in
theorem built15_t {w : World} {ao : Option Addr} {n cap : Nat} {es : List EdV} (h : EdRow w ao n cap es) :
    Calls Try.prog 4 #[.slice ao n cap] w fun e w' => ∃ a' c', e = .returned (vrV (bltV es) a' c') ∧ VrM w' (bltV es) a' c' ∧ Below w.heap.size w w' := by
  obtain ⟨W, hW⟩ : ∃ W, W = (w.alloc (.cells #[.int .i64 0, .int .i64 0, .int .i64 0, .slice none 0 0] 26)).alloc (.cells #[.int .i64 0, .int .i64 0, .int .i64 0, .slice none 0 0] 26) := ⟨_, rfl⟩
  have hWb : Below w.heap.size w W := by rw [hW]; exact ((Below.refl _ w).alloc (Nat.le_refl _) _).alloc (by simp) _
  have hB0 : BoxV w.heap.size noVr none 0 W := by rw [hW]; exact (box_new w (noVr_m w)).later ((Below.refl _ _).alloc (Nat.le_refl _) _)
  have hB1 : BoxV (w.heap.size + 1) noVr none 0 W := by
    have e : w.heap.size + 1 = (w.alloc (.cells #[.int .i64 0, .int .i64 0, .int .i64 0, .slice none 0 0] 26)).heap.size := by simp
    rw [hW, e]; exact box_new _ (noVr_m _)
  have HST : Hid (BoxV (w.heap.size + 1) noVr none 0 W ∧ BoxV w.heap.size noVr none 0 W ∧ Below w.heap.size w W) := ⟨hB1, hB0, hWb⟩
  have hn63 : n ≤ 2 ^ 63 - 1 := by have := h.len; unfold maxLen at this; omega
  have H0 := hidS h
  have HW := hidS hW
  obtain ⟨R0, hR0⟩ : ∃ R, R = bltV es := ⟨_, rfl⟩
  have HR0 := hidS hR0
  rw [← hR0]
  clear h hW hWb hB0 hB1 hR0
  go_enter Try.func4, Try.ntmps4
  go_wp2_with fail
  rw [← HW.out]
  go_loopg [4] 12 (fun kx si wx => ∃ k : Nat, si = .int .i64 k ∧ k + kx = 12 ∧ k ≤ n ∧ Hid (∃ a c, BoxV (w.heap.size + 1) ((es.take k).foldl bstep noVr) a c wx ∧ BoxV w.heap.size noVr none 0 wx ∧ Below w.heap.size w wx))
  case atStart => exact ⟨0, rfl, rfl, Nat.zero_le _, none, 0, HST.out⟩
  case round =>
    obtain ⟨k, rfl, hg, hkn, HK⟩ := hrel
    obtain ⟨a3, c3, hb3, hb0, hbl⟩ := HK.out
    obtain ⟨R, hR⟩ : ∃ R, R = (es.take k).foldl bstep noVr := ⟨_, rfl⟩
    rw [← hR] at hb3
    have HBX : Hid (∀ wx, Below wr.heap.size wr wx → BoxV (w.heap.size + 1) R a3 c3 wx ∧ BoxV w.heap.size noVr none 0 wx ∧ Below w.heap.size w wx) := fun wx hb => ⟨hb3.later hb, hb0.later hb, hbl.trans (hb.mono hbl.size)⟩
    have HRE := hidS hR
    clear HK hb3 hb0 hR
    by_cases hk : k < n
    · have hk' : (k : Int) < (n : Int) := by omega
      by_cases hk2 : k < 12
      · have hk2' : (k : Int) < 12 := by omega
        obtain ⟨e, he⟩ : ∃ e, es[k]? = some e := ⟨_, List.getElem?_eq_getElem (by have := H0.out.len; omega)⟩
        obtain ⟨b, off, aa, ac, ra, rc, hae, ⟨c0, c1, c2, c3', c4⟩, hem⟩ := H0.out.at' k e he
        subst hae
        have HT := hidS (blt_take he)
        rw [← HRE.out] at HT
        have HEM : Hid (∀ wx, Below wr.heap.size wr wx → EdM wx e aa ac ra rc) := fun wx hb => hem.later (hbl.trans (hb.mono hbl.size))
        obtain ⟨an, han⟩ : ∃ n, n = e.add.length := ⟨_, rfl⟩
        obtain ⟨rn, hrn⟩ : ∃ n, n = e.rem.length := ⟨_, rfl⟩
        rw [← han] at c3'
        rw [← hrn] at c4
        have HCE : Hid (∀ wx, Below wr.heap.size wr wx → wx.cell? ⟨b, off + k * 5, none⟩ = some (.int .i64 e.log) ∧ wx.cell? ⟨b, off + k * 5 + 1, none⟩ = some (.int .i64 e.next) ∧ wx.cell? ⟨b, off + k * 5 + 2, none⟩ = some (.int .i64 e.seq) ∧ wx.cell? ⟨b, off + k * 5 + 3, none⟩ = some (.slice aa an ac) ∧ wx.cell? ⟨b, off + k * 5 + 4, none⟩ = some (.slice ra rn rc)) := fun wx hb => by
          have q := hbl.trans (hb.mono hbl.size)
          exact ⟨cell_later q c0, cell_later q c1, cell_later q c2, cell_later q c3', cell_later q c4⟩
        obtain ⟨L, hL⟩ : ∃ L, L = litL e.add := ⟨_, rfl⟩
        have HLI : Hid (∀ wx, Below wr.heap.size wr wx → Calls Try.prog 8 #[.slice aa an ac] wx fun r w' => r = .returned (.bool L) ∧ Below wr.heap.size wr w') := fun wx hb => by
          rw [hL, han]
          exact (light15_t (HEM.out wx hb).add).mono fun r w' hh => ⟨hh.1, hb.trans (hh.2.mono hb.size)⟩
        have HLL := hidS (And.intro hL (And.intro han hrn))
        have hrl : rn ≤ 2 ^ 63 - 1 := by have := hem.rem.len; unfold maxLen at this; omega
        have HR := hidS (And.intro hg (And.intro hk hk2))
        clear c0 c1 c2 c3' c4 hL han hrn hem he hg hk hk2
        obtain ⟨c0, c1, c2, c3', c4⟩ := HCE.out _ (Below.refl _ _)
        cases L with
        | false =>
          have HB : Hid (bstep R e = R) := by
            show _ = _
            unfold bstep
            rw [if_neg (by rw [← HLL.out.1]; simp)]
          go_wp2_with (go_at_call 8; refine (HLI.out _ (Below.refl _ _)).mono ?_; rintro r w1 ⟨rfl, b1⟩; clear c0 c1 c2 c3' c4)
          go_roundg (12 - (k + 1))
          case measure => have := HR.out; omega
          case rel => exact ⟨k + 1, by go_num, by have := HR.out; omega, by have := HR.out; omega, a3, c3, by rw [HT.out, HB.out]; exact HBX.out _ b1⟩
        | true =>
          by_cases q : 300 < rn
          · have q' : (300 : Int) < (rn : Int) := by omega
            have HB : Hid (bstep R e = R) := by
              show _ = _
              unfold bstep
              rw [if_neg (by rw [← HLL.out.2.2]; omega)]
            clear q
            go_wp2_with (go_at_call 8; refine (HLI.out _ (Below.refl _ _)).mono ?_; rintro r w1 ⟨rfl, b1⟩; clear c0 c1 c2 c3' c4; obtain ⟨c0, c1, c2, c3', c4⟩ := HCE.out _ b1)
            go_roundg (12 - (k + 1))
            case measure => have := HR.out; omega
            case rel => exact ⟨k + 1, by go_num, by have := HR.out; omega, by have := HR.out; omega, a3, c3, by rw [HT.out, HB.out]; exact HBX.out _ b1⟩
          · have q' : ¬ (300 : Int) < (rn : Int) := by omega
            have q2 : (rn : Int) ≤ 300 := by omega
            have HB : Hid (bstep R e = stepV R e) := by
              show _ = _
              unfold bstep
              rw [if_pos ⟨HLL.out.1.symm, by rw [← HLL.out.2.2]; omega⟩]
            clear q
            go_upto_region 6 with (go_at_call 8; refine (HLI.out _ (Below.refl _ _)).mono ?_; rintro r w1 ⟨rfl, b1⟩; clear c0 c1 c2 c3' c4; obtain ⟨c0, c1, c2, c3', c4⟩ := HCE.out _ b1)
            obtain ⟨⟨⟨x0, x1, x2, x3⟩, -⟩, hbl1⟩ : _ ∧ Below w.heap.size w w1 := ⟨(HBX.out _ b1).1.cells, (HBX.out _ b1).2.2⟩
            obtain ⟨E, hE⟩ : ∃ E : Int, E = (apE R e : Nat) := ⟨_, rfl⟩
            obtain ⟨R2, hR2⟩ : ∃ R2, R2 = apV R e := ⟨_, rfl⟩
            have HRA : Hid (∀ wx, Below w1.heap.size w1 wx → Calls Try.prog 9 #[.agg #[.int .i64 R.log, .int .i64 R.next, .int .i64 R.seq, .slice a3 R.tabs.length c3], .agg #[.int .i64 e.log, .int .i64 e.next, .int .i64 e.seq, .slice aa an ac, .slice ra rn rc]] wx fun r w' => ∃ a' c', r = .returned (.tuple #[.agg #[.int .i64 R2.log, .int .i64 R2.next, .int .i64 R2.seq, .slice a' R2.tabs.length c'], .int .i64 E]) ∧ VrM w' R2 a' c' ∧ Below wx.heap.size wx w') := fun wx hb => by
              have q := b1.trans (hb.mono b1.size)
              rw [hE, hR2, HLL.out.2.1, HLL.out.2.2]
              exact rapply_t (HBX.out _ q).1.2 (HEM.out _ q)
            have HB1 := hidS b1
            have HEQ := hidS (And.intro hE hR2)
            have HW1 : Hid (∀ wx, Below w1.heap.size w1 wx → (wx.cell? ⟨w.heap.size + 1, 0, none⟩ = some (.int .i64 R.log) ∧ wx.cell? ⟨w.heap.size + 1, 1, none⟩ = some (.int .i64 R.next) ∧ wx.cell? ⟨w.heap.size + 1, 2, none⟩ = some (.int .i64 R.seq) ∧ wx.cell? ⟨w.heap.size + 1, 3, none⟩ = some (.slice a3 R.tabs.length c3)) ∧ (wx.cell? ⟨b, off + k * 5, none⟩ = some (.int .i64 e.log) ∧ wx.cell? ⟨b, off + k * 5 + 1, none⟩ = some (.int .i64 e.next) ∧ wx.cell? ⟨b, off + k * 5 + 2, none⟩ = some (.int .i64 e.seq) ∧ wx.cell? ⟨b, off + k * 5 + 3, none⟩ = some (.slice aa an ac) ∧ wx.cell? ⟨b, off + k * 5 + 4, none⟩ = some (.slice ra rn rc))) := fun wx hb => by
              have q := HB1.out.trans (hb.mono HB1.out.size)
              exact ⟨(HBX.out _ q).1.cells.1, HCE.out _ q⟩
            clear hE hR2 b1 hbl1 hbl x0 x1 x2 x3
            go_cut [5, 6] from 8 to 44 (fun s5 s6 wx => ∃ b5 a5 c5, s5 = .pointer (some ⟨b5, 0, none⟩) ∧ s6 = .int .i64 E ∧ Hid (Below w1.heap.size w1 wx ∧ BoxV b5 R2 a5 c5 wx))
            case first =>
              rename_i JJ KK hJJ hKK
              obtain ⟨⟨x0, x1, x2, x3⟩, c0, c1, c2, c3', c4⟩ := HW1.out _ (Below.refl _ w1).drew
              obtain ⟨⟨xx0, xx1, xx2, xx3⟩, cc0, cc1, cc2, cc3', cc4⟩ := HW1.out _ ((Below.refl _ w1).alloc (Nat.le_refl _) (.cells #[.int .i64 0, .int .i64 0, .int .i64 0, .slice none 0 0] 26)).drew
              have HZ : Hid (∀ wx, Below (w1.alloc (.cells #[.int .i64 0, .int .i64 0, .int .i64 0, .slice none 0 0] 26)).drew.heap.size (w1.alloc (.cells #[.int .i64 0, .int .i64 0, .int .i64 0, .slice none 0 0] 26)).drew wx → BoxV w1.heap.size noVr none 0 wx ∧ (wx.cell? ⟨w1.heap.size, 0, none⟩ = some (.int .i64 0) ∧ wx.cell? ⟨w1.heap.size, 1, none⟩ = some (.int .i64 0) ∧ wx.cell? ⟨w1.heap.size, 2, none⟩ = some (.int .i64 0) ∧ wx.cell? ⟨w1.heap.size, 3, none⟩ = some (.slice none 0 0)) ∧ wx.frozen? ⟨w1.heap.size, 0, none⟩ = false ∧ wx.frozen? ⟨w1.heap.size, 1, none⟩ = false ∧ wx.frozen? ⟨w1.heap.size, 2, none⟩ = false ∧ wx.frozen? ⟨w1.heap.size, 3, none⟩ = false) := fun wx hb => by
                have q := ((box_new w1 (noVr_m w1)).later (Below.refl _ _).drew).later hb
                exact ⟨q, q.cells⟩
              first
              | go_region_law (first | (refine step_fn 9 (args := #[.agg #[.int .i64 R.log, .int .i64 R.next, .int .i64 R.seq, .slice a3 R.tabs.length c3], .agg #[.int .i64 e.log, .int .i64 e.next, .int .i64 e.seq, .slice aa an ac, .slice ra rn rc]]) rfl rfl (by simp [Act.eval, Act.put]) (by kernel_rfl) (HRA.out (w1.alloc (.cells #[.int .i64 0, .int .i64 0, .int .i64 0, .slice none 0 0] 26)).drew (by exact ((Below.refl _ _).alloc (Nat.le_refl _) _).drew)) ?_; rintro r w5 ⟨a5, c5, rfl, hv5, b5⟩; obtain ⟨hz, ⟨z0, z1, z2, z3⟩, f0, f1, f2, f3⟩ := HZ.out _ b5; have HZ5 := hidS hz; clear hz; refine ⟨_, rfl, ?_⟩) | (refine step_fn 9 (args := #[.agg #[.int .i64 R.log, .int .i64 R.next, .int .i64 R.seq, .slice a3 R.tabs.length c3], .agg #[.int .i64 e.log, .int .i64 e.next, .int .i64 e.seq, .slice aa an ac, .slice ra rn rc]]) rfl rfl (by simp [Act.eval, Act.put]) (by kernel_rfl) (HRA.out w1.drew (by exact (Below.refl _ _).drew)) ?_; rintro r w5 ⟨a5, c5, rfl, hv5, b5⟩; refine ⟨_, rfl, ?_⟩))
              | fail
              all_goals
                go_simp
                refine hKK _ _ (Met.intro (hJJ _ _ ?_))
                repeat apply Exists.intro
                refine ⟨?_, rfl⟩
                first
                | (have kB : Hid (Below w1.heap.size w1 ((((w5.setCell ⟨w1.heap.size, 0, none⟩ (.int .i64 R2.log)).setCell ⟨w1.heap.size, 1, none⟩ (.int .i64 R2.next)).setCell ⟨w1.heap.size, 2, none⟩ (.int .i64 R2.seq)).setCell ⟨w1.heap.size, 3, none⟩ (.slice a5 R2.tabs.length c5)) ∧ BoxV w1.heap.size R2 a5 c5 ((((w5.setCell ⟨w1.heap.size, 0, none⟩ (.int .i64 R2.log)).setCell ⟨w1.heap.size, 1, none⟩ (.int .i64 R2.next)).setCell ⟨w1.heap.size, 2, none⟩ (.int .i64 R2.seq)).setCell ⟨w1.heap.size, 3, none⟩ (.slice a5 R2.tabs.length c5))) := ⟨s4_below (((Below.refl w1.heap.size w1).alloc (Nat.le_refl _) _).drew.trans (b5.mono ((Below.refl w1.heap.size w1).alloc (Nat.le_refl _) _).drew.size)) (Nat.le_refl _) (Nat.le_refl _) _ _ _ _, HZ5.out.set hv5⟩
                   with_reducible exact ⟨w1.heap.size, a5, c5, rfl, rfl, kB⟩)
                | (have kA : Hid (Below w1.heap.size w1 (w5.alloc (.cells #[.int .i64 R2.log, .int .i64 R2.next, .int .i64 R2.seq, .slice a5 R2.tabs.length c5] 26)) ∧ BoxV w5.heap.size R2 a5 c5 (w5.alloc (.cells #[.int .i64 R2.log, .int .i64 R2.next, .int .i64 R2.seq, .slice a5 R2.tabs.length c5] 26))) := ⟨((Below.refl w1.heap.size w1).drew.trans (b5.mono (Below.refl w1.heap.size w1).drew.size)).trans (((Below.refl w5.heap.size w5).alloc (Nat.le_refl _) _).mono ((Below.refl w1.heap.size w1).drew.trans (b5.mono (Below.refl w1.heap.size w1).drew.size)).size), box_new w5 hv5⟩
                   with_reducible exact ⟨w5.heap.size, a5, c5, rfl, rfl, kA⟩)
            case rest =>
              obtain ⟨p5, a5, c5, rfl, rfl, HC⟩ := hcut
              have hbw := HB1.out.trans (HC.out.1.mono HB1.out.size)
              have HPW := hidS hbw
              obtain ⟨⟨y0, y1, y2, y3⟩, -⟩ := HC.out.2.cells
              obtain ⟨⟨x0, x1, x2, x3⟩, f0, f1, f2, f3⟩ := (HBX.out _ hbw).1.cells
              clear hbw
              by_cases qE : E = 0
              · have qE' : (E == 0) = true := by simpa using qE
                have HSV : Hid (stepV R e = R2) := by
                  show _ = _
                  unfold stepV
                  have := HEQ.out.1
                  rw [if_pos (by omega), HEQ.out.2]
                have HIN := HC.out.2
                have HIX := hidS HIN
                clear qE HIN
                go_wp2_with fail
                go_roundg (12 - (k + 1))
                case measure => have := HR.out; omega
                case rel =>
                  have q := HBX.out _ HPW.out
                  have q1 := BoxV.set q.1 HIX.out.2
                  exact ⟨k + 1, by go_num, by have := HR.out; omega, by have := HR.out; omega, a5, c5, by rw [HT.out, HB.out, HSV.out]; exact ⟨q1, q.2.1.other q.1 (by omega) _ _ _ _, s4_below q.2.2 (Nat.le_succ _) (Nat.le_refl _) _ _ _ _⟩⟩
              · have qE' : (E == 0) = false := by simpa using qE
                have HSV : Hid (stepV R e = R) := by
                  show _ = _
                  unfold stepV
                  have := HEQ.out.1
                  rw [if_neg (by omega)]
                clear qE
                go_wp2_with fail
                go_roundg (12 - (k + 1))
                case measure => have := HR.out; omega
                case rel => exact ⟨k + 1, by go_num, by have := HR.out; omega, by have := HR.out; omega, a3, c3, by rw [HT.out, HB.out, HSV.out]; exact HBX.out _ HPW.out⟩
      · have hk2' : ¬ (k : Int) < 12 := by omega
        have HF : Hid ((es.take k).foldl bstep noVr = R0) := by
          show _ = _
          rw [HR0.out]; unfold bltV
          rw [show k = 12 by omega]
        have hRR : R = R0 := HRE.out.trans HF.out
        subst hRR
        obtain ⟨hb3, hb0, hbl2⟩ := HBX.out _ (Below.refl _ _)
        obtain ⟨⟨x0, x1, x2, x3⟩, -⟩ := hb3.cells
        obtain ⟨⟨z0, z1, z2, z3⟩, f0, f1, f2, f3⟩ := hb0.cells
        have HVB := hidS (And.intro hb3 (And.intro hb0 hbl2))
        unfold noVr at z0 z1 z2 z3
        generalize hT : R.tabs.length = tn at x3
        clear hb3 hb0 hbl2 hbl HRE HF hg HR0
        go_wp2_with fail
        have S4 := set4_cells z0 z1 z2 z3 (.int .i64 R.log) (.int .i64 R.next) (.int .i64 R.seq) (.slice a3 tn c3)
        refine bodyPost_ret (v := .agg #[.int .i64 R.log, .int .i64 R.next, .int .i64 R.seq, .slice a3 tn c3]) (by simp [results, Try.results4, go_sem, S4.1, S4.2.1, S4.2.2.1, S4.2.2.2]) rfl ⟨a3, c3, by rw [← hT]; rfl, vr_s4 HVB.out.1.2 HVB.out.2.1 _ _ _ _, s4_below HVB.out.2.2 (Nat.le_refl _) (Nat.le_refl _) _ _ _ _⟩
    · have hk' : ¬ (k : Int) < (n : Int) := by omega
      have HF : Hid ((es.take k).foldl bstep noVr = R0) := by
        show _ = _
        rw [HR0.out]; unfold bltV
        rw [List.take_of_length_le (by have := H0.out.len; omega), List.take_of_length_le (by have := H0.out.len; omega)]
      have hRR : R = R0 := HRE.out.trans HF.out
      subst hRR
      obtain ⟨hb3, hb0, hbl2⟩ := HBX.out _ (Below.refl _ _)
      obtain ⟨⟨x0, x1, x2, x3⟩, -⟩ := hb3.cells
      obtain ⟨⟨z0, z1, z2, z3⟩, f0, f1, f2, f3⟩ := hb0.cells
      have HVB := hidS (And.intro hb3 (And.intro hb0 hbl2))
      unfold noVr at z0 z1 z2 z3
      generalize hT : R.tabs.length = tn at x3
      clear hb3 hb0 hbl2 hbl HRE HF hg HR0
      go_wp2_with fail
      have S4 := set4_cells z0 z1 z2 z3 (.int .i64 R.log) (.int .i64 R.next) (.int .i64 R.seq) (.slice a3 tn c3)
      refine bodyPost_ret (v := .agg #[.int .i64 R.log, .int .i64 R.next, .int .i64 R.seq, .slice a3 tn c3]) (by simp [results, Try.results4, go_sem, S4.1, S4.2.1, S4.2.2.1, S4.2.2.2]) rfl ⟨a3, c3, by rw [← hT]; rfl, vr_s4 HVB.out.1.2 HVB.out.2.1 _ _ _ _, s4_below HVB.out.2.2 (Nat.le_refl _) (Nat.le_refl _) _ _ _ _⟩
end Go.Proofs.Ytjgfklbhagcbaab
