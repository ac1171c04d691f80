import Derived.Test.YtjgfklbhagcbaaaPk21
import Derived.Test.YtjgfklbhagcbaaaPk23
import Derived.Test.YtjgfklbhagcbaaaPk26
import Derived.Test.YtjgfklbhagcbaaaPk27
/- The law on an edit of a version: the landed Apply and the document's. -/
namespace Go.Proofs.Ytjgfklbhagcbaaa
open Go.RowKit
set_option linter.unusedVariables false
set_option linter.unusedSimpArgs false

theorem rl_len {w : World} {ao : Option Addr} {n cap : Nat} {xs : List Int} (h : RS i64E w ao n cap xs) : n ≤ 2 ^ 63 - 1 := by
  obtain ⟨us, _, _, h3, h4, _⟩ := h; unfold maxLen at h4; omega
set_option maxHeartbeats 8000000 in
set_option maxRecDepth 100000 in
theorem applies15_any {w : World} {v : VrV} {a : Option Addr} {c : Nat} {ed : EdV} {aa ra : Option Addr} {ac rc : Nat} (hv : VrM w v a c) (he : EdM w ed aa ac ra rc) :
    Calls Try.prog 4 #[vrV v a c, edV ed aa ac ra rc] w fun e w' => e = .returned (.bool true) ∧ Below w.heap.size w w' := by
  obtain ⟨W, hW⟩ : ∃ W, W = (w.alloc (.cells #[.int .i64 v.log, .int .i64 v.next, .int .i64 v.seq, .slice a v.tabs.length c] 24)).alloc (.cells #[.int .i64 ed.log, .int .i64 ed.next, .int .i64 ed.seq, .slice aa ed.add.length ac, .slice ra ed.rem.length rc] 30) := ⟨_, rfl⟩
  have hWs : W.heap.size = w.heap.size + 1 + 1 := by rw [hW]; simp
  have hWb : Below w.heap.size w W := by rw [hW]; exact ((Below.refl _ w).alloc (Nat.le_refl _) _).alloc (by simp) _
  have k0 : W.heap[w.heap.size]? = some (.cells #[.int .i64 v.log, .int .i64 v.next, .int .i64 v.seq, .slice a v.tabs.length c] 24 (0, 0)) := by
    rw [hW, old_alloc _ _ _ (by simp)]; exact heap_alloc_new _ _
  have k1 : W.heap[w.heap.size + 1]? = some (.cells #[.int .i64 ed.log, .int .i64 ed.next, .int .i64 ed.seq, .slice aa ed.add.length ac, .slice ra ed.rem.length rc] 30 (0, 0)) := by
    have e : w.heap.size + 1 = (w.alloc (.cells #[.int .i64 v.log, .int .i64 v.next, .int .i64 v.seq, .slice a v.tabs.length c] 24)).heap.size := by simp
    rw [hW, e]; exact heap_alloc_new _ _
  have F0 : Hid (∀ wx, Below W.heap.size W wx → wx.cell? ⟨w.heap.size, 0, none⟩ = some (.int .i64 v.log) ∧ wx.cell? ⟨w.heap.size, 1, none⟩ = some (.int .i64 v.next) ∧ wx.cell? ⟨w.heap.size, 2, none⟩ = some (.int .i64 v.seq) ∧ wx.cell? ⟨w.heap.size, 3, none⟩ = some (.slice a v.tabs.length c)) := fun wx hb => by
    have z := blk_cells k0 (by omega) hb
    exact ⟨(z 0 _ rfl).1, (z 1 _ rfl).1, (z 2 _ rfl).1, (z 3 _ rfl).1⟩
  have F1 : Hid (∀ wx, Below W.heap.size W wx → wx.cell? ⟨w.heap.size + 1, 0, none⟩ = some (.int .i64 ed.log) ∧ wx.cell? ⟨w.heap.size + 1, 1, none⟩ = some (.int .i64 ed.next) ∧ wx.cell? ⟨w.heap.size + 1, 2, none⟩ = some (.int .i64 ed.seq) ∧ wx.cell? ⟨w.heap.size + 1, 3, none⟩ = some (.slice aa ed.add.length ac) ∧ wx.cell? ⟨w.heap.size + 1, 4, none⟩ = some (.slice ra ed.rem.length rc)) := fun wx hb => by
    have z := blk_cells k1 (by omega) hb
    exact ⟨(z 0 _ rfl).1, (z 1 _ rfl).1, (z 2 _ rfl).1, (z 3 _ rfl).1, (z 4 _ rfl).1⟩
  have HTR : Hid (∀ wx wy, Below W.heap.size W wx → Below wx.heap.size wx wy → Below W.heap.size W wy) := fun wx wy h1 h2 => h1.trans (h2.mono h1.size)
  have HVV : Hid (∀ wx, Below W.heap.size W wx → VrM wx v a c ∧ EdM wx ed aa ac ra rc) := fun wx hb => ⟨hv.later (hWb.trans (hb.mono hWb.size)), he.later (hWb.trans (hb.mono hWb.size))⟩
  have HEN : Hid (∀ wx, Below W.heap.size W wx → Below w.heap.size w wx) := fun wx hb => hWb.trans (hb.mono hWb.size)
  have HAW : Hid (∀ wx, Below W.heap.size W wx → Calls Try.prog 10 #[] wx fun e w' => e = .returned (.bool true) ∧ Below W.heap.size W w') := fun wx hb => (awake15_t wx).mono fun e w' hh => ⟨hh.1, HTR.out _ _ hb hh.2⟩
  have HW0 : Hid (Below W.heap.size W W) := Below.refl _ _
  obtain ⟨L1, hL1⟩ : ∃ L, L = litL v.tabs := ⟨_, rfl⟩
  obtain ⟨L2, hL2⟩ : ∃ L, L = litL ed.add := ⟨_, rfl⟩
  have HLL := hidS (And.intro hL1 hL2)
  have HLI1 : Hid (∀ wx, Below W.heap.size W wx → Calls Try.prog 9 #[.slice a v.tabs.length c] wx fun e w' => e = .returned (.bool L1) ∧ Below W.heap.size W w') := fun wx hb => by
    rw [hL1]; exact (light15_t (HVV.out wx hb).1.tabs).mono fun e w' hh => ⟨hh.1, HTR.out _ _ hb hh.2⟩
  have HLI2 : Hid (∀ wx, Below W.heap.size W wx → Calls Try.prog 9 #[.slice aa ed.add.length ac] wx fun e w' => e = .returned (.bool L2) ∧ Below W.heap.size W w') := fun wx hb => by
    rw [hL2]; exact (light15_t (HVV.out wx hb).2.add).mono fun e w' hh => ⟨hh.1, HTR.out _ _ hb hh.2⟩
  have hrl := rl_len he.rem
  have HVE := hidS (And.intro hv he)
  unfold vrV edV
  have HW := hidS hW
  have HAP : Hid (L1 = true → L2 = true → ed.rem.length ≤ 300 → ∃ (lg nx sq E : Int) (n : Nat) (tabs : List LnV), (∀ wx, Below W.heap.size W wx → Calls Try.prog 13 #[.agg #[.int .i64 v.log, .int .i64 v.next, .int .i64 v.seq, .slice a v.tabs.length c], .agg #[.int .i64 ed.log, .int .i64 ed.next, .int .i64 ed.seq, .slice aa ed.add.length ac, .slice ra ed.rem.length rc]] wx fun e w' => ∃ a' c', e = .returned (.tuple #[.agg #[.int .i64 lg, .int .i64 nx, .int .i64 sq, .slice a' n c'], .int .i64 E]) ∧ VrM w' ⟨lg, nx, sq, tabs⟩ a' c' ∧ Below W.heap.size W w') ∧ (∀ wx, Below W.heap.size W wx → Calls Try.prog 14 #[.agg #[.int .i64 v.log, .int .i64 v.next, .int .i64 v.seq, .slice a v.tabs.length c], .agg #[.int .i64 ed.log, .int .i64 ed.next, .int .i64 ed.seq, .slice aa ed.add.length ac, .slice ra ed.rem.length rc]] wx fun e w' => ∃ a' c', e = .returned (.tuple #[.agg #[.int .i64 lg, .int .i64 nx, .int .i64 sq, .slice a' n c'], .int .i64 E]) ∧ VrM w' ⟨lg, nx, sq, tabs⟩ a' c' ∧ Below W.heap.size W w' ∧ Below wx.heap.size wx w') ∧ (∀ wx a1 c1 a2 c2, VrM wx ⟨lg, nx, sq, tabs⟩ a1 c1 → VrM wx ⟨lg, nx, sq, tabs⟩ a2 c2 → Below W.heap.size W wx → Calls Try.prog 15 #[.agg #[.int .i64 lg, .int .i64 nx, .int .i64 sq, .slice a1 n c1], .agg #[.int .i64 lg, .int .i64 nx, .int .i64 sq, .slice a2 n c2]] wx fun e w' => e = .returned (.bool true) ∧ Below W.heap.size W w')) := fun h1 h2 h3 => by
    have g1 := (litL_ok (hL1.symm.trans h1)).1
    have g2 := (litL_ok (hL2.symm.trans h2)).1
    refine ⟨(apV v ed).log, (apV v ed).next, (apV v ed).seq, (apE v ed : Nat), (apV v ed).tabs.length, (apV v ed).tabs, fun wx hb => ?_, fun wx hb => ?_, fun wx a1 c1 a2 c2 q1 q2 hb => ?_⟩
    · exact (apply_t (HVV.out wx hb).1 (HVV.out wx hb).2 (by omega) (by omega) (by omega)).mono fun e w' ⟨a', c', e1, e2, e3⟩ => ⟨a', c', e1, e2, HTR.out _ _ hb e3⟩
    · exact (rapply_t (HVV.out wx hb).1 (HVV.out wx hb).2).mono fun e w' ⟨a', c', e1, e2, e3⟩ => ⟨a', c', e1, e2, HTR.out _ _ hb e3, e3⟩
    · exact (rsameV_eq q1 q2).mono fun e w' hh => ⟨hh.1, HTR.out _ _ hb hh.2⟩
  obtain ⟨x0, x1, x2, x3⟩ := F0.out _ HW0.out
  obtain ⟨y0, y1, y2, y3, y4⟩ := F1.out _ HW0.out
  obtain ⟨rn, hrn⟩ : ∃ n, n = ed.rem.length := ⟨_, rfl⟩
  rw [← hrn] at y4 hW HW F1 HAP hrl ⊢
  rw [hW] at x0 x1 x2 x3 y0 y1 y2 y3 y4
  clear hW hWs hWb k0 k1 hL1 hL2 hv he hrn
  cases L1 with
  | false =>
    clear HAP
    go_enter Try.func4, Try.ntmps4
    go_wp2_with (first | (go_at_call 9; rw [← HW.out]; refine (HLI1.out _ HW0.out).mono ?_; rintro e w1 ⟨rfl, b1⟩; clear x0 x1 x2 x3 y0 y1 y2 y3 y4) | (go_at_call 10; refine (HAW.out _ b1).mono ?_; rintro e w2 ⟨rfl, b2⟩))
    exact bodyPost_ret (v := .bool true) (by simp [results, Try.results4, go_sem]) rfl ⟨rfl, HEN.out _ b2⟩
  | true =>
    cases L2 with
    | false =>
      clear HAP
      go_enter Try.func4, Try.ntmps4
      go_wp2_with (first | (go_at_call_of 9 (Value.slice a v.tabs.length c); rw [← HW.out]; refine (HLI1.out _ HW0.out).mono ?_; rintro e w1 ⟨rfl, b1⟩; clear HLI1 x0 x1 x2 x3 y0 y1 y2 y3 y4; obtain ⟨y0, y1, y2, y3, y4⟩ := F1.out _ b1) | (go_at_call_of 9 (Value.slice aa ed.add.length ac); refine (HLI2.out _ b1).mono ?_; rintro e w2 ⟨rfl, b2⟩; clear y0 y1 y2 y3 y4) | (go_at_call 10; refine (HAW.out _ b2).mono ?_; rintro e w3 ⟨rfl, b3⟩))
      exact bodyPost_ret (v := .bool true) (by simp [results, Try.results4, go_sem]) rfl ⟨rfl, HEN.out _ b3⟩
    | true =>
      by_cases q : 300 < rn
      · have q' : (300 : Int) < (rn : Int) := by omega
        clear HAP
        go_enter Try.func4, Try.ntmps4
        go_wp2_with (first | (go_at_call_of 9 (Value.slice a v.tabs.length c); rw [← HW.out]; refine (HLI1.out _ HW0.out).mono ?_; rintro e w1 ⟨rfl, b1⟩; clear HLI1 x0 x1 x2 x3 y0 y1 y2 y3 y4; obtain ⟨y0, y1, y2, y3, y4⟩ := F1.out _ b1) | (go_at_call_of 9 (Value.slice aa ed.add.length ac); refine (HLI2.out _ b1).mono ?_; rintro e w2 ⟨rfl, b2⟩; clear y0 y1 y2 y3 y4; obtain ⟨y0, y1, y2, y3, y4⟩ := F1.out _ b2) | (go_at_call 10; refine (HAW.out _ b2).mono ?_; rintro e w3 ⟨rfl, b3⟩))
        exact bodyPost_ret (v := .bool true) (by simp [results, Try.results4, go_sem]) rfl ⟨rfl, HEN.out _ b3⟩
      · have q' : ¬ (300 : Int) < (rn : Int) := by omega
        obtain ⟨lg, nx, sq, E, n, tabs, ha, hr, hs⟩ := HAP.out rfl rfl (by omega)
        have HA := hidS ha
        have HRA := hidS hr
        have HSV := hidS hs
        clear HAP ha hr hs q
        go_enter Try.func4, Try.ntmps4
        go_wp2_with (first | (go_at_call_of 9 (Value.slice a v.tabs.length c); rw [← HW.out]; refine (HLI1.out _ HW0.out).mono ?_; rintro e w1 ⟨rfl, b1⟩; clear HLI1 x0 x1 x2 x3 y0 y1 y2 y3 y4; obtain ⟨y0, y1, y2, y3, y4⟩ := F1.out _ b1) | (go_at_call_of 9 (Value.slice aa ed.add.length ac); refine (HLI2.out _ b1).mono ?_; rintro e w2 ⟨rfl, b2⟩; clear y0 y1 y2 y3 y4; obtain ⟨x0, x1, x2, x3⟩ := F0.out _ b2; obtain ⟨y0, y1, y2, y3, y4⟩ := F1.out _ b2) | (go_at_call 13; refine (HA.out _ b2).mono ?_; rintro e w3 ⟨a3, c3, rfl, hv3, b3⟩; clear x0 x1 x2 x3 y0 y1 y2 y3 y4; have b3' := b3.alloc b3.size (.cells #[.int .i64 lg, .int .i64 nx, .int .i64 sq, .slice a3 n c3] 24); obtain ⟨x0, x1, x2, x3⟩ := F0.out _ b3'; obtain ⟨y0, y1, y2, y3, y4⟩ := F1.out _ b3'; have HV3 := hidS hv3; clear hv3) | (go_at_call 14; refine (HRA.out _ b3').mono ?_; rintro e w4 ⟨a4, c4, rfl, hv4, b4, b34⟩; clear x0 x1 x2 x3 y0 y1 y2 y3 y4; have b4' := b4.alloc b4.size (.cells #[.int .i64 lg, .int .i64 nx, .int .i64 sq, .slice a4 n c4] 24); have b34' := b34.alloc b34.size (.cells #[.int .i64 lg, .int .i64 nx, .int .i64 sq, .slice a4 n c4] 24); obtain ⟨x0, x1, x2, x3⟩ := box4 w3 _ _ _ _ _ b34'; obtain ⟨y0, y1, y2, y3⟩ := box4 w4 _ _ _ _ 24 (Below.refl _ (w4.alloc (.cells #[.int .i64 lg, .int .i64 nx, .int .i64 sq, .slice a4 n c4] 24))); have HVX : Hid (VrM (w4.alloc (.cells #[.int .i64 lg, .int .i64 nx, .int .i64 sq, .slice a4 n c4] 24)) ⟨lg, nx, sq, tabs⟩ a3 c3 ∧ VrM (w4.alloc (.cells #[.int .i64 lg, .int .i64 nx, .int .i64 sq, .slice a4 n c4] 24)) ⟨lg, nx, sq, tabs⟩ a4 c4) := ⟨(HV3.out.later ((Below.refl _ _).alloc (Nat.le_refl _) _)).later b34', hv4.later ((Below.refl _ _).alloc (Nat.le_refl _) _)⟩; clear hv4) | (go_at_call 15; refine (HSV.out _ _ _ _ _ HVX.out.1 HVX.out.2 b4').mono ?_; rintro e w5 ⟨rfl, b5⟩) | (go_at_call 10; refine (HAW.out _ b5).mono ?_; rintro e w6 ⟨rfl, b6⟩))
        exact bodyPost_ret (v := .bool true) (by simp [results, Try.results4, go_sem]) rfl ⟨rfl, HEN.out _ b6⟩
end Go.Proofs.Ytjgfklbhagcbaaa

/- The document's At. -/
namespace Go.Proofs.Ytjgfklbhagcbaaa
open Go.RowKit
set_option linter.unusedVariables false
set_option linter.unusedSimpArgs false

set_option maxHeartbeats 4000000 in
set_option maxRecDepth 100000 in
theorem rat_t {w : World} {v : VrV} {ao : Option Addr} {cap : Nat} (hv : VrM w v ao cap) (hn : v.tabs.length ≤ 1000000) (l : Int) :
    Calls Try.prog 19 #[vrV v ao cap, .int .i64 l] w fun e w' => ∃ u, e = .returned u ∧ RowS lnE w.heap.size w' u (v.tabs.filter fun t => decide (t.lvl = l)) ∧ Below w.heap.size w w' := by
  have h := hv.tabs
  obtain ⟨p, hp⟩ : ∃ p : LnV → Bool, p = fun t => decide (t.lvl = l) := ⟨_, rfl⟩
  rw [← hp]
  have HPX : Hid (∀ t, p t = decide (t.lvl = l)) := fun t => by rw [hp]
  clear hp
  obtain ⟨xs, hxs⟩ : ∃ xs, xs = v.tabs := ⟨_, rfl⟩
  obtain ⟨n, hnn⟩ : ∃ n, n = v.tabs.length := ⟨_, rfl⟩
  unfold vrV
  rw [← hnn] at h hn ⊢
  rw [← hxs] at h ⊢
  have hl : xs.length = n := by rw [hnn, hxs]
  have HL := hidS hl
  have H0 := hidS h
  generalize v.log = lg0
  generalize v.next = nx0
  generalize v.seq = sq0
  have hbx0 := fun (wx : World) hb => box4 w (.int .i64 lg0) (.int .i64 nx0) (.int .i64 sq0) (.slice ao n cap) 24 (wx := wx) hb
  obtain ⟨W0, hW0⟩ : ∃ W0, W0 = w.alloc (.cells #[.int .i64 lg0, .int .i64 nx0, .int .i64 sq0, .slice ao n cap] 24) := ⟨_, rfl⟩
  have HW00 : Hid (Below w.heap.size w W0) := by show Below _ _ _; rw [hW0]; exact (Below.refl _ w).alloc (Nat.le_refl _) _
  obtain ⟨e0, e1, e2, e3⟩ := hbx0 _ (Below.refl _ _)
  have HW0 := hidS hW0
  clear hl h hnn hxs hbx0 hW0 hv
  go_enter Try.func19, Try.ntmps19
  go_wp2_with fail
  clear e0 e1 e2 e3
  rw [← HW0.out]
  go_loopg [5, 7, 11] n (fun kx s5 _ s11 wr => ∃ k : Nat, s11 = .int .i64 k ∧ k + kx = n ∧ Hid (RowS lnE w.heap.size wr s5 ((xs.take k).filter p) ∧ Below w.heap.size w wr))
  case atStart => exact ⟨0, rfl, by omega, RowS.nil _ _, HW00.out⟩
  case round =>
    obtain ⟨k, rfl, hg, HK⟩ := hrel
    by_cases hk : k < n
    · have hk' : (k : Int) < (n : Int) := by omega
      obtain ⟨x, hx⟩ : ∃ x, xs[k]? = some x := ⟨_, List.getElem?_eq_getElem (by have := HL.out; omega)⟩
      obtain ⟨b, off, la, lc, ma, mc, rfl, r0, r1, r2, r3, r4, q1, q2, i1, i2, i3⟩ := RS.ln H0.out hx
      replace r0 := cell_later HK.out.2 r0
      replace r1 := cell_later HK.out.2 r1
      replace r2 := cell_later HK.out.2 r2
      replace r3 := cell_later HK.out.2 r3
      replace r4 := cell_later HK.out.2 r4
      have hM : LnM w [.int .i64 x.num, .int .i64 x.lvl, .int .i64 x.size, .slice la x.least.length lc, .slice ma x.most.length mc] x := ⟨la, lc, ma, mc, rfl, q1, q2, i1, i2, i3⟩
      have HX : Hid ((xs.take (k + 1)).filter p = (xs.take k).filter p ++ if p x = true then [x] else []) := by
        obtain ⟨hkl, rfl⟩ := List.getElem?_eq_some_iff.1 hx
        show _ = _
        rw [List.take_add_one, List.getElem?_eq_getElem hkl, List.filter_append]
        simp only [Option.toList]
        congr 1
        by_cases q : p xs[k] = true
        · rw [if_pos q, List.filter_cons_of_pos q]; rfl
        · rw [if_neg q, List.filter_cons_of_neg q]; rfl
      have hbx := fun (wx : World) hb => box5 wr (.int .i64 x.num) (.int .i64 x.lvl) (.int .i64 x.size) (.slice la x.least.length lc) (.slice ma x.most.length mc) 54 (wx := wx) hb
      have HM : Hid (∀ wx, Below wr.heap.size wr wx → LnM wx [.int .i64 x.num, .int .i64 x.lvl, .int .i64 x.size, .slice la x.least.length lc, .slice ma x.most.length mc] x ∧ ∀ v ∈ [.int .i64 x.num, .int .i64 x.lvl, .int .i64 x.size, .slice la x.least.length lc, .slice ma x.most.length mc], ∀ b, Refs v b → b < w.heap.size) := fun wx hb => ⟨El.later (E := lnE) hM (HK.out.2.trans (hb.mono HK.out.2.size)), fun v hv b hr => lnE.lt (hM : lnE.M w _ _) v hv b hr⟩
      obtain ⟨P, hP⟩ : ∃ P, P = p x := ⟨_, rfl⟩
      rw [← hP] at HX
      have hP2 : (x.lvl == l) = P := by rw [hP, HPX.out]; by_cases z : x.lvl = l <;> simp [z]
      obtain ⟨L1, hL1⟩ : ∃ L, L = x.least.length := ⟨_, rfl⟩
      obtain ⟨L2, hL2⟩ : ∃ L, L = x.most.length := ⟨_, rfl⟩
      rw [← hL1] at r3 hbx HM
      rw [← hL2] at r4 hbx HM
      have HR := hidS (And.intro hg hk)
      have hk62 : k ≤ 2 ^ 60 := by omega
      have HLn : Hid (((xs.take k).filter p).length ≤ 1000000) := Nat.le_trans (List.length_filter_le _ _) (by rw [List.length_take]; omega)
      generalize x.num = num at r0 hbx HM
      generalize x.lvl = lvl at r1 hbx HM hP2
      generalize x.size = size at r2 hbx HM
      obtain ⟨W, hW⟩ : ∃ W, W = wr.alloc (.cells #[.int .i64 num, .int .i64 lvl, .int .i64 size, .slice la L1 lc, .slice ma L2 mc] 54) := ⟨_, rfl⟩
      have hWb : Below wr.heap.size wr W := by rw [hW]; exact (Below.refl _ wr).alloc (Nat.le_refl _) _
      rw [← hW] at hbx
      have HBX := hidS hbx
      have HWB := hidS hWb
      have HW := hidS hW
      have HBK : Hid (∀ wx, Below W.heap.size W wx → RowS lnE w.heap.size wx u5 ((xs.take k).filter p) ∧ Below w.heap.size w wx) := fun wx hb => by
        have q := HWB.out.trans (hb.mono HWB.out.size)
        exact ⟨HK.out.1.later q, HK.out.2.trans (q.mono HK.out.2.size)⟩
      obtain ⟨x0, x1, x2, x3, x4⟩ := hbx W (Below.refl _ _)
      rw [HW.out] at x0 x1 x2 x3 x4
      clear hM q1 q2 i1 i2 i3 hbx hWb hW hx hL1 hL2 hP hg
      cases P with
      | false =>
        have hbk := HBK.out W (Below.refl _ _)
        rw [HW.out] at hbk
        have HBB := hidE hbk
        clear hbk
        go_wp2_with fail
        go_roundg (n - (k + 1))
        case measure => have := HR.out; omega
        case rel => exact ⟨k + 1, by go_num, by have := HR.out; omega, by rw [HX.out]; simp only [Bool.false_eq_true, if_false, List.append_nil]; exact HBB.out.1, HBB.out.2⟩
      | true =>
        have HAP : Hid (∀ wx, Below W.heap.size W wx → RowS lnE w.heap.size (wx.alloc (.cells #[.int .i64 num, .int .i64 lvl, .int .i64 size, .slice la L1 lc, .slice ma L2 mc] 54)) u5 ((xs.take k).filter p) ∧
            RSu lnE (wx.alloc (.cells #[.int .i64 num, .int .i64 lvl, .int .i64 size, .slice la L1 lc, .slice ma L2 mc] 54)) (some ⟨wx.heap.size, 0, none⟩) 1 1 [.int .i64 num, .int .i64 lvl, .int .i64 size, .slice la L1 lc, .slice ma L2 mc] [x] ∧
            (∀ u ∈ [.int .i64 num, .int .i64 lvl, .int .i64 size, .slice la L1 lc, .slice ma L2 mc], ∀ b, Refs u b → u5.ownBlock ≠ some b) ∧ w.heap.size ≤ (wx.alloc (.cells #[.int .i64 num, .int .i64 lvl, .int .i64 size, .slice la L1 lc, .slice ma L2 mc] 54)).heap.size ∧
            Below w.heap.size w (wx.alloc (.cells #[.int .i64 num, .int .i64 lvl, .int .i64 size, .slice la L1 lc, .slice ma L2 mc] 54))) := fun wx hb => by
          have q := HBK.out wx hb
          have q2 := HM.out wx (HWB.out.trans (hb.mono HWB.out.size))
          have b3 : Below w.heap.size w (wx.alloc (.cells #[.int .i64 num, .int .i64 lvl, .int .i64 size, .slice la L1 lc, .slice ma L2 mc] 54)) := q.2.alloc q.2.size _
          refine ⟨q.1.later ((Below.refl _ wx).alloc (Nat.le_refl _) _), rs_one (E := lnE) q2.1, fun u hu b hr e => ?_, b3.size, b3⟩
          have k1 := q2.2 u hu b hr
          have k2 := (q.1.own_lt e).1
          omega
        have hap := HAP.out W (Below.refl _ _)
        rw [HW.out] at hap
        rw [show (wr.alloc (.cells #[.int .i64 num, .int .i64 lvl, .int .i64 size, .slice la L1 lc, .slice ma L2 mc] 54)).heap.size = wr.heap.size + 1 by simp] at hap
        have HPP := hidE hap
        clear hap
        go_wp2_with (at_builtin; refine wpList_appS lnE (t := 22) (z := .agg #[.int .i64 0, .int .i64 0, .int .i64 0, .slice none 0 0, .slice none 0 0]) (bytes := 72) Try.underlying22 lnE_info rfl (by decide) rfl (.tmp 19) (.tmp 21) rfl rfl HPP.out.1 rfl HPP.out.2.1 HPP.out.2.2.1 (by have := HLn.out; omega) (by have := HLn.out; omega) HPP.out.2.2.2.1 ?_; intro v9 w9 r9 g9 m9)
        go_roundg (n - (k + 1))
        case measure => have := HR.out; omega
        case rel => exact ⟨k + 1, by go_num, by have := HR.out; omega, by rw [HX.out]; simp only [if_true]; exact r9, HPP.out.2.2.2.2.grown g9 HPP.out.2.2.2.1 fun z hz => (HPP.out.1.own_lt hz).1⟩
    · have hk' : ¬ (k : Int) < (n : Int) := by omega
      have HF : Hid (RowS lnE w.heap.size wr u5 (xs.filter p)) := by
        have := HK.out.1
        rwa [List.take_of_length_le (by have := HL.out; omega)] at this
      clear hg hk
      go_wp2_with fail
      exact bodyPost_ret (v := u5) (by simp [results, Try.results19, go_sem]) rfl ⟨_, rfl, HF.out, HK.out.2⟩
end Go.Proofs.Ytjgfklbhagcbaaa

/- The document's Size, Overlap, Find. -/
namespace Go.Proofs.Ytjgfklbhagcbaaa
open Go.RowKit
set_option linter.unusedVariables false
set_option linter.unusedSimpArgs false

def atL (tabs : List LnV) (l : Int) : List LnV := tabs.filter fun t => decide (t.lvl = l)
def sumS (F : List LnV) : Int := F.foldl (fun s t => s + t.size) 0
def SzOk (F : List LnV) : Prop := ∀ t ∈ F, 0 ≤ t.size ∧ t.size ≤ 4194304
theorem sumS_in : ∀ (F : List LnV) (s : Int), SzOk F → s ≤ F.foldl (fun s t => s + t.size) s ∧ F.foldl (fun s t => s + t.size) s ≤ s + F.length * 4194304
  | [], s, _ => by simp
  | t :: r, s, h => by
    have h1 := h t (List.mem_cons_self ..)
    have h2 := sumS_in r (s + t.size) fun u hu => h u (List.mem_cons_of_mem _ hu)
    rw [List.foldl_cons, List.length_cons]
    omega
theorem szL_sum' (l : Int) : ∀ (F : List LnV) (s : Int), SzOk F → 0 ≤ s → s + F.length * 4194304 ≤ 4611686018427387904 → F.foldl (szP l) s = (atL F l).foldl (fun s t => s + t.size) s
  | [], s, _, _, _ => rfl
  | t :: r, s, h, h0, hs => by
    have h1 := h t (List.mem_cons_self ..)
    rw [List.length_cons] at hs
    have hr : SzOk r := fun u hu => h u (List.mem_cons_of_mem _ hu)
    rw [List.foldl_cons]
    unfold atL
    by_cases q : t.lvl = l
    · rw [List.filter_cons_of_pos (by simpa using q), List.foldl_cons, show szP l s t = s + t.size by unfold szP; rw [if_pos q]; omega]
      exact szL_sum' l r _ hr (by omega) (by omega)
    · rw [List.filter_cons_of_neg (by simpa using q), show szP l s t = s by unfold szP; rw [if_neg q]]
      exact szL_sum' l r _ hr h0 (by omega)
theorem szL_sum {tabs : List LnV} (h : SzOk tabs) (hn : tabs.length ≤ 1000000) (l : Int) : szL tabs l = sumS (atL tabs l) := szL_sum' l tabs 0 h (by omega) (by omega)
theorem sumS_take {F : List LnV} {k : Nat} {x : LnV} (h : F[k]? = some x) : sumS (F.take (k + 1)) = sumS (F.take k) + x.size := by
  obtain ⟨hk, rfl⟩ := List.getElem?_eq_some_iff.1 h
  unfold sumS
  rw [List.take_add_one, List.getElem?_eq_getElem hk, List.foldl_append]
  rfl
set_option maxHeartbeats 4000000 in
set_option maxRecDepth 100000 in
theorem rsize_t {w : World} {v : VrV} {ao : Option Addr} {cap : Nat} (hv : VrM w v ao cap) (hn : v.tabs.length ≤ 1000000) (hz : SzOk v.tabs) (l : Int) :
    Calls Try.prog 21 #[vrV v ao cap, .int .i64 l] w fun e w' => e = .returned (.int .i64 (szL v.tabs l)) ∧ Below w.heap.size w w' := by
  rw [szL_sum hz hn l]
  obtain ⟨F, hF⟩ : ∃ F, F = atL v.tabs l := ⟨_, rfl⟩
  obtain ⟨n, hnF⟩ : ∃ n, n = F.length := ⟨_, rfl⟩
  have hFz : SzOk F := fun t ht => hz t (by rw [hF] at ht; exact (List.mem_filter.1 ht).1)
  have hn6 : n ≤ 1000000 := by rw [hnF, hF]; exact Nat.le_trans (List.length_filter_le _ _) hn
  rw [← hF]
  have HFZ := hidS (And.intro hFz hnF)
  unfold vrV
  obtain ⟨W, hW⟩ : ∃ W, W = w.alloc (.cells #[.int .i64 v.log, .int .i64 v.next, .int .i64 v.seq, .slice ao v.tabs.length cap] 24) := ⟨_, rfl⟩
  have hWb : Below w.heap.size w W := by rw [hW]; exact (Below.refl _ w).alloc (Nat.le_refl _) _
  have hbx := fun (wx : World) hb => box4 w (.int .i64 v.log) (.int .i64 v.next) (.int .i64 v.seq) (.slice ao v.tabs.length cap) 24 (wx := wx) hb
  obtain ⟨x0, x1, x2, x3⟩ := hbx _ (Below.refl _ _)
  have hat : Calls Try.prog 19 #[.agg #[.int .i64 v.log, .int .i64 v.next, .int .i64 v.seq, .slice ao v.tabs.length cap], .int .i64 l] W fun e w' => ∃ a1 c1, e = .returned (.slice a1 n c1) ∧ RS lnE w' a1 n c1 F ∧ Below w.heap.size w w' := (rat_t (hv.later hWb) hn l).mono fun e w' hh => by
    obtain ⟨u, rfl, hr, hb⟩ := hh
    obtain ⟨a1, c1, e1, hr1⟩ := hr.rs
    have e2 : v.tabs.filter (fun t => decide (t.lvl = l)) = F := hF.symm
    rw [e2, ← hnF] at e1 hr1
    exact ⟨a1, c1, by rw [e1], hr1, hWb.trans (hb.mono hWb.size)⟩
  clear hF hnF hFz hbx hv hn hz
  generalize v.tabs.length = tn at x3 hW hat ⊢
  generalize v.log = lg0 at x0 hW hat ⊢
  generalize v.next = nx0 at x1 hW hat ⊢
  generalize v.seq = sq0 at x2 hW hat ⊢
  rw [hW] at hat
  clear hW hWb
  go_enter Try.func21, Try.ntmps21
  go_wp2_with (go_at_call 19; refine hat.mono ?_; rintro e w1 ⟨a1, c1, rfl, r1, b1⟩)
  have R1 := hidS (And.intro r1 b1)
  clear r1 b1 x0 x1 x2 x3 hat
  go_loopg [5, 7, 12] n (fun kx s5 _ s12 wr => ∃ k : Nat, s5 = .int .i64 (sumS (F.take k)) ∧ s12 = .int .i64 k ∧ k + kx = n ∧ Hid (Below w1.heap.size w1 wr))
  case atStart => exact ⟨0, rfl, rfl, by omega, Below.refl _ _⟩
  case round =>
    obtain ⟨k, rfl, rfl, hg, HK⟩ := hrel
    by_cases hk : k < n
    · have hk' : (k : Int) < (n : Int) := by omega
      obtain ⟨x, hx⟩ : ∃ x, F[k]? = some x := ⟨_, List.getElem?_eq_getElem (by have := HFZ.out.2; omega)⟩
      obtain ⟨b, off, la, lc, ma, mc, rfl, r0, r1, r2, r3, r4, -, -, -, -, -⟩ := RS.ln (R1.out.1.later HK.out) hx
      have HT : Hid (sumS (F.take (k + 1)) = sumS (F.take k) + x.size) := sumS_take hx
      have hxz := HFZ.out.1 x (List.mem_of_getElem? hx)
      have hsz := sumS_in (F.take k) 0 fun t ht => HFZ.out.1 t (List.mem_of_mem_take ht)
      rw [List.length_take] at hsz
      obtain ⟨s, hs⟩ : ∃ s, s = sumS (F.take k) := ⟨_, rfl⟩
      have hsb : 0 ≤ s ∧ s ≤ 1000000 * 4194304 := by
        have : sumS (F.take k) = List.foldl (fun s t => s + t.size) 0 (F.take k) := rfl
        rw [hs, this]; omega
      rw [← hs] at HT ⊢
      have HB : Hid (∀ o, Below w1.heap.size w1 (wr.alloc o)) := fun o => HK.out.alloc HK.out.size o
      have HR := hidS (And.intro hg hk)
      have hk62 : k ≤ 2 ^ 60 := by omega
      clear hg hx hs hsz
      generalize x.least.length = L1 at r3
      generalize x.most.length = L2 at r4
      generalize x.num = num at r0
      generalize x.lvl = lvl at r1
      generalize x.size = size at r2 HT hxz
      go_wp2_with fail
      go_roundg (n - (k + 1))
      case measure => have := HR.out; omega
      case rel => exact ⟨k + 1, by rw [HT.out], by go_num, by have := HR.out; omega, HB.out _⟩
    · have hk' : ¬ (k : Int) < (n : Int) := by omega
      have HF : Hid (sumS (F.take k) = sumS F) := by
        show _ = _
        rw [List.take_of_length_le (by have := HFZ.out.2; omega)]
      clear hg hk
      rw [HF.out]
      go_wp2_with fail
      exact bodyPost_ret (v := .int .i64 (sumS F)) (by simp [results, Try.results21, go_sem]) rfl ⟨rfl, R1.out.2.trans (HK.out.mono R1.out.2.size)⟩
end Go.Proofs.Ytjgfklbhagcbaaa
