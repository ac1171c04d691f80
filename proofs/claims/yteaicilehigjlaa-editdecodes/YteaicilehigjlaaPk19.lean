import Derived.Test.YteaicilehigjlaaPk17
/- The laws that an edit is decoded and encoded as the document has it. -/
namespace Go.Proofs.Yteaicilehigjlaa
open Go.RowKit
set_option linter.unusedVariables false
set_option linter.unusedSimpArgs false

set_option maxHeartbeats 2000000 in
set_option maxRecDepth 100000 in
theorem edecodes_any {w : World} {ao : Option Addr} {len cap : Nat} {d : List Int} (h : Sl w ao len cap d) (hl : len ≤ 140737488351232) :
    Calls Try.prog 5 #[.slice ao len cap] w fun e w' => e = .returned (.bool true) ∧ Below w.heap.size w w' := by
  have h1 := edec_any h (by omega)
  have H2 : Hid (∀ wx, Below w.heap.size w wx → Calls Try.prog 17 #[.slice ao len cap] wx fun e w' => ∃ aa ac ra rc, e = .returned (.tuple #[edV (deEd d).1 aa ac ra rc, .int .i64 ((deEd d).2 : Nat)]) ∧ EdM w' (deEd d).1 aa ac ra rc ∧ Below wx.heap.size wx w') := fun wx hb => rtakeD_any (h.later hb) (by omega)
  have HA : Hid (∀ wx, Calls Try.prog 10 #[] wx fun e w' => e = .returned (.bool true) ∧ Below wx.heap.size wx w') := fun wx => awake14_any wx
  obtain ⟨⟨⟨lg, nx, sq, ad, rm⟩, er⟩, hD⟩ : ∃ x, deEd d = x := ⟨_, rfl⟩
  rw [hD] at h1 H2
  unfold edV at h1 H2
  simp only at h1 H2
  have heq : ((er : Int) == (er : Int)) = true := by simp
  clear h hl hD
  go_enter Try.func5, Try.ntmps5
  go_upto_region 2 with (go_at_call 16; refine h1.mono ?_; rintro e w1 ⟨a1, c1, r1, d1, rfl, hs1, hb1⟩)
  have c1' : Below w1.heap.size w1 (w1.alloc (.cells #[.int .i64 lg, .int .i64 nx, .int .i64 sq, .slice a1 ad.length c1, .slice r1 rm.length d1] 30)) := (Below.refl _ _).alloc (Nat.le_refl _) _
  have b1 : Below w.heap.size w (w1.alloc (.cells #[.int .i64 lg, .int .i64 nx, .int .i64 sq, .slice a1 ad.length c1, .slice r1 rm.length d1] 30)) := hb1.alloc hb1.size _
  have h2 := H2.out _ b1
  have xb := heap_alloc_new w1 (.cells #[.int .i64 lg, .int .i64 nx, .int .i64 sq, .slice a1 ad.length c1, .slice r1 rm.length d1] 30)
  have hs1' := hs1.later c1'
  obtain ⟨W1, hW1⟩ : ∃ W1, W1 = w1.alloc (.cells #[.int .i64 lg, .int .i64 nx, .int .i64 sq, .slice a1 ad.length c1, .slice r1 rm.length d1] 30) := ⟨_, rfl⟩
  rw [← hW1] at h2 b1 hs1' xb ⊢
  have HB1 : Hid (EdM W1 ⟨lg, nx, sq, ad, rm⟩ a1 c1 r1 d1 ∧ Below w.heap.size w W1 ∧ W1.heap[w1.heap.size]? = some (.cells #[.int .i64 lg, .int .i64 nx, .int .i64 sq, .slice a1 ad.length c1, .slice r1 rm.length d1] 30 (0, 0))) := ⟨hs1', b1, xb⟩
  clear h1 hs1 hb1 b1 c1' hW1 H2 hs1' xb
  go_upto_region 3 with (go_at_call 17; refine h2.mono ?_; rintro e w2 ⟨a2, c2, r2, d2, rfl, hs2, hb2⟩)
  have c2' : Below w2.heap.size w2 (w2.alloc (.cells #[.int .i64 lg, .int .i64 nx, .int .i64 sq, .slice a2 ad.length c2, .slice r2 rm.length d2] 30)) := (Below.refl _ _).alloc (Nat.le_refl _) _
  have b12 : Below W1.heap.size W1 (w2.alloc (.cells #[.int .i64 lg, .int .i64 nx, .int .i64 sq, .slice a2 ad.length c2, .slice r2 rm.length d2] 30)) := hb2.trans (c2'.mono hb2.size)
  have hS := rsameD_eq (HB1.out.1.later b12) (hs2.later c2')
  unfold edV at hS
  simp only at hS
  have zb := heap_alloc_new w2 (.cells #[.int .i64 lg, .int .i64 nx, .int .i64 sq, .slice a2 ad.length c2, .slice r2 rm.length d2] 30)
  have yb := (b12.block _ (Array.getElem?_eq_some_iff.1 HB1.out.2.2).1).trans HB1.out.2.2
  have HB2 : Hid (Below w.heap.size w (w2.alloc (.cells #[.int .i64 lg, .int .i64 nx, .int .i64 sq, .slice a2 ad.length c2, .slice r2 rm.length d2] 30))) := HB1.out.2.1.trans (b12.mono HB1.out.2.1.size)
  obtain ⟨W2, hW2⟩ : ∃ W2, W2 = w2.alloc (.cells #[.int .i64 lg, .int .i64 nx, .int .i64 sq, .slice a2 ad.length c2, .slice r2 rm.length d2] 30) := ⟨_, rfl⟩
  rw [← hW2] at hS HB2 zb yb ⊢
  have y0 : W2.cell? ⟨w1.heap.size, 0, none⟩ = some (.int .i64 lg) := by rw [cell_of yb]; rfl
  have y1 : W2.cell? ⟨w1.heap.size, 1, none⟩ = some (.int .i64 nx) := by rw [cell_of yb]; rfl
  have y2 : W2.cell? ⟨w1.heap.size, 2, none⟩ = some (.int .i64 sq) := by rw [cell_of yb]; rfl
  have y3 : W2.cell? ⟨w1.heap.size, 3, none⟩ = some (.slice a1 ad.length c1) := by rw [cell_of yb]; rfl
  have y4 : W2.cell? ⟨w1.heap.size, 4, none⟩ = some (.slice r1 rm.length d1) := by rw [cell_of yb]; rfl
  have z0 : W2.cell? ⟨w2.heap.size, 0, none⟩ = some (.int .i64 lg) := by rw [cell_of zb]; rfl
  have z1 : W2.cell? ⟨w2.heap.size, 1, none⟩ = some (.int .i64 nx) := by rw [cell_of zb]; rfl
  have z2 : W2.cell? ⟨w2.heap.size, 2, none⟩ = some (.int .i64 sq) := by rw [cell_of zb]; rfl
  have z3 : W2.cell? ⟨w2.heap.size, 3, none⟩ = some (.slice a2 ad.length c2) := by rw [cell_of zb]; rfl
  have z4 : W2.cell? ⟨w2.heap.size, 4, none⟩ = some (.slice r2 rm.length d2) := by rw [cell_of zb]; rfl
  clear h2 hs2 hb2 c2' b12 HB1 hW2 yb zb
  go_wp2_with (first | (go_at_call 18; refine hS.mono ?_; rintro e w3 ⟨rfl, hb3⟩) | (go_at_call 10; refine (HA.out _).mono ?_; rintro e w4 ⟨rfl, hb4⟩))
  have B3 := HB2.out.trans (hb3.mono HB2.out.size)
  exact bodyPost_ret (v := .bool true) (by simp [results, Try.results5, go_sem]) rfl ⟨rfl, B3.trans (hb4.mono B3.size)⟩

set_option maxHeartbeats 4000000 in
set_option maxRecDepth 100000 in
theorem eencodes_any {w : World} {e : EdV} {aa ra : Option Addr} {ac rc : Nat} (h : EdM w e aa ac ra rc) :
    Calls Try.prog 4 #[edV e aa ac ra rc] w fun x w' => x = .returned (.bool true) ∧ Below w.heap.size w w' := by
  obtain ⟨lg, nx, sq, ad, rm⟩ := e
  obtain ⟨W, hW⟩ : ∃ W, W = w.alloc (.cells #[.int .i64 lg, .int .i64 nx, .int .i64 sq, .slice aa ad.length ac, .slice ra rm.length rc] 30) := ⟨_, rfl⟩
  have hWb : Below w.heap.size w W := by rw [hW]; exact (Below.refl _ w).alloc (Nat.le_refl _) _
  have hx : W.heap[w.heap.size]? = some (.cells #[.int .i64 lg, .int .i64 nx, .int .i64 sq, .slice aa ad.length ac, .slice ra rm.length rc] 30 (0, 0)) := by rw [hW]; exact heap_alloc_new w _
  have hH := light_any (h.later hWb)
  have HX : Hid (∀ wx, Below W.heap.size W wx → wx.cell? ⟨w.heap.size, 0, none⟩ = some (.int .i64 lg) ∧ wx.cell? ⟨w.heap.size, 1, none⟩ = some (.int .i64 nx) ∧ wx.cell? ⟨w.heap.size, 2, none⟩ = some (.int .i64 sq) ∧ wx.cell? ⟨w.heap.size, 3, none⟩ = some (.slice aa ad.length ac) ∧ wx.cell? ⟨w.heap.size, 4, none⟩ = some (.slice ra rm.length rc)) := fun wx hb => by
    have e := (hb.block _ (Array.getElem?_eq_some_iff.1 hx).1).trans hx
    exact ⟨by rw [cell_of e]; rfl, by rw [cell_of e]; rfl, by rw [cell_of e]; rfl, by rw [cell_of e]; rfl, by rw [cell_of e]; rfl⟩
  obtain ⟨m, hm⟩ : ∃ m, m = mayEd ⟨lg, nx, sq, ad, rm⟩ := ⟨_, rfl⟩
  obtain ⟨er, her⟩ : ∃ er, er = edErr ⟨lg, nx, sq, ad, rm⟩ := ⟨_, rfl⟩
  have hok := okb_enEdV (e := ⟨lg, nx, sq, ad, rm⟩) h.add.okl
  have HE : Hid (∀ wx, Below W.heap.size W wx → Calls Try.prog 12 #[edV ⟨lg, nx, sq, ad, rm⟩ aa ac ra rc] wx fun e w' => ∃ a c, e = .returned (.tuple #[.slice a (enEdV ⟨lg, nx, sq, ad, rm⟩).length c, .int .i64 er]) ∧ Sl w' a (enEdV ⟨lg, nx, sq, ad, rm⟩).length c (enEdV ⟨lg, nx, sq, ad, rm⟩) ∧ Below W.heap.size W w' ∧ Below wx.heap.size wx w') := fun wx hb => (eenc_any ((h.later hWb).later hb)).mono fun e w' ⟨v, he, hr, hb'⟩ => by
    obtain ⟨a, c, hv, hsl⟩ := Sl.ofRow hr hok
    exact ⟨a, c, by rw [he, hv, her], hsl, hb.trans (hb'.mono hb.size), hb'⟩
  have HG : Hid (∀ wx, Below W.heap.size W wx → Calls Try.prog 13 #[edV ⟨lg, nx, sq, ad, rm⟩ aa ac ra rc] wx fun e w' => ∃ a c, e = .returned (.tuple #[.slice a (enEdV ⟨lg, nx, sq, ad, rm⟩).length c, .int .i64 er]) ∧ Sl w' a (enEdV ⟨lg, nx, sq, ad, rm⟩).length c (enEdV ⟨lg, nx, sq, ad, rm⟩) ∧ Below W.heap.size W w' ∧ Below wx.heap.size wx w') := fun wx hb => (redit_any ((h.later hWb).later hb)).mono fun e w' ⟨v, he, hr, hb'⟩ => by
    obtain ⟨a, c, hv, hsl⟩ := Sl.ofRow hr hok
    exact ⟨a, c, by rw [he, hv, her], hsl, hb.trans (hb'.mono hb.size), hb'⟩
  have HM : Hid (∀ wx, Below W.heap.size W wx → Calls Try.prog 14 #[edV ⟨lg, nx, sq, ad, rm⟩ aa ac ra rc] wx fun e w' => e = .returned (.bool m) ∧ Below W.heap.size W w' ∧ Below wx.heap.size wx w') := fun wx hb => (emay_any ((h.later hWb).later hb)).mono fun e w' ⟨he, hb'⟩ => ⟨by rw [he, hm], hb.trans (hb'.mono hb.size), hb'⟩
  have HQ : Hid (∀ wx, Below W.heap.size W wx → Calls Try.prog 15 #[edV ⟨lg, nx, sq, ad, rm⟩ aa ac ra rc] wx fun e w' => e = .returned (.bool m) ∧ Below W.heap.size W w' ∧ Below wx.heap.size wx w') := fun wx hb => (rmay_ed ((h.later hWb).later hb)).mono fun e w' ⟨he, hb'⟩ => ⟨by rw [he, hm], hb.trans (hb'.mono hb.size), hb'⟩
  have HA : Hid (∀ wx, Below W.heap.size W wx → Calls Try.prog 10 #[] wx fun e w' => e = .returned (.bool true) ∧ Below W.heap.size W w' ∧ Below wx.heap.size wx w') := fun wx hb => (awake14_any wx).mono fun e w' ⟨he, hb'⟩ => ⟨he, hb.trans (hb'.mono hb.size), hb'⟩
  have HF : Hid (∀ wx, Below W.heap.size W wx → Below w.heap.size w wx) := fun wx hb => hWb.trans (hb.mono hWb.size)
  have hmm : (m == m) = true := by simp
  have hee : (er == er) = true := by simp
  have HW : Hid (W = w.alloc (.cells #[.int .i64 lg, .int .i64 nx, .int .i64 sq, .slice aa ad.length ac, .slice ra rm.length rc] 30)) := hW
  unfold edV at hH HE HG HM HQ ⊢
  simp only at hH HE HG HM HQ ⊢
  generalize enEdV (⟨lg, nx, sq, ad, rm⟩ : EdV) = X at HE HG
  rw [hW] at hH
  clear h hm her hok hWb hx hW
  go_enter Try.func4, Try.ntmps4
  go_upto_region 5 with (first | (go_at_call 11; refine hH.mono ?_; rintro e w1 ⟨b, rfl, b1⟩; rw [← HW.out] at b1; obtain ⟨y0, y1, y2, y3, y4⟩ := HX.out _ b1; cases b) | (go_at_call 12; refine (HE.out _ b1).mono ?_; rintro e w2 ⟨a2, c2, rfl, s2, b2, g2⟩; obtain ⟨z0, z1, z2, z3, z4⟩ := HX.out _ b2) | (go_at_call 13; refine (HG.out _ b2).mono ?_; rintro e w3 ⟨a3, c3, rfl, s3, b3, g3⟩; obtain ⟨p0, p1, p2, p3, p4⟩ := HX.out _ b3) | (go_at_call 10; refine (HA.out _ b1).mono ?_; rintro e w6 ⟨rfl, b6, g6⟩))
  · exact bodyPost_ret (v := .bool true) (by simp [results, Try.results4, go_sem]) rfl ⟨rfl, HF.out _ b6⟩
  · have HKS : Hid (∀ wx, Below w3.heap.size w3 wx → (wx.cell? ⟨w.heap.size, 0, none⟩ = some (.int .i64 lg) ∧ wx.cell? ⟨w.heap.size, 1, none⟩ = some (.int .i64 nx) ∧ wx.cell? ⟨w.heap.size, 2, none⟩ = some (.int .i64 sq) ∧ wx.cell? ⟨w.heap.size, 3, none⟩ = some (.slice aa ad.length ac) ∧ wx.cell? ⟨w.heap.size, 4, none⟩ = some (.slice ra rm.length rc)) ∧ (convert 22 9 (.slice a2 X.length c2)).run Try.prog wx = .ok (.string (strOfNums X)) wx ∧ (convert 22 9 (.slice a3 X.length c3)).run Try.prog wx = .ok (.string (strOfNums X)) wx) := fun wx hb => ⟨HX.out _ (b3.trans (hb.mono b3.size)), str_l (s2.later (g3.trans (hb.mono g3.size))), str_l (s3.later hb)⟩
    have HM5 : Hid (∀ wx, Below w3.heap.size w3 wx → Calls Try.prog 14 #[.agg #[.int .i64 lg, .int .i64 nx, .int .i64 sq, .slice aa ad.length ac, .slice ra rm.length rc]] wx fun e w' => e = .returned (.bool m) ∧ Below w3.heap.size w3 w') := fun wx hb => (HM.out _ (b3.trans (hb.mono b3.size))).mono fun e w' ⟨he, _, hb'⟩ => ⟨he, hb.trans (hb'.mono hb.size)⟩
    have HQ5 : Hid (∀ wx, Below w3.heap.size w3 wx → Calls Try.prog 15 #[.agg #[.int .i64 lg, .int .i64 nx, .int .i64 sq, .slice aa ad.length ac, .slice ra rm.length rc]] wx fun e w' => e = .returned (.bool m) ∧ Below w3.heap.size w3 w') := fun wx hb => (HQ.out _ (b3.trans (hb.mono b3.size))).mono fun e w' ⟨he, _, hb'⟩ => ⟨he, hb.trans (hb'.mono hb.size)⟩
    have HA5 : Hid (∀ wx, Below w3.heap.size w3 wx → Calls Try.prog 10 #[] wx fun e w' => e = .returned (.bool true) ∧ Below w3.heap.size w3 w') := fun wx hb => (HA.out _ (b3.trans (hb.mono b3.size))).mono fun e w' ⟨he, _, hb'⟩ => ⟨he, hb.trans (hb'.mono hb.size)⟩
    have HF5 : Hid (∀ wx, Below w3.heap.size w3 wx → Below w.heap.size w wx) := fun wx hb => HF.out _ (b3.trans (hb.mono b3.size))
    have hst : ((strOfNums X).toList == (strOfNums X).toList) = true := by simp
    generalize strOfNums X = T at HKS hst
    generalize X.length = lx at HKS ⊢
    clear b1 b2 b3 g2 g3 s2 s3 HE HG HM HQ HA HF HX y0 y1 y2 y3 y4 z0 z1 z2 z3 z4 p0 p1 p2 p3 p4 hH HW
    go_region_held_law (fun w' => (w'.cell? ⟨w.heap.size, 0, none⟩ = some (.int .i64 lg) ∧ w'.cell? ⟨w.heap.size, 1, none⟩ = some (.int .i64 nx) ∧ w'.cell? ⟨w.heap.size, 2, none⟩ = some (.int .i64 sq) ∧ w'.cell? ⟨w.heap.size, 3, none⟩ = some (.slice aa ad.length ac) ∧ w'.cell? ⟨w.heap.size, 4, none⟩ = some (.slice ra rm.length rc)) ∧ (convert 22 9 (.slice a2 lx c2)).run Try.prog w' = .ok (.string T) w' ∧ (convert 22 9 (.slice a3 lx c3)).run Try.prog w' = .ok (.string T) w') (first | exact HKS.out _ b9 | exact HKS.out _ b7 | exact HKS.out _ b6 | exact HKS.out _ (Below.refl _ _) | exact HKS.out _ (Below.refl _ _).drew) (first | (go_at_call 10; refine (HA5.out _ (by first | exact b7 | exact b6)).mono ?_; rintro e w9 ⟨rfl, b9⟩) | (go_at_call 15; refine (HQ5.out _ (by first | exact b6 | exact (Below.refl _ _).drew)).mono ?_; rintro e w7 ⟨rfl, b7⟩) | (go_at_call 14; refine (HM5.out _ (by first | exact b7 | exact (Below.refl _ _).drew)).mono ?_; rintro e w6 ⟨rfl, b6⟩))
    all_goals
      go_wp2_with fail
      exact bodyPost_ret (v := .bool true) (by simp [results, Try.results4, go_sem]) rfl ⟨rfl, HF5.out _ b9⟩
end Go.Proofs.Yteaicilehigjlaa
