import Derived.Deep.MidRow
import Derived.Lib.SlBytesConst
import Derived.Test.YteaicilehigjlaaPk17
/- The laws that an edit is decoded and encoded as the document has it. -/
namespace Go.Proofs.Yteaicilehigjlaa
open Go.RowKit
set_option linter.unusedVariables false
set_option linter.unusedSimpArgs false

set_option maxHeartbeats 2000000 in
set_option maxRecDepth 100000 in
theorem edecodes_any {w : World} {ao : Option Addr} {len cap : Nat} {d : List Int} (h : Sl w ao len cap d) (hl : len ≤ 140737488351232) :
    Calls Try.prog 5 #[.slice ao len cap] w fun e w' => e = .returned (.bool true) ∧ Below w.heap.size w w' := by
  have h1 := edec_any h (by omega)
  have H2 : Hid (∀ wx, Below w.heap.size w wx → Calls Try.prog 17 #[.slice ao len cap] wx fun e w' => ∃ aa ac ra rc, e = .returned (.tuple #[edV (deEd d).1 aa ac ra rc, .int .i64 ((deEd d).2 : Nat)]) ∧ EdM w' (deEd d).1 aa ac ra rc ∧ Below wx.heap.size wx w') := fun wx hb => rtakeD_any (h.later hb) (by omega)
  have HA : Hid (∀ wx, Calls Try.prog 10 #[] wx fun e w' => e = .returned (.bool true) ∧ Below wx.heap.size wx w') := fun wx => awake14_any wx
  obtain ⟨⟨⟨lg, nx, sq, ad, rm⟩, er⟩, hD⟩ : ∃ x, deEd d = x := ⟨_, rfl⟩
  rw [hD] at h1 H2
  unfold edV at h1 H2
  simp only at h1 H2
  have heq : ((er : Int) == (er : Int)) = true := by simp
  clear h hl hD
  go_enter Try.func5, Try.ntmps5
  go_upto_region 2 with (go_at_call 16; refine h1.mono ?_; rintro e w1 ⟨a1, c1, r1, d1, rfl, hs1, hb1⟩)
  have c1' : Below w1.heap.size w1 (w1.alloc (.cells #[.int .i64 lg, .int .i64 nx, .int .i64 sq, .slice a1 ad.length c1, .slice r1 rm.length d1] 30)) := (Below.refl _ _).alloc (Nat.le_refl _) _
  have b1 : Below w.heap.size w (w1.alloc (.cells #[.int .i64 lg, .int .i64 nx, .int .i64 sq, .slice a1 ad.length c1, .slice r1 rm.length d1] 30)) := hb1.alloc hb1.size _
  have h2 := H2.out _ b1
  have xb := heap_alloc_new w1 (.cells #[.int .i64 lg, .int .i64 nx, .int .i64 sq, .slice a1 ad.length c1, .slice r1 rm.length d1] 30)
  have hs1' := hs1.later c1'
  obtain ⟨W1, hW1⟩ : ∃ W1, W1 = w1.alloc (.cells #[.int .i64 lg, .int .i64 nx, .int .i64 sq, .slice a1 ad.length c1, .slice r1 rm.length d1] 30) := ⟨_, rfl⟩
  rw [← hW1] at h2 b1 hs1' xb ⊢
  have HB1 : Hid (EdM W1 ⟨lg, nx, sq, ad, rm⟩ a1 c1 r1 d1 ∧ Below w.heap.size w W1 ∧ W1.heap[w1.heap.size]? = some (.cells #[.int .i64 lg, .int .i64 nx, .int .i64 sq, .slice a1 ad.length c1, .slice r1 rm.length d1] 30 (0, 0))) := ⟨hs1', b1, xb⟩
  clear h1 hs1 hb1 b1 c1' hW1 H2 hs1' xb
  go_upto_region 3 with (go_at_call 17; refine h2.mono ?_; rintro e w2 ⟨a2, c2, r2, d2, rfl, hs2, hb2⟩)
  have c2' : Below w2.heap.size w2 (w2.alloc (.cells #[.int .i64 lg, .int .i64 nx, .int .i64 sq, .slice a2 ad.length c2, .slice r2 rm.length d2] 30)) := (Below.refl _ _).alloc (Nat.le_refl _) _
  have b12 : Below W1.heap.size W1 (w2.alloc (.cells #[.int .i64 lg, .int .i64 nx, .int .i64 sq, .slice a2 ad.length c2, .slice r2 rm.length d2] 30)) := hb2.trans (c2'.mono hb2.size)
  have hS := rsameD_eq (HB1.out.1.later b12) (hs2.later c2')
  unfold edV at hS
  simp only at hS
  have zb := heap_alloc_new w2 (.cells #[.int .i64 lg, .int .i64 nx, .int .i64 sq, .slice a2 ad.length c2, .slice r2 rm.length d2] 30)
  have yb := (b12.block _ (Array.getElem?_eq_some_iff.1 HB1.out.2.2).1).trans HB1.out.2.2
  have HB2 : Hid (Below w.heap.size w (w2.alloc (.cells #[.int .i64 lg, .int .i64 nx, .int .i64 sq, .slice a2 ad.length c2, .slice r2 rm.length d2] 30))) := HB1.out.2.1.trans (b12.mono HB1.out.2.1.size)
  obtain ⟨W2, hW2⟩ : ∃ W2, W2 = w2.alloc (.cells #[.int .i64 lg, .int .i64 nx, .int .i64 sq, .slice a2 ad.length c2, .slice r2 rm.length d2] 30) := ⟨_, rfl⟩
  rw [← hW2] at hS HB2 zb yb ⊢
  have y0 : W2.cell? ⟨w1.heap.size, 0, none⟩ = some (.int .i64 lg) := by rw [cell_of yb]; rfl
  have y1 : W2.cell? ⟨w1.heap.size, 1, none⟩ = some (.int .i64 nx) := by rw [cell_of yb]; rfl
  have y2 : W2.cell? ⟨w1.heap.size, 2, none⟩ = some (.int .i64 sq) := by rw [cell_of yb]; rfl
  have y3 : W2.cell? ⟨w1.heap.size, 3, none⟩ = some (.slice a1 ad.length c1) := by rw [cell_of yb]; rfl
  have y4 : W2.cell? ⟨w1.heap.size, 4, none⟩ = some (.slice r1 rm.length d1) := by rw [cell_of yb]; rfl
  have z0 : W2.cell? ⟨w2.heap.size, 0, none⟩ = some (.int .i64 lg) := by rw [cell_of zb]; rfl
  have z1 : W2.cell? ⟨w2.heap.size, 1, none⟩ = some (.int .i64 nx) := by rw [cell_of zb]; rfl
  have z2 : W2.cell? ⟨w2.heap.size, 2, none⟩ = some (.int .i64 sq) := by rw [cell_of zb]; rfl
  have z3 : W2.cell? ⟨w2.heap.size, 3, none⟩ = some (.slice a2 ad.length c2) := by rw [cell_of zb]; rfl
  have z4 : W2.cell? ⟨w2.heap.size, 4, none⟩ = some (.slice r2 rm.length d2) := by rw [cell_of zb]; rfl
  clear h2 hs2 hb2 c2' b12 HB1 hW2 yb zb
  go_wp2_with (first | (go_at_call 18; refine hS.mono ?_; rintro e w3 ⟨rfl, hb3⟩) | (go_at_call 10; refine (HA.out _).mono ?_; rintro e w4 ⟨rfl, hb4⟩))
  have B3 := HB2.out.trans (hb3.mono HB2.out.size)
  exact bodyPost_ret (v := .bool true) (by simp [results, Try.results5, go_sem]) rfl ⟨rfl, B3.trans (hb4.mono B3.size)⟩

set_option maxHeartbeats 4000000 in
set_option maxRecDepth 100000 in
theorem eencodes_any {w : World} {e : EdV} {aa ra : Option Addr} {ac rc : Nat} (h : EdM w e aa ac ra rc) :
    Calls Try.prog 4 #[edV e aa ac ra rc] w fun x w' => x = .returned (.bool true) ∧ Below w.heap.size w w' := by
  obtain ⟨lg, nx, sq, ad, rm⟩ := e
  obtain ⟨W, hW⟩ : ∃ W, W = w.alloc (.cells #[.int .i64 lg, .int .i64 nx, .int .i64 sq, .slice aa ad.length ac, .slice ra rm.length rc] 30) := ⟨_, rfl⟩
  have hWb : Below w.heap.size w W := by rw [hW]; exact (Below.refl _ w).alloc (Nat.le_refl _) _
  have hx : W.heap[w.heap.size]? = some (.cells #[.int .i64 lg, .int .i64 nx, .int .i64 sq, .slice aa ad.length ac, .slice ra rm.length rc] 30 (0, 0)) := by rw [hW]; exact heap_alloc_new w _
  have hH := light_any (h.later hWb)
  have HX : Hid (∀ wx, Below W.heap.size W wx → wx.cell? ⟨w.heap.size, 0, none⟩ = some (.int .i64 lg) ∧ wx.cell? ⟨w.heap.size, 1, none⟩ = some (.int .i64 nx) ∧ wx.cell? ⟨w.heap.size, 2, none⟩ = some (.int .i64 sq) ∧ wx.cell? ⟨w.heap.size, 3, none⟩ = some (.slice aa ad.length ac) ∧ wx.cell? ⟨w.heap.size, 4, none⟩ = some (.slice ra rm.length rc)) := fun wx hb => by
    have e := (hb.block _ (Array.getElem?_eq_some_iff.1 hx).1).trans hx
    exact ⟨by rw [cell_of e]; rfl, by rw [cell_of e]; rfl, by rw [cell_of e]; rfl, by rw [cell_of e]; rfl, by rw [cell_of e]; rfl⟩
  obtain ⟨m, hm⟩ : ∃ m, m = mayEd ⟨lg, nx, sq, ad, rm⟩ := ⟨_, rfl⟩
  obtain ⟨er, her⟩ : ∃ er, er = edErr ⟨lg, nx, sq, ad, rm⟩ := ⟨_, rfl⟩
  have hok := okb_enEdV (e := ⟨lg, nx, sq, ad, rm⟩) h.add.okl
  have HE : Hid (∀ wx, Below W.heap.size W wx → Calls Try.prog 12 #[edV ⟨lg, nx, sq, ad, rm⟩ aa ac ra rc] wx fun e w' => ∃ a c, e = .returned (.tuple #[.slice a (enEdV ⟨lg, nx, sq, ad, rm⟩).length c, .int .i64 er]) ∧ Sl w' a (enEdV ⟨lg, nx, sq, ad, rm⟩).length c (enEdV ⟨lg, nx, sq, ad, rm⟩) ∧ Below W.heap.size W w' ∧ Below wx.heap.size wx w') := fun wx hb => (eenc_any ((h.later hWb).later hb)).mono fun e w' ⟨v, he, hr, hb'⟩ => by
    obtain ⟨a, c, hv, hsl⟩ := Sl.ofRow hr hok
    exact ⟨a, c, by rw [he, hv, her], hsl, hb.trans (hb'.mono hb.size), hb'⟩
  have HG : Hid (∀ wx, Below W.heap.size W wx → Calls Try.prog 13 #[edV ⟨lg, nx, sq, ad, rm⟩ aa ac ra rc] wx fun e w' => ∃ a c, e = .returned (.tuple #[.slice a (enEdV ⟨lg, nx, sq, ad, rm⟩).length c, .int .i64 er]) ∧ Sl w' a (enEdV ⟨lg, nx, sq, ad, rm⟩).length c (enEdV ⟨lg, nx, sq, ad, rm⟩) ∧ Below W.heap.size W w' ∧ Below wx.heap.size wx w') := fun wx hb => (redit_any ((h.later hWb).later hb)).mono fun e w' ⟨v, he, hr, hb'⟩ => by
    obtain ⟨a, c, hv, hsl⟩ := Sl.ofRow hr hok
    exact ⟨a, c, by rw [he, hv, her], hsl, hb.trans (hb'.mono hb.size), hb'⟩
  have HM : Hid (∀ wx, Below W.heap.size W wx → Calls Try.prog 14 #[edV ⟨lg, nx, sq, ad, rm⟩ aa ac ra rc] wx fun e w' => e = .returned (.bool m) ∧ Below W.heap.size W w' ∧ Below wx.heap.size wx w') := fun wx hb => (emay_any ((h.later hWb).later hb)).mono fun e w' ⟨he, hb'⟩ => ⟨by rw [he, hm], hb.trans (hb'.mono hb.size), hb'⟩
  have HQ : Hid (∀ wx, Below W.heap.size W wx → Calls Try.prog 15 #[edV ⟨lg, nx, sq, ad, rm⟩ aa ac ra rc] wx fun e w' => e = .returned (.bool m) ∧ Below W.heap.size W w' ∧ Below wx.heap.size wx w') := fun wx hb => (rmay_ed ((h.later hWb).later hb)).mono fun e w' ⟨he, hb'⟩ => ⟨by rw [he, hm], hb.trans (hb'.mono hb.size), hb'⟩
  have HA : Hid (∀ wx, Below W.heap.size W wx → Calls Try.prog 10 #[] wx fun e w' => e = .returned (.bool true) ∧ Below W.heap.size W w' ∧ Below wx.heap.size wx w') := fun wx hb => (awake14_any wx).mono fun e w' ⟨he, hb'⟩ => ⟨he, hb.trans (hb'.mono hb.size), hb'⟩
  have HF : Hid (∀ wx, Below W.heap.size W wx → Below w.heap.size w wx) := fun wx hb => hWb.trans (hb.mono hWb.size)
  have hmm : (m == m) = true := by simp
  have hee : (er == er) = true := by simp
  have HW : Hid (W = w.alloc (.cells #[.int .i64 lg, .int .i64 nx, .int .i64 sq, .slice aa ad.length ac, .slice ra rm.length rc] 30)) := hW
  unfold edV at hH HE HG HM HQ ⊢
  simp only at hH HE HG HM HQ ⊢
  generalize enEdV (⟨lg, nx, sq, ad, rm⟩ : EdV) = X at HE HG
  rw [hW] at hH
  clear h hm her hok hWb hx hW
  go_enter Try.func4, Try.ntmps4
  go_upto_region 5 with (first | (go_at_call 11; refine hH.mono ?_; rintro e w1 ⟨b, rfl, b1⟩; rw [← HW.out] at b1; obtain ⟨y0, y1, y2, y3, y4⟩ := HX.out _ b1; cases b) | (go_at_call 12; refine (HE.out _ b1).mono ?_; rintro e w2 ⟨a2, c2, rfl, s2, b2, g2⟩; obtain ⟨z0, z1, z2, z3, z4⟩ := HX.out _ b2) | (go_at_call 13; refine (HG.out _ b2).mono ?_; rintro e w3 ⟨a3, c3, rfl, s3, b3, g3⟩; obtain ⟨p0, p1, p2, p3, p4⟩ := HX.out _ b3) | (go_at_call 10; refine (HA.out _ b1).mono ?_; rintro e w6 ⟨rfl, b6, g6⟩))
  · exact bodyPost_ret (v := .bool true) (by simp [results, Try.results4, go_sem]) rfl ⟨rfl, HF.out _ b6⟩
  · have HKS : Hid (∀ wx, Below w3.heap.size w3 wx → (wx.cell? ⟨w.heap.size, 0, none⟩ = some (.int .i64 lg) ∧ wx.cell? ⟨w.heap.size, 1, none⟩ = some (.int .i64 nx) ∧ wx.cell? ⟨w.heap.size, 2, none⟩ = some (.int .i64 sq) ∧ wx.cell? ⟨w.heap.size, 3, none⟩ = some (.slice aa ad.length ac) ∧ wx.cell? ⟨w.heap.size, 4, none⟩ = some (.slice ra rm.length rc)) ∧ (convert 22 9 (.slice a2 X.length c2)).run Try.prog wx = .ok (.string (strOfNums X)) wx ∧ (convert 22 9 (.slice a3 X.length c3)).run Try.prog wx = .ok (.string (strOfNums X)) wx) := fun wx hb => ⟨HX.out _ (b3.trans (hb.mono b3.size)), str_l (s2.later (g3.trans (hb.mono g3.size))), str_l (s3.later hb)⟩
    have HM5 : Hid (∀ wx, Below w3.heap.size w3 wx → Calls Try.prog 14 #[.agg #[.int .i64 lg, .int .i64 nx, .int .i64 sq, .slice aa ad.length ac, .slice ra rm.length rc]] wx fun e w' => e = .returned (.bool m) ∧ Below w3.heap.size w3 w') := fun wx hb => (HM.out _ (b3.trans (hb.mono b3.size))).mono fun e w' ⟨he, _, hb'⟩ => ⟨he, hb.trans (hb'.mono hb.size)⟩
    have HQ5 : Hid (∀ wx, Below w3.heap.size w3 wx → Calls Try.prog 15 #[.agg #[.int .i64 lg, .int .i64 nx, .int .i64 sq, .slice aa ad.length ac, .slice ra rm.length rc]] wx fun e w' => e = .returned (.bool m) ∧ Below w3.heap.size w3 w') := fun wx hb => (HQ.out _ (b3.trans (hb.mono b3.size))).mono fun e w' ⟨he, _, hb'⟩ => ⟨he, hb.trans (hb'.mono hb.size)⟩
    have HA5 : Hid (∀ wx, Below w3.heap.size w3 wx → Calls Try.prog 10 #[] wx fun e w' => e = .returned (.bool true) ∧ Below w3.heap.size w3 w') := fun wx hb => (HA.out _ (b3.trans (hb.mono b3.size))).mono fun e w' ⟨he, _, hb'⟩ => ⟨he, hb.trans (hb'.mono hb.size)⟩
    have HF5 : Hid (∀ wx, Below w3.heap.size w3 wx → Below w.heap.size w wx) := fun wx hb => HF.out _ (b3.trans (hb.mono b3.size))
    have hst : ((strOfNums X).toList == (strOfNums X).toList) = true := by simp
    generalize strOfNums X = T at HKS hst
    generalize X.length = lx at HKS ⊢
    clear b1 b2 b3 g2 g3 s2 s3 HE HG HM HQ HA HF HX y0 y1 y2 y3 y4 z0 z1 z2 z3 z4 p0 p1 p2 p3 p4 hH HW
    go_region_held_law (fun w' => (w'.cell? ⟨w.heap.size, 0, none⟩ = some (.int .i64 lg) ∧ w'.cell? ⟨w.heap.size, 1, none⟩ = some (.int .i64 nx) ∧ w'.cell? ⟨w.heap.size, 2, none⟩ = some (.int .i64 sq) ∧ w'.cell? ⟨w.heap.size, 3, none⟩ = some (.slice aa ad.length ac) ∧ w'.cell? ⟨w.heap.size, 4, none⟩ = some (.slice ra rm.length rc)) ∧ (convert 22 9 (.slice a2 lx c2)).run Try.prog w' = .ok (.string T) w' ∧ (convert 22 9 (.slice a3 lx c3)).run Try.prog w' = .ok (.string T) w') (first | exact HKS.out _ b9 | exact HKS.out _ b7 | exact HKS.out _ b6 | exact HKS.out _ (Below.refl _ _) | exact HKS.out _ (Below.refl _ _).drew) (first | (go_at_call 10; refine (HA5.out _ (by first | exact b7 | exact b6)).mono ?_; rintro e w9 ⟨rfl, b9⟩) | (go_at_call 15; refine (HQ5.out _ (by first | exact b6 | exact (Below.refl _ _).drew)).mono ?_; rintro e w7 ⟨rfl, b7⟩) | (go_at_call 14; refine (HM5.out _ (by first | exact b7 | exact (Below.refl _ _).drew)).mono ?_; rintro e w6 ⟨rfl, b6⟩))
    all_goals
      go_wp2_with fail
      exact bodyPost_ret (v := .bool true) (by simp [results, Try.results4, go_sem]) rfl ⟨rfl, HF5.out _ b9⟩
end Go.Proofs.Yteaicilehigjlaa

/- The law on as many lines and numbers as may be, and more. -/
namespace Go.Proofs.Yteaicilehigjlaa
open Go.RowKit
set_option linter.unusedVariables false
set_option linter.unusedSimpArgs false

theorem rem_inE (n : Int) (L : Nat) (hL : 0 < L) (h2 : L ≤ 100000) : ∃ (T : Int) (N : Nat), n.tmod (L : Int) = T ∧ (T + (L : Int)).tmod (L : Int) = (N : Int) ∧ N < L ∧ wrap64 (T + (L : Int)) = T + (L : Int) := by
  have a1 : -(L : Int) < n.tmod (L : Int) ∧ n.tmod (L : Int) < (L : Int) := ⟨Int.lt_tmod_of_pos n (by omega), Int.tmod_lt_of_pos n (by omega)⟩
  obtain ⟨T, hT⟩ : ∃ T, n.tmod (L : Int) = T := ⟨_, rfl⟩
  rw [hT] at a1
  obtain ⟨p, hp⟩ := Int.eq_ofNat_of_zero_le (show 0 ≤ (T + (L : Int)).tmod (L : Int) from Int.tmod_nonneg _ (by omega))
  exact ⟨T, p, hT, hp, by have := Int.tmod_lt_of_pos (T + (L : Int)) (b := (L : Int)) (by omega); omega, by unfold wrap64; omega⟩
theorem ownsRow_setE {w : World} {base : Nat} {e : TypeId} {size : Nat} {v : Value} {n : Nat} {xs : List Value} {g : Nat} (h : w.ownsRow base e size v n xs) (hg : v.ownBlock = some g) (k : Nat) (u : Value) : (w.setCell ⟨g, k, none⟩ u).ownsRow base e size v n (xs.set k u) := by
  refine ⟨by rw [List.length_set]; exact h.1, ?_⟩
  rcases h.2 with ⟨rfl, _⟩ | ⟨g', cap, cur, rfl, hb, hgg, q1, q2, q3, q4⟩
  · simp [Value.ownBlock] at hg
  · simp [Value.ownBlock] at hg
    subst hg
    refine .inr ⟨g', cap, cur.setIfInBounds k u, rfl, hb, heap_set hgg k u, q1, q2, by simpa using q3, ?_⟩
    rw [Array.toList_setIfInBounds, ← q4, List.take_set]
theorem Lay.splitE {α : Type} {E : El α} {w : World} : ∀ {us : List Value} {xs ys : List α}, Lay E w us (xs ++ ys) → ∃ u1 u2, us = u1 ++ u2 ∧ Lay E w u1 xs ∧ Lay E w u2 ys
  | us, [], ys, h => ⟨[], us, rfl, rfl, h⟩
  | us, x :: xs, ys, h => by
    obtain ⟨vs, us', rfl, h1, h2⟩ := h
    obtain ⟨u1, u2, rfl, g1, g2⟩ := Lay.splitE h2
    exact ⟨vs ++ u1, u2, by rw [List.append_assoc], ⟨vs, u1, rfl, h1, g1⟩, g2⟩
theorem RowF.blockE {α : Type} {E : El α} {B : Nat} {F : Nat → Prop} {w : World} {v : Value} {xs : List α} (h : RowF E B F w v xs) (hne : 0 < xs.length) : ∃ g c cur, v = .slice (some ⟨g, 0, none⟩) xs.length c ∧ w.heap[g]? = some (.cells cur E.ty (0, 0)) ∧ g < w.heap.size := by
  obtain ⟨us, hown, _⟩ := h
  rcases hown.2 with ⟨rfl, h0⟩ | ⟨g, cap, cur, rfl, hb, hgg, q1, q2, q3, q4⟩
  · omega
  · exact ⟨g, cap, cur, rfl, hgg, (Array.getElem?_eq_some_iff.1 hgg).1⟩
theorem RowS.blockE {α : Type} {E : El α} {B : Nat} {w : World} {v : Value} {xs : List α} (h : RowS E B w v xs) (hne : 0 < xs.length) : ∃ g c cur, v = .slice (some ⟨g, 0, none⟩) xs.length c ∧ w.heap[g]? = some (.cells cur E.ty (0, 0)) ∧ g < w.heap.size := by
  obtain ⟨us, hown, _⟩ := h
  rcases hown.2 with ⟨rfl, h0⟩ | ⟨g, cap, cur, rfl, hb, hgg, q1, q2, q3, q4⟩
  · omega
  · exact ⟨g, cap, cur, rfl, hgg, (Array.getElem?_eq_some_iff.1 hgg).1⟩
/-- The number of the last line of a row of one's own, set anew. -/
theorem RowF.setNum {B : Nat} {F : Nat → Prop} {w : World} {v : Value} {xs : List LnV} {x : LnV} {z : Int} {g : Nat} (h : RowF lnE B F w v (xs ++ [x])) (hg : v.ownBlock = some g) (hz : In64 z) (m : Nat) (hm : m = xs.length * 5) :
    RowF lnE B F (w.setCell ⟨g, m, none⟩ (.int .i64 z)) v (xs ++ [⟨z, x.lvl, x.size, x.least, x.most⟩]) := by
  obtain ⟨us, hown, hlay, h3, h4⟩ := h
  obtain ⟨u1, u2, rfl, g1, g2⟩ := hlay.splitE
  obtain ⟨vs, us', rfl, k1, k2⟩ := g2
  obtain rfl : us' = [] := k2
  obtain ⟨la, lc, ma, mc, rfl, s1, s2, i1, i2, i3⟩ := k1
  have hu1 : m = u1.length := by rw [g1.len, hm]; rfl
  have ho := ownsRow_setE hown hg m (.int .i64 z)
  have hset : ((u1 ++ ([Value.int .i64 x.num, .int .i64 x.lvl, .int .i64 x.size, .slice la x.least.length lc, .slice ma x.most.length mc] ++ [])).set m (.int .i64 z)) = u1 ++ [Value.int .i64 z, .int .i64 x.lvl, .int .i64 x.size, .slice la x.least.length lc, .slice ma x.most.length mc] := by
    subst hu1
    simp [List.set_append]
  rw [hset] at ho
  have hgr := grown_set w g m (.int .i64 z)
  have hne : ∀ u ∈ u1, ∀ b, Refs u b → some b ≠ some g := fun u hu b hr e => h3 u (List.mem_append.2 (.inl hu)) b hr (by rw [hg, ← e])
  have hl : ∀ b, Refs (Value.slice la x.least.length lc) b → some b ≠ some g := fun b hr e => h3 _ (List.mem_append.2 (.inr (by simp))) b hr (by rw [hg, ← e])
  have hmm : ∀ b, Refs (Value.slice ma x.most.length mc) b → some b ≠ some g := fun b hr e => h3 _ (List.mem_append.2 (.inr (by simp))) b hr (by rw [hg, ← e])
  have hxl : (xs ++ [x]).length = (xs ++ [(⟨z, x.lvl, x.size, x.least, x.most⟩ : LnV)]).length := by simp
  rw [hxl] at ho
  refine ⟨_, ho, (g1.keep fun u hu b hr => hgr.block b (g1.lt u hu b hr) (hne u hu b hr)).app ⟨_, [], (List.append_nil _).symm, ⟨la, lc, ma, mc, rfl, s1.keep fun b hr => hgr.block b (s1.lt hr) (hl b hr), s2.keep fun b hr => hgr.block b (s2.lt hr) (hmm b hr), hz, i2, i3⟩, rfl⟩, fun u hu b hr => ?_, fun u hu b hr => ?_⟩
  · rcases List.mem_append.1 hu with q | q
    · exact h3 u (List.mem_append.2 (.inl q)) b hr
    · simp only [List.mem_cons, List.not_mem_nil, or_false] at q
      rcases q with rfl | rfl | rfl | rfl | rfl
      · exact (refs_int hr).elim
      · exact (refs_int hr).elim
      · exact (refs_int hr).elim
      · exact h3 _ (List.mem_append.2 (.inr (by simp))) b hr
      · exact h3 _ (List.mem_append.2 (.inr (by simp))) b hr
  · rcases List.mem_append.1 hu with q | q
    · exact h4 u (List.mem_append.2 (.inl q)) b hr
    · simp only [List.mem_cons, List.not_mem_nil, or_false] at q
      rcases q with rfl | rfl | rfl | rfl | rfl
      · exact (refs_int hr).elim
      · exact (refs_int hr).elim
      · exact (refs_int hr).elim
      · exact h4 _ (List.mem_append.2 (.inr (by simp))) b hr
      · exact h4 _ (List.mem_append.2 (.inr (by simp))) b hr
/-- The last number of a row of one's own, set anew. -/
theorem RowS.setI {B : Nat} {w : World} {v : Value} {xs : List Int} {x z : Int} {g : Nat} (h : RowS i64E B w v (xs ++ [x])) (hg : v.ownBlock = some g) (hz : In64 z) (m : Nat) (hm : m = xs.length) :
    RowS i64E B (w.setCell ⟨g, m, none⟩ (.int .i64 z)) v (xs ++ [z]) := by
  obtain ⟨us, hown, hlay, h3⟩ := h
  obtain ⟨u1, u2, rfl, g1, g2⟩ := hlay.splitE
  obtain ⟨vs, us', rfl, k1, k2⟩ := g2
  obtain rfl : us' = [] := k2
  obtain ⟨rfl, i1⟩ : vs = [.int .i64 x] ∧ In64 x := k1
  have hu1 : m = u1.length := by rw [g1.len, hm]; show xs.length = xs.length * 1; omega
  have ho := ownsRow_setE hown hg m (.int .i64 z)
  have hset : ((u1 ++ ([Value.int .i64 x] ++ [])).set m (.int .i64 z)) = u1 ++ [Value.int .i64 z] := by
    subst hu1
    simp [List.set_append]
  rw [hset] at ho
  have hgr := grown_set w g m (.int .i64 z)
  have hxl : (xs ++ [x]).length = (xs ++ [z]).length := by simp
  rw [hxl] at ho
  refine ⟨_, ho, (g1.keep fun u hu b hr => (lay_i64 g1 u hu b hr).elim).app ⟨_, [], (List.append_nil _).symm, ⟨rfl, hz⟩, rfl⟩, fun u hu b hr => ?_⟩
  rcases List.mem_append.1 hu with q | q
  · exact (lay_i64 g1 u q b hr).elim
  · rw [List.mem_singleton.1 q] at hr
    exact (refs_int hr).elim
/-- An edit that is being made, at q: its lines. -/
structure ML (w0 : World) (q : Nat) (wx : World) (v : Value) (ops : List LnV) : Prop where
  bq : wx.heap[q]? = some (.cells #[.int .i64 0, .int .i64 0, .int .i64 0, v, .slice none 0 0] 30 (0, 0))
  row : RowF lnE (q + 1) (fun b => q + 1 ≤ b) wx v ops
  bel : Below w0.heap.size w0 wx
  q0 : w0.heap.size ≤ q
theorem ML.later {w0 : World} {q : Nat} {wx wy : World} {v : Value} {ops : List LnV} (h : ML w0 q wx v ops) (hb : Below wx.heap.size wx wy) : ML w0 q wy v ops :=
  ⟨(hb.block q (Array.getElem?_eq_some_iff.1 h.bq).1).trans h.bq, h.row.later hb, h.bel.trans (hb.mono h.bel.size), h.q0⟩
theorem ML.facts {w0 : World} {q : Nat} {wx : World} {v : Value} {ops : List LnV} (h : ML w0 q wx v ops) : wx.cell? ⟨q, 3, none⟩ = some v ∧ wx.frozen? ⟨q, 3, none⟩ = false :=
  ⟨by rw [cell_of h.bq]; rfl, frozen_of h.bq 3⟩
theorem ML.put {w0 : World} {q : Nat} {wx wy : World} {v v' : Value} {ops ops' : List LnV} (h : ML w0 q wx v ops) (hg : wx.grownBy wy v.ownBlock) (hr : RowF lnE (q + 1) (fun b => q + 1 ≤ b) wy v' ops') : ML w0 q (wy.setCell ⟨q, 3, none⟩ v') v' ops' ∧ wy.cell? ⟨q, 3, none⟩ = some v ∧ wy.frozen? ⟨q, 3, none⟩ = false := by
  have hge : ∀ b, v.ownBlock = some b → q + 1 ≤ b := fun b e => (h.row.own_lt e).1
  have e : wy.heap[q]? = some (.cells #[.int .i64 0, .int .i64 0, .int .i64 0, v, .slice none 0 0] 30 (0, 0)) := by
    rw [hg.block q (Array.getElem?_eq_some_iff.1 h.bq).1 (fun e => by have := hge q e.symm; omega)]
    exact h.bq
  have hg2 := grown_set wy q 3 v'
  have h0 := h.q0
  refine ⟨⟨heap_set e 3 v', hr.grown hg2 (fun b e e' => ?_) (fun b e e' => ?_), Below.grown (Below.grown h.bel hg h.bel.size fun k e => ?_) hg2 (Nat.le_trans h.bel.size hg.size) (fun k e => ?_), h.q0⟩, by rw [cell_of e]; rfl, frozen_of e 3⟩
  · have := (hr.own_lt e).1
    simp only [Option.some.injEq] at e'
    omega
  · simp only [Option.some.injEq] at e'
    omega
  · have := hge k e
    omega
  · simp only [Option.some.injEq] at e
    omega
/-- An edit that is being made, at q: its lines stand, its numbers grow. -/
structure MD (w0 : World) (q C : Nat) (wx : World) (v u : Value) (ops : List LnV) (ns : List Int) : Prop where
  bq : wx.heap[q]? = some (.cells #[.int .i64 0, .int .i64 0, .int .i64 0, v, u] 30 (0, 0))
  row : RowF lnE (q + 1) (fun b => q + 1 ≤ b ∧ b < C) wx v ops
  own : ∀ b, v.ownBlock = some b → b < C
  nums : RowS i64E C wx u ns
  bel : Below w0.heap.size w0 wx
  sz : C ≤ wx.heap.size
  q0 : w0.heap.size ≤ q
  hC : q + 1 ≤ C
theorem ML.md {w0 : World} {q : Nat} {wx : World} {v : Value} {ops : List LnV} (h : ML w0 q wx v ops) : MD w0 q wx.heap.size wx v (.slice none 0 0) ops [] :=
  ⟨h.bq, h.row.strong, fun b e => (h.row.own_lt e).2, RowS.nil _ _, h.bel, Nat.le_refl _, h.q0, (Array.getElem?_eq_some_iff.1 h.bq).1⟩
theorem MD.later {w0 : World} {q C : Nat} {wx wy : World} {v u : Value} {ops : List LnV} {ns : List Int} (h : MD w0 q C wx v u ops ns) (hb : Below wx.heap.size wx wy) : MD w0 q C wy v u ops ns :=
  ⟨(hb.block q (Array.getElem?_eq_some_iff.1 h.bq).1).trans h.bq, h.row.later hb, h.own, h.nums.later hb, h.bel.trans (hb.mono h.bel.size), Nat.le_trans h.sz hb.size, h.q0, h.hC⟩
theorem MD.facts {w0 : World} {q C : Nat} {wx : World} {v u : Value} {ops : List LnV} {ns : List Int} (h : MD w0 q C wx v u ops ns) : (wx.cell? ⟨q, 3, none⟩ = some v ∧ wx.cell? ⟨q, 4, none⟩ = some u) ∧ wx.frozen? ⟨q, 4, none⟩ = false :=
  ⟨⟨by rw [cell_of h.bq]; rfl, by rw [cell_of h.bq]; rfl⟩, frozen_of h.bq 4⟩
/-- One number more stands in it. -/
theorem MD.done {w0 : World} {q C : Nat} {wx wy : World} {v u u' : Value} {ops : List LnV} {ns ns' : List Int} (h : MD w0 q C wx v u ops ns) (hg : wx.grownBy wy u.ownBlock) (hr : RowS i64E C wy u' ns') :
    MD w0 q C (wy.setCell ⟨q, 4, none⟩ u') v u' ops ns' ∧ wy.cell? ⟨q, 4, none⟩ = some u ∧ wy.frozen? ⟨q, 4, none⟩ = false := by
  have h5 := h.hC
  have h6 := h.sz
  have h7 := h.q0
  have hge : ∀ b, u.ownBlock = some b → C ≤ b := fun b e => (h.nums.own_lt e).1
  have ew : ∀ k, k < C → wy.heap[k]? = wx.heap[k]? := fun k hk => hg.block k (by omega) (fun e => by have := hge k e.symm; omega)
  have hg2 := grown_set wy q 4 u'
  have eq : wy.heap[q]? = some (.cells #[.int .i64 0, .int .i64 0, .int .i64 0, v, u] 30 (0, 0)) := by rw [ew q (by omega)]; exact h.bq
  have hrow := h.row.grown hg (fun b e e' => by have := h.own b e; have := hge b e'.symm; omega) (fun b hF e' => by have := hge b e'.symm; omega)
  refine ⟨⟨heap_set eq 4 u', hrow.grown hg2 (fun b e e' => ?_) (fun b e e' => ?_), h.own, hr.grown hg2 (fun b e e' => ?_) (fun us hus x hx b hr => (lay_i64 hus x hx b hr).elim), Below.grown (Below.grown h.bel hg h.bel.size fun k e => ?_) hg2 (Nat.le_trans h.bel.size hg.size) (fun k e => ?_), ?_, h.q0, h.hC⟩, by rw [cell_of eq]; rfl, frozen_of eq 4⟩
  · have := (h.row.own_lt e).1
    simp only [Option.some.injEq] at e'
    omega
  · simp only [Option.some.injEq] at e'
    omega
  · have := (hr.own_lt e).1
    simp only [Option.some.injEq] at e'
    omega
  · have := hge k e
    omega
  · simp only [Option.some.injEq] at e
    omega
  · have := hg.size
    simp [World.setCell]
    omega
/-- An edit that has been made, at q. -/
structure FD (w0 : World) (q : Nat) (wx : World) (aa ra : Option Addr) (ac rc : Nat) (ops : List LnV) (ns : List Int) : Prop where
  bq : wx.heap[q]? = some (.cells #[.int .i64 0, .int .i64 0, .int .i64 0, .slice aa ops.length ac, .slice ra ns.length rc] 30 (0, 0))
  ed : EdM wx ⟨0, 0, 0, ops, ns⟩ aa ac ra rc
  bel : Below w0.heap.size w0 wx
theorem MD.fd {w0 : World} {q C : Nat} {wx : World} {a b : Option Addr} {n c m k : Nat} {ops : List LnV} {ns : List Int} (h : MD w0 q C wx (.slice a n c) (.slice b m k) ops ns) : FD w0 q wx a b c k ops ns := by
  obtain ⟨a', c', e, hr⟩ := h.row.s.rs
  simp only [Value.slice.injEq] at e
  obtain ⟨rfl, rfl, rfl⟩ := e
  obtain ⟨b', k', e, hq⟩ := h.nums.rs
  simp only [Value.slice.injEq] at e
  obtain ⟨rfl, rfl, rfl⟩ := e
  exact ⟨h.bq, ⟨in64_0, in64_0, in64_0, hr, hq⟩, h.bel⟩
theorem MD.setN {w0 : World} {q C : Nat} {wx : World} {u : Value} {xs : List LnV} {x : LnV} {ns : List Int} {g n c : Nat} {z : Int} (h : MD w0 q C wx (.slice (some ⟨g, 0, none⟩) n c) u (xs ++ [x]) ns) (hz : In64 z) (m : Nat) (hm : m = xs.length * 5) :
    MD w0 q C (wx.setCell ⟨g, m, none⟩ (.int .i64 z)) (.slice (some ⟨g, 0, none⟩) n c) u (xs ++ [⟨z, x.lvl, x.size, x.least, x.most⟩]) ns := by
  have hg := (h.row.own_lt (g := g) rfl)
  have hgC := h.own g rfl
  have h7 := h.q0
  have hgr := grown_set wx g m (.int .i64 z)
  refine ⟨?_, RowF.setNum h.row rfl hz m hm, h.own, h.nums.grown hgr (fun b e e' => ?_) (fun us hus x hx b hr => (lay_i64 hus x hx b hr).elim), Below.grown h.bel hgr h.bel.size fun k e => ?_, Nat.le_trans h.sz hgr.size, h.q0, h.hC⟩
  · rw [hgr.block q (Array.getElem?_eq_some_iff.1 h.bq).1 (fun e => by simp only [Option.some.injEq] at e; omega)]; exact h.bq
  · have := (h.nums.own_lt e).1
    simp only [Option.some.injEq] at e'
    omega
  · simp only [Option.some.injEq] at e
    omega
theorem MD.setR {w0 : World} {q C : Nat} {wx : World} {v : Value} {ops : List LnV} {xs : List Int} {x : Int} {g n c : Nat} {z : Int} (h : MD w0 q C wx v (.slice (some ⟨g, 0, none⟩) n c) ops (xs ++ [x])) (hz : In64 z) (m : Nat) (hm : m = xs.length) :
    MD w0 q C (wx.setCell ⟨g, m, none⟩ (.int .i64 z)) v (.slice (some ⟨g, 0, none⟩) n c) ops (xs ++ [z]) := by
  have hg := (h.nums.own_lt (g := g) rfl)
  have h5 := h.hC
  have h7 := h.q0
  have hgr := grown_set wx g m (.int .i64 z)
  refine ⟨?_, h.row.grown hgr (fun b e e' => ?_) (fun b e e' => ?_), h.own, RowS.setI h.nums rfl hz m hm, Below.grown h.bel hgr h.bel.size fun k e => ?_, Nat.le_trans h.sz hgr.size, h.q0, h.hC⟩
  · rw [hgr.block q (Array.getElem?_eq_some_iff.1 h.bq).1 (fun e => by simp only [Option.some.injEq] at e; omega)]; exact h.bq
  · have := h.own b e
    simp only [Option.some.injEq] at e'
    omega
  · simp only [Option.some.injEq] at e'
    omega
  · simp only [Option.some.injEq] at e
    omega
/-- The lines and the numbers that the law makes. -/
def lnI (i : Nat) : LnV := ⟨(i : Int) + 1, 0, 1, [97], [98]⟩
def lnsN : Nat → List LnV
  | 0 => []
  | n + 1 => lnsN n ++ [lnI n]
theorem lnsN_len : ∀ n, (lnsN n).length = n
  | 0 => rfl
  | n + 1 => by rw [lnsN, List.length_append, lnsN_len n]; rfl
def nosN : Nat → List Int
  | 0 => []
  | n + 1 => nosN n ++ [(n : Int) + 1]
theorem nosN_len : ∀ n, (nosN n).length = n
  | 0 => rfl
  | n + 1 => by rw [nosN, List.length_append, nosN_len n]; rfl
theorem sl_byte (w : World) (x : Nat) (hx : x < 256) : Sl (w.alloc (.cells #[.int .u8 (x : Int)] 5 (1, 2))) (some ⟨w.heap.size, 0, none⟩) 1 1 [(x : Int)] := by
  refine ⟨rfl, (fun y hy => by rw [List.mem_singleton.1 hy]; omega), (fun e => by cases e), Nat.le_refl _, by decide, fun k hk => ?_⟩
  obtain rfl : k = 0 := by omega
  refine ⟨by show (Int.toNat (x : Int)) < 256; omega, w.heap.size, 0, rfl, ?_⟩
  have e : (w.alloc (.cells #[.int .u8 (x : Int)] 5 (1, 2))).heap[w.heap.size]? = some (.cells #[.int .u8 (x : Int)] 5 (1, 2)) := heap_alloc_new w _
  have ex : xof [(x : Int)] 0 = x := by simp [xof]
  rw [ex]
  unfold World.cell?
  rw [e]
  rfl
theorem deEd_nil : (deEd []).2 ≠ 0 := by
  have h := deEd_cut (e := ⟨3, 4, 9, [], [2]⟩) (k := 0) may_aw (fun o ho => by cases ho) (by have := en_aw; unfold enEdV at this; rw [if_pos may_aw] at this; rw [this]; decide)
  rw [List.take_zero] at h
  exact h
set_option maxHeartbeats 4000000 in
set_option maxRecDepth 100000 in
theorem emany_any {w : World} (i0 i1 : Int) (tw : Bool) :
    Calls Try.prog 6 #[.int .i64 i0, .int .i64 i1, .bool tw] w fun e w' => e = .returned (.bool true) ∧ Below w.heap.size w w' := by
  obtain ⟨T0, N, h0, h0', hN, hw0⟩ := rem_inE i0 203 (by decide) (by decide)
  obtain ⟨T1, M, h1, h1', hM, hw1⟩ := rem_inE i1 203 (by decide) (by decide)
  rw [show ((203 : Nat) : Int) = 203 from rfl] at h0 h0' hw0 h1 h1' hw1
  have HM0 : Hid (ML w w.heap.size (w.alloc (.cells #[.int .i64 0, .int .i64 0, .int .i64 0, .slice none 0 0, .slice none 0 0] 30)) (.slice none 0 0) (lnsN 0)) := ⟨heap_alloc_new w _, RowF.nil _ _ _, (Below.refl _ w).alloc (Nat.le_refl _) _, Nat.le_refl _⟩
  have HH : Hid (N < 203 ∧ M < 203) := ⟨hN, hM⟩
  have hN62 : N ≤ 2 ^ 62 := by omega
  have hM62 : M ≤ 2 ^ 62 := by omega
  clear hN hM
  go_enter Try.func6, Try.ntmps6
  go_upto_block 0 with fail
  clear h0 h0' h1 h1' hw0 hw1
  go_cut [8, 26] from 27 to 41 (fun _ _ wx => ∃ v, Hid (ML w w.heap.size wx v (lnsN N)))
  case first =>
    go_wp2_with fail
    go_loopg [8, 26] N (fun g _ i wr => ∃ (k : Nat) (v : Value), k + g = N ∧ i = .int .i64 (k : Int) ∧ Hid (ML w w.heap.size wr v (lnsN k)))
    case atStart => exact ⟨0, _, by omega, rfl, HM0⟩
    case round =>
      obtain ⟨k, v, hk, rfl, HK⟩ := hrel
      by_cases hkl : k < N
      · have hkl' : (k : Int) < (N : Int) := by omega
        obtain ⟨va, vn, vc, hv, hvn⟩ := HK.out.row.slice'
        clear hvn
        subst hv
        obtain ⟨f1, f2⟩ := HK.out.facts
        have hk203 : k ≤ 203 := by have := HH.out; omega
        obtain ⟨GK, HG⟩ : ∃ g, Hid (g < gk ∧ k + 1 + g = N) := ⟨gk - 1, by omega, by omega⟩
        obtain ⟨A1, hA1⟩ : ∃ A1, A1 = wr.alloc (.cells #[.int .u8 97] 5 (1, 2)) := ⟨_, rfl⟩
        have hA1s : A1.heap.size = wr.heap.size + 1 := by rw [hA1]; simp
        have b1 : Below wr.heap.size wr A1 := by rw [hA1]; exact (Below.refl _ _).alloc (Nat.le_refl _) _
        obtain ⟨A2, hA2⟩ : ∃ A2, A2 = A1.alloc (.cells #[.int .u8 98] 5 (1, 2)) := ⟨_, rfl⟩
        have hA2s : A2.heap.size = wr.heap.size + 2 := by rw [hA2]; simp; omega
        have b2 : Below A1.heap.size A1 A2 := by rw [hA2]; exact (Below.refl _ _).alloc (Nat.le_refl _) _
        have s1 : Sl A2 (some ⟨wr.heap.size, 0, none⟩) 1 1 [97] := by
          have := (sl_byte wr 97 (by decide)).later (w' := A2) (by rw [← show A1 = wr.alloc (.cells #[.int .u8 ((97 : Nat) : Int)] 5 (1, 2)) from hA1]; exact b2)
          exact this
        have s2 : Sl A2 (some ⟨wr.heap.size + 1, 0, none⟩) 1 1 [98] := by
          have := sl_byte A1 98 (by decide)
          rw [hA1s] at this
          rw [hA2]
          exact this
        have hMl : lnE.M A2 [.int .i64 ((k : Int) + 1), .int .i64 0, .int .i64 1, .slice (some ⟨wr.heap.size, 0, none⟩) 1 1, .slice (some ⟨wr.heap.size + 1, 0, none⟩) 1 1] (lnI k) := ⟨_, 1, _, 1, rfl, s1, s2, ⟨by show _ ≤ (k : Int) + 1; omega, by show (k : Int) + 1 ≤ _; omega⟩, (show In64 (0 : Int) from in64_0), (show In64 (1 : Int) from ⟨by decide, by decide⟩)⟩
        have hone := rs_one hMl
        rw [hA2s] at hone
        obtain ⟨A3, hA3⟩ : ∃ A3, A3 = A2.alloc (.cells #[.int .i64 ((k : Int) + 1), .int .i64 0, .int .i64 1, .slice (some ⟨wr.heap.size, 0, none⟩) 1 1, .slice (some ⟨wr.heap.size + 1, 0, none⟩) 1 1] 24) := ⟨_, rfl⟩
        have b3 : Below wr.heap.size wr A3 := by
          rw [hA3]
          have b12 := b1.trans (b2.mono b1.size)
          exact b12.alloc b12.size _
        have M2 := HK.out.later b3
        have hqlt := (Array.getElem?_eq_some_iff.1 HK.out.bq).1
        have hrefs : ∀ u ∈ [Value.int .i64 ((k : Int) + 1), .int .i64 0, .int .i64 1, .slice (some ⟨wr.heap.size, 0, none⟩) 1 1, .slice (some ⟨wr.heap.size + 1, 0, none⟩) 1 1], ∀ b, Refs u b → wr.heap.size ≤ b := fun u hu b hr => by
          simp only [List.mem_cons, List.not_mem_nil, or_false] at hu
          rcases hu with rfl | rfl | rfl | rfl | rfl
          · exact (refs_int hr).elim
          · exact (refs_int hr).elim
          · exact (refs_int hr).elim
          · obtain ⟨off, l, c, e, hl0⟩ := hr
            simp only [Value.slice.injEq, Option.some.injEq, Addr.mk.injEq, and_true] at e
            omega
          · obtain ⟨off, l, c, e, hl0⟩ := hr
            simp only [Value.slice.injEq, Option.some.injEq, Addr.mk.injEq, and_true] at e
            omega
        have hsep : ∀ u ∈ [Value.int .i64 ((k : Int) + 1), .int .i64 0, .int .i64 1, .slice (some ⟨wr.heap.size, 0, none⟩) 1 1, .slice (some ⟨wr.heap.size + 1, 0, none⟩) 1 1], ∀ b, Refs u b → (Value.slice va vn vc).ownBlock ≠ some b := fun u hu b hr e => by
          have := (HK.out.row.own_lt e).2
          have := hrefs u hu b hr
          omega
        have hFF : ∀ u ∈ [Value.int .i64 ((k : Int) + 1), .int .i64 0, .int .i64 1, .slice (some ⟨wr.heap.size, 0, none⟩) 1 1, .slice (some ⟨wr.heap.size + 1, 0, none⟩) 1 1], ∀ b, Refs u b → w.heap.size + 1 ≤ b := fun u hu b hr => by
          have := hrefs u hu b hr
          omega
        have hB3 : w.heap.size + 1 ≤ A3.heap.size := by have := b3.size; omega
        have hcv1 : (convert 22 22 (.slice (some ⟨wr.heap.size, 0, none⟩) 1 1)).run Try.prog (wr.alloc (.cells #[.int .u8 97] 5)) = .ok (.slice (some ⟨wr.heap.size, 0, none⟩) 1 1) (wr.alloc (.cells #[.int .u8 97] 5 (1, 2))) := Lib.run_convert_bytes_const (P := Try.prog) wr 22 5 #[.int .u8 97] 1 1 Try.underlying22 Try.underlying5
        have hcv2 : (convert 22 22 (.slice (some ⟨wr.heap.size + 1, 0, none⟩) 1 1)).run Try.prog ((wr.alloc (.cells #[.int .u8 97] 5 (1, 2))).alloc (.cells #[.int .u8 98] 5)) = .ok (.slice (some ⟨wr.heap.size + 1, 0, none⟩) 1 1) ((wr.alloc (.cells #[.int .u8 97] 5 (1, 2))).alloc (.cells #[.int .u8 98] 5 (1, 2))) := by
          have := Lib.run_convert_bytes_const (P := Try.prog) (wr.alloc (.cells #[.int .u8 97] 5 (1, 2))) 22 5 #[.int .u8 98] 1 1 Try.underlying22 Try.underlying5
          rw [show (wr.alloc (.cells #[.int .u8 97] 5 (1, 2))).heap.size = wr.heap.size + 1 by simp] at this
          exact this
        rw [hA3, hA2, hA1] at M2 hB3
        rw [hA2, hA1] at hone
        have HAP := hidE (And.intro M2 hB3)
        have HON := hidE hone
        have HSE := hidE hsep
        have HFF := hidE hFF
        clear hk hA1 hA1s b1 hA2 hA2s b2 s1 s2 hMl hone hA3 b3 M2 hqlt hrefs hsep hFF hB3
        go_wp2_with (at_builtin; refine wpList_appF lnE (t := 27) (z := .agg #[.int .i64 0, .int .i64 0, .int .i64 0, .slice none 0 0, .slice none 0 0]) (bytes := 72) Try.underlying27 lnE_info rfl (by decide) rfl (.tmp 30) (.tmp 38) rfl rfl HAP.out.1.row rfl HON.out HSE.out HFF.out (by have := lnsN_len k; omega) (by have := lnsN_len k; omega) HAP.out.2 ?_; intro v9 w9 r9 g9 m9; obtain ⟨P1, P2, P3⟩ := HAP.out.1.put g9 r9; have HP1 := hidE P1; obtain ⟨a9, n9, c9, hv9, hn9⟩ := r9.slice'; clear hn9; subst hv9; clear r9 g9 m9 P1)
        go_roundg GK
        case measure => exact HG.out.1
        case rel => exact ⟨k + 1, _, HG.out.2, by go_num, HP1.out⟩
      · have hkl' : (N : Int) ≤ (k : Int) := by omega
        obtain rfl : k = N := by omega
        clear hk hkl
        go_wp2_with fail
        go_meet
        exact ⟨_, HK⟩
  case rest =>
    obtain ⟨v, HC⟩ := hcut
    obtain ⟨a9, n9, c9, hv9, hn9⟩ := HC.out.row.slice'
    rw [lnsN_len] at hn9
    rw [hn9] at hv9
    subst hv9
    clear hn9
    obtain ⟨C, hC⟩ : ∃ C, C = wc.heap.size := ⟨_, rfl⟩
    have H1 : Hid (MD w w.heap.size C wc (.slice a9 N c9) (.slice none 0 0) (lnsN N) (nosN 0)) := by rw [hC]; exact HC.out.md
    clear HM0 HC hC
    go_upto_block 2 with fail
    go_cut [9, 43] from 44 to 53 (fun _ _ wx => ∃ u, Hid (MD w w.heap.size C wx (.slice a9 N c9) u (lnsN N) (nosN M)))
    case first =>
      go_wp2_with fail
      go_loopg [9, 43] M (fun g _ i wr => ∃ (k : Nat) (u : Value), k + g = M ∧ i = .int .i64 (k : Int) ∧ Hid (MD w w.heap.size C wr (.slice a9 N c9) u (lnsN N) (nosN k)))
      case atStart => exact ⟨0, _, by omega, rfl, H1⟩
      case round =>
        obtain ⟨k, u, hk, rfl, HK⟩ := hrel
        by_cases hkl : k < M
        · have hkl' : (k : Int) < (M : Int) := by omega
          obtain ⟨ua, un, uc, hu, hun⟩ := RowS.slice'' HK.out.nums
          clear hun
          subst hu
          obtain ⟨⟨-, f1⟩, f2⟩ := HK.out.facts
          have hk203 : k ≤ 203 := by have := HH.out; omega
          obtain ⟨GK, HG⟩ : ∃ g, Hid (g < gk ∧ k + 1 + g = M) := ⟨gk - 1, by omega, by omega⟩
          have b1 : Below wr.heap.size wr (wr.alloc (.cells #[.int .i64 ((k : Int) + 1)] 2)) := (Below.refl _ _).alloc (Nat.le_refl _) _
          have hone := rs_one (E := i64E) (w := wr) (vs := [.int .i64 ((k : Int) + 1)]) (x := (k : Int) + 1) ⟨rfl, ⟨by omega, by omega⟩⟩
          have HAP := hidE (And.intro (HK.out.later b1) hone)
          clear hk b1 hone
          go_wp2_with (at_builtin; refine wpList_appS i64E (t := 28) (z := .int .i64 0) (bytes := 8) Try.underlying28 i64E_info rfl (by decide) rfl (.tmp 47) (.tmp 50) rfl rfl HAP.out.1.nums rfl HAP.out.2 (fun u hu b hr => by rw [List.mem_singleton.1 hu] at hr; exact (refs_int hr).elim) (by have := nosN_len k; omega) (by have := nosN_len k; omega) HAP.out.1.sz ?_; intro v9 w9 r9 g9 m9; obtain ⟨P1, P2, P3⟩ := HAP.out.1.done g9 r9; have HP1 := hidE P1; obtain ⟨a8, n8, c8, hv9, hn8⟩ := RowS.slice'' r9; clear hn8; subst hv9; clear r9 g9 m9 P1)
          go_roundg GK
          case measure => exact HG.out.1
          case rel => exact ⟨k + 1, _, HG.out.2, by go_num, HP1.out⟩
        · have hkl' : (M : Int) ≤ (k : Int) := by omega
          obtain rfl : k = M := by omega
          clear hk hkl
          go_wp2_with fail
          go_meet
          exact ⟨_, HK⟩
    case rest =>
      obtain ⟨u, HC⟩ := hcut
      obtain ⟨b9, m9, k9, hu9, hm9⟩ := RowS.slice'' HC.out.nums
      rw [nosN_len] at hm9
      rw [hm9] at hu9
      subst hu9
      clear hm9
      clear H1
      cases tw
      · go_upto_region 17 with fail
        have HD := hidE HC.out.fd
        obtain ⟨wz, hwz⟩ : ∃ wz, wz = wc := ⟨_, rfl⟩
        rw [← hwz] at HD ⊢
        generalize lnsN N = ops at HD HC
        generalize nosN M = ns at HD HC
        obtain ⟨aa, haa⟩ : ∃ aa, aa = a9 := ⟨_, rfl⟩
        obtain ⟨ra, hra⟩ : ∃ ra, ra = b9 := ⟨_, rfl⟩
        obtain ⟨ac, hac⟩ : ∃ ac, ac = c9 := ⟨_, rfl⟩
        obtain ⟨rc, hrc⟩ : ∃ rc, rc = k9 := ⟨_, rfl⟩
        rw [← haa, ← hra, ← hac, ← hrc] at HD
        clear haa hra hac hrc
        clear HC hwz
        obtain ⟨al, hal⟩ : ∃ al, al = ops.length := ⟨_, rfl⟩
        obtain ⟨rl, hrl⟩ : ∃ rl, rl = ns.length := ⟨_, rfl⟩
        obtain ⟨E, hE0⟩ : ∃ E : EdV, E = ⟨0, 0, 0, ops, ns⟩ := ⟨_, rfl⟩
        have hV : ∀ (a r : Option Addr) (c k : Nat), edV E a c r k = .agg #[.int .i64 0, .int .i64 0, .int .i64 0, .slice a al c, .slice r rl k] := fun a r c k => by rw [hE0, hal, hrl]; rfl
        have HX : Hid (∀ wx, Below wz.heap.size wz wx → wx.cell? ⟨w.heap.size, 0, none⟩ = some (.int .i64 0) ∧ wx.cell? ⟨w.heap.size, 1, none⟩ = some (.int .i64 0) ∧ wx.cell? ⟨w.heap.size, 2, none⟩ = some (.int .i64 0) ∧ wx.cell? ⟨w.heap.size, 3, none⟩ = some (.slice aa al ac) ∧ wx.cell? ⟨w.heap.size, 4, none⟩ = some (.slice ra rl rc)) := fun wx hb => by
          have e := (hb.block _ (Array.getElem?_eq_some_iff.1 HD.out.bq).1).trans HD.out.bq
          exact ⟨by rw [cell_of e]; rfl, by rw [cell_of e]; rfl, by rw [cell_of e]; rfl, by rw [cell_of e, hal]; rfl, by rw [cell_of e, hrl]; rfl⟩
        have hed : EdM wz E aa ac ra rc := by rw [hE0]; exact HD.out.ed
        have hok := okb_enEdV (e := E) hed.add.okl
        have hoko : ∀ o ∈ E.add, OkL o := hed.add.okl
        have HE : Hid (∀ wx, Below wz.heap.size wz wx → Calls Try.prog 12 #[edV E aa ac ra rc] wx fun e w' => ∃ a c, e = .returned (.tuple #[.slice a (enEdV E).length c, .int .i64 (edErr E)]) ∧ Sl w' a (enEdV E).length c (enEdV E) ∧ Below wz.heap.size wz w' ∧ Below wx.heap.size wx w') := fun wx hb => (eenc_any (hed.later hb)).mono fun e w' ⟨v, he, hr, hb'⟩ => by
          obtain ⟨a, c, hv, hsl⟩ := Sl.ofRow hr hok
          exact ⟨a, c, by rw [he, hv], hsl, hb.trans (hb'.mono hb.size), hb'⟩
        have HG : Hid (∀ wx, Below wz.heap.size wz wx → Calls Try.prog 13 #[edV E aa ac ra rc] wx fun e w' => ∃ a c, e = .returned (.tuple #[.slice a (enEdV E).length c, .int .i64 (edErr E)]) ∧ Sl w' a (enEdV E).length c (enEdV E) ∧ Below wz.heap.size wz w' ∧ Below wx.heap.size wx w') := fun wx hb => (redit_any (hed.later hb)).mono fun e w' ⟨v, he, hr, hb'⟩ => by
          obtain ⟨a, c, hv, hsl⟩ := Sl.ofRow hr hok
          exact ⟨a, c, by rw [he, hv], hsl, hb.trans (hb'.mono hb.size), hb'⟩
        have HSB : Hid (∀ {wx : World} {a r : Option Addr} {c k : Nat}, EdM wx E a c r k → Below wz.heap.size wz wx → Calls Try.prog 18 #[edV E a c r k, edV E aa ac ra rc] wx fun e w' => e = .returned (.bool true) ∧ Below wx.heap.size wx w') := fun {wx a r c k} hr hb => rsameD_eq hr (hed.later hb)
        have HA : Hid (∀ wx, Calls Try.prog 10 #[] wx fun e w' => e = .returned (.bool true) ∧ Below wx.heap.size wx w') := fun wx => awake14_any wx
        have HF : Hid (∀ wx, Below wz.heap.size wz wx → Below w.heap.size w wx) := fun wx hb => HD.out.bel.trans (hb.mono HD.out.bel.size)
        obtain ⟨X, hX⟩ : ∃ X, X = enEdV E := ⟨_, rfl⟩
        obtain ⟨y0, y1, y2, y3, y4⟩ := HX.out _ (Below.refl _ _)
        by_cases q : mayEd E = true
        · have her : edErr E = 0 := by unfold edErr; rw [if_pos q]
          have hev : X = enEd E := by rw [hX]; unfold enEdV; rw [if_pos q]
          have hback := (deEd_enEd (t := []) q hoko (fun x hx => by cases hx)).1 rfl
          rw [List.append_nil, ← hev] at hback
          have hlenb : X.length ≤ 250000 := by rw [hev]; exact enEd_len q
          rw [her, ← hX] at HE HG
          obtain ⟨L, hL⟩ : ∃ L, L = X.length := ⟨_, rfl⟩
          rw [← hL] at HE HG hlenb
          have HD1 : Hid (∀ {wx : World} {a : Option Addr} {c : Nat}, Sl wx a L c X → Calls Try.prog 16 #[.slice a L c] wx fun e w' => ∃ a' c' r' k', e = .returned (.tuple #[edV E a' c' r' k', .int .i64 0]) ∧ EdM w' E a' c' r' k' ∧ Below wx.heap.size wx w') := fun {wx a c} hx => (edec_any hx (by omega)).mono fun e w' ⟨a', c', r', k', he, hr, hb⟩ => by
            rw [hback] at he hr
            exact ⟨a', c', r', k', by rw [he]; rfl, hr, hb⟩
          simp only [hV] at HE HG HD1 HSB
          have HLX := hidE hL
          clear hL HD hal hrl hE0 hV hed hok hoko hX q her hev hback hlenb
          go_upto_region 20 with (first | (go_at_call 16; refine hd1.mono ?_; rintro e w4 ⟨a4, c4, r4, k4, rfl, m4, b4⟩) | (go_at_call 13; refine (HG.out _ b2).mono ?_; rintro e w3 ⟨a3, c3, rfl, s3, b3, g3⟩; have s2' := s2.later g3; have hd1 := HD1.out s2') | (go_at_call 12; refine (HE.out _ (Below.refl _ _)).mono ?_; rintro e w2 ⟨a2, c2, rfl, s2, b2, g2⟩; obtain ⟨z0, z1, z2, z3, z4⟩ := HX.out _ b2))
          have g4 : Below w4.heap.size w4 (w4.alloc (.cells #[.int .i64 0, .int .i64 0, .int .i64 0, .slice a4 al c4, .slice r4 rl k4] 30)) := (Below.refl _ _).alloc (Nat.le_refl _) _
          have b34 : Below w3.heap.size w3 (w4.alloc (.cells #[.int .i64 0, .int .i64 0, .int .i64 0, .slice a4 al c4, .slice r4 rl k4] 30)) := b4.trans (g4.mono b4.size)
          have bz4 : Below wz.heap.size wz (w4.alloc (.cells #[.int .i64 0, .int .i64 0, .int .i64 0, .slice a4 al c4, .slice r4 rl k4] 30)) := b3.trans (b34.mono b3.size)
          have hsb := HSB.out (m4.later g4) bz4
          obtain ⟨p0, p1, p2, p3, p4⟩ := HX.out _ bz4
          have zb := heap_alloc_new w4 (.cells #[.int .i64 0, .int .i64 0, .int .i64 0, .slice a4 al c4, .slice r4 rl k4] 30)
          have hc2 := str_l (s2'.later b34)
          have hc3 := str_l (s3.later b34)
          obtain ⟨W4, hW4⟩ : ∃ W4, W4 = w4.alloc (.cells #[.int .i64 0, .int .i64 0, .int .i64 0, .slice a4 al c4, .slice r4 rl k4] 30) := ⟨_, rfl⟩
          rw [← hW4] at bz4 hsb p0 p1 p2 p3 p4 zb hc2 hc3 ⊢
          have x0 : W4.cell? ⟨w4.heap.size, 0, none⟩ = some (.int .i64 0) := by rw [cell_of zb]; rfl
          have x1 : W4.cell? ⟨w4.heap.size, 1, none⟩ = some (.int .i64 0) := by rw [cell_of zb]; rfl
          have x2 : W4.cell? ⟨w4.heap.size, 2, none⟩ = some (.int .i64 0) := by rw [cell_of zb]; rfl
          have x3 : W4.cell? ⟨w4.heap.size, 3, none⟩ = some (.slice a4 al c4) := by rw [cell_of zb]; rfl
          have x4 : W4.cell? ⟨w4.heap.size, 4, none⟩ = some (.slice r4 rl k4) := by rw [cell_of zb]; rfl
          have HB4 := hidE (HF.out _ bz4)
          have hst : ((strOfNums X).toList == (strOfNums X).toList) = true := by simp
          generalize strOfNums X = S at hc2 hc3 hst
          clear y0 y1 y2 y3 y4 z0 z1 z2 z3 z4 s2 s2' s3 b2 b3 g2 g3 g4 b34 m4 b4 zb hW4 bz4
          go_wp2_with (first | (go_at_call 18; refine hsb.mono ?_; rintro e w5 ⟨rfl, b5⟩) | (go_at_call 10; refine (HA.out _).mono ?_; rintro e w6 ⟨rfl, b6⟩))
          all_goals exact bodyPost_ret (v := .bool true) (by simp [results, Try.results6, go_sem]) rfl ⟨rfl, by have B5 := HB4.out.trans (b5.mono HB4.out.size); exact B5.trans (b6.mono B5.size)⟩
        · have her : edErr E = 1 := by unfold edErr; rw [if_neg q]
          have hev : X = [] := by rw [hX]; unfold enEdV; rw [if_neg q]
          rw [her, ← hX, hev] at HE HG
          simp only [List.length_nil] at HE HG
          have HD2 : Hid (∀ {wx : World} {a : Option Addr} {c : Nat}, Sl wx a 0 c [] → Calls Try.prog 16 #[.slice a 0 c] wx fun e w' => ∃ (l' n' s' : Int) (a' : Option Addr) (an c' : Nat) (r' : Option Addr) (rn k' : Nat) (er : Nat), e = .returned (.tuple #[.agg #[.int .i64 l', .int .i64 n', .int .i64 s', .slice a' an c', .slice r' rn k'], .int .i64 (er : Nat)]) ∧ ((er : Int) == 0) = false ∧ Below wx.heap.size wx w') := fun {wx a c} hx => (edec_any hx (by omega)).mono fun e w' ⟨a', c', r', k', he, hr, hb⟩ => ⟨_, _, _, a', _, c', r', _, k', (deEd []).2, he, by have := deEd_nil; simp; omega, hb⟩
          simp only [hV] at HE HG
          clear HD hal hrl hE0 hV hed hok hoko hX q her hev HSB
          go_upto_region 20 with (first | (go_at_call 16; refine hd1.mono ?_; rintro e w4 ⟨l4, n4, q4, a4, an4, c4, r4, rn4, k4, er4, rfl, hne4, b4⟩) | (go_at_call 13; refine (HG.out _ b2).mono ?_; rintro e w3 ⟨a3, c3, rfl, s3, b3, g3⟩; have s2' := s2.later g3; have hd1 := HD2.out s2') | (go_at_call 12; refine (HE.out _ (Below.refl _ _)).mono ?_; rintro e w2 ⟨a2, c2, rfl, s2, b2, g2⟩; obtain ⟨z0, z1, z2, z3, z4⟩ := HX.out _ b2))
          have g4 : Below w4.heap.size w4 (w4.alloc (.cells #[.int .i64 l4, .int .i64 n4, .int .i64 q4, .slice a4 an4 c4, .slice r4 rn4 k4] 30)) := (Below.refl _ _).alloc (Nat.le_refl _) _
          have b34 : Below w3.heap.size w3 (w4.alloc (.cells #[.int .i64 l4, .int .i64 n4, .int .i64 q4, .slice a4 an4 c4, .slice r4 rn4 k4] 30)) := b4.trans (g4.mono b4.size)
          have hc2 := str_l (s2'.later b34)
          have hc3 := str_l (s3.later b34)
          rw [show strOfNums [] = ⟨#[]⟩ from rfl] at hc2 hc3
          obtain ⟨W4, hW4⟩ : ∃ W4, W4 = w4.alloc (.cells #[.int .i64 l4, .int .i64 n4, .int .i64 q4, .slice a4 an4 c4, .slice r4 rn4 k4] 30) := ⟨_, rfl⟩
          rw [← hW4] at b34 hc2 hc3 ⊢
          have HB4 := hidE (HF.out _ (b3.trans (b34.mono b3.size)))
          have hne4' : ¬ er4 = 0 := by simpa using hne4
          clear y0 y1 y2 y3 y4 z0 z1 z2 z3 z4 s2 s2' s3 b2 b3 g2 g3 g4 b34 b4 hW4
          go_wp2_with (first | (go_at_call 10; refine (HA.out _).mono ?_; rintro e w6 ⟨rfl, b6⟩))
          all_goals exact bodyPost_ret (v := .bool true) (by simp [results, Try.results6, go_sem]) rfl ⟨rfl, HB4.out.trans (b6.mono HB4.out.size)⟩
      · by_cases q1 : 1 < N
        · have q1' : (1 : Int) < (N : Int) := by omega
          have q2' : ¬ (N : Int) < 2 := by omega
          obtain ⟨P, hNM⟩ : ∃ P, N = P + 1 := ⟨N - 1, by omega⟩
          obtain ⟨g, c, cur, hv, hgg, hglt⟩ := HC.out.row.blockE (by rw [lnsN_len]; omega)
          rw [lnsN_len] at hv
          simp only [Value.slice.injEq, true_and] at hv
          obtain ⟨rfl, rfl⟩ := hv
          obtain ⟨⟨f1, -⟩, -⟩ := HC.out.facts
          have hrs : RS lnE wc (some ⟨g, 0, none⟩) N c9 (lnsN N) := by
            obtain ⟨a', c', e, hs'⟩ := HC.out.row.s.rs
            rw [lnsN_len] at e hs'
            simp only [Value.slice.injEq] at e
            obtain ⟨rfl, _, rfl⟩ := e
            exact hs'
          obtain ⟨b, off, ka, kc, va, vc, e, d0, hrest⟩ := RS.ln hrs (i := P) (o := lnI P) (by rw [hNM, lnsN, List.getElem?_append_right (by rw [lnsN_len]; omega), lnsN_len]; simp)
          clear hrest
          simp only [Option.some.injEq, Addr.mk.injEq, and_true] at e
          obtain ⟨rfl, rfl⟩ := e
          rw [Nat.zero_add] at d0
          have z0 := frozen_of hgg (P * 5)
          have hlt : (P : Int) < (N : Int) := by omega
          have hP61 : P ≤ 2 ^ 61 := by have := HH.out; omega
          have hw1 : wrap64 ((N : Int) - 1) = (P : Int) := by unfold wrap64; have := HH.out; omega
          have hwi : IntKind.i64.wrap ((N : Int) - 1) = (P : Int) := by rw [IntKind.wrap_i64]; have := HH.out; omega
          have HMM : Hid (MD w w.heap.size C wc (.slice (some ⟨g, 0, none⟩) N c9) (.slice b9 M k9) (lnsN P ++ [lnI P]) (nosN M)) := by
            have := HC.out
            have e : lnsN N = lnsN P ++ [lnI P] := by rw [hNM]; rfl
            rw [e] at this
            exact this
          have HD := hidE (HMM.out.setN (z := 1) ⟨by decide, by decide⟩ (P * 5) (by rw [lnsN_len])).fd
          clear hNM hgg hrs HMM HC
          go_upto_region 17 with fail
          generalize lnsN P ++ [(⟨1, (lnI P).lvl, (lnI P).size, (lnI P).least, (lnI P).most⟩ : LnV)] = ops at HD
          generalize nosN M = ns at HD
          obtain ⟨wz, hwz⟩ : ∃ wz, wz = wc.setCell ⟨g, P * 5, none⟩ (.int .i64 1) := ⟨_, rfl⟩
          rw [← hwz] at HD ⊢
          obtain ⟨aa, haa⟩ : ∃ aa, aa = (some ⟨g, 0, none⟩ : Option Addr) := ⟨_, rfl⟩
          obtain ⟨ra, hra⟩ : ∃ ra, ra = b9 := ⟨_, rfl⟩
          obtain ⟨ac, hac⟩ : ∃ ac, ac = c9 := ⟨_, rfl⟩
          obtain ⟨rc, hrc⟩ : ∃ rc, rc = k9 := ⟨_, rfl⟩
          rw [← haa, ← hra, ← hac, ← hrc] at HD
          clear haa hra hac hrc
          clear hwz d0 z0 f1 hglt
          obtain ⟨al, hal⟩ : ∃ al, al = ops.length := ⟨_, rfl⟩
          obtain ⟨rl, hrl⟩ : ∃ rl, rl = ns.length := ⟨_, rfl⟩
          obtain ⟨E, hE0⟩ : ∃ E : EdV, E = ⟨0, 0, 0, ops, ns⟩ := ⟨_, rfl⟩
          have hV : ∀ (a r : Option Addr) (c k : Nat), edV E a c r k = .agg #[.int .i64 0, .int .i64 0, .int .i64 0, .slice a al c, .slice r rl k] := fun a r c k => by rw [hE0, hal, hrl]; rfl
          have HX : Hid (∀ wx, Below wz.heap.size wz wx → wx.cell? ⟨w.heap.size, 0, none⟩ = some (.int .i64 0) ∧ wx.cell? ⟨w.heap.size, 1, none⟩ = some (.int .i64 0) ∧ wx.cell? ⟨w.heap.size, 2, none⟩ = some (.int .i64 0) ∧ wx.cell? ⟨w.heap.size, 3, none⟩ = some (.slice aa al ac) ∧ wx.cell? ⟨w.heap.size, 4, none⟩ = some (.slice ra rl rc)) := fun wx hb => by
            have e := (hb.block _ (Array.getElem?_eq_some_iff.1 HD.out.bq).1).trans HD.out.bq
            exact ⟨by rw [cell_of e]; rfl, by rw [cell_of e]; rfl, by rw [cell_of e]; rfl, by rw [cell_of e, hal]; rfl, by rw [cell_of e, hrl]; rfl⟩
          have hed : EdM wz E aa ac ra rc := by rw [hE0]; exact HD.out.ed
          have hok := okb_enEdV (e := E) hed.add.okl
          have hoko : ∀ o ∈ E.add, OkL o := hed.add.okl
          have HE : Hid (∀ wx, Below wz.heap.size wz wx → Calls Try.prog 12 #[edV E aa ac ra rc] wx fun e w' => ∃ a c, e = .returned (.tuple #[.slice a (enEdV E).length c, .int .i64 (edErr E)]) ∧ Sl w' a (enEdV E).length c (enEdV E) ∧ Below wz.heap.size wz w' ∧ Below wx.heap.size wx w') := fun wx hb => (eenc_any (hed.later hb)).mono fun e w' ⟨v, he, hr, hb'⟩ => by
            obtain ⟨a, c, hv, hsl⟩ := Sl.ofRow hr hok
            exact ⟨a, c, by rw [he, hv], hsl, hb.trans (hb'.mono hb.size), hb'⟩
          have HG : Hid (∀ wx, Below wz.heap.size wz wx → Calls Try.prog 13 #[edV E aa ac ra rc] wx fun e w' => ∃ a c, e = .returned (.tuple #[.slice a (enEdV E).length c, .int .i64 (edErr E)]) ∧ Sl w' a (enEdV E).length c (enEdV E) ∧ Below wz.heap.size wz w' ∧ Below wx.heap.size wx w') := fun wx hb => (redit_any (hed.later hb)).mono fun e w' ⟨v, he, hr, hb'⟩ => by
            obtain ⟨a, c, hv, hsl⟩ := Sl.ofRow hr hok
            exact ⟨a, c, by rw [he, hv], hsl, hb.trans (hb'.mono hb.size), hb'⟩
          have HSB : Hid (∀ {wx : World} {a r : Option Addr} {c k : Nat}, EdM wx E a c r k → Below wz.heap.size wz wx → Calls Try.prog 18 #[edV E a c r k, edV E aa ac ra rc] wx fun e w' => e = .returned (.bool true) ∧ Below wx.heap.size wx w') := fun {wx a r c k} hr hb => rsameD_eq hr (hed.later hb)
          have HA : Hid (∀ wx, Calls Try.prog 10 #[] wx fun e w' => e = .returned (.bool true) ∧ Below wx.heap.size wx w') := fun wx => awake14_any wx
          have HF : Hid (∀ wx, Below wz.heap.size wz wx → Below w.heap.size w wx) := fun wx hb => HD.out.bel.trans (hb.mono HD.out.bel.size)
          obtain ⟨X, hX⟩ : ∃ X, X = enEdV E := ⟨_, rfl⟩
          obtain ⟨y0, y1, y2, y3, y4⟩ := HX.out _ (Below.refl _ _)
          by_cases q : mayEd E = true
          · have her : edErr E = 0 := by unfold edErr; rw [if_pos q]
            have hev : X = enEd E := by rw [hX]; unfold enEdV; rw [if_pos q]
            have hback := (deEd_enEd (t := []) q hoko (fun x hx => by cases hx)).1 rfl
            rw [List.append_nil, ← hev] at hback
            have hlenb : X.length ≤ 250000 := by rw [hev]; exact enEd_len q
            rw [her, ← hX] at HE HG
            obtain ⟨L, hL⟩ : ∃ L, L = X.length := ⟨_, rfl⟩
            rw [← hL] at HE HG hlenb
            have HD1 : Hid (∀ {wx : World} {a : Option Addr} {c : Nat}, Sl wx a L c X → Calls Try.prog 16 #[.slice a L c] wx fun e w' => ∃ a' c' r' k', e = .returned (.tuple #[edV E a' c' r' k', .int .i64 0]) ∧ EdM w' E a' c' r' k' ∧ Below wx.heap.size wx w') := fun {wx a c} hx => (edec_any hx (by omega)).mono fun e w' ⟨a', c', r', k', he, hr, hb⟩ => by
              rw [hback] at he hr
              exact ⟨a', c', r', k', by rw [he]; rfl, hr, hb⟩
            simp only [hV] at HE HG HD1 HSB
            have HLX := hidE hL
            clear hL HD hal hrl hE0 hV hed hok hoko hX q her hev hback hlenb
            go_upto_region 20 with (first | (go_at_call 16; refine hd1.mono ?_; rintro e w4 ⟨a4, c4, r4, k4, rfl, m4, b4⟩) | (go_at_call 13; refine (HG.out _ b2).mono ?_; rintro e w3 ⟨a3, c3, rfl, s3, b3, g3⟩; have s2' := s2.later g3; have hd1 := HD1.out s2') | (go_at_call 12; refine (HE.out _ (Below.refl _ _)).mono ?_; rintro e w2 ⟨a2, c2, rfl, s2, b2, g2⟩; obtain ⟨z0, z1, z2, z3, z4⟩ := HX.out _ b2))
            have g4 : Below w4.heap.size w4 (w4.alloc (.cells #[.int .i64 0, .int .i64 0, .int .i64 0, .slice a4 al c4, .slice r4 rl k4] 30)) := (Below.refl _ _).alloc (Nat.le_refl _) _
            have b34 : Below w3.heap.size w3 (w4.alloc (.cells #[.int .i64 0, .int .i64 0, .int .i64 0, .slice a4 al c4, .slice r4 rl k4] 30)) := b4.trans (g4.mono b4.size)
            have bz4 : Below wz.heap.size wz (w4.alloc (.cells #[.int .i64 0, .int .i64 0, .int .i64 0, .slice a4 al c4, .slice r4 rl k4] 30)) := b3.trans (b34.mono b3.size)
            have hsb := HSB.out (m4.later g4) bz4
            obtain ⟨p0, p1, p2, p3, p4⟩ := HX.out _ bz4
            have zb := heap_alloc_new w4 (.cells #[.int .i64 0, .int .i64 0, .int .i64 0, .slice a4 al c4, .slice r4 rl k4] 30)
            have hc2 := str_l (s2'.later b34)
            have hc3 := str_l (s3.later b34)
            obtain ⟨W4, hW4⟩ : ∃ W4, W4 = w4.alloc (.cells #[.int .i64 0, .int .i64 0, .int .i64 0, .slice a4 al c4, .slice r4 rl k4] 30) := ⟨_, rfl⟩
            rw [← hW4] at bz4 hsb p0 p1 p2 p3 p4 zb hc2 hc3 ⊢
            have x0 : W4.cell? ⟨w4.heap.size, 0, none⟩ = some (.int .i64 0) := by rw [cell_of zb]; rfl
            have x1 : W4.cell? ⟨w4.heap.size, 1, none⟩ = some (.int .i64 0) := by rw [cell_of zb]; rfl
            have x2 : W4.cell? ⟨w4.heap.size, 2, none⟩ = some (.int .i64 0) := by rw [cell_of zb]; rfl
            have x3 : W4.cell? ⟨w4.heap.size, 3, none⟩ = some (.slice a4 al c4) := by rw [cell_of zb]; rfl
            have x4 : W4.cell? ⟨w4.heap.size, 4, none⟩ = some (.slice r4 rl k4) := by rw [cell_of zb]; rfl
            have HB4 := hidE (HF.out _ bz4)
            have hst : ((strOfNums X).toList == (strOfNums X).toList) = true := by simp
            generalize strOfNums X = S at hc2 hc3 hst
            clear y0 y1 y2 y3 y4 z0 z1 z2 z3 z4 s2 s2' s3 b2 b3 g2 g3 g4 b34 m4 b4 zb hW4 bz4
            go_wp2_with (first | (go_at_call 18; refine hsb.mono ?_; rintro e w5 ⟨rfl, b5⟩) | (go_at_call 10; refine (HA.out _).mono ?_; rintro e w6 ⟨rfl, b6⟩))
            all_goals exact bodyPost_ret (v := .bool true) (by simp [results, Try.results6, go_sem]) rfl ⟨rfl, by have B5 := HB4.out.trans (b5.mono HB4.out.size); exact B5.trans (b6.mono B5.size)⟩
          · have her : edErr E = 1 := by unfold edErr; rw [if_neg q]
            have hev : X = [] := by rw [hX]; unfold enEdV; rw [if_neg q]
            rw [her, ← hX, hev] at HE HG
            simp only [List.length_nil] at HE HG
            have HD2 : Hid (∀ {wx : World} {a : Option Addr} {c : Nat}, Sl wx a 0 c [] → Calls Try.prog 16 #[.slice a 0 c] wx fun e w' => ∃ (l' n' s' : Int) (a' : Option Addr) (an c' : Nat) (r' : Option Addr) (rn k' : Nat) (er : Nat), e = .returned (.tuple #[.agg #[.int .i64 l', .int .i64 n', .int .i64 s', .slice a' an c', .slice r' rn k'], .int .i64 (er : Nat)]) ∧ ((er : Int) == 0) = false ∧ Below wx.heap.size wx w') := fun {wx a c} hx => (edec_any hx (by omega)).mono fun e w' ⟨a', c', r', k', he, hr, hb⟩ => ⟨_, _, _, a', _, c', r', _, k', (deEd []).2, he, by have := deEd_nil; simp; omega, hb⟩
            simp only [hV] at HE HG
            clear HD hal hrl hE0 hV hed hok hoko hX q her hev HSB
            go_upto_region 20 with (first | (go_at_call 16; refine hd1.mono ?_; rintro e w4 ⟨l4, n4, q4, a4, an4, c4, r4, rn4, k4, er4, rfl, hne4, b4⟩) | (go_at_call 13; refine (HG.out _ b2).mono ?_; rintro e w3 ⟨a3, c3, rfl, s3, b3, g3⟩; have s2' := s2.later g3; have hd1 := HD2.out s2') | (go_at_call 12; refine (HE.out _ (Below.refl _ _)).mono ?_; rintro e w2 ⟨a2, c2, rfl, s2, b2, g2⟩; obtain ⟨z0, z1, z2, z3, z4⟩ := HX.out _ b2))
            have g4 : Below w4.heap.size w4 (w4.alloc (.cells #[.int .i64 l4, .int .i64 n4, .int .i64 q4, .slice a4 an4 c4, .slice r4 rn4 k4] 30)) := (Below.refl _ _).alloc (Nat.le_refl _) _
            have b34 : Below w3.heap.size w3 (w4.alloc (.cells #[.int .i64 l4, .int .i64 n4, .int .i64 q4, .slice a4 an4 c4, .slice r4 rn4 k4] 30)) := b4.trans (g4.mono b4.size)
            have hc2 := str_l (s2'.later b34)
            have hc3 := str_l (s3.later b34)
            rw [show strOfNums [] = ⟨#[]⟩ from rfl] at hc2 hc3
            obtain ⟨W4, hW4⟩ : ∃ W4, W4 = w4.alloc (.cells #[.int .i64 l4, .int .i64 n4, .int .i64 q4, .slice a4 an4 c4, .slice r4 rn4 k4] 30) := ⟨_, rfl⟩
            rw [← hW4] at b34 hc2 hc3 ⊢
            have HB4 := hidE (HF.out _ (b3.trans (b34.mono b3.size)))
            have hne4' : ¬ er4 = 0 := by simpa using hne4
            clear y0 y1 y2 y3 y4 z0 z1 z2 z3 z4 s2 s2' s3 b2 b3 g2 g3 g4 b34 b4 hW4
            go_wp2_with (first | (go_at_call 10; refine (HA.out _).mono ?_; rintro e w6 ⟨rfl, b6⟩))
            all_goals exact bodyPost_ret (v := .bool true) (by simp [results, Try.results6, go_sem]) rfl ⟨rfl, HB4.out.trans (b6.mono HB4.out.size)⟩
        · have q1' : (N : Int) ≤ 1 := by omega
          have q2' : (N : Int) < 2 := by omega
          by_cases q3 : 1 < M
          · have q3' : (1 : Int) < (M : Int) := by omega
            obtain ⟨P, hNM⟩ : ∃ P, M = P + 1 := ⟨M - 1, by omega⟩
            obtain ⟨g, c, cur, hv, hgg, hglt⟩ := RowS.blockE HC.out.nums (by rw [nosN_len]; omega)
            rw [nosN_len] at hv
            simp only [Value.slice.injEq, true_and] at hv
            obtain ⟨rfl, rfl⟩ := hv
            obtain ⟨⟨-, f1⟩, -⟩ := HC.out.facts
            have hrs : RS i64E wc (some ⟨g, 0, none⟩) M k9 (nosN M) := by
              obtain ⟨a', c', e, hs'⟩ := HC.out.nums.rs
              rw [nosN_len] at e hs'
              simp only [Value.slice.injEq] at e
              obtain ⟨rfl, _, rfl⟩ := e
              exact hs'
            obtain ⟨b, off, e, d0, hrest⟩ := RS.i64 hrs (i := P) (x := (P : Int) + 1) (by rw [hNM, nosN, List.getElem?_append_right (by rw [nosN_len]; omega), nosN_len]; simp)
            clear hrest
            simp only [Option.some.injEq, Addr.mk.injEq, and_true] at e
            obtain ⟨rfl, rfl⟩ := e
            rw [Nat.zero_add] at d0
            have z0 := frozen_of hgg P
            have hlt : (P : Int) < (M : Int) := by omega
            have hP61 : P ≤ 2 ^ 61 := by have := HH.out; omega
            have hw1 : wrap64 ((M : Int) - 1) = (P : Int) := by unfold wrap64; have := HH.out; omega
            have hwi : IntKind.i64.wrap ((M : Int) - 1) = (P : Int) := by rw [IntKind.wrap_i64]; have := HH.out; omega
            have HMM : Hid (MD w w.heap.size C wc (.slice a9 N c9) (.slice (some ⟨g, 0, none⟩) M k9) (lnsN N) (nosN P ++ [(P : Int) + 1])) := by
              have := HC.out
              have e : nosN M = nosN P ++ [(P : Int) + 1] := by rw [hNM]; rfl
              rw [e] at this
              exact this
            have HD := hidE (HMM.out.setR (z := 1) ⟨by decide, by decide⟩ P (by rw [nosN_len])).fd
            clear hNM hgg hrs HMM HC
            go_upto_region 17 with fail
            generalize nosN P ++ [(1 : Int)] = ns at HD
            generalize lnsN N = ops at HD
            obtain ⟨wz, hwz⟩ : ∃ wz, wz = wc.setCell ⟨g, P, none⟩ (.int .i64 1) := ⟨_, rfl⟩
            rw [← hwz] at HD ⊢
            obtain ⟨aa, haa⟩ : ∃ aa, aa = a9 := ⟨_, rfl⟩
            obtain ⟨ra, hra⟩ : ∃ ra, ra = (some ⟨g, 0, none⟩ : Option Addr) := ⟨_, rfl⟩
            obtain ⟨ac, hac⟩ : ∃ ac, ac = c9 := ⟨_, rfl⟩
            obtain ⟨rc, hrc⟩ : ∃ rc, rc = k9 := ⟨_, rfl⟩
            rw [← haa, ← hra, ← hac, ← hrc] at HD
            clear haa hra hac hrc
            clear hwz d0 z0 f1 hglt
            obtain ⟨al, hal⟩ : ∃ al, al = ops.length := ⟨_, rfl⟩
            obtain ⟨rl, hrl⟩ : ∃ rl, rl = ns.length := ⟨_, rfl⟩
            obtain ⟨E, hE0⟩ : ∃ E : EdV, E = ⟨0, 0, 0, ops, ns⟩ := ⟨_, rfl⟩
            have hV : ∀ (a r : Option Addr) (c k : Nat), edV E a c r k = .agg #[.int .i64 0, .int .i64 0, .int .i64 0, .slice a al c, .slice r rl k] := fun a r c k => by rw [hE0, hal, hrl]; rfl
            have HX : Hid (∀ wx, Below wz.heap.size wz wx → wx.cell? ⟨w.heap.size, 0, none⟩ = some (.int .i64 0) ∧ wx.cell? ⟨w.heap.size, 1, none⟩ = some (.int .i64 0) ∧ wx.cell? ⟨w.heap.size, 2, none⟩ = some (.int .i64 0) ∧ wx.cell? ⟨w.heap.size, 3, none⟩ = some (.slice aa al ac) ∧ wx.cell? ⟨w.heap.size, 4, none⟩ = some (.slice ra rl rc)) := fun wx hb => by
              have e := (hb.block _ (Array.getElem?_eq_some_iff.1 HD.out.bq).1).trans HD.out.bq
              exact ⟨by rw [cell_of e]; rfl, by rw [cell_of e]; rfl, by rw [cell_of e]; rfl, by rw [cell_of e, hal]; rfl, by rw [cell_of e, hrl]; rfl⟩
            have hed : EdM wz E aa ac ra rc := by rw [hE0]; exact HD.out.ed
            have hok := okb_enEdV (e := E) hed.add.okl
            have hoko : ∀ o ∈ E.add, OkL o := hed.add.okl
            have HE : Hid (∀ wx, Below wz.heap.size wz wx → Calls Try.prog 12 #[edV E aa ac ra rc] wx fun e w' => ∃ a c, e = .returned (.tuple #[.slice a (enEdV E).length c, .int .i64 (edErr E)]) ∧ Sl w' a (enEdV E).length c (enEdV E) ∧ Below wz.heap.size wz w' ∧ Below wx.heap.size wx w') := fun wx hb => (eenc_any (hed.later hb)).mono fun e w' ⟨v, he, hr, hb'⟩ => by
              obtain ⟨a, c, hv, hsl⟩ := Sl.ofRow hr hok
              exact ⟨a, c, by rw [he, hv], hsl, hb.trans (hb'.mono hb.size), hb'⟩
            have HG : Hid (∀ wx, Below wz.heap.size wz wx → Calls Try.prog 13 #[edV E aa ac ra rc] wx fun e w' => ∃ a c, e = .returned (.tuple #[.slice a (enEdV E).length c, .int .i64 (edErr E)]) ∧ Sl w' a (enEdV E).length c (enEdV E) ∧ Below wz.heap.size wz w' ∧ Below wx.heap.size wx w') := fun wx hb => (redit_any (hed.later hb)).mono fun e w' ⟨v, he, hr, hb'⟩ => by
              obtain ⟨a, c, hv, hsl⟩ := Sl.ofRow hr hok
              exact ⟨a, c, by rw [he, hv], hsl, hb.trans (hb'.mono hb.size), hb'⟩
            have HSB : Hid (∀ {wx : World} {a r : Option Addr} {c k : Nat}, EdM wx E a c r k → Below wz.heap.size wz wx → Calls Try.prog 18 #[edV E a c r k, edV E aa ac ra rc] wx fun e w' => e = .returned (.bool true) ∧ Below wx.heap.size wx w') := fun {wx a r c k} hr hb => rsameD_eq hr (hed.later hb)
            have HA : Hid (∀ wx, Calls Try.prog 10 #[] wx fun e w' => e = .returned (.bool true) ∧ Below wx.heap.size wx w') := fun wx => awake14_any wx
            have HF : Hid (∀ wx, Below wz.heap.size wz wx → Below w.heap.size w wx) := fun wx hb => HD.out.bel.trans (hb.mono HD.out.bel.size)
            obtain ⟨X, hX⟩ : ∃ X, X = enEdV E := ⟨_, rfl⟩
            obtain ⟨y0, y1, y2, y3, y4⟩ := HX.out _ (Below.refl _ _)
            by_cases q : mayEd E = true
            · have her : edErr E = 0 := by unfold edErr; rw [if_pos q]
              have hev : X = enEd E := by rw [hX]; unfold enEdV; rw [if_pos q]
              have hback := (deEd_enEd (t := []) q hoko (fun x hx => by cases hx)).1 rfl
              rw [List.append_nil, ← hev] at hback
              have hlenb : X.length ≤ 250000 := by rw [hev]; exact enEd_len q
              rw [her, ← hX] at HE HG
              obtain ⟨L, hL⟩ : ∃ L, L = X.length := ⟨_, rfl⟩
              rw [← hL] at HE HG hlenb
              have HD1 : Hid (∀ {wx : World} {a : Option Addr} {c : Nat}, Sl wx a L c X → Calls Try.prog 16 #[.slice a L c] wx fun e w' => ∃ a' c' r' k', e = .returned (.tuple #[edV E a' c' r' k', .int .i64 0]) ∧ EdM w' E a' c' r' k' ∧ Below wx.heap.size wx w') := fun {wx a c} hx => (edec_any hx (by omega)).mono fun e w' ⟨a', c', r', k', he, hr, hb⟩ => by
                rw [hback] at he hr
                exact ⟨a', c', r', k', by rw [he]; rfl, hr, hb⟩
              simp only [hV] at HE HG HD1 HSB
              have HLX := hidE hL
              clear hL HD hal hrl hE0 hV hed hok hoko hX q her hev hback hlenb
              go_upto_region 20 with (first | (go_at_call 16; refine hd1.mono ?_; rintro e w4 ⟨a4, c4, r4, k4, rfl, m4, b4⟩) | (go_at_call 13; refine (HG.out _ b2).mono ?_; rintro e w3 ⟨a3, c3, rfl, s3, b3, g3⟩; have s2' := s2.later g3; have hd1 := HD1.out s2') | (go_at_call 12; refine (HE.out _ (Below.refl _ _)).mono ?_; rintro e w2 ⟨a2, c2, rfl, s2, b2, g2⟩; obtain ⟨z0, z1, z2, z3, z4⟩ := HX.out _ b2))
              have g4 : Below w4.heap.size w4 (w4.alloc (.cells #[.int .i64 0, .int .i64 0, .int .i64 0, .slice a4 al c4, .slice r4 rl k4] 30)) := (Below.refl _ _).alloc (Nat.le_refl _) _
              have b34 : Below w3.heap.size w3 (w4.alloc (.cells #[.int .i64 0, .int .i64 0, .int .i64 0, .slice a4 al c4, .slice r4 rl k4] 30)) := b4.trans (g4.mono b4.size)
              have bz4 : Below wz.heap.size wz (w4.alloc (.cells #[.int .i64 0, .int .i64 0, .int .i64 0, .slice a4 al c4, .slice r4 rl k4] 30)) := b3.trans (b34.mono b3.size)
              have hsb := HSB.out (m4.later g4) bz4
              obtain ⟨p0, p1, p2, p3, p4⟩ := HX.out _ bz4
              have zb := heap_alloc_new w4 (.cells #[.int .i64 0, .int .i64 0, .int .i64 0, .slice a4 al c4, .slice r4 rl k4] 30)
              have hc2 := str_l (s2'.later b34)
              have hc3 := str_l (s3.later b34)
              obtain ⟨W4, hW4⟩ : ∃ W4, W4 = w4.alloc (.cells #[.int .i64 0, .int .i64 0, .int .i64 0, .slice a4 al c4, .slice r4 rl k4] 30) := ⟨_, rfl⟩
              rw [← hW4] at bz4 hsb p0 p1 p2 p3 p4 zb hc2 hc3 ⊢
              have x0 : W4.cell? ⟨w4.heap.size, 0, none⟩ = some (.int .i64 0) := by rw [cell_of zb]; rfl
              have x1 : W4.cell? ⟨w4.heap.size, 1, none⟩ = some (.int .i64 0) := by rw [cell_of zb]; rfl
              have x2 : W4.cell? ⟨w4.heap.size, 2, none⟩ = some (.int .i64 0) := by rw [cell_of zb]; rfl
              have x3 : W4.cell? ⟨w4.heap.size, 3, none⟩ = some (.slice a4 al c4) := by rw [cell_of zb]; rfl
              have x4 : W4.cell? ⟨w4.heap.size, 4, none⟩ = some (.slice r4 rl k4) := by rw [cell_of zb]; rfl
              have HB4 := hidE (HF.out _ bz4)
              have hst : ((strOfNums X).toList == (strOfNums X).toList) = true := by simp
              generalize strOfNums X = S at hc2 hc3 hst
              clear y0 y1 y2 y3 y4 z0 z1 z2 z3 z4 s2 s2' s3 b2 b3 g2 g3 g4 b34 m4 b4 zb hW4 bz4
              go_wp2_with (first | (go_at_call 18; refine hsb.mono ?_; rintro e w5 ⟨rfl, b5⟩) | (go_at_call 10; refine (HA.out _).mono ?_; rintro e w6 ⟨rfl, b6⟩))
              all_goals exact bodyPost_ret (v := .bool true) (by simp [results, Try.results6, go_sem]) rfl ⟨rfl, by have B5 := HB4.out.trans (b5.mono HB4.out.size); exact B5.trans (b6.mono B5.size)⟩
            · have her : edErr E = 1 := by unfold edErr; rw [if_neg q]
              have hev : X = [] := by rw [hX]; unfold enEdV; rw [if_neg q]
              rw [her, ← hX, hev] at HE HG
              simp only [List.length_nil] at HE HG
              have HD2 : Hid (∀ {wx : World} {a : Option Addr} {c : Nat}, Sl wx a 0 c [] → Calls Try.prog 16 #[.slice a 0 c] wx fun e w' => ∃ (l' n' s' : Int) (a' : Option Addr) (an c' : Nat) (r' : Option Addr) (rn k' : Nat) (er : Nat), e = .returned (.tuple #[.agg #[.int .i64 l', .int .i64 n', .int .i64 s', .slice a' an c', .slice r' rn k'], .int .i64 (er : Nat)]) ∧ ((er : Int) == 0) = false ∧ Below wx.heap.size wx w') := fun {wx a c} hx => (edec_any hx (by omega)).mono fun e w' ⟨a', c', r', k', he, hr, hb⟩ => ⟨_, _, _, a', _, c', r', _, k', (deEd []).2, he, by have := deEd_nil; simp; omega, hb⟩
              simp only [hV] at HE HG
              clear HD hal hrl hE0 hV hed hok hoko hX q her hev HSB
              go_upto_region 20 with (first | (go_at_call 16; refine hd1.mono ?_; rintro e w4 ⟨l4, n4, q4, a4, an4, c4, r4, rn4, k4, er4, rfl, hne4, b4⟩) | (go_at_call 13; refine (HG.out _ b2).mono ?_; rintro e w3 ⟨a3, c3, rfl, s3, b3, g3⟩; have s2' := s2.later g3; have hd1 := HD2.out s2') | (go_at_call 12; refine (HE.out _ (Below.refl _ _)).mono ?_; rintro e w2 ⟨a2, c2, rfl, s2, b2, g2⟩; obtain ⟨z0, z1, z2, z3, z4⟩ := HX.out _ b2))
              have g4 : Below w4.heap.size w4 (w4.alloc (.cells #[.int .i64 l4, .int .i64 n4, .int .i64 q4, .slice a4 an4 c4, .slice r4 rn4 k4] 30)) := (Below.refl _ _).alloc (Nat.le_refl _) _
              have b34 : Below w3.heap.size w3 (w4.alloc (.cells #[.int .i64 l4, .int .i64 n4, .int .i64 q4, .slice a4 an4 c4, .slice r4 rn4 k4] 30)) := b4.trans (g4.mono b4.size)
              have hc2 := str_l (s2'.later b34)
              have hc3 := str_l (s3.later b34)
              rw [show strOfNums [] = ⟨#[]⟩ from rfl] at hc2 hc3
              obtain ⟨W4, hW4⟩ : ∃ W4, W4 = w4.alloc (.cells #[.int .i64 l4, .int .i64 n4, .int .i64 q4, .slice a4 an4 c4, .slice r4 rn4 k4] 30) := ⟨_, rfl⟩
              rw [← hW4] at b34 hc2 hc3 ⊢
              have HB4 := hidE (HF.out _ (b3.trans (b34.mono b3.size)))
              have hne4' : ¬ er4 = 0 := by simpa using hne4
              clear y0 y1 y2 y3 y4 z0 z1 z2 z3 z4 s2 s2' s3 b2 b3 g2 g3 g4 b34 b4 hW4
              go_wp2_with (first | (go_at_call 10; refine (HA.out _).mono ?_; rintro e w6 ⟨rfl, b6⟩))
              all_goals exact bodyPost_ret (v := .bool true) (by simp [results, Try.results6, go_sem]) rfl ⟨rfl, HB4.out.trans (b6.mono HB4.out.size)⟩
          · have q3' : (M : Int) ≤ 1 := by omega
            go_upto_region 17 with fail
            have HD := hidE HC.out.fd
            obtain ⟨wz, hwz⟩ : ∃ wz, wz = wc := ⟨_, rfl⟩
            rw [← hwz] at HD ⊢
            generalize lnsN N = ops at HD HC
            generalize nosN M = ns at HD HC
            obtain ⟨aa, haa⟩ : ∃ aa, aa = a9 := ⟨_, rfl⟩
            obtain ⟨ra, hra⟩ : ∃ ra, ra = b9 := ⟨_, rfl⟩
            obtain ⟨ac, hac⟩ : ∃ ac, ac = c9 := ⟨_, rfl⟩
            obtain ⟨rc, hrc⟩ : ∃ rc, rc = k9 := ⟨_, rfl⟩
            rw [← haa, ← hra, ← hac, ← hrc] at HD
            clear haa hra hac hrc
            clear HC hwz
            obtain ⟨al, hal⟩ : ∃ al, al = ops.length := ⟨_, rfl⟩
            obtain ⟨rl, hrl⟩ : ∃ rl, rl = ns.length := ⟨_, rfl⟩
            obtain ⟨E, hE0⟩ : ∃ E : EdV, E = ⟨0, 0, 0, ops, ns⟩ := ⟨_, rfl⟩
            have hV : ∀ (a r : Option Addr) (c k : Nat), edV E a c r k = .agg #[.int .i64 0, .int .i64 0, .int .i64 0, .slice a al c, .slice r rl k] := fun a r c k => by rw [hE0, hal, hrl]; rfl
            have HX : Hid (∀ wx, Below wz.heap.size wz wx → wx.cell? ⟨w.heap.size, 0, none⟩ = some (.int .i64 0) ∧ wx.cell? ⟨w.heap.size, 1, none⟩ = some (.int .i64 0) ∧ wx.cell? ⟨w.heap.size, 2, none⟩ = some (.int .i64 0) ∧ wx.cell? ⟨w.heap.size, 3, none⟩ = some (.slice aa al ac) ∧ wx.cell? ⟨w.heap.size, 4, none⟩ = some (.slice ra rl rc)) := fun wx hb => by
              have e := (hb.block _ (Array.getElem?_eq_some_iff.1 HD.out.bq).1).trans HD.out.bq
              exact ⟨by rw [cell_of e]; rfl, by rw [cell_of e]; rfl, by rw [cell_of e]; rfl, by rw [cell_of e, hal]; rfl, by rw [cell_of e, hrl]; rfl⟩
            have hed : EdM wz E aa ac ra rc := by rw [hE0]; exact HD.out.ed
            have hok := okb_enEdV (e := E) hed.add.okl
            have hoko : ∀ o ∈ E.add, OkL o := hed.add.okl
            have HE : Hid (∀ wx, Below wz.heap.size wz wx → Calls Try.prog 12 #[edV E aa ac ra rc] wx fun e w' => ∃ a c, e = .returned (.tuple #[.slice a (enEdV E).length c, .int .i64 (edErr E)]) ∧ Sl w' a (enEdV E).length c (enEdV E) ∧ Below wz.heap.size wz w' ∧ Below wx.heap.size wx w') := fun wx hb => (eenc_any (hed.later hb)).mono fun e w' ⟨v, he, hr, hb'⟩ => by
              obtain ⟨a, c, hv, hsl⟩ := Sl.ofRow hr hok
              exact ⟨a, c, by rw [he, hv], hsl, hb.trans (hb'.mono hb.size), hb'⟩
            have HG : Hid (∀ wx, Below wz.heap.size wz wx → Calls Try.prog 13 #[edV E aa ac ra rc] wx fun e w' => ∃ a c, e = .returned (.tuple #[.slice a (enEdV E).length c, .int .i64 (edErr E)]) ∧ Sl w' a (enEdV E).length c (enEdV E) ∧ Below wz.heap.size wz w' ∧ Below wx.heap.size wx w') := fun wx hb => (redit_any (hed.later hb)).mono fun e w' ⟨v, he, hr, hb'⟩ => by
              obtain ⟨a, c, hv, hsl⟩ := Sl.ofRow hr hok
              exact ⟨a, c, by rw [he, hv], hsl, hb.trans (hb'.mono hb.size), hb'⟩
            have HSB : Hid (∀ {wx : World} {a r : Option Addr} {c k : Nat}, EdM wx E a c r k → Below wz.heap.size wz wx → Calls Try.prog 18 #[edV E a c r k, edV E aa ac ra rc] wx fun e w' => e = .returned (.bool true) ∧ Below wx.heap.size wx w') := fun {wx a r c k} hr hb => rsameD_eq hr (hed.later hb)
            have HA : Hid (∀ wx, Calls Try.prog 10 #[] wx fun e w' => e = .returned (.bool true) ∧ Below wx.heap.size wx w') := fun wx => awake14_any wx
            have HF : Hid (∀ wx, Below wz.heap.size wz wx → Below w.heap.size w wx) := fun wx hb => HD.out.bel.trans (hb.mono HD.out.bel.size)
            obtain ⟨X, hX⟩ : ∃ X, X = enEdV E := ⟨_, rfl⟩
            obtain ⟨y0, y1, y2, y3, y4⟩ := HX.out _ (Below.refl _ _)
            by_cases q : mayEd E = true
            · have her : edErr E = 0 := by unfold edErr; rw [if_pos q]
              have hev : X = enEd E := by rw [hX]; unfold enEdV; rw [if_pos q]
              have hback := (deEd_enEd (t := []) q hoko (fun x hx => by cases hx)).1 rfl
              rw [List.append_nil, ← hev] at hback
              have hlenb : X.length ≤ 250000 := by rw [hev]; exact enEd_len q
              rw [her, ← hX] at HE HG
              obtain ⟨L, hL⟩ : ∃ L, L = X.length := ⟨_, rfl⟩
              rw [← hL] at HE HG hlenb
              have HD1 : Hid (∀ {wx : World} {a : Option Addr} {c : Nat}, Sl wx a L c X → Calls Try.prog 16 #[.slice a L c] wx fun e w' => ∃ a' c' r' k', e = .returned (.tuple #[edV E a' c' r' k', .int .i64 0]) ∧ EdM w' E a' c' r' k' ∧ Below wx.heap.size wx w') := fun {wx a c} hx => (edec_any hx (by omega)).mono fun e w' ⟨a', c', r', k', he, hr, hb⟩ => by
                rw [hback] at he hr
                exact ⟨a', c', r', k', by rw [he]; rfl, hr, hb⟩
              simp only [hV] at HE HG HD1 HSB
              have HLX := hidE hL
              clear hL HD hal hrl hE0 hV hed hok hoko hX q her hev hback hlenb
              go_upto_region 20 with (first | (go_at_call 16; refine hd1.mono ?_; rintro e w4 ⟨a4, c4, r4, k4, rfl, m4, b4⟩) | (go_at_call 13; refine (HG.out _ b2).mono ?_; rintro e w3 ⟨a3, c3, rfl, s3, b3, g3⟩; have s2' := s2.later g3; have hd1 := HD1.out s2') | (go_at_call 12; refine (HE.out _ (Below.refl _ _)).mono ?_; rintro e w2 ⟨a2, c2, rfl, s2, b2, g2⟩; obtain ⟨z0, z1, z2, z3, z4⟩ := HX.out _ b2))
              have g4 : Below w4.heap.size w4 (w4.alloc (.cells #[.int .i64 0, .int .i64 0, .int .i64 0, .slice a4 al c4, .slice r4 rl k4] 30)) := (Below.refl _ _).alloc (Nat.le_refl _) _
              have b34 : Below w3.heap.size w3 (w4.alloc (.cells #[.int .i64 0, .int .i64 0, .int .i64 0, .slice a4 al c4, .slice r4 rl k4] 30)) := b4.trans (g4.mono b4.size)
              have bz4 : Below wz.heap.size wz (w4.alloc (.cells #[.int .i64 0, .int .i64 0, .int .i64 0, .slice a4 al c4, .slice r4 rl k4] 30)) := b3.trans (b34.mono b3.size)
              have hsb := HSB.out (m4.later g4) bz4
              obtain ⟨p0, p1, p2, p3, p4⟩ := HX.out _ bz4
              have zb := heap_alloc_new w4 (.cells #[.int .i64 0, .int .i64 0, .int .i64 0, .slice a4 al c4, .slice r4 rl k4] 30)
              have hc2 := str_l (s2'.later b34)
              have hc3 := str_l (s3.later b34)
              obtain ⟨W4, hW4⟩ : ∃ W4, W4 = w4.alloc (.cells #[.int .i64 0, .int .i64 0, .int .i64 0, .slice a4 al c4, .slice r4 rl k4] 30) := ⟨_, rfl⟩
              rw [← hW4] at bz4 hsb p0 p1 p2 p3 p4 zb hc2 hc3 ⊢
              have x0 : W4.cell? ⟨w4.heap.size, 0, none⟩ = some (.int .i64 0) := by rw [cell_of zb]; rfl
              have x1 : W4.cell? ⟨w4.heap.size, 1, none⟩ = some (.int .i64 0) := by rw [cell_of zb]; rfl
              have x2 : W4.cell? ⟨w4.heap.size, 2, none⟩ = some (.int .i64 0) := by rw [cell_of zb]; rfl
              have x3 : W4.cell? ⟨w4.heap.size, 3, none⟩ = some (.slice a4 al c4) := by rw [cell_of zb]; rfl
              have x4 : W4.cell? ⟨w4.heap.size, 4, none⟩ = some (.slice r4 rl k4) := by rw [cell_of zb]; rfl
              have HB4 := hidE (HF.out _ bz4)
              have hst : ((strOfNums X).toList == (strOfNums X).toList) = true := by simp
              generalize strOfNums X = S at hc2 hc3 hst
              clear y0 y1 y2 y3 y4 z0 z1 z2 z3 z4 s2 s2' s3 b2 b3 g2 g3 g4 b34 m4 b4 zb hW4 bz4
              go_wp2_with (first | (go_at_call 18; refine hsb.mono ?_; rintro e w5 ⟨rfl, b5⟩) | (go_at_call 10; refine (HA.out _).mono ?_; rintro e w6 ⟨rfl, b6⟩))
              all_goals exact bodyPost_ret (v := .bool true) (by simp [results, Try.results6, go_sem]) rfl ⟨rfl, by have B5 := HB4.out.trans (b5.mono HB4.out.size); exact B5.trans (b6.mono B5.size)⟩
            · have her : edErr E = 1 := by unfold edErr; rw [if_neg q]
              have hev : X = [] := by rw [hX]; unfold enEdV; rw [if_neg q]
              rw [her, ← hX, hev] at HE HG
              simp only [List.length_nil] at HE HG
              have HD2 : Hid (∀ {wx : World} {a : Option Addr} {c : Nat}, Sl wx a 0 c [] → Calls Try.prog 16 #[.slice a 0 c] wx fun e w' => ∃ (l' n' s' : Int) (a' : Option Addr) (an c' : Nat) (r' : Option Addr) (rn k' : Nat) (er : Nat), e = .returned (.tuple #[.agg #[.int .i64 l', .int .i64 n', .int .i64 s', .slice a' an c', .slice r' rn k'], .int .i64 (er : Nat)]) ∧ ((er : Int) == 0) = false ∧ Below wx.heap.size wx w') := fun {wx a c} hx => (edec_any hx (by omega)).mono fun e w' ⟨a', c', r', k', he, hr, hb⟩ => ⟨_, _, _, a', _, c', r', _, k', (deEd []).2, he, by have := deEd_nil; simp; omega, hb⟩
              simp only [hV] at HE HG
              clear HD hal hrl hE0 hV hed hok hoko hX q her hev HSB
              go_upto_region 20 with (first | (go_at_call 16; refine hd1.mono ?_; rintro e w4 ⟨l4, n4, q4, a4, an4, c4, r4, rn4, k4, er4, rfl, hne4, b4⟩) | (go_at_call 13; refine (HG.out _ b2).mono ?_; rintro e w3 ⟨a3, c3, rfl, s3, b3, g3⟩; have s2' := s2.later g3; have hd1 := HD2.out s2') | (go_at_call 12; refine (HE.out _ (Below.refl _ _)).mono ?_; rintro e w2 ⟨a2, c2, rfl, s2, b2, g2⟩; obtain ⟨z0, z1, z2, z3, z4⟩ := HX.out _ b2))
              have g4 : Below w4.heap.size w4 (w4.alloc (.cells #[.int .i64 l4, .int .i64 n4, .int .i64 q4, .slice a4 an4 c4, .slice r4 rn4 k4] 30)) := (Below.refl _ _).alloc (Nat.le_refl _) _
              have b34 : Below w3.heap.size w3 (w4.alloc (.cells #[.int .i64 l4, .int .i64 n4, .int .i64 q4, .slice a4 an4 c4, .slice r4 rn4 k4] 30)) := b4.trans (g4.mono b4.size)
              have hc2 := str_l (s2'.later b34)
              have hc3 := str_l (s3.later b34)
              rw [show strOfNums [] = ⟨#[]⟩ from rfl] at hc2 hc3
              obtain ⟨W4, hW4⟩ : ∃ W4, W4 = w4.alloc (.cells #[.int .i64 l4, .int .i64 n4, .int .i64 q4, .slice a4 an4 c4, .slice r4 rn4 k4] 30) := ⟨_, rfl⟩
              rw [← hW4] at b34 hc2 hc3 ⊢
              have HB4 := hidE (HF.out _ (b3.trans (b34.mono b3.size)))
              have hne4' : ¬ er4 = 0 := by simpa using hne4
              clear y0 y1 y2 y3 y4 z0 z1 z2 z3 z4 s2 s2' s3 b2 b3 g2 g3 g4 b34 b4 hW4
              go_wp2_with (first | (go_at_call 10; refine (HA.out _).mono ?_; rintro e w6 ⟨rfl, b6⟩))
              all_goals exact bodyPost_ret (v := .bool true) (by simp [results, Try.results6, go_sem]) rfl ⟨rfl, HB4.out.trans (b6.mono HB4.out.size)⟩
end Go.Proofs.Yteaicilehigjlaa
