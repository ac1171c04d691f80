/- The law that a batch is encoded as the document has it. -/
import Derived.Test.YtcielnkkbccldaaBlaw
namespace Go.Proofs.Ytcielnkkbccldaa
open Go.RowKit
set_option linter.unusedVariables false
set_option linter.unusedSimpArgs false

set_option maxHeartbeats 4000000 in
set_option maxRecDepth 100000 in
theorem encodes_any (D : PB) {w : World} {ao : Option Addr} {len cap : Nat} {s : Int} {os : List OpV} (h : RS opE w ao len cap os) (hs : In64 s) :
    Calls Try.prog 3 #[.agg #[.int .i64 s, .slice ao len cap]] w fun e w' => e = .returned (.bool true) ∧ Below w.heap.size w w' := by
  obtain ⟨W, hW⟩ : ∃ W, W = w.alloc (.cells #[.int .i64 s, .slice ao len cap] 24) := ⟨_, rfl⟩
  have hWb : Below w.heap.size w W := by rw [hW]; exact (Below.refl _ w).alloc (Nat.le_refl _) _
  have x0 : W.cell? ⟨w.heap.size, 0, none⟩ = some (.int .i64 s) := by rw [hW, cell_of (heap_alloc_new w _)]; rfl
  have x1 : W.cell? ⟨w.heap.size, 1, none⟩ = some (.slice ao len cap) := by rw [hW, cell_of (heap_alloc_new w _)]; rfl
  have hH := heavy_any (s := s) (h.later hWb)
  have HX : Hid (∀ wx, Below W.heap.size W wx → wx.cell? ⟨w.heap.size, 0, none⟩ = some (.int .i64 s) ∧ wx.cell? ⟨w.heap.size, 1, none⟩ = some (.slice ao len cap)) := fun wx hb => ⟨cell_later hb x0, cell_later hb x1⟩
  obtain ⟨m, hm⟩ : ∃ m, m = mayB s os := ⟨_, rfl⟩
  have HE : Hid (∀ wx, Below W.heap.size W wx → Calls Try.prog 10 #[.agg #[.int .i64 s, .slice ao len cap]] wx fun e w' => ∃ a c, e = .returned (.tuple #[.slice a (enV s os).length c, .int .i64 (m : Nat)]) ∧ Sl w' a (enV s os).length c (enV s os) ∧ Below W.heap.size W w' ∧ Below wx.heap.size wx w') := fun wx hb => (D.enc ((h.later hWb).later hb) hs).mono fun e w' ⟨v, he, ⟨a, c, hv, hsl⟩, hb'⟩ => ⟨a, c, by rw [he, hv, hm], hsl, hb.trans (hb'.mono hb.size), hb'⟩
  have HB : Hid (∀ wx, Below W.heap.size W wx → Calls Try.prog 11 #[.agg #[.int .i64 s, .slice ao len cap]] wx fun e w' => ∃ a c, e = .returned (.tuple #[.slice a (enV s os).length c, .int .i64 (m : Nat)]) ∧ Sl w' a (enV s os).length c (enV s os) ∧ Below W.heap.size W w' ∧ Below wx.heap.size wx w') := fun wx hb => (rbatch_any ((h.later hWb).later hb) hs).mono fun e w' ⟨v, he, hr, hb'⟩ => by
    have hok : Okb (enV s os) := by
      unfold enV
      split
      · refine okb_enB fun o ho => ?_
        obtain ⟨i, hi, rfl⟩ := List.getElem_of_mem ho
        obtain ⟨_, _, _, _, _, _, _, _, _, _, _, l1, l2, _⟩ := RS.op h (List.getElem?_eq_getElem hi)
        exact ⟨l1.2.1, l2.2.1⟩
      · exact fun x hx => by cases hx
    obtain ⟨a, c, hv, hsl⟩ := Sl.ofRow hr hok
    exact ⟨a, c, by rw [he, hv, hm], hsl, hb.trans (hb'.mono hb.size), hb'⟩
  have HN : Hid (∀ wx, Below W.heap.size W wx → Calls Try.prog 12 #[.agg #[.int .i64 s, .slice ao len cap]] wx fun e w' => ∃ a c, e = .returned (.tuple #[.slice a (entV s os).length c, .int .i64 (m : Nat)]) ∧ RS entE w' a (entV s os).length c (entV s os) ∧ Below W.heap.size W w' ∧ Below wx.heap.size wx w') := fun wx hb => (D.ents ((h.later hWb).later hb) hs).mono fun e w' ⟨v, he, ⟨a, c, hv, hsl⟩, hb'⟩ => ⟨a, c, by rw [he, hv, hm], hsl, hb.trans (hb'.mono hb.size), hb'⟩
  have HR : Hid (∀ wx, Below W.heap.size W wx → Calls Try.prog 13 #[.agg #[.int .i64 s, .slice ao len cap]] wx fun e w' => ∃ a c, e = .returned (.tuple #[.slice a (entV s os).length c, .int .i64 (m : Nat)]) ∧ RS entE w' a (entV s os).length c (entV s os) ∧ Below W.heap.size W w' ∧ Below wx.heap.size wx w') := fun wx hb => (rents_any ((h.later hWb).later hb) hs).mono fun e w' ⟨v, he, hr, hb'⟩ => by
    obtain ⟨a, c, hv, hsl⟩ := hr.rs
    exact ⟨a, c, by rw [he, hv, hm], hsl, hb.trans (hb'.mono hb.size), hb'⟩
  have HM : Hid (∀ wx, Below W.heap.size W wx → Calls Try.prog 14 #[.agg #[.int .i64 s, .slice ao len cap]] wx fun e w' => e = .returned (.int .i64 (m : Nat)) ∧ Below W.heap.size W w' ∧ Below wx.heap.size wx w') := fun wx hb => (D.may ((h.later hWb).later hb) hs).mono fun e w' ⟨he, hb'⟩ => ⟨by rw [he, hm], hb.trans (hb'.mono hb.size), hb'⟩
  have HQ : Hid (∀ wx, Below W.heap.size W wx → Calls Try.prog 15 #[.agg #[.int .i64 s, .slice ao len cap]] wx fun e w' => e = .returned (.int .i64 (m : Nat)) ∧ Below W.heap.size W w' ∧ Below wx.heap.size wx w') := fun wx hb => (rmay_any ((h.later hWb).later hb) hs).mono fun e w' ⟨he, hb'⟩ => ⟨by rw [he, hm], hb.trans (hb'.mono hb.size), hb'⟩
  have HA : Hid (∀ wx, Below W.heap.size W wx → Calls Try.prog 9 #[] wx fun e w' => e = .returned (.bool true) ∧ Below W.heap.size W w' ∧ Below wx.heap.size wx w') := fun wx hb => (awake8_any D wx).mono fun e w' ⟨he, hb'⟩ => ⟨he, hb.trans (hb'.mono hb.size), hb'⟩
  have HF : Hid (∀ wx, Below W.heap.size W wx → Below w.heap.size w wx) := fun wx hb => hWb.trans (hb.mono hWb.size)
  have hmm : ((m : Int) == (m : Int)) = true := by simp
  have HW : Hid (W = w.alloc (.cells #[.int .i64 s, .slice ao len cap] 24)) := hW
  generalize enV s os = X at HE HB
  generalize entV s os = Y at HN HR
  rw [hW] at hH
  clear h hs hm hWb x0 x1 hW
  go_enter Try.func3, Try.ntmps3
  go_upto_region 7 with (first | (go_at_call 8; refine hH.mono ?_; rintro e w1 ⟨b, rfl, b1⟩; rw [← HW.out] at b1; obtain ⟨y0, y1⟩ := HX.out _ b1; cases b) | (go_at_call 10; refine (HE.out _ b1).mono ?_; rintro e w2 ⟨a2, c2, rfl, s2, b2, g2⟩; obtain ⟨z0, z1⟩ := HX.out _ b2) | (go_at_call 11; refine (HB.out _ b2).mono ?_; rintro e w3 ⟨a3, c3, rfl, s3, b3, g3⟩; obtain ⟨p0, p1⟩ := HX.out _ b3) | (go_at_call 12; refine (HN.out _ b3).mono ?_; rintro e w4 ⟨a4, c4, rfl, s4, b4, g4⟩; obtain ⟨q0, q1⟩ := HX.out _ b4) | (go_at_call 13; refine (HR.out _ b4).mono ?_; rintro e w5 ⟨a5, c5, rfl, s5, b5, g5⟩) | (go_at_call 9; refine (HA.out _ b1).mono ?_; rintro e w6 ⟨rfl, b6, g6⟩))
  rotate_left
  · exact bodyPost_ret (v := .bool true) (by simp [results, Try.results3, go_sem]) rfl ⟨rfl, HF.out _ b6⟩
  · have g35 : Below w3.heap.size w3 w5 := g4.trans (g5.mono g4.size)
    have g25 : Below w2.heap.size w2 w5 := g3.trans (g35.mono g3.size)
    have HKS : Hid (∀ wx, Below w5.heap.size w5 wx → (wx.cell? ⟨w.heap.size, 0, none⟩ = some (.int .i64 s) ∧ wx.cell? ⟨w.heap.size, 1, none⟩ = some (.slice ao len cap)) ∧ (convert 27 9 (.slice a2 X.length c2)).run Try.prog wx = .ok (.string (strOfNums X)) wx ∧ (convert 27 9 (.slice a3 X.length c3)).run Try.prog wx = .ok (.string (strOfNums X)) wx) := fun wx hb => ⟨HX.out _ (b5.trans (hb.mono b5.size)), str_l (s2.later (g25.trans (hb.mono g25.size))), str_l (s3.later (g35.trans (hb.mono g35.size)))⟩
    have HSM : Hid (∀ wx, Below w5.heap.size w5 wx → Calls Try.prog 16 #[.slice a4 Y.length c4, .slice a5 Y.length c5] wx fun e w' => e = .returned (.bool true) ∧ Below w5.heap.size w5 w') := fun wx hb => (rsameE_eq (s4.later (g5.trans (hb.mono g5.size))) (s5.later hb)).mono fun e w' ⟨he, hb'⟩ => ⟨he, hb.trans (hb'.mono hb.size)⟩
    have HM5 : Hid (∀ wx, Below w5.heap.size w5 wx → Calls Try.prog 14 #[.agg #[.int .i64 s, .slice ao len cap]] wx fun e w' => e = .returned (.int .i64 (m : Nat)) ∧ Below w5.heap.size w5 w') := fun wx hb => (HM.out _ (b5.trans (hb.mono b5.size))).mono fun e w' ⟨he, _, hb'⟩ => ⟨he, hb.trans (hb'.mono hb.size)⟩
    have HQ5 : Hid (∀ wx, Below w5.heap.size w5 wx → Calls Try.prog 15 #[.agg #[.int .i64 s, .slice ao len cap]] wx fun e w' => e = .returned (.int .i64 (m : Nat)) ∧ Below w5.heap.size w5 w') := fun wx hb => (HQ.out _ (b5.trans (hb.mono b5.size))).mono fun e w' ⟨he, _, hb'⟩ => ⟨he, hb.trans (hb'.mono hb.size)⟩
    have HA5 : Hid (∀ wx, Below w5.heap.size w5 wx → Calls Try.prog 9 #[] wx fun e w' => e = .returned (.bool true) ∧ Below w5.heap.size w5 w') := fun wx hb => (HA.out _ (b5.trans (hb.mono b5.size))).mono fun e w' ⟨he, _, hb'⟩ => ⟨he, hb.trans (hb'.mono hb.size)⟩
    have HF5 : Hid (∀ wx, Below w5.heap.size w5 wx → Below w.heap.size w wx) := fun wx hb => HF.out _ (b5.trans (hb.mono b5.size))
    have hst : ((strOfNums X).toList == (strOfNums X).toList) = true := by simp
    generalize strOfNums X = T at HKS hst
    generalize X.length = lx at HKS ⊢
    generalize Y.length = ly at HSM ⊢
    clear b1 b2 b3 b4 b5 g2 g3 g4 g5 g25 g35 s2 s3 s4 s5 HE HB HN HR HM HQ HA HF HX y0 y1 z0 z1 p0 p1 q0 q1 hH HW
    go_region_held_law (fun w' => (w'.cell? ⟨w.heap.size, 0, none⟩ = some (.int .i64 s) ∧ w'.cell? ⟨w.heap.size, 1, none⟩ = some (.slice ao len cap)) ∧ (convert 27 9 (.slice a2 lx c2)).run Try.prog w' = .ok (.string T) w' ∧ (convert 27 9 (.slice a3 lx c3)).run Try.prog w' = .ok (.string T) w') (first | exact HKS.out _ b9 | exact HKS.out _ b8 | exact HKS.out _ b7 | exact HKS.out _ b6 | exact HKS.out _ (Below.refl _ _) | exact HKS.out _ (Below.refl _ _).drew) (first | (go_at_call 9; refine (HA5.out _ (by first | exact b8 | exact b7 | exact b6)).mono ?_; rintro e w9 ⟨rfl, b9⟩) | (go_at_call 16; refine (HSM.out _ (by first | exact b7 | exact b6)).mono ?_; rintro e w8 ⟨rfl, b8⟩) | (go_at_call 15; refine (HQ5.out _ (by first | exact b6 | exact (Below.refl _ _).drew)).mono ?_; rintro e w7 ⟨rfl, b7⟩) | (go_at_call 14; refine (HM5.out _ (by first | exact b7 | exact (Below.refl _ _).drew)).mono ?_; rintro e w6 ⟨rfl, b6⟩))
    all_goals
      go_wp2_with fail
      exact bodyPost_ret (v := .bool true) (by simp [results, Try.results3, go_sem]) rfl ⟨rfl, HF5.out _ b9⟩
end Go.Proofs.Ytcielnkkbccldaa
