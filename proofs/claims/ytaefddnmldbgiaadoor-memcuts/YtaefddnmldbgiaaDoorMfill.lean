/- The law's own filling of a mem, of any mem. -/
import Derived.Test.YtaefddnmldbgiaaDoorMawake
import Derived.Test.YtaefddnmldbgiaaDoorMord
namespace Go.Proofs.YtaefddnmldbgiaaDoor
open Go.RowKit
set_option linter.unusedVariables false
set_option linter.unusedSimpArgs false

theorem light9_any {w : World} {ka va : Option Addr} {kc vc : Nat} {e : EntV} : Calls Tryd.prog 25 #[entA ka kc va vc e] w fun r w' => r = .returned (.bool (decide (e.key.length ≤ 3000 ∧ e.val.length ≤ 3000))) ∧ Below w.heap.size w w' := by
  obtain ⟨key, seq, gone, till, vl⟩ := e
  unfold entA
  simp only
  generalize key.length = kl
  generalize vl.length = ln
  go_enter Tryd.func25, Tryd.ntmps25
  go_wp2_with fail
  all_goals
    go_ret
    refine ⟨congrArg (fun b => Ending.returned (.bool b)) ?_, (Below.refl _ w).alloc (Nat.le_refl _) _⟩
    rw [Bool.eq_iff_iff]
    simp
    try omega
theorem RowF.kept {α : Type} {E : El α} {B : Nat} {G F : Nat → Prop} {w w' : World} {v : Value} {xs : List α} (h : RowF E B G w v xs) (hk : Kept F w w') (h1 : ∀ g, v.ownBlock = some g → ¬ F g) (h2 : ∀ b, G b → ¬ F b) : RowF E B G w' v xs := by
  obtain ⟨us, hown, g2, g3, g4⟩ := h
  refine ⟨us, ⟨hown.1, ?_⟩, g2.keep fun u hu b hr => hk.block b (g2.lt u hu b hr) (h2 b (g4 u hu b hr)), g3, g4⟩
  rcases hown.2 with q | ⟨g, cap, cur, q1, q2, q3, q4⟩
  · exact .inl q
  · exact .inr ⟨g, cap, cur, q1, q2, by rw [hk.block g (Array.getElem?_eq_some_iff.1 q3).1 (h1 g (by rw [q1]; rfl))]; exact q3, q4⟩
/-- A mem and the document's own row, side by side. -/
def FillS (D : PM) (w : World) (p : Nat) (n : Nat) (wx : World) (v : Value) : Prop :=
  ∃ F L, D.R wx p L F ∧ ordE L ∧ okE L ∧ L.length ≤ n ∧ RowF entE w.heap.size (fun b => b < w.heap.size) wx v L ∧ (∀ g, v.ownBlock = some g → ¬ F g) ∧ (∀ k, F k → w.heap.size ≤ k) ∧ Below w.heap.size w wx

theorem FillS.later {D : PM} {w : World} {p n : Nat} {wx wy : World} {v : Value} (h : FillS D w p n wx v) (hb : Below wx.heap.size wx wy) : FillS D w p n wy v := by
  obtain ⟨F, L, a1, a2, a3, a4, a5, a6, a7, a8⟩ := h
  exact ⟨F, L, PM.later a1 hb, a2, a3, a4, a5.later hb, a6, a7, a8.trans (hb.mono a8.size)⟩
theorem addE_bad {l : List EntV} {e : EntV} (h : mayE e = false) : addE l e = (1, l) := by unfold addE; rw [if_pos h]
theorem addE_has {l : List EntV} {e : EntV} (h : mayE e = true) (h2 : hasE l e = true) : addE l e = (6, l) := by unfold addE; rw [if_neg (by rw [h]; decide), if_pos h2]
theorem addE_put {l : List EntV} {e : EntV} (h : mayE e = true) (h2 : hasE l e = false) : addE l e = (0, putE l e) := by unfold addE; rw [if_neg (by rw [h]; decide), if_neg (by rw [h2]; decide)]

set_option maxHeartbeats 8000000 in
set_option maxRecDepth 100000 in
theorem filled_any (D : PM) {w : World} {ao : Option Addr} {len cap : Nat} {l : List EntV} (hG : D.G w) (h : RS entE w ao len cap l) :
    Calls Tryd.prog 9 #[.slice ao len cap] w fun r w' => ∃ p v, r = .returned (.tuple #[pm p, v, .bool true]) ∧ FillS D w p 80 w' v := by
  have HGD : Hid (∀ wx, Below w.heap.size w wx → D.G wx) := fun wx hb => D.gk hG hb
  have HS : Hid (RSG entE (fun b => b < w.heap.size) w ao len cap l) := RSG.any h
  have hln : l.length = len := h.len.1
  have hl63 : len ≤ 2 ^ 63 - 1 := by have := h.len.2; unfold maxLen at this; omega
  have hnew := D.new hG
  clear hG HGD
  clear h
  go_enter Tryd.func9, Tryd.ntmps9
  go_wp2_with fail
  refine hnew.mono ?_
  rintro e w1 ⟨p, F0, rfl, r0, hF0, b0⟩
  have H0 : Hid (FillS D w p 0 w1 (.slice none 0 0)) := ⟨F0, [], r0, ord_nil, ok_nil, Nat.le_refl _, RowF.nil _ _ _, (fun g hg => by cases hg), hF0, b0⟩
  clear hnew r0 hF0 b0
  have HPN : Hid (∀ v wx, (∃ n, n ≤ 80 ∧ FillS D w p n wx v) → FillS D w p 80 wx v) := fun v wx ⟨n, hn, F, L, a1, a2, a3, a4, a5⟩ => ⟨F, L, a1, a2, a3, by omega, a5⟩
  go_upto_block 0 with fail
  go_cut [6, 7, 8, 9, 10, 11, 15] from 16 to 53 (fun v _ _ _ _ _ _ wx => Hid (FillS D w p 80 wx v))
  case first =>
    go_wp2_with fail
    go_loopg [6, 7, 8, 9, 10, 11, 15] len (fun g v _ _ _ _ _ i wr => ∃ k : Nat, k + g = len ∧ i = .int .i64 (k : Int) ∧ Hid (k ≤ 80 ∧ FillS D w p k wr v))
    case atStart => exact ⟨0, by omega, rfl, Nat.zero_le _, H0⟩
    case round =>
      obtain ⟨k, hk, rfl, HK⟩ := hrel
      by_cases hkl : k < len
      · have hkl' : (k : Int) < (len : Int) := by omega
        have hkx : k < l.length := by omega
        obtain ⟨F, L, r1, o1, ok1, n1, row1, own1, hF, bel⟩ := HK.out.2
        obtain ⟨b, off, ka, kc, va, vc, rfl, e0, e1, e2, e3, e4, hem, sk, heg⟩ := RSG.ent HS.out (List.getElem?_eq_getElem hkx)
        have d0 := cell_later bel e0
        have d1 := cell_later bel e1
        have d2 := cell_later bel e2
        have d3 := cell_later bel e3
        have d4 := cell_later bel e4
        clear e0 e1 e2 e3 e4
        generalize l[k] = o at d0 d1 d2 d3 d4 hem sk heg
        obtain ⟨ra, rc, hv6, hrsg⟩ := row1.rsg
        subst hv6
        have hk62 : k ≤ 2 ^ 61 := by have := HK.out.1; omega
        obtain ⟨GK, HG⟩ : ∃ g, Hid (g < gk ∧ k + 1 + g = len) := ⟨gk - 1, by omega, by omega⟩
        obtain ⟨W1, hW1⟩ : ∃ W1, W1 = wr.alloc (.cells #[.slice ka o.key.length kc, .int .i64 o.seq, .bool o.gone, .int .i64 o.till, .slice va o.val.length vc] 28) := ⟨_, rfl⟩
        have b1 : Below wr.heap.size wr W1 := by rw [hW1]; exact (Below.refl _ _).alloc (Nat.le_refl _) _
        have hbx : ∀ wx, Below W1.heap.size W1 wx → _ := fun wx hb => box_cells wr (.slice ka o.key.length kc) (.int .i64 o.seq) (.bool o.gone) (.int .i64 o.till) (.slice va o.val.length vc) 28 (wx := wx) (by rw [← hW1]; exact hb)
        have HBX := hid hbx
        have HBr : Hid (∀ wx, Below W1.heap.size W1 wx → Below wr.heap.size wr wx) := fun wx hb => b1.trans (hb.mono b1.size)
        have HBw : Hid (∀ wx, Below W1.heap.size W1 wx → Below w.heap.size w wx) := fun wx hb => bel.trans ((b1.trans (hb.mono b1.size)).mono bel.size)
        have HRW : Hid (∀ wx, Below wr.heap.size wr wx → Below w.heap.size w wx) := fun wx hb => bel.trans (hb.mono bel.size)
        have HLG := hid (light9_any (w := W1) (ka := ka) (kc := kc) (va := va) (vc := vc) (e := o))
        have HM1 : Hid (∀ wx, Calls Tryd.prog 27 #[entA ka kc va vc o] wx fun r w' => r = .returned (.bool (mayE o)) ∧ Below wx.heap.size wx w') := fun wx => rmayE_any
        have HM2 : Hid (∀ wx, Below w.heap.size w wx → Calls Tryd.prog 29 #[entA ka kc va vc o] wx fun r w' => r = .returned (.bool (mayE o)) ∧ Below wx.heap.size wx w') := fun wx hb => D.may (El.later (E := entE) hem hb)
        have HPUT : Hid (∀ wx, Below wr.heap.size wr wx → Calls Tryd.prog 28 #[.slice ra L.length rc, entA ka kc va vc o] wx fun r w' => Below wx.heap.size wx w' ∧ ((hasE L o = true ∧ r = .returned (.tuple #[.slice ra L.length rc, .bool false])) ∨ (hasE L o = false ∧ ∃ v, r = .returned (.tuple #[v, .bool true]) ∧ RowF entE wx.heap.size (fun b => b < w.heap.size) w' v (putE L o)))) := fun wx hb => rputE_any (hrsg.later hb) (El.later (E := entE) hem (HRW.out _ hb)) (fun b hb' => Nat.lt_of_lt_of_le hb' (HRW.out _ hb).size) heg (by have := HK.out.1; omega) o1
        have HADD : Hid (o.key.length ≤ 3000 → o.val.length ≤ 3000 → ∀ wx, Below wr.heap.size wr wx → Calls Tryd.prog 23 #[pm p, entA ka kc va vc o] wx fun r w' => r = .returned (.int .i64 ((addE L o).1 : Nat)) ∧ ∃ F', D.R w' p (addE L o).2 F' ∧ Kept F wx w' ∧ ∀ k, F' k → F k ∨ wx.heap.size ≤ k) := fun g1 g2 wx hb => D.add (PM.later r1 hb) o1 ok1 (by have := HK.out.1; omega) (El.later (E := entE) hem (HRW.out _ hb)) (fun u hu b hr hb' => by have := heg u hu b hr; have := hF b hb'; omega) g1 g2
        have HR0 : Hid (∀ k, F k → k < wr.heap.size) := D.lt r1
        have HST0 : Hid (ordE L ∧ okE L ∧ L.length ≤ k ∧ RowF entE w.heap.size (fun b => b < w.heap.size) wr (.slice ra L.length rc) L ∧ (∀ g, (Value.slice ra L.length rc).ownBlock = some g → ¬ F g) ∧ (∀ k, F k → w.heap.size ≤ k) ∧ Below w.heap.size w wr) := ⟨o1, ok1, n1, row1, own1, hF, bel⟩
        have HFS : Hid (∀ wx, Below wr.heap.size wr wx → FillS D w p k wx (.slice ra L.length rc)) := fun wx hb => HK.out.2.later hb
        have HK8 := hid HK.out.1
        have HW1 := hid hW1
        unfold entA at HLG HM1 HM2 HPUT HADD
        clear r1 o1 ok1 n1 row1 own1 hF hrsg hem sk heg hbx hW1 hk HK bel b1
        by_cases h80 : 80 ≤ k
        · have h80' : (80 : Int) ≤ (k : Int) := by omega
          go_upto_region 6 with fail
          rw [← HW1.out]
          clear h80
          go_wp2_with fail
          go_meet
          exact HPN.out _ _ ⟨k, HK8.out, HFS.out _ (HBr.out _ (Below.refl _ _))⟩
        · have h80' : ¬ (80 : Int) ≤ (k : Int) := by omega
          have HK1 : Hid (k + 1 ≤ 80) := by show _ ≤ _; omega
          clear h80
          go_upto_region 6 with fail
          rw [← HW1.out]
          obtain ⟨y0, y1, y2, y3, y4⟩ := HBX.out _ (Below.refl _ _)
          go_wp2_with fail
          refine HLG.out.mono ?_
          rintro e w2 ⟨rfl, b2⟩
          clear y0 y1 y2 y3 y4 d0 d1 d2 d3 d4
          by_cases hlg : o.key.length ≤ 3000 ∧ o.val.length ≤ 3000
          · have hlg' : decide (o.key.length ≤ 3000 ∧ o.val.length ≤ 3000) = true := by simpa using hlg
            rw [hlg']
            have HADD := hid (HADD.out hlg.1 hlg.2)
            clear hlg hlg'
            obtain ⟨y0, y1, y2, y3, y4⟩ := HBX.out _ b2
            go_wp2_with fail
            refine (HM1.out _).mono ?_
            rintro e w3 ⟨rfl, b3⟩
            have cW := b2.trans (b3.mono b2.size)
            clear y0 y1 y2 y3 y4
            have cR := HBr.out _ cW
            cases hmy : mayE o with
            | false =>
              have ea := addE_bad (l := L) hmy
              rw [ea] at HADD
              obtain ⟨x0, x1, x2, x3, x4⟩ := HBX.out _ cW
              go_wp2_with fail
              refine (HM2.out _ (HBw.out _ cW)).mono ?_
              rintro e w5 ⟨rfl, b5⟩
              have cW5 := cW.trans (b5.mono cW.size)
              have cr5 := cR.trans (b5.mono cR.size)
              clear x0 x1 x2 x3 x4
              obtain ⟨x0, x1, x2, x3, x4⟩ := HBX.out _ cW5
              rw [hmy]
              go_wp2_with fail
              refine (HADD.out _ cr5).mono ?_
              rintro e w6 ⟨rfl, F', r6, k6, f6⟩
              have HST : Hid (FillS D w p (k + 1) w6 (.slice ra L.length rc)) := ⟨F', L, r6, HST0.out.1, HST0.out.2.1, by have := HST0.out.2.2.1; omega, (HST0.out.2.2.2.1.later cr5).kept k6 HST0.out.2.2.2.2.1 (fun b hb hFb => by have := HST0.out.2.2.2.2.2.1 b hFb; omega), (fun g hg hFg => by
                rcases f6 g hFg with q | q
                · exact HST0.out.2.2.2.2.1 g hg q
                · have := (HST0.out.2.2.2.1.own_lt hg).2; have := cr5.size; omega), (fun j hj => by
                rcases f6 j hj with q | q
                · exact HST0.out.2.2.2.2.2.1 j q
                · have := cr5.size; have := HST0.out.2.2.2.2.2.2.size; omega), (HRW.out _ cr5).trans (k6.below (HRW.out _ cr5).size HST0.out.2.2.2.2.2.1)⟩
              clear x0 x1 x2 x3 x4
              go_wp2_with fail
              go_roundg GK
              case measure => exact HG.out.1
              case rel => exact ⟨k + 1, HG.out.2, by go_num, HK1.out, HST.out⟩
            | true =>
              obtain ⟨y0, y1, y2, y3, y4⟩ := HBX.out _ cW
              go_wp2_with fail
              refine (HPUT.out _ cR).mono ?_
              rintro e w4 ⟨b4, ⟨hhs, rfl⟩ | ⟨hhs, v', rfl, row'⟩⟩
              · have cW0 := cW
                have cR0 := cR
                clear y0 y1 y2 y3 y4
                replace cW := cW0.trans (b4.mono cW0.size)
                replace cR := cR0.trans (b4.mono cR0.size)
                have ea := addE_has hmy hhs
                rw [ea] at HADD
                obtain ⟨x0, x1, x2, x3, x4⟩ := HBX.out _ cW
                go_wp2_with fail
                refine (HM2.out _ (HBw.out _ cW)).mono ?_
                rintro e w5 ⟨rfl, b5⟩
                have cW5 := cW.trans (b5.mono cW.size)
                have cr5 := cR.trans (b5.mono cR.size)
                clear x0 x1 x2 x3 x4
                obtain ⟨x0, x1, x2, x3, x4⟩ := HBX.out _ cW5
                rw [hmy]
                go_wp2_with fail
                refine (HADD.out _ cr5).mono ?_
                rintro e w6 ⟨rfl, F', r6, k6, f6⟩
                have HST : Hid (FillS D w p (k + 1) w6 (.slice ra L.length rc)) := ⟨F', L, r6, HST0.out.1, HST0.out.2.1, by have := HST0.out.2.2.1; omega, (HST0.out.2.2.2.1.later cr5).kept k6 HST0.out.2.2.2.2.1 (fun b hb hFb => by have := HST0.out.2.2.2.2.2.1 b hFb; omega), (fun g hg hFg => by
                  rcases f6 g hFg with q | q
                  · exact HST0.out.2.2.2.2.1 g hg q
                  · have := (HST0.out.2.2.2.1.own_lt hg).2; have := cr5.size; omega), (fun j hj => by
                  rcases f6 j hj with q | q
                  · exact HST0.out.2.2.2.2.2.1 j q
                  · have := cr5.size; have := HST0.out.2.2.2.2.2.2.size; omega), (HRW.out _ cr5).trans (k6.below (HRW.out _ cr5).size HST0.out.2.2.2.2.2.1)⟩
                clear x0 x1 x2 x3 x4
                go_wp2_with fail
                go_roundg GK
                case measure => exact HG.out.1
                case rel => exact ⟨k + 1, HG.out.2, by go_num, HK1.out, HST.out⟩
              · have cW0 := cW
                have cR0 := cR
                clear y0 y1 y2 y3 y4
                replace cW := cW0.trans (b4.mono cW0.size)
                replace cR := cR0.trans (b4.mono cR0.size)
                have ea := addE_put hmy hhs
                rw [ea] at HADD
                have HROW := hid row'
                have HC0 := hid cR0.size
                obtain ⟨x0, x1, x2, x3, x4⟩ := HBX.out _ cW
                go_wp2_with fail
                refine (HM2.out _ (HBw.out _ cW)).mono ?_
                rintro e w5 ⟨rfl, b5⟩
                have cW5 := cW.trans (b5.mono cW.size)
                have cr5 := cR.trans (b5.mono cR.size)
                clear x0 x1 x2 x3 x4
                obtain ⟨x0, x1, x2, x3, x4⟩ := HBX.out _ cW5
                rw [hmy]
                go_wp2_with fail
                refine (HADD.out _ cr5).mono ?_
                rintro e w6 ⟨rfl, F', r6, k6, f6⟩
                have hown : ∀ g, v'.ownBlock = some g → wr.heap.size ≤ g ∧ g < w5.heap.size := fun g hg => by
                  have q1 := HROW.out.own_lt hg
                  have q2 := HC0.out
                  have q3 := b5.size
                  omega
                have HST : Hid (FillS D w p (k + 1) w6 v') := ⟨F', putE L o, r6, putE_ord HST0.out.1 hhs, by have := addE_ok HST0.out.2.1 o; rw [ea] at this; exact this, by rw [putE_len]; have := HST0.out.2.2.1; omega, ((HROW.out.later b5).base (Nat.le_trans HST0.out.2.2.2.2.2.2.size HC0.out)).kept k6 (fun g hg hFg => by have := hown g hg; have := HR0.out g hFg; omega) (fun b hb hFb => by have := HST0.out.2.2.2.2.2.1 b hFb; omega), (fun g hg hFg => by
                  have := hown g hg
                  rcases f6 g hFg with q | q
                  · have := HR0.out g q; omega
                  · omega), (fun j hj => by
                  rcases f6 j hj with q | q
                  · exact HST0.out.2.2.2.2.2.1 j q
                  · have := cr5.size; have := HST0.out.2.2.2.2.2.2.size; omega), (HRW.out _ cr5).trans (k6.below (HRW.out _ cr5).size HST0.out.2.2.2.2.2.1)⟩
                clear x0 x1 x2 x3 x4
                go_wp2_with fail
                go_roundg GK
                case measure => exact HG.out.1
                case rel => exact ⟨k + 1, HG.out.2, by go_num, HK1.out, HST.out⟩
          · have hlg' : decide (o.key.length ≤ 3000 ∧ o.val.length ≤ 3000) = false := by rw [decide_eq_false_iff_not]; exact hlg
            rw [hlg']
            clear hlg hlg'
            go_wp2_with fail
            go_meet
            exact HPN.out _ _ ⟨k, HK8.out, HFS.out _ (HBr.out _ b2)⟩
      · have hkl' : (len : Int) ≤ (k : Int) := by omega
        clear hk hkl
        go_wp2_with fail
        go_meet
        exact HPN.out _ _ ⟨k, HK.out.1, HK.out.2⟩
  case rest =>
    unfold pm
    go_wp2_with fail
    refine bodyPost_ret (v := .tuple #[pm p, u6, .bool true]) (by simp [results, Tryd.results9, go_sem, pm]) rfl ⟨p, u6, rfl, hcut⟩
end Go.Proofs.YtaefddnmldbgiaaDoor
