import Derived.Deep.RegionHeldLaw
import Derived.Test.YteaicilehigjlaaPk07
import Derived.Test.YteaicilehigjlaaPk12
/- The document's own Edit: an edit as bytes. -/
namespace Go.Proofs.Yteaicilehigjlaa
open Go.RowKit
set_option linter.unusedVariables false
set_option linter.unusedSimpArgs false

theorem Mid.cells5 {W : World} {ob : Nat} {c0 c1 c2 c3 c4 : Value} {t : TypeId} {wx : World} {v : Value} {ys : List Int} (h : Mid W ob #[c0, c1, c2, c3, c4] t wx v ys) : wx.cell? ⟨ob, 0, none⟩ = some c0 ∧ wx.cell? ⟨ob, 1, none⟩ = some c1 ∧ wx.cell? ⟨ob, 2, none⟩ = some c2 ∧ wx.cell? ⟨ob, 3, none⟩ = some c3 ∧ wx.cell? ⟨ob, 4, none⟩ = some c4 :=
  ⟨by rw [cell_of h.blk]; rfl, by rw [cell_of h.blk]; rfl, by rw [cell_of h.blk]; rfl, by rw [cell_of h.blk]; rfl, by rw [cell_of h.blk]; rfl⟩
theorem wrapT {n : Int} (h0 : 0 ≤ n) (h : n ≤ 4611686018427387904) : IntKind.u64.wrap n = ((n.toNat : Nat) : Int) := by
  rw [IntKind.wrap_u64]
  omega
def edErr (e : EdV) : Int := if mayEd e = true then 0 else 1
set_option maxHeartbeats 8000000 in
set_option maxRecDepth 100000 in
theorem redit_any {w : World} {e : EdV} {aa ra : Option Addr} {ac rc : Nat} (h : EdM w e aa ac ra rc) :
    Calls Try.prog 13 #[edV e aa ac ra rc] w fun r w' => ∃ v, r = .returned (.tuple #[v, .int .i64 (edErr e)]) ∧ Row w.heap.size w' v (enEdV e) ∧ Below w.heap.size w w' := by
  have hbx := fun (wx : World) hb => box5 w (.int .i64 e.log) (.int .i64 e.next) (.int .i64 e.seq) (.slice aa e.add.length ac) (.slice ra e.rem.length rc) 30 (wx := wx) hb
  obtain ⟨W, hW⟩ : ∃ W, W = w.alloc (.cells #[.int .i64 e.log, .int .i64 e.next, .int .i64 e.seq, .slice aa e.add.length ac, .slice ra e.rem.length rc] 30) := ⟨_, rfl⟩
  have hWb : Below w.heap.size w W := by rw [hW]; exact (Below.refl _ w).alloc (Nat.le_refl _) _
  rw [← hW] at hbx
  have hmay := rmay_ed (h.later hWb)
  unfold edErr enEdV
  by_cases q : mayEd e = true
  · rw [if_pos q, if_pos q]
    rw [q] at hmay
    have hok := mayEd_ok q
    have hlen := enEd_len q
    have hA := mayAd_ok hok.2.2.2.1
    have hR := mayRm_ok hok.2.2.2.2
    have h4 := enLns_len hA.2.1
    have HM : Hid (EdM w e aa ac ra rc) := h
    obtain ⟨log, next, seq, add, rem⟩ := e
    unfold edV at hmay ⊢
    simp only at hbx hW hok hA hR hlen h4 hmay ⊢
    obtain ⟨na, hna⟩ : ∃ na, na = add.length := ⟨_, rfl⟩
    obtain ⟨nr, hnr⟩ : ∃ nr, nr = rem.length := ⟨_, rfl⟩
    have HNL := hidE (And.intro hna hnr)
    have HE : Hid (enEd ⟨log, next, seq, add, rem⟩ = uv log.toNat ++ (uv next.toNat ++ (uv seq.toNat ++ (uv na ++ (enLns add ++ (uv nr ++ enNs rem)))))) := by show _ = _; unfold enEd; rw [hna, hnr]
    rw [← hna] at hbx hW hA hmay h4 ⊢
    rw [← hnr] at hbx hW hR hmay ⊢
    have HBX := hidE hbx
    have HWB := hidE hWb
    have HW := hidE hW
    have HOK := hidE (And.intro hok (And.intro hA hR))
    obtain ⟨x0, x1, x2, x3, x4⟩ := hbx _ (Below.refl _ _)
    have hlg := hok.1
    have hnx := hok.2.1
    have hsq := hok.2.2.1
    have HU : Hid ((uv log.toNat).length ≤ 10 ∧ (uv next.toNat).length ≤ 10 ∧ (uv seq.toNat).length ≤ 10 ∧ (uv na).length ≤ 10 ∧ (uv nr).length ≤ 10 ∧ na ≤ 200 ∧ nr ≤ 200) := ⟨uv_len64 (by omega), uv_len64 (by omega), uv_len64 (by omega), uv_len64 (by omega), uv_len64 (by omega), hA.1, hR.1⟩
    have HLT : Hid (log.toNat < 18446744073709551616 ∧ next.toNat < 18446744073709551616 ∧ seq.toNat < 18446744073709551616 ∧ na < 18446744073709551616 ∧ nr < 18446744073709551616) := ⟨by omega, by omega, by omega, by omega, by omega⟩
    have HP1 : Hid (∀ wx, Below W.heap.size W wx → Calls Try.prog 25 #[.slice none 0 0, .int .u64 (IntKind.u64.wrap log)] wx fun e w' => ∃ v', e = .returned v' ∧ Row W.heap.size w' v' (uv log.toNat) ∧ Below W.heap.size W w') := fun wx hb => by
      rw [wrapT hlg.1 hlg.2]
      refine (rput_any W.heap.size (.slice none 0 0) [] log.toNat wx (Row.nil _ _) hb.size (by have := HU.out; simp; omega) HLT.out.1).mono ?_
      rintro e w' ⟨v', rfl, r, g, m⟩
      exact ⟨v', rfl, r, hb.trans (grown_below (Row.nil _ _) g hb.size)⟩
    have HP2 : Hid (∀ wx v, Row W.heap.size wx v (uv log.toNat) → Below W.heap.size W wx → Calls Try.prog 25 #[v, .int .u64 (IntKind.u64.wrap next)] wx fun e w' => ∃ v', e = .returned v' ∧ Row W.heap.size w' v' (uv log.toNat ++ uv next.toNat) ∧ Below W.heap.size W w') := fun wx v hr hb => by
      rw [wrapT hnx.1 hnx.2]
      refine (rput_any W.heap.size v _ next.toNat wx hr hb.size (by have := HU.out; omega) HLT.out.2.1).mono ?_
      rintro e w' ⟨v', rfl, r, g, m⟩
      exact ⟨v', rfl, r, hb.trans (grown_below hr g hb.size)⟩
    have HP3 : Hid (∀ wx v, Row W.heap.size wx v (uv log.toNat ++ uv next.toNat) → Below W.heap.size W wx → Calls Try.prog 25 #[v, .int .u64 (IntKind.u64.wrap seq)] wx fun e w' => ∃ v', e = .returned v' ∧ Row W.heap.size w' v' (uv log.toNat ++ uv next.toNat ++ uv seq.toNat) ∧ Below W.heap.size W w') := fun wx v hr hb => by
      rw [wrapT hsq.1 hsq.2]
      refine (rput_any W.heap.size v _ seq.toNat wx hr hb.size (by have := HU.out; simp only [List.length_append]; omega) HLT.out.2.2.1).mono ?_
      rintro e w' ⟨v', rfl, r, g, m⟩
      exact ⟨v', rfl, r, hb.trans (grown_below hr g hb.size)⟩
    have HP4 : Hid (∀ wx v, Row W.heap.size wx v (uv log.toNat ++ uv next.toNat ++ uv seq.toNat) → Below W.heap.size W wx → Calls Try.prog 25 #[v, .int .u64 (IntKind.u64.wrap (na : Int))] wx fun e w' => ∃ v', e = .returned v' ∧ Row W.heap.size w' v' (uv log.toNat ++ uv next.toNat ++ uv seq.toNat ++ uv na) ∧ Below W.heap.size W w') := fun wx v hr hb => by
      rw [wrap64u HLT.out.2.2.2.1]
      refine (rput_any W.heap.size v _ na wx hr hb.size (by have := HU.out; simp only [List.length_append]; omega) HLT.out.2.2.2.1).mono ?_
      rintro e w' ⟨v', rfl, r, g, m⟩
      exact ⟨v', rfl, r, hb.trans (grown_below hr g hb.size)⟩
    obtain ⟨HD, hHD⟩ : ∃ x, x = uv log.toNat ++ uv next.toNat ++ uv seq.toNat ++ uv na := ⟨_, rfl⟩
    have HHD : Hid (HD.length ≤ 40 ∧ HD = uv log.toNat ++ uv next.toNat ++ uv seq.toNat ++ uv na) := ⟨by rw [hHD]; have := HU.out; simp only [List.length_append]; omega, hHD⟩
    rw [← hHD] at HP4
    have hna62 : na ≤ 2 ^ 61 := by omega
    have hnr62 : nr ≤ 2 ^ 61 := by omega
    rw [hW] at x0 x1 x2 x3 x4 hmay
    clear h hok hA hR hlen h4 hna hnr hbx hWb hlg hnx hsq q hHD
    go_enter Try.func13, Try.ntmps13
    go_wp2_with (go_at_call 15; refine hmay.mono ?_; rintro e w2 ⟨rfl, hb2⟩)
    rw [← hW] at hb2
    clear hmay x0 x1 x2 x3 x4 hW
    obtain ⟨z0, z1, z2, z3, z4⟩ := HBX.out _ hb2
    have HB2 := hidE hb2
    clear hb2
    go_region_held_law (fun w' => w'.cell? ⟨w.heap.size, 0, none⟩ = some (.int .i64 log) ∧ w'.cell? ⟨w.heap.size, 1, none⟩ = some (.int .i64 next) ∧ w'.cell? ⟨w.heap.size, 2, none⟩ = some (.int .i64 seq) ∧ w'.cell? ⟨w.heap.size, 3, none⟩ = some (.slice aa na ac) ∧ w'.cell? ⟨w.heap.size, 4, none⟩ = some (.slice ra nr rc)) (first | exact ⟨z0, z1, z2, z3, z4⟩ | exact HBX.out _ b3 | exact HBX.out _ b4 | exact HBX.out _ b5 | exact HBX.out _ b6) (first | (go_at_call 25; refine (HP4.out _ _ r5 b5).mono ?_; rintro e w6 ⟨v6, rfl, r6, b6⟩) | (go_at_call 25; refine (HP3.out _ _ r4 b4).mono ?_; rintro e w5 ⟨v5, rfl, r5, b5⟩) | (go_at_call 25; refine (HP2.out _ _ r3 b3).mono ?_; rintro e w4 ⟨v4, rfl, r4, b4⟩) | (go_at_call 25; refine (HP1.out _ (by exact HB2.out.drew)).mono ?_; rintro e w3 ⟨v3, rfl, r3, b3⟩))
    obtain ⟨y0, y1, y2, y3, y4⟩ := HBX.out _ b6
    have H0 : Hid (Row W.heap.size w6 v6 (HD ++ enLns (add.take 0)) ∧ Below W.heap.size W w6) := ⟨by show Row _ _ _ (HD ++ []); rw [List.append_nil]; exact r6, b6⟩
    clear z0 z1 z2 z3 z4 HP1 HP2 HP3 HP4 HB2 r3 b3 r4 b4 r5 b5 r6 b6
    go_wp2_with fail
    go_loopg [4, 32] na (fun g v i wr => ∃ k : Nat, k + g = na ∧ i = .int .i64 (k : Int) ∧ Hid (Row W.heap.size wr v (HD ++ enLns (add.take k)) ∧ Below W.heap.size W wr))
    case atStart => exact ⟨0, by omega, rfl, H0⟩
    case round =>
      obtain ⟨k, hk, rfl, HK⟩ := hrel
      by_cases hkl : k < na
      · have hkl' : (k : Int) < (na : Int) := by omega
        have hkx : k < add.length := by rw [← HNL.out.1]; exact hkl
        have hox := List.getElem?_eq_getElem hkx
        have hWx : Below w.heap.size w wr := HWB.out.trans (HK.out.2.mono HWB.out.size)
        obtain ⟨b, off, la, lc, ma, mc, haa, d0, d1, d2, d3, d4, -, -, -⟩ := RS.ln (HM.out.add.later hWx) hox
        obtain ⟨b', off', la', lc', ma', mc', e', d0', d1', d2', d3', d4', k1, k2, j1, j2, j3⟩ := RS.ln (HM.out.add.later HWB.out) hox
        rw [haa] at e'
        simp only [Option.some.injEq, Addr.mk.injEq, and_true] at e'
        obtain ⟨rfl, rfl⟩ := e'
        have hbW : b < W.heap.size := World.block_lt_of_cell? _ _ d0'
        have t3 := cell_below HK.out.2 hbW d3'
        have t4 := cell_below HK.out.2 hbW d4'
        rw [d3] at t3
        rw [d4] at t4
        simp only [Option.some.injEq, Value.slice.injEq, true_and] at t3 t4
        obtain ⟨rfl, rfl⟩ := t3
        obtain ⟨rfl, rfl⟩ := t4
        subst haa
        have hm1 := HOK.out.2.1.2.1 _ (List.getElem_mem hkx)
        have het := enLns_take hox
        have hlen1 := enLns_len (l := add.take k) (fun o ho => HOK.out.2.1.2.1 o (List.mem_of_mem_take ho))
        generalize add[k] = o at d0 d1 d2 d3 d4 k1 k2 hm1 het
        have hmo := mayLn_ok hm1
        obtain ⟨num, lvl, size, least, most⟩ := o
        simp only at d0 d1 d2 d3 d4 k1 k2 hmo
        clear d0' d1' d2' d3' d4' hbW hox
        obtain ⟨xs, hxs⟩ : ∃ xs, xs = HD ++ enLns (add.take k) := ⟨_, rfl⟩
        have hxl : xs.length ≤ 220040 := by
          rw [hxs, List.length_append]
          have := HHD.out.1
          have := HU.out
          rw [List.length_take] at hlen1
          have : min k add.length ≤ 200 := by omega
          omega
        have hrow : Row W.heap.size wr u4 xs := by rw [hxs]; exact HK.out.1
        have HE2 : Hid (HD ++ enLns (add.take (k + 1)) = xs ++ enLn ⟨num, lvl, size, least, most⟩) := by show _ = _; rw [het, hxs]; simp only [List.append_assoc]
        have HB : Hid (Below W.heap.size W wr ∧ xs.length ≤ 220040 ∧ Sl W la least.length lc least ∧ Sl W ma most.length mc most ∧ ((1 ≤ num ∧ num ≤ 1099511627776) ∧ (0 ≤ lvl ∧ lvl < 4) ∧ (1 ≤ size ∧ size ≤ 4194304) ∧ (1 ≤ least.length ∧ least.length ≤ 512) ∧ (1 ≤ most.length ∧ most.length ≤ 512))) := ⟨HK.out.2, hxl, k1, k2, hmo.1, hmo.2.1, hmo.2.2.1, hmo.2.2.2.1, hmo.2.2.2.2.1⟩
        have hk62 : k ≤ 2 ^ 61 := by omega
        obtain ⟨GK, HG⟩ : ∃ g, Hid (g < gk ∧ k + 1 + g = na) := ⟨gk - 1, by omega, by omega⟩
        have M0 : Hid (Mid W wr.heap.size #[.int .i64 num, .int .i64 lvl, .int .i64 size, .slice la least.length lc, .slice ma most.length mc] 24 (wr.alloc (.cells #[.int .i64 num, .int .i64 lvl, .int .i64 size, .slice la least.length lc, .slice ma most.length mc] 24)) u4 xs) :=
          ⟨hrow.later ((Below.refl _ wr).alloc (Nat.le_refl _) _), HK.out.2.alloc HK.out.2.size _, heap_alloc_new wr _, fun e => by have := (World.ownsRow.lt hrow _ e).2; omega⟩
        have HPN : Hid (∀ {wx : World} {v : Value} {ys : List Int} {C : Array Value} (n : Int), Mid W wr.heap.size C 24 wx v ys → ys.length ≤ 230000 → 0 ≤ n → n ≤ 1099511627776 → Calls Try.prog 25 #[v, .int .u64 (IntKind.u64.wrap n)] wx fun e w' => ∃ v', e = .returned v' ∧ Mid W wr.heap.size C 24 w' v' (ys ++ uv n.toNat)) := fun {wx v ys C} n hM hy h0 h1 => by
          rw [wrapT h0 (by omega)]
          refine (rput_any W.heap.size v ys n.toNat wx hM.row hM.bel.size (by have := uv_len64 (n := n.toNat) (by omega); omega) (by omega)).mono ?_
          rintro e w' ⟨v', rfl, r, g, m⟩
          exact ⟨v', rfl, hM.step g m r⟩
        have HPB : Hid (∀ {wx : World} {v : Value} {ys : List Int} {C : Array Value}, Mid W wr.heap.size C 24 wx v ys → ys.length ≤ 230000 → Calls Try.prog 26 #[v, .slice la least.length lc] wx fun e w' => ∃ v', e = .returned v' ∧ Mid W wr.heap.size C 24 w' v' (ys ++ lb least)) := fun {wx v ys C} hM hy => by
          refine (rpb_l hM.row (Nat.le_refl _) hM.bel hM.bel.size HB.out.2.2.1 (by have := HB.out; omega)).mono ?_
          rintro e w' ⟨v', rfl, r, g, m⟩
          exact ⟨v', rfl, hM.step g m r⟩
        have HPV : Hid (∀ {wx : World} {v : Value} {ys : List Int} {C : Array Value}, Mid W wr.heap.size C 24 wx v ys → ys.length ≤ 230000 → Calls Try.prog 26 #[v, .slice ma most.length mc] wx fun e w' => ∃ v', e = .returned v' ∧ Mid W wr.heap.size C 24 w' v' (ys ++ lb most)) := fun {wx v ys C} hM hy => by
          refine (rpb_l hM.row (Nat.le_refl _) hM.bel hM.bel.size HB.out.2.2.2.1 (by have := HB.out; omega)).mono ?_
          rintro e w' ⟨v', rfl, r, g, m⟩
          exact ⟨v', rfl, hM.step g m r⟩
        have HUL : Hid ((uv num.toNat).length ≤ 10 ∧ (uv lvl.toNat).length ≤ 10 ∧ (uv size.toNat).length ≤ 10 ∧ (lb least).length ≤ 522) := ⟨uv_len64 (by omega), uv_len64 (by omega), uv_len64 (by omega), by rw [lb_len]; have := uv_len64 (n := least.length) (by omega); omega⟩
        have HLL : Hid (∀ ys : List Int, ys.length ≤ 220040 → (ys ++ uv num.toNat).length ≤ 230000 ∧ (ys ++ uv num.toNat ++ uv lvl.toNat).length ≤ 230000 ∧ (ys ++ uv num.toNat ++ uv lvl.toNat ++ uv size.toNat).length ≤ 230000 ∧ (ys ++ uv num.toNat ++ uv lvl.toNat ++ uv size.toNat ++ lb least).length ≤ 230000) := fun ys hy => by
          have := HUL.out
          simp only [List.length_append]
          omega
        have HFR := hidE (M0.out.cells5)
        generalize least.length = nl at d3 HPB M0 HFR HB
        generalize most.length = nm at d4 HPV M0 HFR HB
        clear hk het hlen1 hm1 hmo k1 k2 hxl hxs HK hrow j1 j2 j3 hWx hkx
        go_wp2_with fail
        obtain ⟨p0, p1, p2, p3, p4⟩ := HFR.out
        clear d0 d1 d2 d3 d4 y0 y1 y2 y3 y4
        go_region_held_law (fun w' => w'.cell? ⟨wr.heap.size, 0, none⟩ = some (.int .i64 num) ∧ w'.cell? ⟨wr.heap.size, 1, none⟩ = some (.int .i64 lvl) ∧ w'.cell? ⟨wr.heap.size, 2, none⟩ = some (.int .i64 size) ∧ w'.cell? ⟨wr.heap.size, 3, none⟩ = some (.slice la nl lc) ∧ w'.cell? ⟨wr.heap.size, 4, none⟩ = some (.slice ma nm mc)) (first | exact ⟨p0, p1, p2, p3, p4⟩ | exact M1.cells5 | exact M2.cells5 | exact M3.cells5 | exact M4.cells5 | exact M5.cells5) (first | (go_at_call 26; refine (HPV.out M4 (HLL.out xs HB.out.2.1).2.2.2).mono ?_; rintro e w9 ⟨v9, rfl, M5⟩) | (go_at_call 26; refine (HPB.out M3 (HLL.out xs HB.out.2.1).2.2.1).mono ?_; rintro e w8 ⟨v8, rfl, M4⟩) | (go_at_call 25; refine (HPN.out size M2 (HLL.out xs HB.out.2.1).2.1 (by have := HB.out; omega) (by have := HB.out; omega)).mono ?_; rintro e w7 ⟨v7, rfl, M3⟩) | (go_at_call 25; refine (HPN.out lvl M1 (HLL.out xs HB.out.2.1).1 (by have := HB.out; omega) (by have := HB.out; omega)).mono ?_; rintro e w6 ⟨v6', rfl, M2⟩) | (go_at_call 25; refine (HPN.out num M0.out.drew (by have := HB.out; omega) (by have := HB.out; omega) (by have := HB.out; omega)).mono ?_; rintro e w5 ⟨v5', rfl, M1⟩))
        have HF : Hid (Row W.heap.size w9 v9 (HD ++ enLns (add.take (k + 1))) ∧ Below W.heap.size W w9) := by
          refine ⟨?_, M5.bel⟩
          rw [HE2.out]
          have := M5.row
          unfold enLn
          simpa only [List.append_assoc] using this
        obtain ⟨y0, y1, y2, y3, y4⟩ := HBX.out _ HF.out.2
        clear M1 M2 M3 M4 M5 p0 p1 p2 p3 p4
        go_wp2_with fail
        go_roundg GK
        case measure => exact HG.out.1
        case rel => exact ⟨k + 1, HG.out.2, by go_num, HF.out⟩
      · have hkl' : (na : Int) ≤ (k : Int) := by omega
        have hd1 : decide (k < na) = false := decide_eq_false (by omega)
        have hd2 : decide ((k : Int) < (na : Int)) = false := decide_eq_false (by omega)
        have HR0 : Hid (Row W.heap.size wr u4 (HD ++ enLns add) ∧ Below W.heap.size W wr) := by
          have := HK.out
          rw [List.take_of_length_le (by rw [← HNL.out.1]; omega)] at this
          exact this
        have HLN : Hid ((HD ++ enLns add).length ≤ 220040) := by
          show _ ≤ _
          rw [List.length_append]
          have := HHD.out.1
          have := enLns_len HOK.out.2.1.2.1
          have := HOK.out.2.1.1
          have h9 := HNL.out.1
          omega
        have hP := rput_any W.heap.size u4 (HD ++ enLns add) nr wr HR0.out.1 HR0.out.2.size (by have := HLN.out; have := HU.out; omega) HLT.out.2.2.2.2
        rw [← wrap64u HLT.out.2.2.2.2] at hP
        obtain ⟨z0, z1, z2, z3, z4⟩ := HBX.out _ HR0.out.2
        have hw9 : IntKind.u64.wrap (nr : Int) = (nr : Int) := wrap64u HLT.out.2.2.2.2
        rw [hw9] at hP
        clear hk hkl HK y0 y1 y2 y3 y4
        go_upto_region 10 with (go_at_call 25; refine hP.mono ?_; rintro e w3 ⟨v3, rfl, r3, g3, m3⟩)
        have B3 := HR0.out.2.trans (grown_below HR0.out.1 g3 HR0.out.2.size)
        obtain ⟨y0, y1, y2, y3, y4⟩ := HBX.out _ B3
        have HXL : Hid ((HD ++ enLns add ++ uv nr).length ≤ 220060) := by show _ ≤ _; rw [List.length_append]; have := HLN.out; have := HU.out; omega
        have H1 : Hid (Row W.heap.size w3 v3 (HD ++ enLns add ++ uv nr ++ enNs (rem.take 0)) ∧ Below W.heap.size W w3) := ⟨by show Row _ _ _ (HD ++ enLns add ++ uv nr ++ []); rw [List.append_nil]; exact r3, B3⟩
        obtain ⟨HX, hHX⟩ : ∃ x, x = HD ++ enLns add ++ uv nr := ⟨_, rfl⟩
        have HHX := hidE hHX
        rw [← hHX] at H1 HXL
        clear hP r3 g3 m3 B3 z0 z1 z2 z3 z4 hHX
        go_wp2_with fail
        go_loopg [4, 8, 65] nr (fun g v _ i wr => ∃ k : Nat, k + g = nr ∧ i = .int .i64 (k : Int) ∧ Hid (Row W.heap.size wr v (HX ++ enNs (rem.take k)) ∧ Below W.heap.size W wr))
        case atStart => exact ⟨0, by omega, rfl, H1⟩
        case round =>
          obtain ⟨k, hk, rfl, HK⟩ := hrel
          by_cases hkl : k < nr
          · have hkl' : (k : Int) < (nr : Int) := by omega
            have hkx : k < rem.length := by rw [← HNL.out.2]; exact hkl
            have hox := List.getElem?_eq_getElem hkx
            have hWx : Below w.heap.size w wr := HWB.out.trans (HK.out.2.mono HWB.out.size)
            obtain ⟨b, off, hra, d0, j1⟩ := RS.i64 (HM.out.rem.later hWx) hox
            subst hra
            have hm1 := mayNo_ok (HOK.out.2.2.2.1 _ (List.getElem_mem hkx))
            have het := enNs_take hox
            have hlen1 := enNs_len (l := rem.take k) (fun o ho => HOK.out.2.2.2.1 o (List.mem_of_mem_take ho))
            generalize rem[k] = x at d0 hm1 het
            have hxl : (HX ++ enNs (rem.take k)).length ≤ 230000 := by
              rw [List.length_append]
              have := HXL.out
              have := HU.out
              rw [List.length_take] at hlen1
              have : min k rem.length ≤ 200 := by omega
              omega
            have hP := rput_any W.heap.size u4 (HX ++ enNs (rem.take k)) x.toNat wr HK.out.1 HK.out.2.size (by have := uv_len64 (n := x.toNat) (by omega); omega) (by omega)
            rw [← wrapT (by omega : 0 ≤ x) (by omega)] at hP
            have HT : Hid (HX ++ enNs (rem.take (k + 1)) = HX ++ enNs (rem.take k) ++ uv x.toNat) := by show _ = _; rw [het, List.append_assoc]
            have HKK := hidE HK.out
            have hk62 : k ≤ 2 ^ 61 := by omega
            obtain ⟨GK, HG⟩ : ∃ g, Hid (g < gk ∧ k + 1 + g = nr) := ⟨gk - 1, by omega, by omega⟩
            clear hk HK hox hWx het hlen1 hxl hm1 j1
            go_wp2_with (go_at_call 25; refine hP.mono ?_; rintro e w3 ⟨v3, rfl, r3, g3, m3⟩)
            have HF : Hid (Row W.heap.size w3 v3 (HX ++ enNs (rem.take (k + 1))) ∧ Below W.heap.size W w3) := ⟨by rw [HT.out]; exact r3, HKK.out.2.trans (grown_below HKK.out.1 g3 HKK.out.2.size)⟩
            go_roundg GK
            case measure => exact HG.out.1
            case rel => exact ⟨k + 1, HG.out.2, by go_num, HF.out⟩
          · have hkl' : (nr : Int) ≤ (k : Int) := by omega
            have HF : Hid (Row w.heap.size wr u4 (enEd ⟨log, next, seq, add, rem⟩) ∧ Below w.heap.size w wr) := by
              have := HK.out
              rw [List.take_of_length_le (by rw [← HNL.out.2]; omega)] at this
              refine ⟨?_, HWB.out.trans (this.2.mono HWB.out.size)⟩
              have h1 := this.1.base HWB.out.size
              rw [HE.out]
              rw [HHX.out, HHD.out.2] at h1
              simpa only [List.append_assoc] using h1
            clear hk hkl HK
            go_wp2_with fail
            exact bodyPost_ret (v := .tuple #[u4, .int .i64 0]) (by simp [results, Try.results13, go_sem]) rfl ⟨u4, rfl, HF.out⟩
  · rw [if_neg q, if_neg q]
    have q' : mayEd e = false := by simpa using q
    rw [q'] at hmay
    rw [hW] at hmay hWb
    unfold edV at hmay ⊢
    have HB : Hid _ := hWb
    generalize e.add.length = na at hmay HB ⊢
    generalize e.rem.length = nr at hmay HB ⊢
    clear h hbx hWb q q' hW
    go_enter Try.func13, Try.ntmps13
    go_wp2_with (go_at_call 15; refine hmay.mono ?_; rintro e w2 ⟨rfl, hb2⟩)
    exact bodyPost_ret (v := .tuple #[.slice none 0 0, .int .i64 1]) (by simp [results, Try.results13, go_sem]) rfl ⟨_, rfl, Row.nil _ _, HB.out.trans (hb2.mono HB.out.size)⟩
end Go.Proofs.Yteaicilehigjlaa

/- What the landed batch's May answers. -/
namespace Go.Proofs.Yteaicilehigjlaa
open Go.RowKit
set_option linter.unusedVariables false
set_option linter.unusedSimpArgs false

/-- What is wrong with a batch's numbers: 0: nothing. -/
def mayN (s : Int) (n : Nat) : Nat := if n < 1 ∨ 400 < n then 13 else if s < 1 ∨ 4611686018427387904 - ((n : Int) - 1) < s then 1 else 0
theorem mayB_n (s : Int) (os : List OpV) : mayB s os = if mayN s os.length ≠ 0 then mayN s os.length else mayO os := by
  unfold mayB mayN
  split
  · simp
  · split <;> simp

end Go.Proofs.Yteaicilehigjlaa

/- What the landed batch's Encode answers. -/
namespace Go.Proofs.Yteaicilehigjlaa
open Go.RowKit
set_option linter.unusedVariables false
set_option linter.unusedSimpArgs false

/-- vint's Put and PutBytes of nothing. -/
theorem vput_nil {w : World} {n : Nat} (hn : n < 18446744073709551616) : Calls Try.prog 39 #[.slice none 0 0, .int .u64 (n : Int)] w fun e w' => ∃ v', e = .returned v' ∧ Row w.heap.size w' v' (uv n) ∧ Below w.heap.size w w' :=
  put_any none 0 0 n (xof []) w (fun k hk => by cases hk) (fun _ => ⟨rfl, rfl⟩) (by omega) hn
theorem vpby_nil {w : World} {so : Option Addr} {ls cs : Nat} {rs : List Int} (h : Sl w so ls cs rs) (hl : ls ≤ 140737488351232) : Calls Try.prog 40 #[.slice none 0 0, .slice so ls cs] w fun e w' => ∃ v', e = .returned v' ∧ Row w.heap.size w' v' (lb rs) ∧ Below w.heap.size w w' := by
  refine (pby_any none so 0 0 ls cs (xof []) (xof rs) w (fun k hk => by cases hk) (fun _ => ⟨rfl, rfl⟩) h.2.2.2.2.2 h.2.2.1 (by omega)).mono ?_
  rintro e w' ⟨v', rfl, h1, h2⟩
  rw [← h.1, bs_xof h.2.1] at h1
  exact ⟨v', rfl, h1, h2⟩
/-- Bytes behind a row of one's own, as a step of a region that draws. -/
theorem step_appl {ops : Array Oper} {w : World} {o : Oper} {a : Act} {K : Act → World → Prop} {Q : Exit → Act → World → Prop} {E : Prop} {B : Nat} {v : Value} {xs ys : List Int} {ao : Option Addr} {m c : Nat} (hgd : o.guard = none) (s x : Operand)
    (ho : o.op = .call { callee := .builtin .append, args := #[s, x], argTypes := #[22, 22] }) (hs : a.eval s = v) (hrow : Row B w v xs) (hx : a.eval x = .slice ao m c) (hsl : Sl w ao m c ys) (hb : xs.length + m ≤ 140737488355328) (hB : B ≤ w.heap.size)
    (h : ∀ v' w', Row B w' v' (xs ++ ys) → w.grownBy w' v.ownBlock → Moved w v v' → K (a.put o.dst v') w') :
    if Region.wanted o (yielded ops a.tmps) = true then Oper.wp Try.prog o a w K Q else E := by
  have hw : Region.wanted o (yielded ops a.tmps) = true := by simp [Region.wanted, hgd]
  rw [if_pos hw]
  obtain ⟨v', w', hr, h2, h3, h4⟩ := run_app B w o.type v xs hrow ao m c (xof ys) hsl.2.2.1 hsl.2.2.2.2.2 hb hB
  rw [← hsl.1, bs_xof hsl.2.1] at h2
  unfold Oper.wp execOp
  simp only [ho, resolve, invoke, builtin, Sem.run_bind, Sem.run_pure, Result.andThen_ok, List.map_toArray, List.map_cons, List.map_nil, hs, hx, hr]
  exact h _ _ h2 h3 h4
theorem wpList_appl {w : World} {ops : Array Oper} {rest : List Oper} {o : Oper} {a : Act} {Q : Exit → Act → World → Prop} {B : Nat} {v : Value} {xs ys : List Int} {ao : Option Addr} {m c : Nat} (hgd : o.guard = none) (s x : Operand)
    (ho : o.op = .call { callee := .builtin .append, args := #[s, x], argTypes := #[22, 22] }) (hs : a.eval s = v) (hrow : Row B w v xs) (hx : a.eval x = .slice ao m c) (hsl : Sl w ao m c ys) (hb : xs.length + m ≤ 140737488355328) (hB : B ≤ w.heap.size)
    (h : ∀ v' w', Row B w' v' (xs ++ ys) → w.grownBy w' v.ownBlock → Moved w v v' → wpList Try.prog ops Q rest (a.put o.dst v') w') : wpList Try.prog ops Q (o :: rest) a w :=
  wpList_plain hgd fun K hK => by
    obtain ⟨v', w', hr, h2, h3, h4⟩ := run_app B w o.type v xs hrow ao m c (xof ys) hsl.2.2.1 hsl.2.2.2.2.2 hb hB
    rw [← hsl.1, bs_xof hsl.2.1] at h2
    unfold Oper.wp execOp
    simp only [ho, resolve, invoke, builtin, Sem.run_bind, Sem.run_pure, Result.andThen_ok, List.map_toArray, List.map_cons, List.map_nil, hs, hx, hr]
    exact hK _ _ (h v' w' h2 h3 h4)
theorem Mid.later {W : World} {ob : Nat} {C : Array Value} {t : TypeId} {wx wy : World} {v : Value} {ys : List Int} (h : Mid W ob C t wx v ys) (hb : Below wx.heap.size wx wy) : Mid W ob C t wy v ys :=
  ⟨h.row.later hb, h.bel.trans (hb.mono h.bel.size), (hb.block ob (Array.getElem?_eq_some_iff.1 h.blk).1).trans h.blk, h.ne⟩

end Go.Proofs.Yteaicilehigjlaa
