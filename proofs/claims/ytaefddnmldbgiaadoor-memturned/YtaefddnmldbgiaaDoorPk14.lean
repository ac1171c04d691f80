import Derived.SizedLaws
import Derived.ChangeSlices
import Derived.Carry
import Derived.Deep.Matrix
import Derived.Test.YtaefddnmldbgiaaDoorPk01
import Derived.Test.YtaefddnmldbgiaaDoorPk04
import Derived.Test.YtaefddnmldbgiaaDoorPk13
/- The laws on a mem beside the document's own row, of any mem. -/
namespace Go.Proofs.YtaefddnmldbgiaaDoor
open Go.RowKit
set_option linter.unusedVariables false
set_option linter.unusedSimpArgs false

theorem wts_take {l : List EntV} {k : Nat} (h : k < l.length) : wts (l.take (k + 1)) = wts (l.take k) + wtE l[k] := by
  rw [List.take_add_one, List.getElem?_eq_getElem h, wts_app]
  simp [wts]
theorem wts_le : ∀ {l : List EntV}, okE l → wts l ≤ 3000 * l.length
  | [], _ => Nat.le_refl _
  | e :: r, h => by
    have h1 := wts_le (l := r) fun x hx => h x (List.mem_cons_of_mem _ hx)
    have h2 := h e (List.mem_cons_self ..)
    unfold mayE at h2
    simp at h2
    rw [wts, List.length_cons]
    unfold wtE
    omega
theorem ok_take {l : List EntV} (h : okE l) (k : Nat) : okE (l.take k) := fun e he => h e (List.mem_of_mem_take he)
theorem mayE_len {e : EntV} (h : mayE e = true) : e.key.length ≤ 512 ∧ e.val.length ≤ 2048 := by
  unfold mayE at h
  simp at h
  omega

set_option maxHeartbeats 4000000 in
set_option maxRecDepth 100000 in
theorem adds_any (D : PM) (LL : PML D) {w : World} {ao : Option Addr} {len cap : Nat} {l : List EntV} (hG : D.G w) (h : RS entE w ao len cap l) :
    Calls Tryd.prog 3 #[.slice ao len cap] w fun r w' => r = .returned (.bool true) ∧ Below w.heap.size w w' := by
  have HGD : Hid (∀ wx, Below w.heap.size w wx → D.G wx) := fun wx hb => D.gk hG hb
  have hf := filled_any D hG h
  clear hG
  clear h
  go_enter Tryd.func3, Tryd.ntmps3
  go_wp2_with fail
  refine hf.mono ?_
  rintro e w1 ⟨p, v, rfl, F, L, r1, o1, k1, n1, row1, own1, hF, bel⟩
  obtain ⟨ra, rc, hv, hrs⟩ := row1.s.rs
  subst hv
  obtain ⟨n, hn⟩ : ∃ n, n = L.length := ⟨_, rfl⟩
  rw [← hn] at hrs ⊢
  have HS : Hid (RS entE w1 ra n rc L ∧ D.R w1 p L F ∧ ordE L ∧ okE L ∧ L.length ≤ 100 ∧ Below w.heap.size w w1) := ⟨hrs, r1, o1, k1, by omega, bel⟩
  have hn80 : n ≤ 80 := by omega
  have hn62 : n ≤ 2 ^ 62 := by omega
  have HN : Hid (n = L.length) := hn
  have H0 : Hid (Below w1.heap.size w1 w1) := Below.refl _ _
  have e0 : wts (L.take 0) = 0 := rfl
  clear hf r1 o1 k1 n1 row1 own1 hF bel hrs hn
  go_upto_block 0 with fail
  go_cut [6, 8, 19] from 20 to 27 (fun s _ _ wx => s = .int .i64 (wts L : Nat) ∧ Hid (Below w1.heap.size w1 wx))
  case first =>
    go_wp2_with fail
    go_loopg [6, 8, 19] n (fun g s _ i wr => ∃ k : Nat, k + g = n ∧ i = .int .i64 (k : Int) ∧ s = .int .i64 (wts (L.take k) : Nat) ∧ Hid (Below w1.heap.size w1 wr))
    case atStart => exact ⟨0, by omega, rfl, by rw [e0]; rfl, H0⟩
    case round =>
      obtain ⟨k, hk, rfl, rfl, HK⟩ := hrel
      by_cases hkl : k < n
      · have hkl' : (k : Int) < (n : Int) := by omega
        have hkx : k < L.length := by have := HN.out; omega
        have hwt := wts_take hkx
        have hle := wts_le (ok_take HS.out.2.2.2.1 (k + 1))
        have hlt : (L.take (k + 1)).length ≤ k + 1 := by rw [List.length_take]; omega
        have hml := mayE_len (HS.out.2.2.2.1 L[k] (List.getElem_mem hkx))
        obtain ⟨b, off, ka, kc, va, vc, rfl, d0, d1, d2, d3, d4, s1, s2, i1, i2⟩ := RS.ent (HS.out.1.later HK.out) (List.getElem?_eq_getElem hkx)
        generalize L[k] = o at d0 d1 d2 d3 d4 s1 s2 i1 i2 hwt hml
        have hW := fun C => rweight_any (w := wr.alloc C) (ka := ka) (kc := kc) (va := va) (vc := vc) (e := o) (by omega) (by omega)
        unfold entA at hW
        obtain ⟨W1, hW1⟩ : ∃ W1, W1 = wr.alloc (.cells #[.slice ka o.key.length kc, .int .i64 o.seq, .bool o.gone, .int .i64 o.till, .slice va o.val.length vc] 28) := ⟨_, rfl⟩
        have b1 : Below wr.heap.size wr W1 := by rw [hW1]; exact (Below.refl _ _).alloc (Nat.le_refl _) _
        have hW2 := hW (.cells #[.slice ka o.key.length kc, .int .i64 o.seq, .bool o.gone, .int .i64 o.till, .slice va o.val.length vc] 28)
        rw [← hW1] at hW2
        have HBX := hid (box_cells wr (.slice ka o.key.length kc) (.int .i64 o.seq) (.bool o.gone) (.int .i64 o.till) (.slice va o.val.length vc) 28 (wx := W1) (by rw [← hW1]; exact Below.refl _ _))
        have HB1 : Hid (Below w1.heap.size w1 W1) := HK.out.trans (b1.mono HK.out.size)
        obtain ⟨t0, ht0⟩ : ∃ t, t = wts (L.take k) := ⟨_, rfl⟩
        obtain ⟨t1, ht1⟩ : ∃ t, t = wtE o := ⟨_, rfl⟩
        rw [← ht0] at hwt ⊢
        rw [← ht1] at hwt hW2
        have ht62 : t0 ≤ 2 ^ 61 := by omega
        have ht63 : t1 ≤ 2 ^ 61 := by omega
        have HWT : Hid (wts (L.take (k + 1)) = t0 + t1) := hwt
        have hk62 : k ≤ 2 ^ 61 := by omega
        obtain ⟨GK, HG⟩ : ∃ g, Hid (g < gk ∧ k + 1 + g = n) := ⟨gk - 1, by omega, by omega⟩
        have HW1 := hid hW1
        clear hW hwt hle hlt hml s1 s2 i1 i2 ht0 ht1 hk b1 hW1
        go_upto_region 8 with fail
        rw [← HW1.out]
        obtain ⟨y0, y1, y2, y3, y4⟩ := HBX.out
        go_wp2_with fail
        refine hW2.mono ?_
        rintro e w5 ⟨rfl, b5⟩
        have HB5 : Hid (Below w1.heap.size w1 w5) := HB1.out.trans (b5.mono HB1.out.size)
        clear hW2 b5 y0 y1 y2 y3 y4 d0 d1 d2 d3 d4
        go_wp2_with fail
        go_roundg GK
        case measure => exact HG.out.1
        case rel => exact ⟨k + 1, HG.out.2, by go_num, by rw [HWT.out]; go_num, HB5⟩
      · have hkl' : (n : Int) ≤ (k : Int) := by omega
        have HE : Hid (L.take k = L) := List.take_of_length_le (by have := HN.out; omega)
        clear hk hkl
        go_wp2_with fail
        go_meet
        exact ⟨by rw [HE.out], HK⟩
  case rest =>
    obtain ⟨rfl, HK⟩ := hcut
    have hlen := D.len (PM.later HS.out.2.1 HK.out) HS.out.2.2.1 HS.out.2.2.2.1 HS.out.2.2.2.2.1
    have HWG : Hid (∀ wx, Below w1.heap.size w1 wx → Calls Tryd.prog 12 #[pm p] wx fun r w' => r = .returned (.int .i64 (wts L : Nat)) ∧ Below wx.heap.size wx w') := fun wx hb => D.weight (PM.later HS.out.2.1 hb) HS.out.2.2.1 HS.out.2.2.2.1 HS.out.2.2.2.2.1
    have HAL : Hid (∀ wx, Below w1.heap.size w1 wx → Calls Tryd.prog 14 #[pm p] wx fun r w' => ∃ v, r = .returned v ∧ RowF entE wx.heap.size (fun b => wx.heap.size ≤ b) w' v L ∧ Below wx.heap.size wx w') := fun wx hb => LL.all (PM.later HS.out.2.1 hb) HS.out.2.2.1 HS.out.2.2.2.1 HS.out.2.2.2.2.1
    rw [← HN.out] at hlen
    have hee : ((n : Int) == (n : Int)) = true := by simp
    have hww : ((wts L : Int) == (wts L : Int)) = true := by simp
    go_wp2_with fail
    refine hlen.mono ?_
    rintro e w2 ⟨rfl, b2⟩
    have c2 := HK.out.trans (b2.mono HK.out.size)
    clear hlen
    go_wp2_with fail
    refine (HWG.out _ c2).mono ?_
    rintro e w3 ⟨rfl, b3⟩
    have c3 := c2.trans (b3.mono c2.size)
    go_wp2_with fail
    refine (HAL.out _ c3).mono ?_
    rintro e w4 ⟨v4, rfl, row4, b4⟩
    have c4 := c3.trans (b4.mono c3.size)
    obtain ⟨a4, c4', hv4, rs4⟩ := row4.s.rs
    subst hv4
    rw [← HN.out] at rs4 ⊢
    have hsm := rsameE_eq rs4 (HS.out.1.later c4)
    go_wp2_with fail
    refine hsm.mono ?_
    rintro e w5 ⟨rfl, b5⟩
    have c5 := c4.trans (b5.mono c4.size)
    go_wp2_with fail
    refine (awake9_any D w5 (HGD.out _ (HS.out.2.2.2.2.2.trans (c5.mono HS.out.2.2.2.2.2.size)))).mono ?_
    rintro e w6 ⟨rfl, b6⟩
    have c6 := c5.trans (b6.mono c5.size)
    go_wp2_with fail
    exact bodyPost_ret (v := .bool true) (by simp [results, Tryd.results3, go_sem]) rfl ⟨rfl, HS.out.2.2.2.2.2.trans (c6.mono HS.out.2.2.2.2.2.size)⟩

set_option maxHeartbeats 4000000 in
set_option maxRecDepth 100000 in
theorem lists_any (D : PM) (LL : PML D) {w : World} {ao fa ta : Option Addr} {len cap fl fc tl tc : Nat} {l : List EntV} {fr ub : List Int} {s : Int} (hG : D.G w) (h : RS entE w ao len cap l) (hf : Sl w fa fl fc fr) (ht : Sl w ta tl tc ub) (hs : In64 s) :
    Calls Tryd.prog 5 #[.slice ao len cap, .slice fa fl fc, .slice ta tl tc, .int .i64 s] w fun r w' => r = .returned (.bool true) ∧ Below w.heap.size w w' := by
  have HGD : Hid (∀ wx, Below w.heap.size w wx → D.G wx) := fun wx hb => D.gk hG hb
  have hfl := filled_any D hG h
  clear hG
  have HF : Hid (Sl w fa fl fc fr ∧ Sl w ta tl tc ub ∧ In64 s) := ⟨hf, ht, hs⟩
  clear h hf ht hs
  go_enter Tryd.func5, Tryd.ntmps5
  go_wp2_with fail
  refine hfl.mono ?_
  rintro e w1 ⟨p, v, rfl, F, L, r1, o1, k1, n1, row1, own1, hF, bel⟩
  obtain ⟨ra, rc, hv, hrs⟩ := row1.rsg
  subst hv
  have HS : Hid (RSG entE (fun b => b < w.heap.size) w1 ra L.length rc L ∧ D.R w1 p L F ∧ ordE L ∧ okE L ∧ L.length ≤ 80 ∧ Below w.heap.size w w1) := ⟨hrs, r1, o1, k1, n1, bel⟩
  have hl1 := LL.list r1 o1 k1 (by omega) (HF.out.1.later bel) (HF.out.2.1.later bel)
  have HL2 : Hid (∀ wx, Below w1.heap.size w1 wx → Calls Tryd.prog 20 #[.slice ra L.length rc, .slice fa fl fc, .slice ta tl tc] wx fun r w' => ∃ v, r = .returned v ∧ RowF entE wx.heap.size (fun b => b < w.heap.size) w' v (listE L fr ub) ∧ Below wx.heap.size wx w') := fun wx hb => rlistE_any (HS.out.1.later hb) ((HF.out.1.later HS.out.2.2.2.2.2).later hb) ((HF.out.2.1.later HS.out.2.2.2.2.2).later hb) (fun b hb' => Nat.lt_of_lt_of_le hb' (Nat.le_trans HS.out.2.2.2.2.2.size hb.size)) (by have := HS.out.2.2.2.2.1; omega)
  have HL3 : Hid (∀ wx, Below w1.heap.size w1 wx → Calls Tryd.prog 21 #[pm p, .slice fa fl fc, .slice ta tl tc, .int .i64 s] wx fun r w' => ∃ v, r = .returned v ∧ RowF entE wx.heap.size (fun b => wx.heap.size ≤ b) w' v (latestE L fr ub s) ∧ Below wx.heap.size wx w') := fun wx hb => D.latest (PM.later HS.out.2.1 hb) HS.out.2.2.1 HS.out.2.2.2.1 (by have := HS.out.2.2.2.2.1; omega) ((HF.out.1.later HS.out.2.2.2.2.2).later hb) ((HF.out.2.1.later HS.out.2.2.2.2.2).later hb) HF.out.2.2
  have HL4 : Hid (∀ wx, Below w1.heap.size w1 wx → Calls Tryd.prog 22 #[.slice ra L.length rc, .slice fa fl fc, .slice ta tl tc, .int .i64 s] wx fun r w' => ∃ v, r = .returned v ∧ RowF entE wx.heap.size (fun b => b < w.heap.size) w' v (latestE L fr ub s) ∧ Below wx.heap.size wx w') := fun wx hb => rlatestE_any (HS.out.1.later hb) ((HF.out.1.later HS.out.2.2.2.2.2).later hb) ((HF.out.2.1.later HS.out.2.2.2.2.2).later hb) (fun b hb' => Nat.lt_of_lt_of_le hb' (Nat.le_trans HS.out.2.2.2.2.2.size hb.size)) (by have := HS.out.2.2.2.2.1; omega)
  generalize L.length = n at hl1 HL2 HL3 HL4 ⊢
  generalize listE L fr ub = L1 at hl1 HL2
  generalize latestE L fr ub s = L2 at HL3 HL4
  clear hfl r1 o1 k1 n1 row1 own1 hF bel hrs
  go_wp2_with fail
  refine hl1.mono ?_
  rintro e w2 ⟨v2, rfl, row2, c2⟩
  obtain ⟨a2, q2, hv2, rs2⟩ := row2.s.rs
  subst hv2
  clear hl1
  go_wp2_with fail
  refine (HL2.out _ c2).mono ?_
  rintro e w3 ⟨v3, rfl, row3, b3⟩
  obtain ⟨a3, q3, hv3, rs3⟩ := row3.s.rs
  subst hv3
  have c3 := c2.trans (b3.mono c2.size)
  have hs1 := rsameE_eq (rs2.later b3) rs3
  go_wp2_with fail
  refine hs1.mono ?_
  rintro e w4 ⟨rfl, b4⟩
  have c4 := c3.trans (b4.mono c3.size)
  clear hs1
  go_wp2_with fail
  refine (HL3.out _ c4).mono ?_
  rintro e w5 ⟨v5, rfl, row5, b5⟩
  obtain ⟨a5, q5, hv5, rs5⟩ := row5.s.rs
  subst hv5
  have c5 := c4.trans (b5.mono c4.size)
  go_wp2_with fail
  refine (HL4.out _ c5).mono ?_
  rintro e w6 ⟨v6, rfl, row6, b6⟩
  obtain ⟨a6, q6, hv6, rs6⟩ := row6.s.rs
  subst hv6
  have c6 := c5.trans (b6.mono c5.size)
  have hs2 := rsameE_eq (rs5.later b6) rs6
  go_wp2_with fail
  refine hs2.mono ?_
  rintro e w7 ⟨rfl, b7⟩
  have c7 := c6.trans (b7.mono c6.size)
  clear hs2
  go_wp2_with fail
  refine (awake9_any D w7 (HGD.out _ (HS.out.2.2.2.2.2.trans (c7.mono HS.out.2.2.2.2.2.size)))).mono ?_
  rintro e w8 ⟨rfl, b8⟩
  have c8 := c7.trans (b8.mono c7.size)
  go_wp2_with fail
  exact bodyPost_ret (v := .bool true) (by simp [results, Tryd.results5, go_sem]) rfl ⟨rfl, HS.out.2.2.2.2.2.trans (c8.mono HS.out.2.2.2.2.2.size)⟩
end Go.Proofs.YtaefddnmldbgiaaDoor

/- How a slice of bytes that came in is opened. -/
namespace Go.Proofs.YtaefddnmldbgiaaDoor
open Go.ChangeShapes Go.WideShapes Go.ChangeAt Go.RowKit

theorem cells5 : Tryd.prog.cellsOf 5 = 1 := by kernel_rfl
theorem bytes5 : Tryd.prog.bytesOf 5 = 1 := by kernel_rfl

theorem wf_u8 {n : Int} (h : (Lit.int .u8 n).wf = true) : 0 ≤ n ∧ n < 256 := by
  simp [Lit.wf, IntKind.min, IntKind.max, IntKind.bits, IntKind.signed] at h
  omega
theorem wf_u64 {n : Int} (h : (Lit.int .u64 n).wf = true) : 0 ≤ n ∧ n < 18446744073709551616 := by
  simp [Lit.wf, IntKind.min, IntKind.max, IntKind.bits, IntKind.signed] at h
  omega
theorem wf_i64 {n : Int} (h : (Lit.int .i64 n).wf = true) : -9223372036854775808 ≤ n ∧ n ≤ 9223372036854775807 := by
  simp [Lit.wf, IntKind.min, IntKind.max, IntKind.bits, IntKind.signed] at h
  omega

theorem open26 {H : Type} {enc : TypeId × Value → H} {W : World} {base : Nat} {v : Value} {d : DataW H} {ps : List MemPlace} (hv : Value.okWide Tryd.prog W .any base 26 v) (h : DataW.Trod enc Tryd.prog W 0 (fun _ => true) true 26 v d ps) :
    ∃ (ao : Option Addr) (len cap : Nat) (X : Nat → Nat), v = .slice ao len cap ∧ (ao = none → len = 0 ∧ cap = 0) ∧ len ≤ cap ∧ cap ≤ maxLen ∧ Byt W ao len X ∧ (cap = 0 ∨ ∃ e s, d = .slice e s ∧ e.length + s.length = cap) := by
  obtain ⟨a, len, cap, rfl⟩ := okWide_slice Tryd.underlying26 hv
  obtain ⟨fuel, hf⟩ := h
  rcases open_ints Tryd.underlying26 Tryd.underlying5 cells5 hf with ⟨hcs, _⟩ | ⟨x, l, cp, zs, hcs, _, hl, hm, hz, hd, hc, hwf⟩
  · simp [Value.cells] at hcs
    obtain ⟨rfl, rfl, rfl⟩ := hcs
    exact ⟨none, 0, 0, fun _ => 0, rfl, fun _ => ⟨rfl, rfl⟩, Nat.le_refl _, Nat.zero_le _, fun k hk => absurd hk (by omega), .inl rfl⟩
  · simp [Value.cells] at hcs
    obtain ⟨rfl, rfl, rfl⟩ := hcs
    simp only [if_true] at hz
    refine ⟨some x, len, cap, fun k => (zs.getD k 0).toNat, rfl, (fun e => by cases e), hl, hm, fun k hk => ?_, .inr ⟨_, _, (Prod.mk.inj hd).1, ?_⟩⟩
    · have hk' : k < zs.length := by omega
      have w1 := hwf _ (List.getElem_mem hk')
      have e : zs.getD k 0 = zs[k] := by simp [List.getElem?_eq_getElem hk']
      have hr : 0 ≤ zs[k] ∧ zs[k] < 256 := by
        exact wf_u8 w1
      have hcell := hc k hk'
      obtain ⟨b, off, spot⟩ := x
      have hspot : spot = none := by
        have h0 := hc 0 (by omega)
        simpa [Addr.add] using World.cell?_spot h0
      subst hspot
      rw [Addr.add_lit, e] at hcell
      show (zs.getD k 0).toNat < 256 ∧ ∃ b' off', some (⟨b, off, none⟩ : Addr) = some ⟨b', off', none⟩ ∧ W.cell? ⟨b', off' + k, none⟩ = some (.int .u8 ((zs.getD k 0).toNat : Int))
      rw [e]
      refine ⟨by omega, b, off, rfl, ?_⟩
      rw [hcell]
      congr 2
      omega
    · simp [lits]
      omega
end Go.Proofs.YtaefddnmldbgiaaDoor

/- How slices of bytes, and slices of slices of bytes, that came in are opened: as lists. -/
namespace Go.Proofs.YtaefddnmldbgiaaDoor
open Go.ChangeShapes Go.WideShapes Go.ChangeAt Go.RowKit Go.Deep
set_option linter.unusedVariables false

theorem cells26 : Tryd.prog.cellsOf 26 = 1 := by kernel_rfl
theorem sl_bs {w : World} {ao : Option Addr} {len cap : Nat} {X : Nat → Nat} (h1 : ao = none → len = 0 ∧ cap = 0) (h2 : len ≤ cap) (h3 : cap ≤ maxLen) (h4 : Byt w ao len X) : Sl w ao len cap (bs X len) := by
  refine ⟨bs_length X len, okb_bs h4, h1, h2, h3, fun k hk => ?_⟩
  have e : xof (bs X len) k = X k := by
    unfold xof
    rw [bs_getD X len k hk]
    exact Int.toNat_natCast _
  rw [e]
  exact h4 k hk
end Go.Proofs.YtaefddnmldbgiaaDoor
