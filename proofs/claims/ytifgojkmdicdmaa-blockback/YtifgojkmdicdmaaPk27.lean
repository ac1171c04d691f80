import Derived.Deep.RegionHeldLaw
import Derived.Test.YtifgojkmdicdmaaPk13
import Derived.Test.YtifgojkmdicdmaaPk16
import Derived.Test.YtifgojkmdicdmaaPk17
import Derived.Test.YtifgojkmdicdmaaPk22
/- The laws on blocks: the law's own sorted row. -/
namespace Go.Proofs.Ytifgojkmdicdmaa
open Go.RowKit
set_option linter.unusedVariables false
set_option linter.unusedSimpArgs false

/-- Entries in order that may be, at most so many. -/
def SrS (w : World) (n : Nat) (wx : World) (v : Value) (L : List EntV) : Prop :=
  RowF entE w.heap.size (fun b => b < w.heap.size) wx v L ∧ ordE L ∧ (∀ e ∈ L, mayE e = true) ∧ L.length ≤ n ∧ Below w.heap.size w wx
theorem SrS.later {w : World} {n : Nat} {wx wy : World} {v : Value} {L : List EntV} (h : SrS w n wx v L) (hb : Below wx.heap.size wx wy) : SrS w n wy v L :=
  ⟨h.1.later hb, h.2.1, h.2.2.1, h.2.2.2.1, h.2.2.2.2.trans (hb.mono h.2.2.2.2.size)⟩

set_option maxHeartbeats 2000000 in
set_option maxRecDepth 100000 in
theorem sorted11_any {w : World} {ao : Option Addr} {len cap : Nat} {l : List EntV} (h : RS entE w ao len cap l) :
    Calls Try.prog 17 #[.slice ao len cap] w fun r w' => ∃ v, r = .returned v ∧ ∃ L, SrS w 60 w' v L := by
  have HS : Hid (RSG entE (fun b => b < w.heap.size) w ao len cap l) := RSG.any h
  have hln : l.length = len := h.len.1
  have hl63 : len ≤ 2 ^ 63 - 1 := by have := h.len.2; unfold maxLen at this; omega
  have H0 : Hid (SrS w 60 w (.slice none 0 0) [] ∧ ([] : List EntV).length ≤ 0) := ⟨⟨RowF.nil _ _ _, ord_nil, (fun e he => by cases he), Nat.zero_le _, Below.refl _ _⟩, Nat.le_refl _⟩
  clear h
  go_enter Try.func17, Try.ntmps17
  go_wp2_with fail
  go_loopg [3, 4, 5, 8] len (fun g v _ _ i wr => ∃ (k : Nat) (L : List EntV), k + g = len ∧ i = .int .i64 (k : Int) ∧ Hid (SrS w 60 wr v L ∧ L.length ≤ k))
  case atStart => exact ⟨0, [], by omega, rfl, H0⟩
  case round =>
    obtain ⟨k, L, hk, rfl, HK⟩ := hrel
    by_cases hkl : k < len
    · have hkl' : (k : Int) < (len : Int) := by omega
      have hkx : k < l.length := by omega
      obtain ⟨row1, o1, m1, n1, bel⟩ := HK.out.1
      obtain ⟨b, off, ka, kc, va, vc, rfl, e0, e1, e2, e3, e4, hem, sk, heg⟩ := RSG.ent HS.out (List.getElem?_eq_getElem hkx)
      have d0 := cell_later bel e0
      have d1 := cell_later bel e1
      have d2 := cell_later bel e2
      have d3 := cell_later bel e3
      have d4 := cell_later bel e4
      clear e0 e1 e2 e3 e4
      generalize l[k] = o at d0 d1 d2 d3 d4 hem sk heg
      obtain ⟨ra, rc, hv6, hrsg⟩ := row1.rsg
      subst hv6
      have hk63 : k ≤ 2 ^ 63 - 2 := by omega
      obtain ⟨GK, HG⟩ : ∃ g, Hid (g < gk ∧ k + 1 + g = len) := ⟨gk - 1, by omega, by omega⟩
      obtain ⟨W1, hW1⟩ : ∃ W1, W1 = wr.alloc (.cells #[.slice ka o.key.length kc, .int .i64 o.seq, .bool o.gone, .int .i64 o.till, .slice va o.val.length vc] 35) := ⟨_, rfl⟩
      have b1 : Below wr.heap.size wr W1 := by rw [hW1]; exact (Below.refl _ _).alloc (Nat.le_refl _) _
      have hbx : ∀ wx, Below W1.heap.size W1 wx → _ := fun wx hb => box_cells wr (.slice ka o.key.length kc) (.int .i64 o.seq) (.bool o.gone) (.int .i64 o.till) (.slice va o.val.length vc) 35 (wx := wx) (by rw [← hW1]; exact hb)
      have HBX := hid hbx
      have HBr : Hid (∀ wx, Below W1.heap.size W1 wx → Below wr.heap.size wr wx) := fun wx hb => b1.trans (hb.mono b1.size)
      have HRW : Hid (∀ wx, Below wr.heap.size wr wx → Below w.heap.size w wx) := fun wx hb => bel.trans (hb.mono bel.size)
      have HM1 : Hid (∀ wx, Calls Try.prog 26 #[entA ka kc va vc o] wx fun r w' => r = .returned (.bool (mayE o)) ∧ Below wx.heap.size wx w') := fun wx => rmayE_any
      have HPUT : Hid (∀ wx, Below wr.heap.size wr wx → Calls Try.prog 39 #[.slice ra L.length rc, entA ka kc va vc o] wx fun r w' => Below wx.heap.size wx w' ∧ ((hasE L o = true ∧ r = .returned (.tuple #[.slice ra L.length rc, .bool false])) ∨ (hasE L o = false ∧ ∃ v, r = .returned (.tuple #[v, .bool true]) ∧ RowF entE wx.heap.size (fun b => b < w.heap.size) w' v (putE L o)))) := fun wx hb => rputE_any (hrsg.later hb) (El.later (E := entE) hem (HRW.out _ hb)) (fun b hb' => Nat.lt_of_lt_of_le hb' (HRW.out _ hb).size) heg (by omega) o1
      have HFS : Hid (∀ wx, Below wr.heap.size wr wx → SrS w 60 wx (.slice ra L.length rc) L) := fun wx hb => HK.out.1.later hb
      have HPP : Hid (mayE o = true → hasE L o = false → k < 60 → ∀ wx v, Below wr.heap.size wr wx → RowF entE w.heap.size (fun b => b < w.heap.size) wx v (putE L o) → SrS w 60 wx v (putE L o) ∧ (putE L o).length ≤ k + 1) := fun q1 q2 q3 wx v hb hr => by
        have ea := addE_put q1 q2
        have ho := addE_ord o1 o
        rw [ea] at ho
        have hlen : (putE L o).length = L.length + 1 := putE_len L o
        refine ⟨⟨hr, ho, fun e he => ?_, by have := HK.out.2; omega, HRW.out _ hb⟩, by have := HK.out.2; omega⟩
        rcases List.mem_cons.1 ((putE_perm L o).mem_iff.1 he) with q | q
        · rw [q]; exact q1
        · exact m1 e q
      have HKL : Hid (L.length ≤ k) := HK.out.2
      have HW1 := hid hW1
      unfold entA at HM1 HPUT
      clear row1 o1 m1 n1 hrsg hem sk heg hbx hW1 hk HK bel b1
      go_upto_region 5 with fail
      rw [← HW1.out]
      clear d0 d1 d2 d3 d4
      obtain ⟨y0, y1, y2, y3, y4⟩ := HBX.out _ (Below.refl _ _)
      by_cases q6 : k < 60
      · have q6' : (k : Int) < 60 := by omega
        go_wp2_with fail
        refine (HM1.out _).mono ?_
        rintro e w2 ⟨rfl, b2⟩
        clear y0 y1 y2 y3 y4
        cases hmy : mayE o with
        | false =>
          have B2 := hid (HBr.out _ b2)
          go_wp2_with fail
          go_roundg GK
          case measure => exact HG.out.1
          case rel => exact ⟨k + 1, L, HG.out.2, by go_num, HFS.out _ B2.out, by have := HKL.out; omega⟩
        | true =>
          obtain ⟨x0, x1, x2, x3, x4⟩ := HBX.out _ b2
          have B2 := hid (HBr.out _ b2)
          have HQ6 := hid q6
          have HMY := hid hmy
          clear q6 hmy
          go_wp2_with fail
          refine (HPUT.out _ B2.out).mono ?_
          rintro e w3 ⟨b3, ⟨hh, rfl⟩ | ⟨hh, v3, rfl, r3⟩⟩
          · have B3 := hid (B2.out.trans (b3.mono B2.out.size))
            go_wp2_with fail
            go_roundg GK
            case measure => exact HG.out.1
            case rel => exact ⟨k + 1, L, HG.out.2, by go_num, HFS.out _ B3.out, by have := HKL.out; omega⟩
          · have B3 := hid (B2.out.trans (b3.mono B2.out.size))
            have HN := hid (HPP.out HMY.out hh HQ6.out w3 v3 B3.out (r3.base (HRW.out _ B2.out).size))
            clear r3
            go_wp2_with fail
            go_roundg GK
            case measure => exact HG.out.1
            case rel => exact ⟨k + 1, putE L o, HG.out.2, by go_num, HN.out⟩
      · have q6' : ¬ ((k : Int) < 60) := by omega
        have B2 := hid (HBr.out _ (Below.refl _ W1))
        clear q6
        go_wp2_with fail
        go_roundg GK
        case measure => exact HG.out.1
        case rel => exact ⟨k + 1, L, HG.out.2, by go_num, HFS.out _ B2.out, by have := HKL.out; omega⟩
    · have hkl' : ¬ ((k : Int) < (len : Int)) := by omega
      have HF := hid HK.out.1
      clear hk hkl HK
      go_wp2_with fail
      exact bodyPost_ret (v := u3) (by simp [results, Try.results17, go_sem]) rfl ⟨u3, rfl, L, HF.out⟩
end Go.Proofs.Ytifgojkmdicdmaa

/- The laws on blocks: BlockBack. -/
namespace Go.Proofs.Ytifgojkmdicdmaa
open Go.RowKit
set_option linter.unusedVariables false
set_option linter.unusedSimpArgs false

theorem blkE_srt {L : List EntV} (h1 : L.length ≤ 400) (h2 : ∀ e ∈ L, mayE e = true) (h3 : ordE L) : blkE L = if L.length = 0 then 13 else 0 := by
  unfold blkE
  by_cases q : L.length = 0
  · rw [if_pos (.inl q), if_pos q]
  · rw [if_neg (by omega), if_neg q, if_neg (by rw [List.all_eq_true.2 h2]; decide), if_neg (by unfold ordB; rw [decide_eq_true (show L.Pairwise _ from h3)]; decide)]
theorem may_lgt {L : List EntV} (h : ∀ e ∈ L, mayE e = true) : Lgt L := fun e he => by
  have := mayE_ok (h e he)
  omega
theorem blkB_len {L : List EntV} (h1 : 1 ≤ L.length) (h4 : L.length ≤ 400) (h2 : ∀ e ∈ L, mayE e = true) : 8 ≤ (blkB L).length ∧ (blkB L).length ≤ 2000000 := by
  have a1 := enEs_tlen (List.all_eq_true.2 h2) L.length (Nat.le_refl _)
  have a2 := enTl_tlen (l := L) L.length (Nat.le_refl _)
  rw [List.take_length] at a1 a2
  have a3 := enTl_len L 0 0 []
  have a4 := eig_pos h1
  unfold blkB
  rw [List.length_append, List.length_append, fx_length]
  omega
theorem SrS.rs {w : World} {n : Nat} {wx : World} {v : Value} {L : List EntV} (h : SrS w n wx v L) : ∃ a c, v = .slice a L.length c ∧ RS entE wx a L.length c L := h.1.s.rs

set_option maxHeartbeats 4000000 in
set_option maxRecDepth 100000 in
theorem back11_any (D : PBk) (Dd : PBd) {w : World} {ao : Option Addr} {len cap : Nat} {l : List EntV} {cut : Int} (h : RS entE w ao len cap l) (hcu : -9223372036854775808 ≤ cut ∧ cut ≤ 9223372036854775807) :
    Calls Try.prog 7 #[.slice ao len cap, .int .i64 cut] w fun e w' => e = .returned (.bool true) ∧ Below w.heap.size w w' := by
  have hso := sorted11_any h
  have HAW : Hid (∀ wx, Calls Try.prog 9 #[] wx fun e w' => e = .returned (.bool true) ∧ Below wx.heap.size wx w') := fun wx => awake11_any D wx
  clear h
  go_enter Try.func7, Try.ntmps7
  go_wp2_with fail
  refine hso.mono ?_
  rintro e w1 ⟨v1, rfl, L, SR⟩
  obtain ⟨a1, c1, rfl, rs1⟩ := SR.rs
  have hn60 := SR.2.2.2.1
  have hE := D.encode rs1 (by omega) (may_lgt SR.2.2.1)
  have hbe := blkE_srt (by omega) SR.2.2.1 SR.2.1
  have HS1 : Hid (RS entE w1 a1 L.length c1 L ∧ (∀ e ∈ L, mayE e = true) ∧ ordE L ∧ Below w.heap.size w w1) := ⟨rs1, SR.2.2.1, SR.2.1, SR.2.2.2.2⟩
  clear hso SR rs1
  by_cases q0 : L.length = 0
  · rw [if_pos q0] at hbe
    rw [hbe] at hE
    have q0' : ((L.length : Int) == 0) = true := by rw [q0]; rfl
    generalize L.length = n at q0' hE HS1
    generalize encX L = X at hE
    clear q0 hbe hn60
    go_wp2_with (first | (go_at_call 10; refine hE.mono ?_; rintro e w2 ⟨v2, rfl, -, b2⟩) | (go_at_call 9; refine (HAW.out _).mono ?_; rintro e w3 ⟨rfl, b3⟩))
    have B2 := HS1.out.2.2.2.trans (b2.mono HS1.out.2.2.2.size)
    exact bodyPost_ret (v := .bool true) (by simp [results, Try.results7, go_sem]) rfl ⟨rfl, B2.trans (b3.mono B2.size)⟩
  · rw [if_neg q0] at hbe
    have hX : encX L = blkB L := by unfold encX; rw [if_pos hbe]
    have hlen := blkB_len (L := L) (by omega) (by omega) HS1.out.2.1
    obtain ⟨t1, t2⟩ := tk_of_blk hbe HS1.out.1.okE
    rw [hbe, hX] at hE
    obtain ⟨X, hXX⟩ : ∃ X, X = blkB L := ⟨_, rfl⟩
    rw [← hXX] at hE hlen t1 t2
    obtain ⟨LN, hLN⟩ : ∃ n, n = X.length := ⟨_, rfl⟩
    have HLN := hid hLN
    have HD1 : Hid (∀ {wx : World} {a : Option Addr} {c : Nat}, Sl wx a LN c X → Calls Try.prog 14 #[.slice a LN c] wx fun e w' => ∃ a' c', e = .returned (.tuple #[.slice a' L.length c', .int .i64 0]) ∧ RS entE w' a' L.length c' L ∧ Below wx.heap.size wx w') := fun {wx a c} hx => (Dd.decode hx (by omega)).mono fun e w' ⟨v, E, he, hE, ⟨a', c', hv, hr⟩, hb⟩ => by
      rw [t2] at hv hr
      rw [hE.2 t1, hv] at he
      exact ⟨a', c', he, hr, hb⟩
    rw [← hLN] at hlen
    have c1' : -(LN : Int) < cut.tmod (LN : Int) ∧ cut.tmod (LN : Int) < (LN : Int) := ⟨Int.lt_tmod_of_pos cut (by omega), Int.tmod_lt_of_pos cut (by omega)⟩
    obtain ⟨T, hT⟩ : ∃ T, cut.tmod (LN : Int) = T := ⟨_, rfl⟩
    rw [hT] at c1'
    obtain ⟨C, hC⟩ := Int.eq_ofNat_of_zero_le (show 0 ≤ (T + (LN : Int)).tmod (LN : Int) from Int.tmod_nonneg _ (by omega))
    have hCl : C < LN := by have := Int.tmod_lt_of_pos (T + (LN : Int)) (b := (LN : Int)) (by omega); omega
    have hTL : wrap64 (T + (LN : Int)) = T + (LN : Int) := by unfold wrap64; omega
    have hL8 : ¬ ((LN : Int) < 8) := by omega
    have hL0 : ¬ (LN : Int) = 0 := by omega
    have hL62 : LN ≤ 2 ^ 60 := by omega
    have HCL : Hid (C < LN ∧ LN ≤ 2000000) := ⟨hCl, hlen.2⟩
    have hC62 : C ≤ 2 ^ 60 := by omega
    obtain ⟨Y, hY⟩ : ∃ y, y = tkB (X.take C) := ⟨_, rfl⟩
    have HD2 : Hid (∀ {wx : World} {a : Option Addr} {c : Nat}, Sl wx a C c (X.take C) → Calls Try.prog 14 #[.slice a C c] wx fun e w' => ∃ (a' : Option Addr) (c' Gk : Nat), e = .returned (.tuple #[.slice a' Y.length c', .int .i64 (Gk : Int)]) ∧ (Gk = 0 → blkE Y = 0 ∧ encX Y = X.take C ∧ Y.length ≤ 450 ∧ Lgt Y) ∧ RS entE w' a' Y.length c' Y ∧ Below wx.heap.size wx w') := fun {wx a c} hx => (Dd.decode hx (by omega)).mono fun e w' ⟨v, E, he, hE, ⟨a', c', hv, hr⟩, hb⟩ => by
      rw [← hY] at hv hr
      rw [hv] at he
      refine ⟨a', c', E, he, fun e0 => ?_, hr, hb⟩
      have hb := tk_blk (hE.1 e0)
      rw [← hY] at hb
      have ho := blkE_ok hb.1
      exact ⟨hb.1, by unfold encX; rw [if_pos hb.1, hb.2], by omega, may_lgt ho.2.2.1⟩
    generalize hnn : L.length = n at hE HS1 HD1
    clear hcu q0 hbe hX hlen t1 t2 hXX hLN c1' hCl hY hnn hn60
    go_wp2_with fail
    refine hE.mono ?_
    rintro e w2 ⟨v2, rfl, ⟨a2, c2, hv2, s2⟩, b2⟩
    rw [← HLN.out] at hv2 s2
    subst hv2
    have B2 := HS1.out.2.2.2.trans (b2.mono HS1.out.2.2.2.size)
    clear hE
    go_wp2_with fail
    refine (HD1.out s2).mono ?_
    rintro e w3 ⟨a3, c3, rfl, rs3, b3⟩
    have B3 := B2.trans (b3.mono B2.size)
    have hSm := rsameE_eq rs3 ((HS1.out.1.later b2).later b3)
    have HS2 := hid (And.intro s2 b3)
    have HB3 := hid B3
    clear s2 b2 B2 b3 B3 rs3 HD1
    go_upto_region 8 with (go_at_call 16; refine hSm.mono ?_; rintro e w4 ⟨rfl, b4⟩)
    have s4 := (HS2.out.1.later HS2.out.2).later b4
    have B4 := hid (HB3.out.trans (b4.mono HB3.out.size))
    have hcuC := run_uptoK .i64 a2 LN c2 C (by have := s4.2.2.2.1; have := HCL.out; omega)
    have s5 := s4.upto0 C (by have := HCL.out; omega)
    generalize cutA a2 c2 0 = a5 at hcuC s5
    have hd2 := HD2.out s5
    have HS5 := hid s5
    clear s4 s5 HD2 hSm b4 HB3 HS2 HS1
    go_upto_region 10 with (go_at_call 14; refine hd2.mono ?_; rintro e w6 ⟨a6, c6, Gk, rfl, hGk, rs6, b6⟩)
    have B6 := hid (B4.out.trans (b6.mono B4.out.size))
    by_cases qG : Gk = 0
    · have qG' : ((Gk : Int) == 0) = true := by simp; omega
      obtain ⟨g1, g2, g3, g4⟩ := hGk qG
      have hE2 := D.encode rs6 g3 g4
      rw [g1, g2] at hE2
      obtain ⟨xc, hxc⟩ : ∃ n, n = (X.take C).length := ⟨_, rfl⟩
      have HXC := hid hxc
      have HS6 := hid (HS5.out.later b6)
      generalize X.take C = XC at HS6 hE2 HXC
      generalize Y.length = yn at hE2 rs6
      clear hd2 rs6 b6 HS5 hGk g1 g2 g3 g4 qG hxc
      go_upto_region 12 with (go_at_call 10; refine hE2.mono ?_; rintro e w7 ⟨v7, rfl, ⟨a7, c7, rfl, s7⟩, b7⟩)
      have B7 := hid (B6.out.trans (b7.mono B6.out.size))
      have s8 := HS6.out.later b7
      have HCV : Hid (∀ wx, Below w7.heap.size w7 wx → (convert 25 9 (.slice a7 XC.length c7)).run Try.prog wx = .ok (.string (strOfNums XC)) wx ∧ (convert 25 9 (.slice a5 C c2)).run Try.prog wx = .ok (.string (strOfNums XC)) wx) := fun wx hb => ⟨str_l (s7.later hb), str_l (s8.later hb)⟩
      generalize XC.length = xl at HCV
      generalize strOfNums XC = sX at HCV
      obtain ⟨t7, t8⟩ := HCV.out w7 (Below.refl _ _)
      have HBD : Hid (Below w7.heap.size w7 w7.drew) := (Below.refl _ w7).drew
      clear hE2 s7 s8 b7
      go_region_held_law (fun w' => (convert 25 9 (.slice a7 xl c7)).run Try.prog w' = .ok (.string sX) w' ∧ (convert 25 9 (.slice a5 C c2)).run Try.prog w' = .ok (.string sX) w') (first | exact ⟨t7, t8⟩ | exact HCV.out _ (Below.refl _ _).drew | exact HCV.out _ b79) (first | (go_at_call 9; refine (HAW.out _).mono ?_; rintro e w9 ⟨rfl, b9⟩; have b79 : Below w7.heap.size w7 w9 := (HBD.out).trans (b9.mono HBD.out.size)))
      go_wp2_with fail
      exact bodyPost_ret (v := .bool true) (by simp [results, Try.results7, go_sem]) rfl ⟨rfl, B7.out.trans (b79.mono B7.out.size)⟩
    · have qG' : ((Gk : Int) == 0) = false := by simp; omega
      clear hd2 rs6 b6 HS5 hGk qG
      generalize Y.length = yn
      go_wp2_with (go_at_call 9; refine (HAW.out _).mono ?_; rintro e w7 ⟨rfl, b7⟩)
      exact bodyPost_ret (v := .bool true) (by simp [results, Try.results7, go_sem]) rfl ⟨rfl, B6.out.trans (b7.mono B6.out.size)⟩
end Go.Proofs.Ytifgojkmdicdmaa

/- The landed block, on lists: how it reads; that it takes what the document takes. -/
namespace Go.Proofs.Ytifgojkmdicdmaa
set_option linter.unusedVariables false
set_option linter.unusedSimpArgs false

/-- A number as the landed block takes it. -/
def nmL (d : List Int) : Nat × Rd := rdN 4611686018427387904 (d, 0)
theorem nmL_def (d : List Int) : nmL d = if (tk d).1 ≠ 0 then (0, (d, (tk d).1)) else if 4611686018427387904 < (tk d).2.1 then (0, (d, 3)) else ((tk d).2.1, (d.drop (tk d).2.2, 0)) := by
  unfold nmL rdN
  rw [if_neg (by simp)]
/-- A key: an error; the key, what is left. -/
def kE (key d : List Int) : Nat × List Int × List Int :=
  if (nmL d).2.2 ≠ 0 then ((nmL d).2.2, [], [])
  else if key.length < (nmL d).1 then (3, [], [])
  else if (nmL (nmL d).2.1).2.2 ≠ 0 then ((nmL (nmL d).2.1).2.2, [], [])
  else if 512 < (nmL d).1 + (nmL (nmL d).2.1).1 then (2, [], [])
  else if (nmL (nmL d).2.1).2.1.length < (nmL (nmL d).2.1).1 then (5, [], [])
  else (0, key.take (nmL d).1 ++ (nmL (nmL d).2.1).2.1.take (nmL (nmL d).2.1).1, (nmL (nmL d).2.1).2.1.drop (nmL (nmL d).2.1).1)
theorem kE_len (key d : List Int) : (kE key d).2.1.length ≤ 512 := by
  unfold kE
  split
  · simp
  split
  · simp
  split
  · simp
  split
  · simp
  split
  · simp
  · simp only [List.length_append, List.length_take]; omega
theorem rdN_zero {most : Nat} {d : List Int} : rdN most (d, 0) = if (tk d).1 ≠ 0 then (0, (d, (tk d).1)) else if most < (tk d).2.1 then (0, (d, 3)) else ((tk d).2.1, (d.drop (tk d).2.2, 0)) := by
  unfold rdN
  rw [if_neg (by simp)]
theorem kE_num {key d : List Int} (hk : key.length ≤ 512) : ((kE key d).1 = 0 ↔ (kNum key (d, 0)).2.2.2 = 0) ∧ ((kE key d).1 = 0 → (kE key d).2.1 = keyK key (d, 0) ∧ (kE key d).2.2 = (kNum key (d, 0)).2.2.1.drop (kNum key (d, 0)).2.1) := by
  by_cases q1 : (tk d).1 = 0
  · by_cases q2 : key.length < (tk d).2.1
    · have r1 : rdN key.length (d, 0) = (0, (d, 3)) := by rw [rdN_zero, if_neg (not_not_intro q1), if_pos q2]
      have r2 : rdN 9223372036854775808 (d, 3) = (0, (d, 3)) := rdN_err (by simp)
      have h1 : (kE key d).1 ≠ 0 := by
        unfold kE
        rw [nmL_def, if_neg (not_not_intro q1)]
        by_cases q3 : 4611686018427387904 < (tk d).2.1
        · rw [if_pos q3]; simp
        · rw [if_neg q3]; simp [q2]
      have h2 : (kNum key (d, 0)).2.2.2 ≠ 0 := by
        unfold kNum
        rw [r1]
        simp only
        rw [r2]
        simp
      exact ⟨⟨fun h => absurd h h1, fun h => absurd h h2⟩, fun h => absurd h h1⟩
    · have r1 : rdN key.length (d, 0) = ((tk d).2.1, (d.drop (tk d).2.2, 0)) := by rw [rdN_zero, if_neg (not_not_intro q1), if_neg q2]
      have m1 : nmL d = ((tk d).2.1, (d.drop (tk d).2.2, 0)) := by rw [nmL_def, if_neg (not_not_intro q1), if_neg (by omega)]
      generalize (tk d).2.1 = n at *
      generalize d.drop (tk d).2.2 = r at *
      by_cases q3 : (tk r).1 = 0
      · by_cases q4 : 4611686018427387904 < (tk r).2.1
        · have m2 : nmL r = (0, (r, 3)) := by rw [nmL_def, if_neg (not_not_intro q3), if_pos q4]
          have h1 : (kE key d).1 ≠ 0 := by
            unfold kE
            rw [m1]
            simp only
            rw [m2]
            simp [q2]
          have h2 : (kNum key (d, 0)).2.2.2 ≠ 0 := by
            unfold kNum
            rw [r1]
            simp only
            by_cases q5 : 9223372036854775808 < (tk r).2.1
            · rw [show rdN 9223372036854775808 (r, 0) = (0, (r, 3)) by rw [rdN_zero, if_neg (not_not_intro q3), if_pos q5]]
              simp
            · rw [show rdN 9223372036854775808 (r, 0) = ((tk r).2.1, (r.drop (tk r).2.2, 0)) by rw [rdN_zero, if_neg (not_not_intro q3), if_neg q5]]
              simp only [ne_eq, not_true_eq_false, if_false]
              rw [if_pos (by omega)]
              simp
          exact ⟨⟨fun h => absurd h h1, fun h => absurd h h2⟩, fun h => absurd h h1⟩
        · have m2 : nmL r = ((tk r).2.1, (r.drop (tk r).2.2, 0)) := by rw [nmL_def, if_neg (not_not_intro q3), if_neg q4]
          have r2 : rdN 9223372036854775808 (r, 0) = ((tk r).2.1, (r.drop (tk r).2.2, 0)) := by rw [rdN_zero, if_neg (not_not_intro q3), if_neg (by omega)]
          generalize (tk r).2.1 = m at *
          generalize r.drop (tk r).2.2 = t at *
          have e1 : kE key d = if 512 < n + m then (2, [], []) else if t.length < m then (5, [], []) else (0, key.take n ++ t.take m, t.drop m) := by
            unfold kE
            rw [m1]
            simp only
            rw [m2]
            simp only [ne_eq, not_true_eq_false, if_false]
            rw [if_neg q2]
          have e2 : kNum key (d, 0) = (n, m, if 512 < n + m then (t, 2) else if t.length < m then (t, 5) else (t, 0)) := by
            unfold kNum
            rw [r1]
            simp only
            rw [r2]
            simp only [ne_eq, not_true_eq_false, if_false]
            by_cases z : 512 < n + m
            · rw [if_pos (.inr z), if_pos z]
            · rw [if_neg (by omega), if_neg z]
          unfold keyK
          rw [e1, e2]
          by_cases z : 512 < n + m
          · rw [if_pos z, if_pos z]; simp
          · rw [if_neg z, if_neg z]
            by_cases y : t.length < m
            · rw [if_pos y, if_pos y]; simp
            · rw [if_neg y, if_neg y]; simp
      · have m2 : nmL r = (0, (r, (tk r).1)) := by rw [nmL_def, if_pos q3]
        have r2 : rdN 9223372036854775808 (r, 0) = (0, (r, (tk r).1)) := by rw [rdN_zero, if_pos q3]
        have h1 : (kE key d).1 ≠ 0 := by
          unfold kE
          rw [m1]
          simp only
          rw [m2]
          simp [q2, q3]
        have h2 : (kNum key (d, 0)).2.2.2 ≠ 0 := by
          unfold kNum
          rw [r1]
          simp only
          rw [r2]
          simp [q3]
        exact ⟨⟨fun h => absurd h h1, fun h => absurd h h2⟩, fun h => absurd h h1⟩
  · have r1 : rdN key.length (d, 0) = (0, (d, (tk d).1)) := by rw [rdN_zero, if_pos q1]
    have r2 : rdN 9223372036854775808 (d, (tk d).1) = (0, (d, (tk d).1)) := rdN_err q1
    have h1 : (kE key d).1 ≠ 0 := by
      unfold kE
      rw [nmL_def, if_pos q1]
      simp [q1]
    have h2 : (kNum key (d, 0)).2.2.2 ≠ 0 := by
      unfold kNum
      rw [r1]
      simp only
      rw [r2]
      simp [q1]
    exact ⟨⟨fun h => absurd h h1, fun h => absurd h h2⟩, fun h => absurd h h1⟩

def noE : EntV := ⟨[], 0, false, 0, []⟩
/-- An entry: an error; the entry, what is left. -/
def tE (key d : List Int) : Nat × EntV × List Int :=
  if (kE key d).1 ≠ 0 then ((kE key d).1, noE, [])
  else if (deV (kE key d).2.1 ((kE key d).2.2, 0)).2.2 ≠ 0 then ((deV (kE key d).2.1 ((kE key d).2.2, 0)).2.2, noE, [])
  else (0, (deV (kE key d).2.1 ((kE key d).2.2, 0)).1, (deV (kE key d).2.1 ((kE key d).2.2, 0)).2.1)
theorem tE_key (key d : List Int) : (tE key d).2.1.key.length ≤ 512 := by
  unfold tE
  split
  · simp [noE]
  · split
    · simp [noE]
    · simp only; rw [deV_key]; exact kE_len key d
theorem tE_de {key d : List Int} (hk : key.length ≤ 512) (h : (kNum key (d, 0)).2.2.2 = 0) : ((tE key d).1 = 0 ↔ (deE1 key (d, 0)).2.2 = 0) ∧ ((tE key d).1 = 0 → (tE key d).2.1 = (deE1 key (d, 0)).1 ∧ (deE1 key (d, 0)).2 = ((tE key d).2.2, 0)) := by
  obtain ⟨a1, a2⟩ := kE_num (d := d) hk
  have b1 := a1.2 h
  obtain ⟨c1, c2⟩ := a2 b1
  unfold tE
  rw [if_neg (not_not_intro b1)]
  have e : deV (kE key d).2.1 ((kE key d).2.2, 0) = deE1 key (d, 0) := by unfold deE1; rw [c1, c2]
  rw [e]
  by_cases q : (deE1 key (d, 0)).2.2 = 0
  · rw [if_neg (not_not_intro q)]
    refine ⟨⟨fun _ => q, fun _ => rfl⟩, fun _ => ⟨rfl, Prod.ext rfl q⟩⟩
  · rw [if_pos q]
    exact ⟨⟨fun z => absurd z q, fun z => absurd z q⟩, fun z => absurd z q⟩
theorem tE_bad {key d : List Int} (hk : key.length ≤ 512) (h : (kNum key (d, 0)).2.2.2 ≠ 0) : (tE key d).1 ≠ 0 := by
  have a1 := (kE_num (d := d) hk).1
  have b1 : (kE key d).1 ≠ 0 := fun q => h (a1.1 q)
  unfold tE
  rw [if_pos b1]
  exact b1
theorem tE_less {key d : List Int} (hk : key.length ≤ 512) (h : (tE key d).1 = 0) : (tE key d).2.2.length < d.length := by
  have h1 : (kNum key (d, 0)).2.2.2 = 0 := Classical.byContradiction fun q => tE_bad hk q h
  have h2 := (tE_de hk h1).2 h
  have h3 := deE1_less (key := key) (s := (d, 0)) rfl h1
  rw [h2.2] at h3
  exact h3
/-- All entries: an error, or they. -/
def tA : Nat → List Int → List Int → Nat × List EntV
  | 0, _, _ => (0, [])
  | n + 1, key, d => if d = [] then (0, []) else if (tE key d).1 ≠ 0 then ((tE key d).1, [])
    else ((tA n (tE key d).2.1.key (tE key d).2.2).1, (tE key d).2.1 :: (tA n (tE key d).2.1.key (tE key d).2.2).2)
theorem deEs_err {n : Nat} {key : List Int} {s : Rd} (h : s.2 ≠ 0) : deEs n key s = ([], s) := by
  cases n with
  | zero => rfl
  | succ n => unfold deEs; rw [if_pos (.inr h)]
theorem tA_de : ∀ (n : Nat) (key d : List Int), key.length ≤ 512 → ((tA n key d).1 = 0 ↔ (deEs n key (d, 0)).2.2 = 0) ∧ ((tA n key d).1 = 0 → (tA n key d).2 = (deEs n key (d, 0)).1)
  | 0, key, d, hk => by simp [tA, deEs]
  | n + 1, key, d, hk => by
    unfold tA deEs
    by_cases q : d = []
    · rw [if_pos q, if_pos (.inl (by rw [q]; rfl))]; simp
    · have q' : ¬ d.length = 0 := fun z => q (List.eq_nil_of_length_eq_zero z)
      rw [if_neg q, if_neg (show ¬ (((d, 0) : Rd).1.length = 0 ∨ ((d, 0) : Rd).2 ≠ 0) by simpa using q)]
      by_cases h : (kNum key (d, 0)).2.2.2 = 0
      · rw [if_neg (not_not_intro h)]
        obtain ⟨a1, a2⟩ := tE_de hk h
        by_cases z : (tE key d).1 = 0
        · rw [if_neg (not_not_intro z)]
          obtain ⟨b1, b2⟩ := a2 z
          rw [← b1, b2]
          obtain ⟨c1, c2⟩ := tA_de n (tE key d).2.1.key (tE key d).2.2 (tE_key key d)
          exact ⟨c1, fun y => by rw [c2 y]⟩
        · rw [if_pos z]
          have z2 : (deE1 key (d, 0)).2.2 ≠ 0 := fun y => z (a1.2 y)
          rw [deEs_err z2]
          exact ⟨⟨fun y => absurd y z, fun y => absurd y z2⟩, fun y => absurd y z⟩
      · rw [if_pos h, if_pos (tE_bad hk h)]
        exact ⟨⟨fun y => absurd y (tE_bad hk h), fun y => absurd y h⟩, fun y => absurd y (tE_bad hk h)⟩
/-- What the landed Decode answers. -/
def allL (b : List Int) : Nat × List EntV := tA b.length [] (bodyN b)
def tkEL (b : List Int) : Nat :=
  if b.length < 4 then 5 else if lastN b = 0 ∨ (b.length - 4) / 4 < lastN b then 3 else if (allL b).1 ≠ 0 then (allL b).1
  else if blkE ((allL b).2.take 401) ≠ 0 ∨ blkB ((allL b).2.take 401) ≠ b then 3 else 0
def tkBL (b : List Int) : List EntV := if tkEL b = 0 then (allL b).2.take 401 else []
theorem take_few {l : List EntV} (h : blkE (l.take 401) = 0) : l.take 401 = l := by
  have := blkE_ok h
  rw [List.length_take] at this
  exact List.take_of_length_le (by omega)
theorem tkL (b : List Int) : (tkEL b = 0 ↔ tkE b = 0) ∧ tkBL b = tkB b := by
  have key : (tkEL b = 0 ↔ tkE b = 0) ∧ (tkE b = 0 → (allL b).2.take 401 = (deBk b).1) := by
    obtain ⟨a1, a2⟩ := tA_de b.length [] (bodyN b) (by simp)
    rw [show tA b.length [] (bodyN b) = allL b from rfl, show deEs b.length [] (bodyN b, 0) = deBk b from rfl] at a1 a2
    unfold tkEL tkE
    by_cases q1 : b.length < 4
    · rw [if_pos q1, if_pos q1]; simp
    rw [if_neg q1, if_neg q1]
    by_cases q2 : lastN b = 0 ∨ (b.length - 4) / 4 < lastN b
    · rw [if_pos q2, if_pos q2]; simp
    rw [if_neg q2, if_neg q2]
    by_cases q3 : (allL b).1 = 0
    · have q4 := a1.1 q3
      rw [if_neg (not_not_intro q3), if_neg (not_not_intro q4), a2 q3]
      by_cases q5 : blkE (deBk b).1 = 0
      · have q6 : (deBk b).1.take 401 = (deBk b).1 := List.take_of_length_le (by have := blkE_ok q5; omega)
        rw [q6]
        exact ⟨Iff.rfl, fun _ => rfl⟩
      · have q6 : blkE ((deBk b).1.take 401) ≠ 0 := fun z => q5 (by rw [take_few z] at z; exact z)
        rw [if_pos (.inl q6), if_pos (.inl q5)]
        simp
    · have q4 : (deBk b).2.2 ≠ 0 := fun z => q3 (a1.2 z)
      rw [if_pos q3, if_pos q4]
      exact ⟨⟨fun y => absurd y q3, fun y => absurd y q4⟩, fun y => absurd y q4⟩
  refine ⟨key.1, ?_⟩
  unfold tkBL tkB
  by_cases q : tkE b = 0
  · rw [if_pos (key.1.2 q), if_pos q, key.2 q]
  · rw [if_neg (fun z => q (key.1.1 z)), if_neg q]
end Go.Proofs.Ytifgojkmdicdmaa
