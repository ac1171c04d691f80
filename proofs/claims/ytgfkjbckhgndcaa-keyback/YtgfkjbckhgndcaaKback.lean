/- The law that what was written is taken. -/
import Derived.Test.YtgfkjbckhgndcaaKlaw
namespace Go.Proofs.Ytgfkjbckhgndcaa
open Go.RowKit
set_option linter.unusedVariables false
set_option linter.unusedSimpArgs false

theorem fx8_fv {n : Nat} (hn : n < 18446744073709551616) (t : List Int) (ht : Okb t) : fv (xof (fx n 8 ++ t)) 8 = n := by
  have h := fv_fx n 8 (xof (fx n 8 ++ t)) 0 0 (fun k hk => by
    rw [Nat.zero_add]
    have hb := begins_xof (xs := fx n 8) (ys := t) ((okb_fx n 8).app ht) k (by rw [fx_length]; exact hk)
    exact hb) rfl
  rw [Nat.zero_add, Nat.zero_mul, Nat.zero_add] at h
  rw [h]
  exact Nat.mod_eq_of_lt (by omega)
/-- A number comes back. -/
theorem tn_fx {n : Int} (hn : InI n) (t : List Int) (ht : Okb t) : tn (fx (turned n) 8 ++ t) = (0, n) := by
  unfold tn
  rw [if_neg (by rw [List.length_append, fx_length]; omega), fx8_fv (turned_lt hn) t ht, back_turned hn]

set_option maxHeartbeats 2000000 in
set_option maxRecDepth 100000 in
theorem back_any (D : PK) {w : World} {po bo : Option Addr} {lp cp lb cb : Nat} {ps ys : List Int} {n : Int} (hp : Sl w po lp cp ps) (hb : Sl w bo lb cb ys) (hn : Hid (InI n)) (hl : lb ≤ 140737488354000) :
    Calls Try.prog 6 #[.slice po lp cp, .slice bo lb cb, .int .i64 n] w fun e w' => e = .returned (.bool true) ∧ Below w.heap.size w w' := by
  have HS : Hid (Sl w po lp cp ps ∧ Sl w bo lb cb ys ∧ lb ≤ 140737488354000) := ⟨hp, hb, hl⟩
  have lp62 : lp ≤ 2 ^ 63 - 1 := by have := hp.2.2.2; unfold maxLen at this; omega
  have HAW : Hid (∀ wx, Calls Try.prog 13 #[] wx fun e w' => e = .returned (.bool true) ∧ Below wx.heap.size wx w') := awake7_any D
  clear hp hb hl
  by_cases h300 : 300 < lp
  · have h300' : (300 : Int) < (lp : Int) := by omega
    have haw := HAW.out w
    go_enter Try.func6, Try.ntmps6
    go_wp2_with (go_at_call 13; refine haw.mono ?_; rintro e w1 ⟨rfl, hb1⟩)
    go_ret
    exact ⟨rfl, hb1⟩
  have h300' : (lp : Int) ≤ 300 := by omega
  have hptl : (pt ps).length ≤ 602 := by have := pt_len ps; have := HS.out.1.1; omega
  have hokp : Okb (pt ps) := okb_pt HS.out.1.2.1
  have k1 := D.bytes (Sl.nil w) HS.out.1 (by omega)
  rw [List.nil_append] at k1
  obtain ⟨P, hP⟩ : ∃ P, P = pt ps := ⟨_, rfl⟩
  rw [← hP] at k1 hptl hokp
  have HP : Hid (P = pt ps ∧ Okb P ∧ P.length ≤ 602) := ⟨hP, hokp, hptl⟩
  clear hP hokp h300
  go_enter Try.func6, Try.ntmps6
  go_wp2_with fail
  refine k1.mono ?_
  rintro e w1 ⟨v1, rfl, hr1, hb1⟩
  obtain ⟨a1, c1, rfl, hs1⟩ := SlV.ofRow hr1 HP.out.2.1
  have H1 : Hid (Sl w1 a1 P.length c1 P ∧ Below w.heap.size w w1) := ⟨hs1, hb1⟩
  obtain ⟨L, hL⟩ : ∃ L, L = P.length := ⟨_, rfl⟩
  rw [← hL] at H1 ⊢
  have HL : Hid (L = P.length ∧ L ≤ 602) := ⟨hL, by omega⟩
  have hB2 : Below w1.heap.size w1 (w1.alloc (.cells #[] 5)) := (Below.refl _ _).alloc (Nat.le_refl _) _
  have HB2 : Hid (Below w1.heap.size w1 (w1.alloc (.cells #[] 5))) := hB2
  clear k1 hr1 hb1 hs1 hL hB2 hptl
  go_wp2_with (first | (at_builtin; refine wpList_app rfl _ _ rfl w1.heap.size _ [] (by simp [Act.eval]) (row_empty w1) a1 L c1 (xof P) (by simp [Act.eval]) H1.out.1.2.2.1 (H1.out.1.later HB2.out).2.2.2.2.2 (by have := HL.out; simp; omega) HB2.out.size ?_; intro v2 w2 hr2 hg2 hm2; have B2 : Below w1.heap.size w1 w2 := HB2.out.trans (grown_below (row_empty w1) hg2 HB2.out.size)) | (at_builtin; refine wpList_app rfl _ _ rfl w1.heap.size v2 _ (by simp [Act.eval]) hr2 bo lb cb (xof ys) (by simp [Act.eval]) HS.out.2.1.2.2.1 ((HS.out.2.1.later H1.out.2).later B2).2.2.2.2.2 (by have := HS.out.2.2; have := HL.out; simp [bs_length]; omega) B2.size ?_; intro v3 w3 hr3 hg3 hm3))
  have B3 : Below w1.heap.size w1 w3 := B2.trans (grown_below hr2 hg3 B2.size)
  rw [List.nil_append, HL.out.1, bs_xof HP.out.2.1, ← HS.out.2.1.1, bs_xof HS.out.2.1.2.1] at hr3
  obtain ⟨a3, c3, rfl, hs3⟩ := SlV.ofRow hr3 (HP.out.2.1.app HS.out.2.1.2.1)
  have k4 := D.take hs3 (by have := HS.out.2.2; have := HS.out.2.1.1; have := HP.out.2.2; simp; omega)
  have etp : tp (P ++ ys) = (0, ps, P.length) := by rw [HP.out.1]; exact tp_pt ps ys
  rw [etp] at k4
  simp only at k4
  refine k4.mono ?_
  rintro e w4 ⟨v4, rfl, ⟨a4, c4, rfl, hs4⟩, hb4⟩
  have B4 := B3.trans (hb4.mono B3.size)
  have k5 := D.number (Sl.nil w4) hn (by decide)
  rw [List.nil_append] at k5
  have H4 : Hid (Below w1.heap.size w1 w4 ∧ Sl w4 a4 ps.length c4 ps) := ⟨B4, hs4⟩
  clear k4 hr2 hg2 hm2 hr3 hg3 hm3 hs3 B2 B3 etp hs4 hb4 B4
  go_wp2_with fail
  refine k5.mono ?_
  rintro e w5 ⟨v5, rfl, hr5, hb5⟩
  have H5 : Hid (Row w4.heap.size w5 v5 (fx (turned n) 8) ∧ Below w4.heap.size w4 w5 ∧ Sl w5 bo lb cb ys) := ⟨hr5, hb5, ((HS.out.2.1.later H1.out.2).later H4.out.1).later hb5⟩
  clear k5 hr5 hb5
  go_wp2_with (at_builtin; refine wpList_app rfl _ _ rfl w4.heap.size v5 _ (by simp [Act.eval]) H5.out.1 bo lb cb (xof ys) (by simp [Act.eval]) HS.out.2.1.2.2.1 H5.out.2.2.2.2.2.2.2 (by have := HS.out.2.2; simp [fx_length]; omega) H5.out.2.1.size ?_; intro v6 w6 hr6 hg6 hm6)
  have B6 : Below w4.heap.size w4 w6 := H5.out.2.1.trans (grown_below H5.out.1 hg6 H5.out.2.1.size)
  rw [← HS.out.2.1.1, bs_xof HS.out.2.1.2.1] at hr6
  obtain ⟨a6, c6, rfl, hs6⟩ := SlV.ofRow hr6 ((okb_fx _ 8).app HS.out.2.1.2.1)
  have k7 := D.takeN hs6
  rw [tn_fx hn.out ys HS.out.2.1.2.1] at k7
  simp only at k7
  refine k7.mono ?_
  rintro e w7 ⟨rfl, hb7⟩
  have B7 := B6.trans (hb7.mono B6.size)
  have B17 := H4.out.1.trans (B7.mono H4.out.1.size)
  have hx := str_l (H4.out.2.later B7)
  have hy := str_l ((HS.out.1.later H1.out.2).later B17)
  have hlp : ps.length = lp := HS.out.1.1
  have heq : ((strOfNums ps).toList == (strOfNums ps).toList) = true := by simp
  have H7 : Hid (Below w.heap.size w w7 ∧ Sl w7 a1 L c1 P) := ⟨H1.out.2.trans (B17.mono H1.out.2.size), H1.out.1.later B17⟩
  have hll : ((L : Int) != (L : Int)) = false := by simp
  have hnn : (n != n) = false := by simp
  rw [hlp] at hx ⊢
  rw [← HL.out.1]
  generalize strOfNums ps = S at hx hy heq
  clear k7 hr6 hg6 hm6 hs6 B6 hb7 B7 B17 H4 H5 hlp
  have hL62 : L ≤ 2 ^ 62 := by have := HL.out; omega
  go_wp2_with fail
  go_loopg [13, 14, 15, 16, 67] L (fun g _ _ _ _ i wr => ∃ k : Nat, k + g = L ∧ i = .int .i64 (k : Int) ∧ Hid (Below w7.heap.size w7 wr))
  case atStart => exact ⟨0, by omega, rfl, Below.refl _ _⟩
  case round =>
    obtain ⟨k, hk, rfl, HK⟩ := hrel
    by_cases hkl : k < L
    · have hkl' : (k : Int) < (L : Int) := by omega
      have hh := fun w => run_head22 w a1 L c1 k (by have := H7.out.2.2.2.2.1; omega)
      have hsl := (H7.out.2.later HK.out).head k (by omega)
      have k8 := D.take hsl (by have := HL.out; omega)
      have etp : tp (P.take k) = (5, [], 0) := by
        have h1 := HL.out.1
        rw [HP.out.1] at h1 ⊢
        exact tp_cut ps k (by omega)
      rw [etp] at k8
      simp only at k8
      obtain ⟨GK, HG⟩ : ∃ g, Hid (g < gk ∧ k + 1 + g = L) := ⟨gk - 1, by omega, by omega⟩
      have e5 : ((5 : Int) != 5) = false := rfl
      clear hk hsl etp
      go_wp2_with fail
      refine k8.mono ?_
      rintro e w8 ⟨v8, rfl, hv8, hb8⟩
      clear k8
      go_wp2_with fail
      go_roundg GK
      case measure => exact HG.out.1
      case rel => exact ⟨k + 1, HG.out.2, by go_num, HK.out.trans (hb8.mono HK.out.size)⟩
    · have hkl' : (L : Int) ≤ (k : Int) := by omega
      have haw := HAW.out wr
      have B8 := H7.out.1.trans (HK.out.mono H7.out.1.size)
      clear hk hkl
      go_wp2_with fail
      refine haw.mono ?_
      rintro e w9 ⟨rfl, hb9⟩
      go_wp2_with fail
      exact bodyPost_ret (v := .bool true) (by simp [results, Try.results6, go_sem]) rfl ⟨rfl, B8.trans (hb9.mono B8.size)⟩
end Go.Proofs.Ytgfkjbckhgndcaa
