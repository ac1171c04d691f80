/- The laws on blocks: BlockBack. -/
import Derived.Test.YtifgojkmdicdmaaBklaw3
import Derived.Deep.RegionHeldLaw
namespace Go.Proofs.Ytifgojkmdicdmaa
open Go.RowKit
set_option linter.unusedVariables false
set_option linter.unusedSimpArgs false

theorem blkE_srt {L : List EntV} (h1 : L.length ≤ 400) (h2 : ∀ e ∈ L, mayE e = true) (h3 : ordE L) : blkE L = if L.length = 0 then 13 else 0 := by
  unfold blkE
  by_cases q : L.length = 0
  · rw [if_pos (.inl q), if_pos q]
  · rw [if_neg (by omega), if_neg q, if_neg (by rw [List.all_eq_true.2 h2]; decide), if_neg (by unfold ordB; rw [decide_eq_true (show L.Pairwise _ from h3)]; decide)]
theorem may_lgt {L : List EntV} (h : ∀ e ∈ L, mayE e = true) : Lgt L := fun e he => by
  have := mayE_ok (h e he)
  omega
theorem blkB_len {L : List EntV} (h1 : 1 ≤ L.length) (h4 : L.length ≤ 400) (h2 : ∀ e ∈ L, mayE e = true) : 8 ≤ (blkB L).length ∧ (blkB L).length ≤ 2000000 := by
  have a1 := enEs_tlen (List.all_eq_true.2 h2) L.length (Nat.le_refl _)
  have a2 := enTl_tlen (l := L) L.length (Nat.le_refl _)
  rw [List.take_length] at a1 a2
  have a3 := enTl_len L 0 0 []
  have a4 := eig_pos h1
  unfold blkB
  rw [List.length_append, List.length_append, fx_length]
  omega
theorem SrS.rs {w : World} {n : Nat} {wx : World} {v : Value} {L : List EntV} (h : SrS w n wx v L) : ∃ a c, v = .slice a L.length c ∧ RS entE wx a L.length c L := h.1.s.rs

set_option maxHeartbeats 4000000 in
set_option maxRecDepth 100000 in
theorem back11_any (D : PBk) (Dd : PBd) {w : World} {ao : Option Addr} {len cap : Nat} {l : List EntV} {cut : Int} (h : RS entE w ao len cap l) (hcu : -9223372036854775808 ≤ cut ∧ cut ≤ 9223372036854775807) :
    Calls Try.prog 7 #[.slice ao len cap, .int .i64 cut] w fun e w' => e = .returned (.bool true) ∧ Below w.heap.size w w' := by
  have hso := sorted11_any h
  have HAW : Hid (∀ wx, Calls Try.prog 9 #[] wx fun e w' => e = .returned (.bool true) ∧ Below wx.heap.size wx w') := fun wx => awake11_any D wx
  clear h
  go_enter Try.func7, Try.ntmps7
  go_wp2_with fail
  refine hso.mono ?_
  rintro e w1 ⟨v1, rfl, L, SR⟩
  obtain ⟨a1, c1, rfl, rs1⟩ := SR.rs
  have hn60 := SR.2.2.2.1
  have hE := D.encode rs1 (by omega) (may_lgt SR.2.2.1)
  have hbe := blkE_srt (by omega) SR.2.2.1 SR.2.1
  have HS1 : Hid (RS entE w1 a1 L.length c1 L ∧ (∀ e ∈ L, mayE e = true) ∧ ordE L ∧ Below w.heap.size w w1) := ⟨rs1, SR.2.2.1, SR.2.1, SR.2.2.2.2⟩
  clear hso SR rs1
  by_cases q0 : L.length = 0
  · rw [if_pos q0] at hbe
    rw [hbe] at hE
    have q0' : ((L.length : Int) == 0) = true := by rw [q0]; rfl
    generalize L.length = n at q0' hE HS1
    generalize encX L = X at hE
    clear q0 hbe hn60
    go_wp2_with (first | (go_at_call 10; refine hE.mono ?_; rintro e w2 ⟨v2, rfl, -, b2⟩) | (go_at_call 9; refine (HAW.out _).mono ?_; rintro e w3 ⟨rfl, b3⟩))
    have B2 := HS1.out.2.2.2.trans (b2.mono HS1.out.2.2.2.size)
    exact bodyPost_ret (v := .bool true) (by simp [results, Try.results7, go_sem]) rfl ⟨rfl, B2.trans (b3.mono B2.size)⟩
  · rw [if_neg q0] at hbe
    have hX : encX L = blkB L := by unfold encX; rw [if_pos hbe]
    have hlen := blkB_len (L := L) (by omega) (by omega) HS1.out.2.1
    obtain ⟨t1, t2⟩ := tk_of_blk hbe HS1.out.1.okE
    rw [hbe, hX] at hE
    obtain ⟨X, hXX⟩ : ∃ X, X = blkB L := ⟨_, rfl⟩
    rw [← hXX] at hE hlen t1 t2
    obtain ⟨LN, hLN⟩ : ∃ n, n = X.length := ⟨_, rfl⟩
    have HLN := hid hLN
    have HD1 : Hid (∀ {wx : World} {a : Option Addr} {c : Nat}, Sl wx a LN c X → Calls Try.prog 14 #[.slice a LN c] wx fun e w' => ∃ a' c', e = .returned (.tuple #[.slice a' L.length c', .int .i64 0]) ∧ RS entE w' a' L.length c' L ∧ Below wx.heap.size wx w') := fun {wx a c} hx => (Dd.decode hx (by omega)).mono fun e w' ⟨v, E, he, hE, ⟨a', c', hv, hr⟩, hb⟩ => by
      rw [t2] at hv hr
      rw [hE.2 t1, hv] at he
      exact ⟨a', c', he, hr, hb⟩
    rw [← hLN] at hlen
    have c1' : -(LN : Int) < cut.tmod (LN : Int) ∧ cut.tmod (LN : Int) < (LN : Int) := ⟨Int.lt_tmod_of_pos cut (by omega), Int.tmod_lt_of_pos cut (by omega)⟩
    obtain ⟨T, hT⟩ : ∃ T, cut.tmod (LN : Int) = T := ⟨_, rfl⟩
    rw [hT] at c1'
    obtain ⟨C, hC⟩ := Int.eq_ofNat_of_zero_le (show 0 ≤ (T + (LN : Int)).tmod (LN : Int) from Int.tmod_nonneg _ (by omega))
    have hCl : C < LN := by have := Int.tmod_lt_of_pos (T + (LN : Int)) (b := (LN : Int)) (by omega); omega
    have hTL : wrap64 (T + (LN : Int)) = T + (LN : Int) := by unfold wrap64; omega
    have hL8 : ¬ ((LN : Int) < 8) := by omega
    have hL0 : ¬ (LN : Int) = 0 := by omega
    have hL62 : LN ≤ 2 ^ 60 := by omega
    have HCL : Hid (C < LN ∧ LN ≤ 2000000) := ⟨hCl, hlen.2⟩
    have hC62 : C ≤ 2 ^ 60 := by omega
    obtain ⟨Y, hY⟩ : ∃ y, y = tkB (X.take C) := ⟨_, rfl⟩
    have HD2 : Hid (∀ {wx : World} {a : Option Addr} {c : Nat}, Sl wx a C c (X.take C) → Calls Try.prog 14 #[.slice a C c] wx fun e w' => ∃ (a' : Option Addr) (c' Gk : Nat), e = .returned (.tuple #[.slice a' Y.length c', .int .i64 (Gk : Int)]) ∧ (Gk = 0 → blkE Y = 0 ∧ encX Y = X.take C ∧ Y.length ≤ 450 ∧ Lgt Y) ∧ RS entE w' a' Y.length c' Y ∧ Below wx.heap.size wx w') := fun {wx a c} hx => (Dd.decode hx (by omega)).mono fun e w' ⟨v, E, he, hE, ⟨a', c', hv, hr⟩, hb⟩ => by
      rw [← hY] at hv hr
      rw [hv] at he
      refine ⟨a', c', E, he, fun e0 => ?_, hr, hb⟩
      have hb := tk_blk (hE.1 e0)
      rw [← hY] at hb
      have ho := blkE_ok hb.1
      exact ⟨hb.1, by unfold encX; rw [if_pos hb.1, hb.2], by omega, may_lgt ho.2.2.1⟩
    generalize hnn : L.length = n at hE HS1 HD1
    clear hcu q0 hbe hX hlen t1 t2 hXX hLN c1' hCl hY hnn hn60
    go_wp2_with fail
    refine hE.mono ?_
    rintro e w2 ⟨v2, rfl, ⟨a2, c2, hv2, s2⟩, b2⟩
    rw [← HLN.out] at hv2 s2
    subst hv2
    have B2 := HS1.out.2.2.2.trans (b2.mono HS1.out.2.2.2.size)
    clear hE
    go_wp2_with fail
    refine (HD1.out s2).mono ?_
    rintro e w3 ⟨a3, c3, rfl, rs3, b3⟩
    have B3 := B2.trans (b3.mono B2.size)
    have hSm := rsameE_eq rs3 ((HS1.out.1.later b2).later b3)
    have HS2 := hid (And.intro s2 b3)
    have HB3 := hid B3
    clear s2 b2 B2 b3 B3 rs3 HD1
    go_upto_region 8 with (go_at_call 16; refine hSm.mono ?_; rintro e w4 ⟨rfl, b4⟩)
    have s4 := (HS2.out.1.later HS2.out.2).later b4
    have B4 := hid (HB3.out.trans (b4.mono HB3.out.size))
    have hcuC := run_uptoK .i64 a2 LN c2 C (by have := s4.2.2.2.1; have := HCL.out; omega)
    have s5 := s4.upto0 C (by have := HCL.out; omega)
    generalize cutA a2 c2 0 = a5 at hcuC s5
    have hd2 := HD2.out s5
    have HS5 := hid s5
    clear s4 s5 HD2 hSm b4 HB3 HS2 HS1
    go_upto_region 10 with (go_at_call 14; refine hd2.mono ?_; rintro e w6 ⟨a6, c6, Gk, rfl, hGk, rs6, b6⟩)
    have B6 := hid (B4.out.trans (b6.mono B4.out.size))
    by_cases qG : Gk = 0
    · have qG' : ((Gk : Int) == 0) = true := by simp; omega
      obtain ⟨g1, g2, g3, g4⟩ := hGk qG
      have hE2 := D.encode rs6 g3 g4
      rw [g1, g2] at hE2
      obtain ⟨xc, hxc⟩ : ∃ n, n = (X.take C).length := ⟨_, rfl⟩
      have HXC := hid hxc
      have HS6 := hid (HS5.out.later b6)
      generalize X.take C = XC at HS6 hE2 HXC
      generalize Y.length = yn at hE2 rs6
      clear hd2 rs6 b6 HS5 hGk g1 g2 g3 g4 qG hxc
      go_upto_region 12 with (go_at_call 10; refine hE2.mono ?_; rintro e w7 ⟨v7, rfl, ⟨a7, c7, rfl, s7⟩, b7⟩)
      have B7 := hid (B6.out.trans (b7.mono B6.out.size))
      have s8 := HS6.out.later b7
      have HCV : Hid (∀ wx, Below w7.heap.size w7 wx → (convert 25 9 (.slice a7 XC.length c7)).run Try.prog wx = .ok (.string (strOfNums XC)) wx ∧ (convert 25 9 (.slice a5 C c2)).run Try.prog wx = .ok (.string (strOfNums XC)) wx) := fun wx hb => ⟨str_l (s7.later hb), str_l (s8.later hb)⟩
      generalize XC.length = xl at HCV
      generalize strOfNums XC = sX at HCV
      obtain ⟨t7, t8⟩ := HCV.out w7 (Below.refl _ _)
      have HBD : Hid (Below w7.heap.size w7 w7.drew) := (Below.refl _ w7).drew
      clear hE2 s7 s8 b7
      go_region_held_law (fun w' => (convert 25 9 (.slice a7 xl c7)).run Try.prog w' = .ok (.string sX) w' ∧ (convert 25 9 (.slice a5 C c2)).run Try.prog w' = .ok (.string sX) w') (first | exact ⟨t7, t8⟩ | exact HCV.out _ (Below.refl _ _).drew | exact HCV.out _ b79) (first | (go_at_call 9; refine (HAW.out _).mono ?_; rintro e w9 ⟨rfl, b9⟩; have b79 : Below w7.heap.size w7 w9 := (HBD.out).trans (b9.mono HBD.out.size)))
      go_wp2_with fail
      exact bodyPost_ret (v := .bool true) (by simp [results, Try.results7, go_sem]) rfl ⟨rfl, B7.out.trans (b79.mono B7.out.size)⟩
    · have qG' : ((Gk : Int) == 0) = false := by simp; omega
      clear hd2 rs6 b6 HS5 hGk qG
      generalize Y.length = yn
      go_wp2_with (go_at_call 9; refine (HAW.out _).mono ?_; rintro e w7 ⟨rfl, b7⟩)
      exact bodyPost_ret (v := .bool true) (by simp [results, Try.results7, go_sem]) rfl ⟨rfl, B6.out.trans (b7.mono B6.out.size)⟩
end Go.Proofs.Ytifgojkmdicdmaa
