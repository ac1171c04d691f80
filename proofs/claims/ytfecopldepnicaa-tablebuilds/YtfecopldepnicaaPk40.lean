import Derived.Maps.Own
import Derived.Maps.Views
import Derived.WideKeyEntry
import Derived.DeepKeys4
import Derived.Test.YtfecopldepnicaaPk28
import Derived.Test.YtfecopldepnicaaPk38
import Derived.Test.YtfecopldepnicaaPk39
/- The landed table: the index; the entries of blocks. -/
namespace Go.Proofs.Ytfecopldepnicaa
open Go.RowKit
set_option linter.unusedVariables false
set_option linter.unusedSimpArgs false

theorem ixT_nil (n room : Nat) : ixT n [] room = some [] := by cases n <;> simp [ixT]
theorem ixT_step {n room : Nat} {xs : List Int} (h : xs ≠ []) : (rwT xs room = none → ixT (n + 1) xs room = none) ∧ (∀ r, rwT xs room = some r → ixT (n + 1) xs room = (ixT n (xs.drop r.2) room).map (r.1 :: ·)) := by
  refine ⟨fun z => ?_, fun r z => ?_⟩
  · conv => lhs; unfold ixT
    rw [if_neg h, z]
  · conv => lhs; unfold ixT
    rw [if_neg h, z]
/-- What takeIndex answers. -/
def IxR (o : Option (List RowV)) (e : Ending) (w' : World) : Prop :=
  (o = none ∧ e = .returned (.tuple #[.slice none 0 0, .int .i64 3])) ∨ ∃ rs v, o = some rs ∧ e = .returned (.tuple #[v, .int .i64 0]) ∧ RSV rowE w' v rs
set_option maxHeartbeats 4000000 in
set_option maxRecDepth 100000 in
theorem index_t {w : World} {ao : Option Addr} {len cap room : Nat} {xs : List Int} (h : Sl w ao len cap xs) (hl : len ≤ 5000000) (hr : room ≤ 5000000) {N : Nat} (hN : len ≤ N) :
    Calls Try.prog 46 #[.slice ao len cap, .int .i64 (room : Int)] w fun e w' => IxR (ixT N xs room) e w' ∧ Below w.heap.size w w' := by
  obtain ⟨O, hO⟩ : ∃ O, O = ixT N xs room := ⟨_, rfl⟩
  rw [← hO]
  have HS : Hid (Sl w ao len cap xs ∧ len ≤ 5000000 ∧ room ≤ 5000000) := ⟨h, hl, hr⟩
  have H0 : Hid (RowS rowE w.heap.size w (.slice none 0 0) [] ∧ Below w.heap.size w w ∧ Rests ao len cap xs (.slice ao len cap) xs ∧ O = (ixT N xs room).map ([] ++ ·) ∧ ([] : List RowV).length + xs.length ≤ len ∧ len ≤ N) :=
    ⟨RowS.nil _ _, Below.refl _ _, fun wx hx => ⟨ao, cap, by rw [h.1], by rw [h.1]; exact hx⟩, by rw [hO]; cases ixT N xs room <;> rfl, by rw [h.1]; simp, hN⟩
  have hl62 : len ≤ 2 ^ 61 := by omega
  have hxl : xs.length = len := h.1
  clear h hO hN
  go_enter Try.func46, Try.ntmps46
  go_wp2_with fail
  go_loopg [0, 6, 7, 8, 9] len (fun g bv rv _ _ _ wr => ∃ (a : Option Addr) (c n : Nat) (d : List Int) (acc : List RowV), bv = .slice a d.length c ∧ d.length ≤ g ∧ d.length ≤ n ∧ Hid (RowS rowE w.heap.size wr rv acc ∧ Below w.heap.size w wr ∧ Rests ao len cap xs (.slice a d.length c) d ∧ O = (ixT n d room).map (acc ++ ·) ∧ acc.length + d.length ≤ len))
  case atStart => exact ⟨ao, cap, N, xs, [], by rw [hxl], by omega, by rw [hxl]; exact H0.out.2.2.2.2.2, H0.out.1, H0.out.2.1, by rw [hxl]; exact H0.out.2.2.1, H0.out.2.2.2.1, H0.out.2.2.2.2.1⟩
  case round =>
    obtain ⟨a, c, n, d, acc, rfl, hg, hn, HK⟩ := hrel
    by_cases hz : d = []
    · subst hz
      have HE : Hid (O = some acc) := by show _ = _; rw [HK.out.2.2.2.1, ixT_nil]; simp
      have HR := hid HK.out.1
      have HB := hid HK.out.2.1
      obtain ⟨v1, v2, v3, hv⟩ : ∃ v1 v2 v3, u6 = .slice v1 v2 v3 := by obtain ⟨a9, c9, hv, _⟩ := HK.out.1.rs; exact ⟨_, _, _, hv⟩
      subst hv
      clear HK hg hn
      go_wp2_with fail
      exact bodyPost_ret (v := .tuple #[.slice v1 v2 v3, .int .i64 0]) (by simp [results, Try.results46, go_sem]) rfl ⟨.inr ⟨acc, _, HE.out, rfl, RSV.ofRow HR.out⟩, HB.out⟩
    · obtain ⟨n, rfl⟩ : ∃ m, n = m + 1 := ⟨n - 1, by cases d with | nil => exact absurd rfl hz | cons x r => simp at hn; omega⟩
      have hd1 : 1 ≤ d.length := by cases d with | nil => exact absurd rfl hz | cons x r => simp
      have hd1' : (0 : Int) < (d.length : Int) := by omega
      obtain ⟨st1, st2⟩ := ixT_step (n := n) (room := room) hz
      have hsl := (HK.out.2.2.1 w HS.out.1).sl
      have hdl : d.length ≤ len := by have := HK.out.2.2.2.2; omega
      have hrow := row_t (hsl.later HK.out.2.1) (by have := HS.out.2.1; omega) HS.out.2.2
      have hus := fun r hr => rwT_used (xs := d) (room := room) (r := r) hr
      have HUS := hid hus
      have HST := hid (And.intro st1 st2)
      obtain ⟨DL, hDL⟩ : ∃ n, n = d.length := ⟨_, rfl⟩
      rw [← hDL] at hrow hd1' hd1 ⊢
      have HDL : Hid (DL = d.length ∧ DL ≤ gk ∧ DL ≤ n + 1 ∧ DL ≤ len ∧ len ≤ 5000000) := ⟨hDL, by omega, by omega, by omega, HS.out.2.1⟩
      have hDL62 : DL ≤ 2 ^ 60 := by have := HDL.out; omega
      have hcp := hsl.2.2.2.1
      have HCF : Hid (∀ i, i ≤ DL → ∀ w, (Instr.slice 25 (.slice a DL c) (some (.int .i64 (i : Int))) none none).run Try.prog w = .ok (.slice (cutA a c i) (DL - i) (c - i)) w) := fun i hi w => run_from w a DL c i hi (by rw [hDL]; exact hcp)
      clear st1 st2 hus hsl hdl hz hg hn hDL hcp
      obtain ⟨v1, v2, v3, hv⟩ : ∃ v1 v2 v3, u6 = .slice v1 v2 v3 := by obtain ⟨a9, c9, hv, _⟩ := HK.out.1.rs; exact ⟨_, _, _, hv⟩
      subst hv
      have HROW := hid HK.out.1
      have HB := hid HK.out.2.1
      have HRE := hid HK.out.2.2.1
      have HOO := hid HK.out.2.2.2.1
      have HAC := hid HK.out.2.2.2.2
      clear HK
      go_wp2_with fail
      refine hrow.mono ?_
      rintro e w1 ⟨hR, b1⟩
      rcases hR with ⟨o1, rfl⟩ | ⟨⟨⟨⟨p, q⟩, k⟩, m⟩, a1, c1, o1, rfl, r1⟩
      · have HE : Hid (O = none) := by show _ = _; rw [HOO.out, HST.out.1 o1]; rfl
        have HBF : Hid (Below w.heap.size w (w1.alloc (.cells #[.int .i64 0, .int .i64 0, .slice none 0 0] 86))) := (HB.out.trans (b1.mono HB.out.size)).alloc (Nat.le_trans HB.out.size b1.size) _
        clear o1 hrow b1
        go_wp2_with fail
        exact bodyPost_ret (v := .tuple #[.slice none 0 0, .int .i64 3]) (by simp [results, Try.results46, go_sem]) rfl ⟨.inl ⟨HE.out, rfl⟩, HBF.out⟩
      · simp only at r1
        obtain ⟨u1, u2, u3, u4⟩ := HUS.out _ o1
        simp only at u1 u2 u3 u4
        have HO2 : Hid (O = (ixT n (d.drop m) room).map ((acc ++ [⟨(p, q), k⟩]) ++ ·)) := by
          show _ = _
          rw [HOO.out, HST.out.2 _ o1]
          cases ixT n (d.drop m) room <;> simp
        have HM : Hid (1 ≤ m ∧ m ≤ DL ∧ (d.drop m).length = DL - m) := ⟨u1, by rw [HDL.out.1]; exact u2, by rw [List.length_drop, ← HDL.out.1]⟩
        have hcf := HCF.out m (by have := HM.out; omega)
        have HRE2 : Hid (Rests ao len cap xs (.slice (cutA a c m) (DL - m) (c - m)) (d.drop m)) := by
          have h1 := HRE.out
          have h2 := Rests.from (ao := a) (len := DL) (cap := c) (d := d) m HM.out.2.1 HDL.out.1.symm
          rw [← HDL.out.1] at h1
          exact h1.trans h2
        have hp62 : p ≤ 2 ^ 60 := by have := HS.out; omega
        have hq62 : q ≤ 2 ^ 60 := by have := HS.out; omega
        have hm62 : m ≤ 2 ^ 60 := by have := HM.out; omega
        have hmd : (m : Int) ≤ (DL : Int) := by have := HM.out; omega
        obtain ⟨KL, hKL⟩ : ∃ n, n = k.length := ⟨_, rfl⟩
        rw [← hKL] at r1 ⊢
        have hokk : Okb k := by
          have := tb_okb (xs := d) (most := 512) (HRE.out w HS.out.1).sl.2.1
          have h9 := o1
          unfold rwT at h9
          split at h9
          · cases h9
          split at h9
          · cases h9
          split at h9
          · cases h9
          split at h9
          · cases h9
          · cases h9; exact this
        have hskl : Sl w1 a1 KL c1 k := r1.slT hokk
        obtain ⟨W2, hW2⟩ : ∃ W, w1.alloc (.cells #[.int .i64 (p : Int), .int .i64 (q : Int), .slice a1 KL c1] 86) = W := ⟨_, rfl⟩
        have b2 : Below w1.heap.size w1 W2 := by rw [← hW2]; exact (Below.refl _ _).alloc (Nat.le_refl _) _
        have y0 : W2.cell? ⟨w1.heap.size, 0, none⟩ = some (.int .i64 (p : Int)) := by rw [← hW2, cell_of (heap_alloc_new w1 _)]; rfl
        have y1 : W2.cell? ⟨w1.heap.size, 1, none⟩ = some (.int .i64 (q : Int)) := by rw [← hW2, cell_of (heap_alloc_new w1 _)]; rfl
        have y2 : W2.cell? ⟨w1.heap.size, 2, none⟩ = some (.slice a1 KL c1) := by rw [← hW2, cell_of (heap_alloc_new w1 _)]; rfl
        have b3 : Below W2.heap.size W2 (W2.alloc (.cells #[.int .i64 (p : Int), .int .i64 (q : Int), .slice a1 KL c1] 86)) := (Below.refl _ _).alloc (Nat.le_refl _) _
        have hone := rs_one (E := rowE) (w := W2) (vs := [.int .i64 (p : Int), .int .i64 (q : Int), .slice a1 KL c1]) (x := ⟨(p, q), k⟩) ⟨a1, c1, by rw [hKL], by rw [← hKL]; exact hskl.later b2⟩
        have HONE := hid hone
        have B1 := HB.out.trans (b1.mono HB.out.size)
        have B2 := B1.trans (b2.mono B1.size)
        have HB3 := hid (B2.trans (b3.mono B2.size))
        have HR3 := hid (((HROW.out.later b1).later b2).later b3)
        have HSEP : Hid (∀ u ∈ [Value.int .i64 (p : Int), .int .i64 (q : Int), .slice a1 KL c1], ∀ b, Refs u b → (Value.slice v1 v2 v3).ownBlock ≠ some b) := fun u hu b hr e => by
          simp only [List.mem_cons, List.not_mem_nil, or_false] at hu
          rcases hu with rfl | rfl | rfl
          · exact (refs_int hr).elim
          · exact (refs_int hr).elim
          · have h1 := (HROW.out.own_lt e).2
            have h2 : wr.heap.size ≤ b := by
              obtain ⟨off, l9, c9, he, hl9⟩ := hr
              rcases r1.2 with z | ⟨g, cap9, cur, z1, z2, z3, z4⟩
              · simp only [Value.slice.injEq] at he
                obtain ⟨rfl, rfl, rfl⟩ := he
                cases z.1
              · simp only [Value.slice.injEq] at he z1
                obtain ⟨rfl, rfl, rfl⟩ := he
                simp only [Option.some.injEq, Addr.mk.injEq] at z1
                omega
            omega
        have HLN : Hid (acc.length ≤ 5000000) := by have := HAC.out; have := HDL.out; show _ ≤ _; omega
        obtain ⟨a9, hca⟩ : ∃ x, x = cutA a c m := ⟨_, rfl⟩
        obtain ⟨c9, hcc⟩ : ∃ x, x = c - m := ⟨_, rfl⟩
        obtain ⟨D9, hcd⟩ : ∃ x, x = DL - m := ⟨_, rfl⟩
        rw [← hca, ← hcc, ← hcd] at hcf HRE2
        have HD9 : Hid (D9 = (d.drop m).length ∧ D9 < gk ∧ D9 ≤ n ∧ acc.length + 1 + D9 ≤ len) := ⟨by rw [hcd, HM.out.2.2], by have := HDL.out; have := HM.out; omega, by have := HDL.out; have := HM.out; omega, by have := HAC.out; have := HDL.out; have := HM.out; omega⟩
        clear o1 hrow b1 b2 b3 r1 hskl hone B1 B2 u1 u2 u3 u4 hokk hca hcc hcd hKL
        go_wp2_with (at_builtin; refine wpList_appS rowE (t := 71) (z := .agg #[.int .i64 0, .int .i64 0, .slice none 0 0]) (bytes := 40) (B := w.heap.size) Try.underlying71 rowE_info rfl (by decide) rfl (.tmp 22) (.tmp 24) rfl rfl HR3.out rfl HONE.out HSEP.out (by have := HLN.out; omega) (by have := HLN.out; omega) HB3.out.size ?_; intro v9 w9 r9 g9 m9)
        have HB9 := hid (HB3.out.trans (HR3.out.below g9 HB3.out.size))
        go_roundg D9
        case measure => exact HD9.out.2.1
        case rel => exact ⟨a9, c9, n, d.drop m, acc ++ [⟨(p, q), k⟩], by rw [← HD9.out.1], by rw [← HD9.out.1]; exact Nat.le_refl _, by rw [← HD9.out.1]; exact HD9.out.2.2.1, r9, HB9.out, by rw [← HD9.out.1]; exact HRE2.out, HO2.out, by rw [← HD9.out.1, List.length_append]; simpa using HD9.out.2.2.2⟩
theorem teK_err {x : List Int} {r : List (List Int)} {acc : List EntV} (h : tkEL x ≠ 0) : teK (x :: r) acc = (tkEL x, []) := by
  conv => lhs; unfold teK
  rw [if_pos h]
theorem teK_ok {x : List Int} {r : List (List Int)} {acc : List EntV} (h : tkEL x = 0) : teK (x :: r) acc = teK r (if acc.length ≤ 4000 then acc ++ tkBL x else acc) := by
  conv => lhs; unfold teK
  rw [if_neg (not_not_intro h)]
theorem tkBL_len (x : List Int) : (tkBL x).length ≤ 401 := by
  unfold tkBL
  split
  · rw [List.length_take]; omega
  · simp
theorem teK_len : ∀ (l : List (List Int)) (acc : List EntV), acc.length ≤ 4401 → (teK l acc).2.length ≤ 4401
  | [], acc, h => h
  | x :: r, acc, h => by
    by_cases q : tkEL x = 0
    · rw [teK_ok q]
      refine teK_len r _ ?_
      have := tkBL_len x
      split
      · rw [List.length_append]; omega
      · exact h
    · rw [teK_err q]; simp
end Go.Proofs.Ytfecopldepnicaa

/- The landed table: the entries of blocks. -/
namespace Go.Proofs.Ytfecopldepnicaa
open Go.RowKit
set_option linter.unusedVariables false
set_option linter.unusedSimpArgs false

set_option maxHeartbeats 4000000 in
set_option maxRecDepth 100000 in
theorem ents_t {w : World} {ao pa : Option Addr} {len cap pl pc : Nat} {xs : List Int} {ss : List (Nat × Nat)} (h : Sl w ao len cap xs) (hl : len ≤ 5000000) (hs : RS spnE w pa pl pc ss) (hpl : pl ≤ 2 ^ 40) (hp : ∀ s ∈ ss, s.1 + s.2 + 4 ≤ len) :
    Calls Try.prog 49 #[.slice ao len cap, .slice pa pl pc] w fun e w' => ∃ v, e = .returned (.tuple #[v, .int .i64 ((teK (ss.map (ofS xs)) []).1 : Nat)]) ∧ RSV entE w' v (teK (ss.map (ofS xs)) []).2 ∧ Below w.heap.size w w' := by
  have hln : ss.length = pl := hs.len.1
  obtain ⟨T, hT⟩ : ∃ T, T = teK (ss.map (ofS xs)) [] := ⟨_, rfl⟩
  rw [← hT]
  have HS : Hid (Sl w ao len cap xs ∧ RS spnE w pa pl pc ss ∧ ss.length = pl ∧ (∀ s ∈ ss, s.1 + s.2 + 4 ≤ len) ∧ len ≤ 5000000 ∧ len ≤ cap) := ⟨h, hs, hln, hp, hl, h.2.2.2.1⟩
  have H0 : Hid (RowS entE w.heap.size w (.slice none 0 0) [] ∧ Below w.heap.size w w ∧ T = teK ((ss.drop 0).map (ofS xs)) [] ∧ ([] : List EntV).length ≤ 4401) := ⟨RowS.nil _ _, Below.refl _ _, by rw [hT]; rfl, by simp⟩
  have hpl62 : pl ≤ 2 ^ 61 := by omega
  clear h hs hp hl hT
  go_enter Try.func49, Try.ntmps49
  go_wp2_with fail
  go_loopg [6, 8, 9, 10, 13] pl (fun g v _ _ _ i wr => ∃ (k : Nat) (acc : List EntV), k + g = pl ∧ i = .int .i64 (k : Int) ∧ Hid (RowS entE w.heap.size wr v acc ∧ Below w.heap.size w wr ∧ T = teK ((ss.drop k).map (ofS xs)) acc ∧ acc.length ≤ 4401))
  case atStart => exact ⟨0, [], by omega, rfl, H0⟩
  case round =>
    obtain ⟨k, acc, hk, rfl, HK⟩ := hrel
    obtain ⟨v1, v2, v3, hv⟩ : ∃ v1 v2 v3, u6 = .slice v1 v2 v3 := by obtain ⟨a9, c9, hv, _⟩ := HK.out.1.rs; exact ⟨_, _, _, hv⟩
    have hv2 : v2 = acc.length := by obtain ⟨a9, c9, hv', _⟩ := HK.out.1.rs; rw [hv] at hv'; simp only [Value.slice.injEq] at hv'; exact hv'.2.1
    subst hv hv2
    by_cases hkl : k < pl
    · have hkl' : (k : Int) < (pl : Int) := by omega
      have hkx : k < ss.length := by omega
      have bel := HK.out.2.1
      obtain ⟨b, off, rfl, d0, d1⟩ := RS.spn (HS.out.2.1.later bel) (List.getElem?_eq_getElem hkx)
      have hsp := HS.out.2.2.2.1 _ (List.getElem_mem hkx)
      have hdr : (ss.drop k).map (ofS xs) = ofS xs ss[k] :: (ss.drop (k + 1)).map (ofS xs) := by rw [List.drop_eq_getElem_cons hkx]; rfl
      have HT1 : Hid (T = teK (ofS xs ss[k] :: (ss.drop (k + 1)).map (ofS xs)) acc) := by show _ = _; rw [HK.out.2.2.1, hdr]
      generalize ss[k] = s at d0 d1 hsp HT1
      obtain ⟨p, n⟩ := s
      simp only at d0 d1 hsp
      have hlen := HS.out.2.2.2.2.1
      obtain ⟨W, hW⟩ : ∃ W, wr.alloc (.cells #[.int .i64 (p : Int), .int .i64 (n : Int)] 74) = W := ⟨_, rfl⟩
      have bW : Below wr.heap.size wr W := by rw [← hW]; exact (Below.refl _ _).alloc (Nat.le_refl _) _
      have HBW := hid (bel.trans (bW.mono bel.size))
      have y0 : W.cell? ⟨wr.heap.size, 0, none⟩ = some (.int .i64 (p : Int)) := by rw [← hW, cell_of (heap_alloc_new wr _)]; rfl
      have y1 : W.cell? ⟨wr.heap.size, 1, none⟩ = some (.int .i64 (n : Int)) := by rw [← hW, cell_of (heap_alloc_new wr _)]; rfl
      have hof := spof_t (w := W) (ao := ao) (len := len) (cap := cap) (p := p) (n := n) (by have := HS.out.2.2.2.2.2; omega) (by omega) (by omega)
      have HDE : Hid (∀ wx, Below W.heap.size W wx → Calls Try.prog 54 #[.slice (cutA ao cap p) n (cap - p)] wx fun e w' => ∃ v, e = .returned (.tuple #[v, .int .i64 (tkEL (ofS xs (p, n)) : Nat)]) ∧ RGV wx.heap.size w' v (tkBL (ofS xs (p, n))) ∧ Below wx.heap.size wx w') := fun wx hb => by
        have := ((HS.out.1.later HBW.out).later hb).cut p (p + n) (by omega) (by omega)
        rw [show p + n - p = n by omega] at this
        exact decG_k this (by omega)
      have HBL := hid (tkBL_len (ofS xs (p, n)))
      have HROW : Hid (RowS entE w.heap.size W (.slice v1 acc.length v3) acc ∧ acc.length ≤ 4401) := ⟨HK.out.1.later bW, HK.out.2.2.2⟩
      have HOW : Hid (∀ g, (Value.slice v1 acc.length v3).ownBlock = some g → g < W.heap.size) := fun g hg => Nat.lt_of_lt_of_le (HK.out.1.own_lt hg).2 bW.size
      obtain ⟨X, hX⟩ : ∃ X, X = ofS xs (p, n) := ⟨_, rfl⟩
      rw [← hX] at HDE HBL HT1
      generalize cutA ao cap p = a1 at hof HDE
      generalize cap - p = c1 at hof HDE
      have hk62 : k ≤ 2 ^ 61 := by omega
      obtain ⟨GK, HG⟩ : ∃ g, Hid (g < gk ∧ k + 1 + g = pl) := ⟨gk - 1, by omega, by omega⟩
      obtain ⟨E, hE⟩ : ∃ E, E = tkEL X := ⟨_, rfl⟩
      obtain ⟨L, hL⟩ : ∃ L, L = tkBL X := ⟨_, rfl⟩
      rw [← hE, ← hL] at HDE
      rw [← hL] at HBL
      have HEL := hid (And.intro hE hL)
      clear hk bel bW hsp hlen HK hX hE hL hdr
      go_wp2_with (go_at_call 47; refine hof.mono ?_; rintro e w1 ⟨rfl, b1⟩)
      refine (HDE.out _ b1).mono ?_
      rintro e w2 ⟨v9, rfl, ⟨a9, c9, rfl, ⟨us, hu, hug⟩, _⟩, b2⟩
      have B1 := HBW.out.trans (b1.mono HBW.out.size)
      have HB2 := hid (B1.trans (b2.mono B1.size))
      have HR2 := hid ((HROW.out.1.later b1).later b2)
      have HU := hid hu
      have HSEP : Hid (∀ u ∈ us, ∀ b, Refs u b → (Value.slice v1 acc.length v3).ownBlock ≠ some b) := fun u hu b hr e => by
        have h1 := hug u hu b hr
        have h2 := HOW.out b e
        have h3 := b1.size
        omega
      have hL62 : L.length ≤ 2 ^ 60 := by have := HBL.out; omega
      have hac62 : acc.length ≤ 2 ^ 60 := by have := HROW.out.2; omega
      clear hof HDE b1 b2 B1 hu hug
      by_cases q : E = 0
      · subst q
        have HT2 : Hid (T = teK ((ss.drop (k + 1)).map (ofS xs)) (if acc.length ≤ 4000 then acc ++ L else acc)) := by show _ = _; rw [HT1.out, teK_ok HEL.out.1.symm, HEL.out.2]
        by_cases q2 : acc.length ≤ 4000
        · have q2' : (acc.length : Int) ≤ 4000 := by omega
          rw [if_pos q2] at HT2
          have HLN : Hid (acc.length ≤ 4000 ∧ L.length ≤ 401) := ⟨q2, HBL.out⟩
          generalize hAL : acc.length = AL at HR2 HSEP q2' hac62 ⊢
          have HAL := hid hAL
          generalize hLL : L.length = LL at HU hL62 ⊢
          have HLL := hid hLL
          clear q2 hAL hLL
          go_wp2_with (at_builtin; refine wpList_appS entE (t := 22) (z := .agg #[.slice none 0 0, .int .i64 0, .bool false, .int .i64 0, .slice none 0 0]) (bytes := 72) (B := w.heap.size) Try.underlying22 entE_info rfl (by decide) rfl (.tmp 30) (.tmp 31) rfl rfl HR2.out rfl HU.out HSEP.out (by have := HLN.out; have := HLL.out; omega) (by have := HLN.out; have := HLL.out; omega) HB2.out.size ?_; intro v10 w10 r10 g10 m10)
          have HB3 := hid (HB2.out.trans (HR2.out.below g10 HB2.out.size))
          go_roundg GK
          case measure => exact HG.out.1
          case rel => exact ⟨k + 1, acc ++ L, HG.out.2, by go_num, r10, HB3.out, HT2.out, by rw [List.length_append]; have := HLN.out; omega⟩
        · have q2' : ¬ ((acc.length : Int) ≤ 4000) := by omega
          rw [if_neg q2] at HT2
          have HLN := hid HROW.out.2
          generalize hAL : acc.length = AL at HR2 HSEP q2' hac62 HLN ⊢
          clear q2 hAL
          go_wp2_with fail
          go_roundg GK
          case measure => exact HG.out.1
          case rel => exact ⟨k + 1, acc, HG.out.2, by go_num, HR2.out, HB2.out, HT2.out, HROW.out.2⟩
      · have HT2 : Hid (T = (E, [])) := by show _ = _; rw [HT1.out, teK_err (by rw [← HEL.out.1]; exact q), HEL.out.1]
        have q' : ¬ ((E : Int) = 0) := by omega
        clear q
        go_wp2_with fail
        exact bodyPost_ret (v := .tuple #[.slice none 0 0, .int .i64 (E : Int)]) (by simp [results, Try.results49, go_sem]) rfl ⟨_, by rw [HT2.out], by rw [HT2.out]; exact RSV.nil _, HB2.out⟩
    · have hkl' : (pl : Int) ≤ (k : Int) := by omega
      have HE : Hid (T = (0, acc)) := by
        show _ = _
        rw [HK.out.2.2.1, List.drop_eq_nil_of_le (by omega)]
        rfl
      have HB := hid HK.out.2.1
      have HR := hid HK.out.1
      clear hk hkl HK
      go_wp2_with fail
      exact bodyPost_ret (v := .tuple #[.slice v1 acc.length v3, .int .i64 0]) (by simp [results, Try.results49, go_sem]) rfl ⟨_, by rw [HE.out]; rfl, by rw [HE.out]; exact RSV.ofRow HR.out, HB.out⟩
end Go.Proofs.Ytfecopldepnicaa

/- Maps from parts to numbers: one more for a key. -/
namespace Go.Proofs.Ytfecopldepnicaa
open Go.RowKit
open Go.WideElems (Fit rd rg pl rd_val elemAt entry_then_store)
open Go.Maps (Keyed)
open Go.ChangeMaps Go.MapKept
set_option linter.unusedVariables false
set_option linter.unusedSimpArgs false

theorem laidT : laidOutB Try.prog = true := by kernel_rfl
theorem spn_wide : (match Try.prog.underlying 74 with | some (.array _ _) | some (.struct _) => true | _ => false) = true := by kernel_rfl
theorem spn_row : (74 : TypeId) < Try.prog.types.size := of_decide_eq_true (by kernel_rfl)
set_option maxRecDepth 100000 in
theorem spn_law : WideMaps.KeyLaw Try.prog 74 := deep_law_laid laidT (m := 3) (by omega) spn_row (by kernel_rfl) spn_wide
theorem zero3 (w : World) : (zeroValue 3).run Try.prog w = .ok (.int .i64 0) w := by kernel_rfl
def spK (p q : Nat) : Value := .agg #[.int .i64 (p : Int), .int .i64 (q : Int)]
theorem wf64 {x : Int} (h : -9223372036854775808 ≤ x ∧ x ≤ 9223372036854775807) : (Lit.int .i64 x).wf = true := by
  have e1 : IntKind.i64.min = -9223372036854775808 := by decide
  have e2 : IntKind.i64.max = 9223372036854775807 := by decide
  simp only [Lit.wf, e1, e2, Bool.and_eq_true, decide_eq_true_eq]
  exact h
theorem spn_lits (d : Nat) (p q : Nat) (hp : p ≤ 2 ^ 60) (hq : q ≤ 2 ^ 60) : Try.prog.keyLits (d + 2) 74 [.int .i64 (p : Int), .int .i64 (q : Int)] = some [.int .i64 (p : Int), .int .i64 (q : Int)] := by
  have h1 : (Lit.int .i64 (p : Int)).wf = true := wf64 (by omega)
  have h2 : (Lit.int .i64 (q : Int)).wf = true := wf64 (by omega)
  have hc : Try.prog.cellsOf 74 = 2 := by kernel_rfl
  have hc3 : Try.prog.cellsOf 3 = 1 := by kernel_rfl
  have h3 : ∀ (x : Int), (Lit.int .i64 x).wf = true → Try.prog.keyLits (d + 1) 3 [.int .i64 x] = some [.int .i64 x] := fun x hx => by
    unfold Program.keyLits
    rw [Try.underlying3]
    simp [hx]
  unfold Program.keyLits
  rw [Try.underlying74]
  simp [hc, hc3, h3 _ h1, h3 _ h2]
theorem spn_key (p q : Nat) (hp : p ≤ 2 ^ 60) (hq : q ≤ 2 ^ 60) : ∃ l, keyOf Try.prog 74 (spK p q) = some l := by
  have hk : Try.prog.keyType 74 = true := by kernel_rfl
  have hc : Try.prog.cellsOf 74 = 2 := by kernel_rfl
  obtain ⟨d, hd⟩ : ∃ d, Try.prog.types.size + 1 = d + 2 := by
    have h0 : 1 ≤ Try.prog.types.size := Nat.lt_of_le_of_lt (Nat.zero_le _) spn_row
    generalize Try.prog.types.size = n at h0
    exact ⟨n - 1, by omega⟩
  refine ⟨.string (keyBytes [.int .i64 (p : Int), .int .i64 (q : Int)]), ?_⟩
  unfold keyOf spK
  rw [Try.underlying74, hd]
  simp only [hk, Value.formed, Try.underlying74, hc, Value.cells]
  rw [spn_lits d p q hp hq]
  rfl
theorem spK_inj {p q p' q' : Nat} (h : spK p q = spK p' q') : (p, q) = (p', q') := by
  unfold spK at h
  simp only [Value.agg.injEq, Array.mk.injEq, List.cons.injEq, Value.int.injEq, true_and, and_true] at h
  simp only [Prod.mk.injEq]
  omega
/-- What a map from parts to numbers tells. -/
def spD (D : DataW Unit) (f : Nat × Nat → Nat) : Prop := ∀ p q l, p ≤ 2 ^ 60 → q ≤ 2 ^ 60 → keyOf Try.prog 74 (spK p q) = some l → D.atKey l (.lit (.int .i64 0)) = .lit (.int .i64 (f (p, q) : Int))
def MapS (w : World) (b n : Nat) (f : Nat × Nat → Nat) : Prop := ∃ D : DataW Unit, w.ownsMap Try.prog 74 (plainElem Try.prog 3) b n D ∧ Maps.IsMap D ∧ spD D f
theorem under3 : Try.prog.underlying 3 = some (.int .i64) := Try.underlying3
theorem underM : Try.prog.underlying 110 = some (.map 74 3) := Try.underlying110
theorem mapS_new (w : World) : MapS (w.alloc (.map #[] 0)) w.heap.size 0 (fun _ => 0) := ⟨.map [], World.ownsMap_made w _ _ _, Maps.isMap_empty, fun p q l _ _ _ => rfl⟩
theorem MapS.look {w : World} {b n : Nat} {f : Nat × Nat → Nat} (h : MapS w b n f) {p q : Nat} (hp : p ≤ 2 ^ 60) (hq : q ≤ 2 ^ 60) : (Instr.lookup 110 (.map (some b)) (spK p q) false).run Try.prog w = .ok (.int .i64 (f (p, q) : Int)) w := by
  obtain ⟨D, h1, h2, h3⟩ := h
  obtain ⟨l, hl⟩ := spn_key p q hp hq
  obtain ⟨c, r1, r2, r3⟩ := h1.lookup_int (Maps.Keyed.of_law spn_law) underM under3 (zero3 w) hl
  rw [h3 p q l hp hq hl] at r2
  simp only [DataW.lit.injEq, Lit.int.injEq, true_and] at r2
  rw [r1, r2]
theorem MapS.same {w w2 : World} {b n : Nat} {f : Nat × Nat → Nat} (h : MapS w b n f) (hb : w2.heap[b]? = w.heap[b]?) : MapS w2 b n f := by
  obtain ⟨D, ⟨es, clock, h1, h2⟩, h3⟩ := h
  exact ⟨D, ⟨es, clock, hb.trans h1, h2⟩, h3⟩
theorem MapS.lt {w : World} {b n : Nat} {f : Nat × Nat → Nat} (h : MapS w b n f) : b < w.heap.size := by
  obtain ⟨D, ⟨es, clock, h1, h2⟩, h3⟩ := h
  exact (Array.getElem?_eq_some_iff.1 h1).1
/-- A number for a key. -/
theorem MapS.put {w : World} {b n : Nat} {f : Nat × Nat → Nat} (h : MapS w b n f) (hn : n < 1000000000) {p q v : Nat} (hp : p ≤ 2 ^ 60) (hq : q ≤ 2 ^ 60) (hv : v ≤ 2 ^ 60) :
    ∃ w', (Instr.mapUpdate 110 (.map (some b)) (spK p q) (.int .i64 (v : Int))).run Try.prog w = .ok () w' ∧ MapS w' b (n + 1) (fun s => if s = (p, q) then v else f s) ∧ w.grownBy w' (some b) := by
  obtain ⟨D, h1, h2, h3⟩ := h
  obtain ⟨l, hl⟩ := spn_key p q hp hq
  have K := Maps.Keyed.of_law spn_law
  obtain ⟨w', r1, r2, r3⟩ := h1.update K underM (by unfold maxLen; omega) hl (plainElem_int under3 (wf64 (x := (v : Int)) (by omega)))
  refine ⟨w', r1, ⟨_, r2, ?_, fun p' q' l' hp' hq' hl' => ?_⟩, r3⟩
  · obtain ⟨es, rfl⟩ := h2
    exact ⟨_, rfl⟩
  · show _ = DataW.lit (Lit.int .i64 ((if (p', q') = (p, q) then v else f (p', q') : Nat) : Int))
    by_cases e : (p', q') = (p, q)
    · rw [if_pos e]
      simp only [Prod.mk.injEq] at e
      obtain ⟨rfl, rfl⟩ := e
      rw [hl] at hl'
      cases hl'
      exact Maps.atKey_put_same h2 (K.key hl) _ _
    · rw [if_neg e]
      have hne : l' ≠ l := fun z => by
        subst z
        exact e (spK_inj (K.inj hl' hl))
      rw [Maps.atKey_put_other hne]
      exact h3 p' q' l' hp' hq' hl'
theorem run_same {α : Type} {x : Result α} {a b : α} {w w' : World} (h : x = .ok a w) (g : x = .ok b w') : a = b ∧ w = w' := by
  rw [h] at g
  cases g
  exact ⟨rfl, rfl⟩
/-- One more for a key, where the entry is found first. -/
theorem MapS.inc {w : World} {b n : Nat} {f : Nat × Nat → Nat} (h : MapS w b n f) (hn : n < 1000000000) {p q : Nat} (hp : p ≤ 2 ^ 60) (hq : q ≤ 2 ^ 60) :
    ∃ (v0 : Value) (st : Nat) (w1 : World), (Instr.mapEntry 110 (.map (some b)) (spK p q)).run Try.prog w = .ok (.tuple #[v0, goInt st]) w1 ∧ w.grownBy w1 (some b) ∧ MapS w1 b (n + 1) f ∧
      ∀ (w2 : World) (v : Nat), v ≤ 2 ^ 60 → w2.heap[b]? = w1.heap[b]? → ∃ w3, (Instr.entryStore 110 (.map (some b)) (goInt st) (.int .i64 (v : Int))).run Try.prog w2 = .ok () w3 ∧ MapS w3 b (n + 1) (fun s => if s = (p, q) then v else f s) ∧ w2.grownBy w3 (some b) := by
  have hput := fun v hv => h.put hn (v := v) hp hq hv
  have h0 := h
  obtain ⟨D, ⟨es, clock, hb, F, hs, hDD⟩, hm, hD⟩ := h
  obtain ⟨l, hl⟩ := spn_key p q hp hq
  obtain ⟨v0, st, es1, clock1, hE, hcase, hS⟩ := entry_then_store spn_law underM (fun u => zero3 u) hb F hl
  have hgr : ∀ (x : World) (o : Obj) (es9 : Array MapEntry) (c9 : Nat), x.heap[b]? = some (.map es9 c9) → x.grownBy (setBlock x b o) (some b) := fun x o es9 c9 hy =>
    ⟨rfl, rfl, rfl, by simp [setBlock], fun i _ hi => heap_setBlock_other hy _ (fun e => hi (by rw [e]))⟩
  have hb1 : (setBlock w b (.map es1 clock1)).heap[b]? = some (.map es1 clock1) := heap_setBlock_same hb _
  refine ⟨v0, st, _, hE, hgr w _ _ _ hb, ?_, fun w2 v hv hw2 => ?_⟩
  · rcases spn_law.find w hl es.toList F.keys with ⟨f1, f2⟩ | ⟨j, e0, f1, f2, f3⟩
    · have hE2 : (Instr.mapEntry 110 (.map (some b)) (spK p q)).run Try.prog w = .ok (.tuple #[.int .i64 0, goInt clock]) (setBlock w b (.map (es.push ⟨spK p q, .int .i64 0, clock⟩) (clock + 1))) := by
        simp [Instr.mapEntry, run_underlying underM, MapKept.run_getObj_map hb, spn_law.check w false hl, f1, zero3, MapKept.run_setObj_map _ hb, Result.andThen, setBlock]
      obtain ⟨_, ew⟩ := run_same hE hE2
      rw [ew]
      obtain ⟨w', r1, r2, r3⟩ := hput 0 (by omega)
      have hU : (Instr.mapUpdate 110 (.map (some b)) (spK p q) (.int .i64 ((0 : Nat) : Int))).run Try.prog w = .ok () (setBlock w b (.map (es.push ⟨spK p q, .int .i64 0, clock⟩) (clock + 1))) := by
        simp [Instr.mapUpdate, run_underlying underM, MapKept.run_getObj_map hb, spn_law.check w false hl, f1, MapKept.run_setObj_map _ hb, Result.andThen, setBlock]
      obtain ⟨_, ew2⟩ := run_same r1 hU
      rw [← ew2]
      have hz : f (p, q) = 0 := by
        have h1 := hD p q l hp hq hl
        rcases Maps.fit_look false (Maps.Keyed.of_law spn_law) underM (zero3 w) hb F hl with ⟨_, _, hat⟩ | ⟨e0, y, hm0, hk0, _⟩
        · rw [hDD, hat] at h1
          simp only [DataW.lit.injEq, Lit.int.injEq, true_and] at h1
          omega
        · exact absurd hk0 (f2 e0 hm0)
      have hfe : (fun s => if s = (p, q) then 0 else f s) = f := by
        funext s
        by_cases e : s = (p, q)
        · rw [if_pos e, e, hz]
        · rw [if_neg e]
      rw [hfe] at r2
      exact r2
    · have hj : es[j]? = some e0 := by simpa using f2
      have hsame : es.modify j (fun e => { e with key := spK p q }) = es := by
        apply Array.ext'
        rw [Array.toList_modify, modify_eq_set _ _ _ _ f2]
        have : ({ e0 with key := spK p q } : MapEntry) = e0 := by rw [← f3]
        rw [this]
        exact WideElems.set_self _ _ _ f2
      have hE2 : (Instr.mapEntry 110 (.map (some b)) (spK p q)).run Try.prog w = .ok (.tuple #[e0.val, goInt e0.born]) (setBlock w b (.map es clock)) := by
        simp [Instr.mapEntry, run_underlying underM, MapKept.run_getObj_map hb, spn_law.check w false hl, f1, hj, f3, spn_law.stays w hl, hsame, MapKept.run_setObj_map _ hb, Result.andThen, setBlock]
      obtain ⟨_, ew⟩ := run_same hE hE2
      rw [ew]
      have : MapS (setBlock w b (.map es clock)) b n f := h0.same (by rw [heap_setBlock_same hb, hb])
      obtain ⟨D', q1, q2⟩ := this
      exact ⟨D', q1.mono (by omega), q2⟩
  · rw [hb1] at hw2
    obtain ⟨es', clock', r1, r2⟩ := hS w2 (.int .i64 (v : Int)) hw2
    obtain ⟨w', s1, s2, s3⟩ := hput v hv
    obtain ⟨_, ew⟩ := run_same r2 s1
    refine ⟨_, r1, s2.same ?_, hgr w2 _ _ _ hw2⟩
    rw [heap_setBlock_same hw2, ← ew, heap_setBlock_same hb]
end Go.Proofs.Ytfecopldepnicaa
