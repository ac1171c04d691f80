/- The laws on filters: Keeps. -/
import Derived.Test.YtpmebgcknijnkaaBllaw2
namespace Go.Proofs.Ytpmebgcknijnkaa
open Go.RowKit
set_option linter.unusedVariables false
set_option linter.unusedSimpArgs false

/-- Bytes in a cell. -/
def byE : El (List Int) where
  ty := 22
  size := 1
  M := fun w vs x => ∃ a c, vs = [.slice a x.length c] ∧ Sl w a x.length c x
  len := fun h => by obtain ⟨a, c, rfl, _⟩ := h; rfl
  one := fun h v hv => by obtain ⟨a, c, rfl, _⟩ := h; rw [List.mem_singleton.1 hv]; rfl
  lt := fun h v hv b hr => by obtain ⟨a, c, rfl, hs⟩ := h; rw [List.mem_singleton.1 hv] at hr; exact hs.lt hr
  keep := fun h hk => by obtain ⟨a, c, rfl, hs⟩ := h; exact ⟨a, c, rfl, hs.keep fun b hr => hk _ (by simp) b hr⟩
theorem byE_info : (Try.prog.info? byE.ty).map (fun i => (i.zero, i.size, i.bytes)) = some (some (.slice none 0 0), byE.size, 24) := by kernel_rfl
theorem lay_by {w : World} : ∀ {rs : List (List Int)} {us : List Value}, us.length = rs.length → (∀ (i : Nat) (r : List Int), rs[i]? = some r → ∃ a c, us[i]? = some (.slice a r.length c) ∧ Sl w a r.length c r) → Lay byE w us rs
  | [], us, h, _ => List.eq_nil_of_length_eq_zero h
  | r :: rs, [], h, _ => by simp at h
  | r :: rs, u :: us, h, g => by
    obtain ⟨a, c, e, hs⟩ := g 0 r rfl
    simp only [List.getElem?_cons_zero, Option.some.injEq] at e
    subst e
    exact ⟨[_], us, rfl, ⟨a, c, rfl, hs⟩, lay_by (by simpa using h) fun i x hx => g (i + 1) x hx⟩
def cellAt (w : World) (ao : Option Addr) (i : Nat) : Value := match ao with | some ad => (w.cell? ⟨ad.block, ad.off + i, none⟩).getD undef | none => undef
theorem rb_rsu {w : World} {ao : Option Addr} {len cap : Nat} {rs : List (List Int)} (h : RB w ao len cap rs) : ∃ us, RSu byE w ao len cap us rs := by
  obtain ⟨h1, h2, h3, h4, h5⟩ := h
  obtain ⟨us, hus⟩ : ∃ us : List Value, us = (List.range rs.length).map (cellAt w ao) := ⟨_, rfl⟩
  have hat : ∀ (i : Nat) (r : List Int), rs[i]? = some r → ∃ b off a c, ao = some ⟨b, off, none⟩ ∧ w.cell? ⟨b, off + i, none⟩ = some (.slice a r.length c) ∧ Sl w a r.length c r ∧ us[i]? = some (.slice a r.length c) := fun i r hr => by
    obtain ⟨b, off, a, c, e, hc, hs⟩ := h5 i r hr
    have hi := (List.getElem?_eq_some_iff.1 hr).1
    refine ⟨b, off, a, c, e, hc, hs, ?_⟩
    rw [hus, List.getElem?_map, List.getElem?_range hi, e]
    simp [cellAt, hc]
  refine ⟨us, h1, h2, h3, h4, lay_by (by rw [hus]; simp) (fun i r hr => ?_), fun j u hu => ?_⟩
  · obtain ⟨b, off, a, c, e, hc, hs, hu⟩ := hat i r hr
    exact ⟨a, c, hu, hs⟩
  · have hj : j < rs.length := by have := (List.getElem?_eq_some_iff.1 hu).1; rw [hus] at this; simpa using this
    obtain ⟨b, off, a, c, e, hc, hs, hu'⟩ := hat j rs[j] (List.getElem?_eq_getElem hj)
    rw [hu'] at hu
    simp only [Option.some.injEq] at hu
    subst hu
    exact ⟨b, off, e, hc⟩
theorem rs_rb {w : World} {ao : Option Addr} {len cap : Nat} {rs : List (List Int)} (h : RS byE w ao len cap rs) : RB w ao len cap rs := by
  have h' := h
  obtain ⟨us, h1, h2, h3, h4, _⟩ := h
  refine ⟨h1, h2, h3, h4, fun i r hr => ?_⟩
  obtain ⟨b, off, vs, e, ⟨a, c, hv, hs⟩, hc⟩ := RS.at h' (by decide) hr
  subst hv
  refine ⟨b, off, a, c, e, ?_, hs⟩
  have := hc 0 _ rfl
  rw [show off + (i * byE.size + 0) = off + i by show off + (i * 1 + 0) = off + i; omega] at this
  exact this
theorem rsu_lt {w : World} {ao : Option Addr} {len cap : Nat} {us : List Value} {rs : List (List Int)} (h : RSu byE w ao len cap us rs) : ∀ u ∈ us, ∀ b, Refs u b → b < w.heap.size := h.2.2.2.2.1.lt
theorem rev_at10 {l : List (List Int)} {N k : Nat} {o : List Int} (hN : l.length = N) (hk : k < N) (h : l[N - 1 - k]? = some o) : l.reverse[k]? = some o := by
  rw [List.getElem?_reverse (by omega), hN]
  exact h
theorem rowS_empty (w : World) : RowS byE w.heap.size (w.alloc (.cells #[] 22)) (.slice (some ⟨w.heap.size, 0, none⟩) 0 0) [] :=
  ⟨[], ⟨rfl, .inr ⟨w.heap.size, 0, #[], rfl, Nat.le_refl _, heap_alloc_new w _, Nat.le_refl _, Nat.zero_le _, rfl, rfl⟩⟩, rfl, fun u hu => by cases hu⟩

set_option maxHeartbeats 4000000 in
set_option maxRecDepth 100000 in
theorem keeps_any (D : PBl) {w : World} {ao bo : Option Addr} {len cap bl bc : Nat} {keys others : List (List Int)} (h1 : RB w ao len cap keys) (h2 : RB w bo bl bc others) :
    Calls Try.prog 7 #[.slice ao len cap, .slice bo bl bc] w fun e w' => e = .returned (.bool true) ∧ Below w.heap.size w w' := by
  have HS : Hid (RB w ao len cap keys ∧ RB w bo bl bc others ∧ keys.length = len ∧ others.length = bl) := ⟨h1, h2, h1.1, h2.1⟩
  have hf1 := few_any h1
  have hf2 := few_any h2
  clear h1 h2
  go_enter Try.func7, Try.ntmps7
  go_wp2_with fail
  refine hf1.mono ?_
  rintro e w1 ⟨hb1, hw⟩
  obtain rfl := hw.symm
  clear hf1
  rcases hb1 with rfl | ⟨rfl, hb1⟩
  · clear hf2
    go_wp2_with fail
    refine (awake10_any D w).mono ?_
    rintro e w2 ⟨rfl, b2⟩
    go_wp2_with fail
    exact bodyPost_ret (v := .bool true) (by simp [results, Try.results7, go_sem]) rfl ⟨rfl, b2⟩
  go_wp2_with fail
  refine hf2.mono ?_
  rintro e w2 ⟨hb2, hw⟩
  obtain rfl := hw.symm
  clear hf2
  rcases hb2 with rfl | ⟨rfl, hb2⟩
  · go_wp2_with fail
    refine (awake10_any D w).mono ?_
    rintro e w2 ⟨rfl, b2⟩
    go_wp2_with fail
    exact bodyPost_ret (v := .bool true) (by simp [results, Try.results7, go_sem]) rfl ⟨rfl, b2⟩
  have HF : Hid (len ≤ 200 ∧ bl ≤ 200) := ⟨by have := hb1.1; have := HS.out; omega, by have := hb2.1; have := HS.out; omega⟩
  have hl62 : len ≤ 2 ^ 61 := by have := HF.out; omega
  have hbd := D.build HS.out.1 (by have := HF.out; omega)
  clear hb1 hb2
  go_wp2_with fail
  refine hbd.mono ?_
  rintro e w3 ⟨v3, rfl, ⟨a3, c3, rfl, s3⟩, b3⟩
  have HA : Hid (Sl w3 a3 (fil keys).length c3 (fil keys) ∧ Below w.heap.size w w3) := ⟨s3, b3⟩
  have H0 : Hid (RowS byE w3.heap.size w3 (.slice none 0 0) (keys.reverse.take 0) ∧ Below w3.heap.size w3 w3) := ⟨by rw [List.take_zero]; exact RowS.nil _ _, Below.refl _ _⟩
  obtain ⟨fl, hfl⟩ : ∃ n, n = (fil keys).length := ⟨_, rfl⟩
  rw [← hfl] at HA ⊢
  have HFL : Hid (fl = (fil keys).length ∧ 8 ≤ fl ∧ fl ≤ 2 ^ 40) := ⟨hfl, by rw [hfl, fil_len]; exact fsz_ge _, by rw [hfl, fil_len]; unfold fsz; have := HS.out; have := HF.out; omega⟩
  clear hbd s3 b3 hfl
  go_wp2_with fail
  go_loopg [7, 8, 31] len (fun g v _ i wr => ∃ k : Nat, k + g = len ∧ i = .int .i64 (k : Int) ∧ Hid (RowS byE w3.heap.size wr v (keys.reverse.take k) ∧ Below w3.heap.size w3 wr))
  case atStart => exact ⟨0, by omega, rfl, H0⟩
  case round =>
    obtain ⟨k, hk, rfl, HK⟩ := hrel
    by_cases hkl : k < len
    · have hkl' : (k : Int) < (len : Int) := by omega
      have hix : len - 1 - k < keys.length := by have := HS.out; omega
      have HRV := hid9 (rev_at10 HS.out.2.2.1 hkl (List.getElem?_eq_getElem hix))
      obtain ⟨b, off, a, c, rfl, hc0, hs0⟩ := HS.out.1.2.2.2.2 (len - 1 - k) keys[len - 1 - k] (List.getElem?_eq_getElem hix)
      have bw : Below w.heap.size w wr := HA.out.2.trans (HK.out.2.mono HA.out.2.size)
      have hc := cell_later bw hc0
      generalize keys[len - 1 - k] = x at hc hs0 hc0 HRV
      have b1 : Below wr.heap.size wr (wr.alloc (.cells #[.slice a x.length c] 22)) := (Below.refl _ _).alloc (Nat.le_refl _) _
      have hone := rs_one (E := byE) (w := wr) (vs := [.slice a x.length c]) (x := x) ⟨a, c, rfl, hs0.later bw⟩
      have HA2 : Hid (RowS byE w3.heap.size (wr.alloc (.cells #[.slice a x.length c] 22)) u7 (keys.reverse.take k) ∧ Below w3.heap.size w3 (wr.alloc (.cells #[.slice a x.length c] 22)) ∧ (keys.reverse.take k).length ≤ 200) := ⟨HK.out.1.later b1, HK.out.2.trans (b1.mono HK.out.2.size), by rw [List.length_take]; have := HF.out; omega⟩
      have HO := hid9 hone
      have HSE : Hid (∀ u ∈ [Value.slice a x.length c], ∀ b, Refs u b → u7.ownBlock ≠ some b) := fun u hu b hr e => by
        rw [List.mem_singleton.1 hu] at hr
        have h1 := hs0.lt hr
        have h2 := (HK.out.1.own_lt e).1
        have h3 := HA.out.2.size
        omega
      have HT : Hid (keys.reverse.take (k + 1) = keys.reverse.take k ++ [x]) := by show _ = _; rw [List.take_add_one, HRV.out]; rfl
      have hb1' : (k : Int) ≤ (len : Int) - 1 := by omega
      have hb2' : (len : Int) - 1 - (k : Int) < (len : Int) := by omega
      have hk62 : k ≤ 2 ^ 61 := by omega
      obtain ⟨GK, HG⟩ : ∃ g, Hid (g < gk ∧ k + 1 + g = len) := ⟨gk - 1, by omega, by omega⟩
      clear hk hc0 hs0 bw b1 hone HK
      go_wp2_with (at_builtin; refine wpList_appS byE (t := 29) (z := .slice none 0 0) (bytes := 24) Try.underlying29 byE_info rfl (by decide) rfl (.tmp 34) (.tmp 43) rfl rfl HA2.out.1 rfl HO.out HSE.out (by have := HA2.out.2.2; omega) (by have := HA2.out.2.2; omega) HA2.out.2.1.size ?_; intro v9 w9 r9 g9 m9)
      have HF9 : Hid (RowS byE w3.heap.size w9 v9 (keys.reverse.take (k + 1)) ∧ Below w3.heap.size w3 w9) := ⟨by rw [HT.out]; exact r9, HA2.out.2.1.trans (HA2.out.1.below g9 HA2.out.2.1.size)⟩
      go_roundg GK
      case measure => exact HG.out.1
      case rel => exact ⟨k + 1, HG.out.2, by go_num, HF9⟩
    · have hkl' : (len : Int) ≤ (k : Int) := by omega
      have hrow := HK.out.1
      rw [List.take_of_length_le (by rw [List.length_reverse]; have := HS.out; omega)] at hrow
      obtain ⟨a4, c4, hv4, rs4⟩ := hrow.rs
      rw [List.length_reverse, HS.out.2.2.1] at hv4 rs4
      subst hv4
      have hbd := D.build (rs_rb rs4) (by have := HF.out; omega)
      rw [fil_perm (List.reverse_perm keys)] at hbd
      have HB := hid9 HK.out.2
      clear hk hkl HK rs4 hrow H0
      go_wp2_with fail
      refine hbd.mono ?_
      rintro e w4 ⟨v4, rfl, ⟨a5, c5, rfl, s5⟩, b5⟩
      rw [← HFL.out.1] at s5 ⊢
      have HB4 : Hid (Below w3.heap.size w3 w4 ∧ Sl w4 a5 fl c5 (fil keys)) := ⟨HB.out.trans (b5.mono HB.out.size), s5⟩
      clear hbd s5 b5
      obtain ⟨us1, hu1⟩ := rb_rsu HS.out.1
      obtain ⟨us2, hu2⟩ := rb_rsu HS.out.2.1
      have b04 : Below w.heap.size w w4 := HA.out.2.trans (HB4.out.1.mono HA.out.2.size)
      have b4e : Below w4.heap.size w4 (w4.alloc (.cells #[] 22)) := (Below.refl _ _).alloc (Nat.le_refl _) _
      have HU : Hid (RSu byE w ao len cap us1 keys ∧ RSu byE w bo bl bc us2 others ∧ Below w.heap.size w w4 ∧ Below w4.heap.size w4 (w4.alloc (.cells #[] 22)) ∧ Below w.heap.size w (w4.alloc (.cells #[] 22))) := ⟨hu1, hu2, b04, b4e, b04.trans (b4e.mono b04.size)⟩
      have HS1 : Hid (∀ u ∈ us1, ∀ b, Refs u b → (Value.slice (some ⟨w4.heap.size, 0, none⟩) 0 0).ownBlock ≠ some b) := fun u hu b hr e => by
        have h1 := rsu_lt HU.out.1 u hu b hr
        have h2 := HU.out.2.2.1.size
        simp only [Value.ownBlock, Option.some.injEq] at e
        omega
      have HLN : Hid (keys.length = len ∧ others.length = bl ∧ len ≤ 200 ∧ bl ≤ 200) := ⟨HS.out.2.2.1, HS.out.2.2.2, HF.out.1, HF.out.2⟩
      clear hu1 hu2 b04 b4e
      go_wp2_with (first
        | (at_builtin; refine wpList_appS byE (t := 29) (z := .slice none 0 0) (bytes := 24) Try.underlying29 byE_info rfl (by decide) rfl (.tmp 52) (.tmp 53) rfl rfl (rowS_empty w4) rfl (HU.out.1.later HU.out.2.2.2.2) HS1.out (by have := HLN.out; simp; omega) (by have := HLN.out; simp; omega) HU.out.2.2.2.1.size ?_; intro v5 w5 r5 g5 m5; have b5 : Below w4.heap.size w4 w5 := HU.out.2.2.2.1.trans ((rowS_empty w4).below g5 HU.out.2.2.2.1.size); have b05 : Below w.heap.size w w5 := HU.out.2.2.1.trans (b5.mono HU.out.2.2.1.size); have HS2 : ∀ u ∈ us2, ∀ b, Refs u b → v5.ownBlock ≠ some b := (fun u hu b hr e => by have h1 := rsu_lt HU.out.2.1 u hu b hr; have h2 := (r5.own_lt e).1; have h3 := HU.out.2.2.1.size; omega))
        | (at_builtin; refine wpList_appS byE (t := 29) (z := .slice none 0 0) (bytes := 24) Try.underlying29 byE_info rfl (by decide) rfl (.tmp 54) (.tmp 55) rfl rfl r5 rfl (HU.out.2.1.later b05) HS2 (by have := HLN.out; simp; omega) (by have := HLN.out; simp; omega) b5.size ?_; intro v6 w6 r6 g6 m6; have b6 : Below w4.heap.size w4 w6 := b5.trans (r5.below g6 b5.size)))
      rw [List.nil_append] at r6
      obtain ⟨a6, c6, hv6, rs6⟩ := r6.rs
      have hl6 : (keys ++ others).length = len + bl := by rw [List.length_append]; have := HLN.out; omega
      rw [hl6] at hv6 rs6
      subst hv6
      have hbd := D.build (rs_rb rs6) (by have := HLN.out; omega)
      have HB6 : Hid (Below w4.heap.size w4 w6) := b6
      clear r5 g5 m5 b5 b05 HS2 r6 g6 m6 rs6 b6 HS1 hl6
      refine hbd.mono ?_
      rintro e w7 ⟨v7, rfl, ⟨a7, c7, rfl, s7⟩, b7⟩
      obtain ⟨gl, hgl⟩ : ∃ n, n = (fil (keys ++ others)).length := ⟨_, rfl⟩
      rw [← hgl] at s7 ⊢
      have hfg : fl ≤ gl := by
        rw [hgl, HFL.out.1, fil_len, fil_len]
        exact fsz_mono (by simp)
      have hg62 : gl ≤ 2 ^ 40 := by
        rw [hgl, fil_len]
        unfold fsz
        have := HLN.out
        rw [List.length_append]
        omega
      have b47 : Below w4.heap.size w4 w7 := HB6.out.trans (b7.mono HB6.out.size)
      have b37 : Below w3.heap.size w3 w7 := HB4.out.1.trans (b47.mono HB4.out.1.size)
      have H7 : Hid (Sl w7 a3 fl c3 (fil keys) ∧ Sl w7 a7 gl c7 (fil (keys ++ others)) ∧ Below w.heap.size w w7) := ⟨HA.out.1.later b37, s7, HA.out.2.trans (b37.mono HA.out.2.size)⟩
      have g1 := str_l H7.out.1
      have g2 := str_l (HB4.out.2.later b47)
      have hne : ((strOfNums (fil keys)).toList != (strOfNums (fil keys)).toList) = false := by simp
      have h8 : ¬ ((fl : Int) < 8) := by have := HFL.out; omega
      have hgf : ¬ ((gl : Int) < (fl : Int)) := by omega
      have h8' : decide (fl < 8) = false := by simp; have := HFL.out; omega
      have hgf' : decide (gl < fl) = false := by simp; omega
      have hf62 : fl ≤ 2 ^ 40 := HFL.out.2.2
      have h8n : 8 ≤ fl := HFL.out.2.1
      generalize strOfNums (fil keys) = S at g1 g2 hne
      clear hbd s7 b7 hgl b47 b37
      go_wp2_with fail
      clear g1 g2 hne h8 hgf h8' hgf' h8n hfg
      go_loopg [14, 91] len (fun g _ i wr => ∃ k : Nat, k + g = len ∧ i = .int .i64 (k : Int) ∧ Hid (Below w7.heap.size w7 wr))
      case atStart => exact ⟨0, by omega, rfl, Below.refl _ _⟩
      case round =>
        obtain ⟨k, hk, rfl, HK⟩ := hrel
        by_cases hkl : k < len
        · have hkl' : (k : Int) < (len : Int) := by omega
          have hkx : k < keys.length := by have := HLN.out; omega
          obtain ⟨b, off, a, c, rfl, hc0, hs0⟩ := HS.out.1.2.2.2.2 k keys[k] (List.getElem?_eq_getElem hkx)
          have bw : Below w.heap.size w wr := H7.out.2.2.trans (HK.out.mono H7.out.2.2.size)
          have hc := cell_later bw hc0
          have hh1 := D.has (H7.out.1.later HK.out) (hs0.later bw)
          rw [has_fil (List.getElem_mem hkx)] at hh1
          have HH2 : Hid (∀ wx, Below wr.heap.size wr wx → Calls Try.prog 16 #[.slice a7 gl c7, .slice a keys[k].length c] wx fun e w' => e = .returned (.bool true) ∧ Below wx.heap.size wx w') := fun wx hb => by
            have := D.has ((H7.out.2.1.later HK.out).later hb) ((hs0.later bw).later hb)
            rw [has_fil (List.mem_append.2 (.inl (List.getElem_mem hkx)))] at this
            exact this
          generalize keys[k] = x at hc hh1 HH2
          have HKB := hid9 HK.out
          have hk62 : k ≤ 2 ^ 61 := by omega
          obtain ⟨GK, HG⟩ : ∃ g, Hid (g < gk ∧ k + 1 + g = len) := ⟨gk - 1, by omega, by omega⟩
          clear hk hc0 hs0 bw HK
          go_wp2_with fail
          refine hh1.mono ?_
          rintro e w8 ⟨rfl, b8⟩
          clear hh1
          go_wp2_with fail
          refine (HH2.out w8 b8).mono ?_
          rintro e w9 ⟨rfl, b9⟩
          have HF9 : Hid (Below w7.heap.size w7 w9) := HKB.out.trans ((b8.trans (b9.mono b8.size)).mono HKB.out.size)
          clear b8 b9
          go_wp2_with fail
          go_roundg GK
          case measure => exact HG.out.1
          case rel => exact ⟨k + 1, HG.out.2, by go_num, HF9⟩
        · have hkl' : (len : Int) ≤ (k : Int) := by omega
          have HFF : Hid (Below w.heap.size w wr) := H7.out.2.2.trans (HK.out.mono H7.out.2.2.size)
          clear hk hkl HK
          go_wp2_with fail
          refine (awake10_any D wr).mono ?_
          rintro e w8 ⟨rfl, b8⟩
          have c8 := HFF.out.trans (b8.mono HFF.out.size)
          go_wp2_with fail
          exact bodyPost_ret (v := .bool true) (by simp [results, Try.results7, go_sem]) rfl ⟨rfl, c8⟩
end Go.Proofs.Ytpmebgcknijnkaa
