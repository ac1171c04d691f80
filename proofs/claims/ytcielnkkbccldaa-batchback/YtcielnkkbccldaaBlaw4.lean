/- The law that a batch comes back, whole or not at all. -/
import Derived.Test.YtcielnkkbccldaaBlaw
namespace Go.Proofs.Ytcielnkkbccldaa
open Go.RowKit
set_option linter.unusedVariables false
set_option linter.unusedSimpArgs false

theorem RS.oko {w : World} {ao : Option Addr} {len cap : Nat} {os : List OpV} (h : RS opE w ao len cap os) : ∀ o ∈ os, OkO o := fun o ho => by
  obtain ⟨i, hi, rfl⟩ := List.getElem_of_mem ho
  obtain ⟨_, _, _, _, _, _, _, _, _, _, _, l1, l2, _⟩ := RS.op h (List.getElem?_eq_getElem hi)
  exact ⟨l1.2.1, l2.2.1⟩

theorem Sl.ofRow' {B : Nat} {w : World} {v : Value} {xs : List Int} (h : Row B w v xs) (hok : Okb xs) : ∃ ao n cap, v = .slice ao n cap ∧ Sl w ao n cap xs := by
  obtain ⟨a, c, e, hs⟩ := Sl.ofRow h hok
  exact ⟨a, _, c, e, hs⟩

set_option maxHeartbeats 4000000 in
set_option maxRecDepth 100000 in
theorem back_any (D : PB) {w : World} {ao mo : Option Addr} {len cap ml mc : Nat} {s cut : Int} {os : List OpV} {ms : List Int} (h : RS opE w ao len cap os) (hs : In64 s) (hm : Sl w mo ml mc ms) (hml : ml ≤ 140737488351232) :
    Calls Try.prog 6 #[.agg #[.int .i64 s, .slice ao len cap], .int .i64 cut, .slice mo ml mc] w fun e w' => e = .returned (.bool true) ∧ Below w.heap.size w w' := by
  obtain ⟨W, hW⟩ : ∃ W, W = w.alloc (.cells #[.int .i64 s, .slice ao len cap] 24) := ⟨_, rfl⟩
  have hWb : Below w.heap.size w W := by rw [hW]; exact (Below.refl _ w).alloc (Nat.le_refl _) _
  have x0 : W.cell? ⟨w.heap.size, 0, none⟩ = some (.int .i64 s) := by rw [hW, cell_of (heap_alloc_new w _)]; rfl
  have x1 : W.cell? ⟨w.heap.size, 1, none⟩ = some (.slice ao len cap) := by rw [hW, cell_of (heap_alloc_new w _)]; rfl
  have hH := heavy_any (s := s) (h.later hWb)
  have HX : Hid (∀ wx, Below W.heap.size W wx → wx.cell? ⟨w.heap.size, 0, none⟩ = some (.int .i64 s) ∧ wx.cell? ⟨w.heap.size, 1, none⟩ = some (.slice ao len cap)) := fun wx hb => ⟨cell_later hb x0, cell_later hb x1⟩
  have HM : Hid (∀ wx, Below W.heap.size W wx → Calls Try.prog 14 #[.agg #[.int .i64 s, .slice ao len cap]] wx fun e w' => e = .returned (.int .i64 (mayB s os : Nat)) ∧ Below W.heap.size W w') := fun wx hb => (D.may ((h.later hWb).later hb) hs).mono fun e w' ⟨he, hb'⟩ => ⟨he, hb.trans (hb'.mono hb.size)⟩
  have HE : Hid (∀ wx, Below W.heap.size W wx → Calls Try.prog 10 #[.agg #[.int .i64 s, .slice ao len cap]] wx fun e w' => ∃ a c, e = .returned (.tuple #[.slice a (enV s os).length c, .int .i64 (mayB s os : Nat)]) ∧ Sl w' a (enV s os).length c (enV s os) ∧ Below W.heap.size W w') := fun wx hb => (D.enc ((h.later hWb).later hb) hs).mono fun e w' ⟨v, he, ⟨a, c, hv, hsl⟩, hb'⟩ => ⟨a, c, by rw [he, hv], hsl, hb.trans (hb'.mono hb.size)⟩
  have HA : Hid (∀ wx, Below W.heap.size W wx → Calls Try.prog 9 #[] wx fun e w' => e = .returned (.bool true) ∧ Below W.heap.size W w') := fun wx hb => (awake8_any D wx).mono fun e w' ⟨he, hb'⟩ => ⟨he, hb.trans (hb'.mono hb.size)⟩
  have HF : Hid (∀ wx, Below W.heap.size W wx → Below w.heap.size w wx) := fun wx hb => hWb.trans (hb.mono hWb.size)
  have HW : Hid (W = w.alloc (.cells #[.int .i64 s, .slice ao len cap] 24)) := hW
  by_cases q : mayB s os = 0
  · rw [q] at HM HE
    have hev : enV s os = enB s os := by unfold enV; rw [if_pos q]
    rw [hev] at HE
    have hoko := h.oko
    have hokb := okb_enB (s := s) hoko
    have hback := deB_enB (t := []) q hoko (fun x hx => by cases hx)
    rw [List.append_nil] at hback
    have hback1 := hback.1 rfl
    have hmore := deB_enB (t := ms) q hoko hm.2.1
    have hcutE := fun k => deB_cut (k := k) q hoko
    have hlen0 : 0 < (enB s os).length := by unfold enB; have := uv_pos s.toNat; simp; omega
    have hlenb : (enB s os).length ≤ 2700 * 400 + 20 := by
      have h1 := mayB_ok q
      have h2 := enOs_len h1.2.2.2.2
      have h3 := uv_len64 (n := s.toNat) (by omega)
      have h4 := uv_len64 (n := os.length) (by omega)
      unfold enB
      simp only [List.length_append]
      omega
    have hds0 : (deB (enB s os ++ ms)).2 = 0 ↔ ms = [] := ⟨fun e => by
      rcases List.eq_nil_or_concat ms with q | ⟨_, _, q⟩
      · exact q
      · exact absurd e (hmore.2 (by rw [q]; simp)), fun e => by rw [hmore.1 e]⟩
    obtain ⟨X, hX⟩ : ∃ X, X = enB s os := ⟨_, rfl⟩
    rw [← hX] at HE hokb hback1 hcutE hlen0 hlenb hds0
    obtain ⟨L, hL⟩ : ∃ L, L = X.length := ⟨_, rfl⟩
    rw [← hL] at HE hcutE hlen0 hlenb
    have a1 : -(L : Int) < cut.tmod (L : Int) ∧ cut.tmod (L : Int) < (L : Int) := ⟨Int.lt_tmod_of_pos cut (by omega), Int.tmod_lt_of_pos cut (by omega)⟩
    obtain ⟨T, hT⟩ : ∃ T, cut.tmod (L : Int) = T := ⟨_, rfl⟩
    rw [hT] at a1
    obtain ⟨p, hp⟩ := Int.eq_ofNat_of_zero_le (show 0 ≤ (T + (L : Int)).tmod (L : Int) from Int.tmod_nonneg _ (by omega))
    have hpl : p < L := by have := Int.tmod_lt_of_pos (T + (L : Int)) (b := (L : Int)) (by omega); omega
    have hce := hcutE p hpl
    have hHm : Hid (Sl w mo ml mc ms ∧ ml ≤ 140737488351232 ∧ L = X.length ∧ Okb X ∧ L ≤ 2700 * 400 + 20 ∧ RS opE w ao len cap os ∧ os.length = len) := ⟨hm, hml, hL, hokb, hlenb, h, h.len.1⟩
    have hTL : wrap64 (T + (L : Int)) = T + (L : Int) := by unfold wrap64; omega
    rw [hW] at hH
    have HD1 : Hid (∀ {wx : World} {a : Option Addr} {c : Nat}, Sl wx a L c X → Calls Try.prog 17 #[.slice a L c] wx fun e w' => ∃ a' c', e = .returned (.tuple #[.agg #[.int .i64 s, .slice a' len c'], .int .i64 0]) ∧ RS opE w' a' len c' os ∧ Below wx.heap.size wx w') := fun {wx a c} hx => (D.dec hx (by omega)).mono fun e w' ⟨v, he, ⟨a', c', hv, hr⟩, hb⟩ => by
      rw [hback1] at he hv hr
      simp only [h.len.1] at hv hr
      exact ⟨a', c', by rw [he, hv]; rfl, hr, hb⟩
    have HD2 : Hid (∀ {wx : World} {a : Option Addr} {c : Nat}, Sl wx a p c (X.take p) → Calls Try.prog 17 #[.slice a p c] wx fun e w' => ∃ (s' : Int) (a' : Option Addr) (n' c' : Nat) (er : Nat), e = .returned (.tuple #[.agg #[.int .i64 s', .slice a' n' c'], .int .i64 (er : Nat)]) ∧ ((er : Int) == 0) = false ∧ Below wx.heap.size wx w') := fun {wx a c} hx => (D.dec hx (by omega)).mono fun e w' ⟨v, he, ⟨a', c', hv, hr⟩, hb⟩ => ⟨(deB (X.take p)).1.1, a', (deB (X.take p)).1.2.length, c', (deB (X.take p)).2, by rw [he, hv], by simp; omega, hb⟩
    have HD3 : Hid (∀ {wx : World} {a : Option Addr} {n c : Nat}, Sl wx a n c (X ++ ms) → n ≤ 175921860444160 → Calls Try.prog 17 #[.slice a n c] wx fun e w' => ∃ (s' : Int) (a' : Option Addr) (n' c' : Nat) (er : Nat), e = .returned (.tuple #[.agg #[.int .i64 s', .slice a' n' c'], .int .i64 (er : Nat)]) ∧ ((er : Int) == 0) = ((ml : Int) == 0) ∧ Below wx.heap.size wx w') := fun {wx a n c} hx hn => (D.dec hx hn).mono fun e w' ⟨v, he, ⟨a', c', hv, hr⟩, hb⟩ => ⟨(deB (X ++ ms)).1.1, a', (deB (X ++ ms)).1.2.length, c', (deB (X ++ ms)).2, by rw [he, hv], by
      have e1 : ms.length = ml := hm.1
      by_cases qq : ms = []
      · rw [hds0.2 qq]
        rw [qq] at e1
        have : ml = 0 := by simpa using e1.symm
        simp [this]
      · have h1 : (deB (X ++ ms)).2 ≠ 0 := fun e => qq (hds0.1 e)
        have h2 : ml ≠ 0 := fun e => qq (List.eq_nil_of_length_eq_zero (by omega))
        have h3 : (((deB (X ++ ms)).2 : Int) == 0) = false := by simp; omega
        have h4 : ((ml : Int) == 0) = false := by simp; omega
        rw [h3, h4], hb⟩
    have HSB : Hid (∀ {wx : World} {a : Option Addr} {c : Nat}, RS opE wx a len c os → Below W.heap.size W wx → Calls Try.prog 19 #[.agg #[.int .i64 s, .slice a len c], .agg #[.int .i64 s, .slice ao len cap]] wx fun e w' => e = .returned (.bool true) ∧ Below wx.heap.size wx w') := fun {wx a c} hr hb => rsameB_eq hr ((h.later hWb).later hb)
    have HMS : Hid (∀ {wx : World}, Below W.heap.size W wx → Sl wx mo ml mc ms) := fun {wx} hb => (hm.later hWb).later hb
    have hleq : ((L : Int) == 0) = false := by simp; omega
    have hL1 : ¬ (L : Int) = 0 := by omega
    have hL62 : L ≤ 2 ^ 62 := by omega
    have hml62 : ml ≤ 2 ^ 62 := by omega
    have hcc : ((ml : Int) == 0) = ((ml : Int) == 0) := rfl
    have HLL : Hid (L = X.length ∧ Okb X ∧ p < L ∧ L ≤ 2700 * 400 + 20 ∧ ml ≤ 140737488351232) := ⟨hHm.out.2.2.1, hHm.out.2.2.2.1, hpl, hlenb, hml⟩
    clear h hs hm hml hWb x0 x1 hW q hev hoko hback hmore hcutE hokb hX hL hds0 hback1 hce
    go_enter Try.func6, Try.ntmps6
    go_upto_region 4 with (first | (go_at_call 8; refine hH.mono ?_; rintro e w1 ⟨b, rfl, b1⟩; rw [← HW.out] at b1; obtain ⟨y0, y1⟩ := HX.out _ b1; cases b) | (go_at_call 14; refine (HM.out _ b1).mono ?_; rintro e w2 ⟨rfl, b2⟩; obtain ⟨z0, z1⟩ := HX.out _ b2) | (go_at_call 10; refine (HE.out _ b2).mono ?_; rintro e w3 ⟨a3, c3, rfl, s3, b3⟩) | (go_at_call 9; refine (HA.out _ b1).mono ?_; rintro e w6 ⟨rfl, b6⟩))
    rotate_left
    · exact bodyPost_ret (v := .bool true) (by simp [results, Try.results6, go_sem]) rfl ⟨rfl, HF.out _ b6⟩
    · have hd1 := HD1.out s3
      have HS3 : Hid (Sl w3 a3 L c3 X ∧ Below W.heap.size W w3) := ⟨s3, b3⟩
      clear hH HE HM b1 b2 s3 b3 y0 y1 z0 z1
      go_upto_region 5 with (go_at_call 17; refine hd1.mono ?_; rintro e w4 ⟨a4, c4, rfl, r4, b4⟩)
      have g4 : Below w4.heap.size w4 (w4.alloc (.cells #[.int .i64 s, .slice a4 len c4] 24)) := (Below.refl _ _).alloc (Nat.le_refl _) _
      have b34 : Below w3.heap.size w3 (w4.alloc (.cells #[.int .i64 s, .slice a4 len c4] 24)) := b4.trans (g4.mono b4.size)
      have bW4 : Below W.heap.size W (w4.alloc (.cells #[.int .i64 s, .slice a4 len c4] 24)) := HS3.out.2.trans (b34.mono HS3.out.2.size)
      have hsb := HSB.out (r4.later g4) bW4
      obtain ⟨y0, y1⟩ := HX.out _ bW4
      have z0 : (w4.alloc (.cells #[.int .i64 s, .slice a4 len c4] 24)).cell? ⟨w4.heap.size, 0, none⟩ = some (.int .i64 s) := by rw [cell_of (heap_alloc_new w4 _)]; rfl
      have z1 : (w4.alloc (.cells #[.int .i64 s, .slice a4 len c4] 24)).cell? ⟨w4.heap.size, 1, none⟩ = some (.slice a4 len c4) := by rw [cell_of (heap_alloc_new w4 _)]; rfl
      obtain ⟨W4, hW4⟩ : ∃ W4, W4 = w4.alloc (.cells #[.int .i64 s, .slice a4 len c4] 24) := ⟨_, rfl⟩
      rw [← hW4] at b34 bW4 hsb y0 y1 z0 z1 ⊢
      have HB4 : Hid (Below w3.heap.size w3 W4 ∧ Below W.heap.size W W4) := ⟨b34, bW4⟩
      clear hd1 r4 b4 g4 b34 bW4 hW4
      go_upto_region 8 with (go_at_call 19; refine hsb.mono ?_; rintro e w5 ⟨rfl, b5⟩)
      have b35 : Below w3.heap.size w3 w5 := HB4.out.1.trans (b5.mono HB4.out.1.size)
      have s5 := HS3.out.1.later b35
      have hhd := fun wx => run_head27 wx a3 L c3 p (by have := HS3.out.1.2.2.2.1; have := HLL.out; omega)
      have hd2 := HD2.out (s5.head p (by have := HLL.out; omega))
      have HB5 : Hid (Below w3.heap.size w3 w5 ∧ Below W.heap.size W w5) := ⟨b35, HB4.out.2.trans (b5.mono HB4.out.2.size)⟩
      generalize cutA a3 c3 0 = a5 at hhd hd2
      clear hsb b5 b35 s5 y0 y1 z0 z1
      go_upto_region 11 with (go_at_call 17; refine hd2.mono ?_; rintro e w6 ⟨s6, a6, n6, c6, er6, rfl, hne6, b6⟩)
      have g6 : Below w6.heap.size w6 (w6.alloc (.cells #[.int .i64 s6, .slice a6 n6 c6] 24)) := (Below.refl _ _).alloc (Nat.le_refl _) _
      have b56 : Below w5.heap.size w5 (w6.alloc (.cells #[.int .i64 s6, .slice a6 n6 c6] 24)) := b6.trans (g6.mono b6.size)
      obtain ⟨W6, hW6⟩ : ∃ W6, W6 = w6.alloc (.cells #[.int .i64 s6, .slice a6 n6 c6] 24) := ⟨_, rfl⟩
      rw [← hW6] at b56 ⊢
      have HB6 : Hid (Below w3.heap.size w3 W6 ∧ Below W.heap.size W W6) := ⟨HB5.out.1.trans (b56.mono HB5.out.1.size), HB5.out.2.trans (b56.mono HB5.out.2.size)⟩
      have hB1 : Below W6.heap.size W6 (W6.alloc (.cells #[] 5)) := (Below.refl _ _).alloc (Nat.le_refl _) _
      have HX6 : Hid (Sl (W6.alloc (.cells #[] 5)) a3 L c3 X ∧ Below W6.heap.size W6 (W6.alloc (.cells #[] 5))) := ⟨(HS3.out.1.later HB6.out.1).later hB1, hB1⟩
      have HM6 : Hid (∀ {wx : World}, Below W6.heap.size W6 wx → Sl wx mo ml mc ms) := fun {wx} hb => HMS.out (HB6.out.2.trans (hb.mono HB6.out.2.size))
      clear hd2 b6 g6 b56 hW6 hB1 hne6 hhd
      go_upto_region 12 with (first | (go_at_call 17; refine (HD3.out s9 HN9.out).mono ?_; rintro e w10 ⟨s10, a10, n10, c10, er10, rfl, heq10, b10⟩) | (at_builtin; (refine wpList_appW rfl _ _ rfl W6.heap.size v8 X (by simp [Act.eval]) R8.out.1 mo ml mc (xof ms) (by simp [Act.eval]) (HM6.out R8.out.2).2.2.1 (HM6.out R8.out.2).2.2.2.2.2 (by have := HLL.out; omega) R8.out.2.size ?_); (intro v9 w9 r9 g9 m9); (have R9 : Hid (Row W6.heap.size w9 v9 (X ++ ms) ∧ Below W6.heap.size W6 w9) := by (refine ⟨?_, R8.out.2.trans (grown_below R8.out.1 g9 R8.out.2.size)⟩; rw [← (HM6.out R8.out.2).1, bs_xof (HM6.out R8.out.2).2.1] at r9; exact r9)); (obtain ⟨a9, n9, c9, hv9, s9⟩ := Sl.ofRow' R9.out.1 (HLL.out.2.1.app (HM6.out R8.out.2).2.1)); subst hv9; have HN9 : Hid (n9 ≤ 175921860444160) := by (show _ ≤ _; have h1 := s9.1; rw [List.length_append, (HM6.out R8.out.2).1] at h1; have := HLL.out; omega)) | (at_builtin; refine wpList_app rfl _ _ rfl W6.heap.size _ [] (by simp [Act.eval]) (row_empty W6) a3 L c3 (xof X) (by simp [Act.eval]) HX6.out.1.2.2.1 HX6.out.1.2.2.2.2.2 (by have := HLL.out; simp; omega) HX6.out.2.size ?_; intro v8 w8 r8 g8 m8; have R8 : Hid (Row W6.heap.size w8 v8 X ∧ Below W6.heap.size W6 w8) := by (refine ⟨?_, HX6.out.2.trans (grown_below (row_empty W6) g8 HX6.out.2.size)⟩; rw [List.nil_append, HLL.out.1, bs_xof HLL.out.2.1] at r8; exact r8)))
      have g10 : Below w10.heap.size w10 (w10.alloc (.cells #[.int .i64 s10, .slice a10 n10 c10] 24)) := (Below.refl _ _).alloc (Nat.le_refl _) _
      have b610 : Below W6.heap.size W6 (w10.alloc (.cells #[.int .i64 s10, .slice a10 n10 c10] 24)) := (R9.out.2.trans (b10.mono R9.out.2.size)).trans (g10.mono (Nat.le_trans R9.out.2.size b10.size))
      have bW : Below W.heap.size W (w10.alloc (.cells #[.int .i64 s10, .slice a10 n10 c10] 24)) := HB6.out.2.trans (b610.mono HB6.out.2.size)
      have ha := HA.out _ bW
      clear g10 b610 R9 R8 r8 g8 m8 r9 g9 m9 s9 b10
      have hbb : (((er10 : Int) == 0) == ((ml : Int) == 0)) = true := by rw [heq10]; simp
      go_wp2_with (go_at_call 9; refine ha.mono ?_; rintro e w12 ⟨rfl, b12⟩)
      all_goals exact bodyPost_ret (v := .bool true) (by simp [results, Try.results6, go_sem]) rfl ⟨rfl, HF.out _ b12⟩
  · obtain ⟨m, hmm⟩ : ∃ m, m = mayB s os := ⟨_, rfl⟩
    rw [← hmm] at HM q
    have hne : ((m : Int) != 0) = true := by simp; omega
    rw [hW] at hH
    clear h hs hm hml hWb x0 x1 hW hmm q HE
    go_enter Try.func6, Try.ntmps6
    go_wp2_with (first | (go_at_call 8; refine hH.mono ?_; rintro e w1 ⟨b, rfl, b1⟩; rw [← HW.out] at b1; obtain ⟨y0, y1⟩ := HX.out _ b1; cases b) | (go_at_call 14; refine (HM.out _ b1).mono ?_; rintro e w2 ⟨rfl, b2⟩) | (go_at_call 9; refine (HA.out _ (by first | exact b2 | exact b1)).mono ?_; rintro e w6 ⟨rfl, b6⟩))
    all_goals exact bodyPost_ret (v := .bool true) (by simp [results, Try.results6, go_sem]) rfl ⟨rfl, HF.out _ b6⟩
end Go.Proofs.Ytcielnkkbccldaa
