/- The law on as many changes as may be, and more. -/
import Derived.Test.YtcielnkkbccldaaBmany
import Derived.Deep.MidRow
namespace Go.Proofs.Ytcielnkkbccldaa
open Go.RowKit
set_option linter.unusedVariables false
set_option linter.unusedSimpArgs false

theorem rem_in (n : Int) (L : Nat) (hL : 0 < L) (h2 : L ≤ 100000) : ∃ (T : Int) (N : Nat), n.tmod (L : Int) = T ∧ (T + (L : Int)).tmod (L : Int) = (N : Int) ∧ N < L ∧ wrap64 (T + (L : Int)) = T + (L : Int) := by
  have a1 : -(L : Int) < n.tmod (L : Int) ∧ n.tmod (L : Int) < (L : Int) := ⟨Int.lt_tmod_of_pos n (by omega), Int.tmod_lt_of_pos n (by omega)⟩
  obtain ⟨T, hT⟩ : ∃ T, n.tmod (L : Int) = T := ⟨_, rfl⟩
  rw [hT] at a1
  obtain ⟨p, hp⟩ := Int.eq_ofNat_of_zero_le (show 0 ≤ (T + (L : Int)).tmod (L : Int) from Int.tmod_nonneg _ (by omega))
  exact ⟨T, p, hT, hp, by have := Int.tmod_lt_of_pos (T + (L : Int)) (b := (L : Int)) (by omega); omega, by unfold wrap64; omega⟩
set_option maxHeartbeats 4000000 in
set_option maxRecDepth 100000 in
theorem many_any (D : PB) {w : World} (x0 x1 x2 seq till : Int) (gone : Bool) (hs : In64 seq) (ht : In64 till) :
    Calls Try.prog 5 #[.int .i64 x0, .int .i64 x1, .int .i64 x2, .int .i64 seq, .int .i64 till, .bool gone] w fun e w' => e = .returned (.bool true) ∧ Below w.heap.size w w' := by
  obtain ⟨T0, N, h0, h0', hN, hw0⟩ := rem_in x0 410 (by decide) (by decide)
  obtain ⟨T1, K, h1, h1', hK, hw1⟩ := rem_in x1 600 (by decide) (by decide)
  obtain ⟨T2, V, h2, h2', hV, hw2⟩ := rem_in x2 2100 (by decide) (by decide)
  rw [show ((410 : Nat) : Int) = 410 from rfl] at h0 h0' hw0
  rw [show ((600 : Nat) : Int) = 600 from rfl] at h1 h1' hw1
  rw [show ((2100 : Nat) : Int) = 2100 from rfl] at h2 h2' hw2
  have HM0 : Hid (MB w w.heap.size (w.alloc (.cells #[.int .i64 seq, .slice none 0 0] 24)) seq (.slice none 0 0) (opsN 0)) := ⟨heap_alloc_new w _, RowF.nil _ _ _, (Below.refl _ w).alloc (Nat.le_refl _) _, Nat.le_refl _⟩
  have HH : Hid (In64 seq ∧ In64 till ∧ N < 410 ∧ K < 600 ∧ V < 2100) := ⟨hs, ht, hN, hK, hV⟩
  have hN62 : N ≤ 2 ^ 62 := by omega
  have hK62 : K ≤ 2 ^ 62 := by omega
  have hV62 : V ≤ 2 ^ 62 := by omega
  clear hs ht hN hK hV
  go_enter Try.func5, Try.ntmps5
  go_upto_block 0 with fail
  clear h0 h0' h1 h1' h2 h2' hw0 hw1 hw2
  go_cut [14, 34] from 35 to 49 (fun _ _ wx => ∃ v, Hid (MB w w.heap.size wx seq v (opsN N)))
  case first =>
    go_wp2_with fail
    go_loopg [14, 34] N (fun g _ i wr => ∃ (k : Nat) (v : Value), k + g = N ∧ i = .int .i64 (k : Int) ∧ Hid (MB w w.heap.size wr seq v (opsN k)))
    case atStart => exact ⟨0, _, by omega, rfl, HM0⟩
    case round =>
      obtain ⟨k, v, hk, rfl, HK⟩ := hrel
      by_cases hkl : k < N
      · have hkl' : (k : Int) < (N : Int) := by omega
        obtain ⟨va, vn, vc, hv, hvn⟩ := HK.out.row.slice'
        clear hvn
        subst hv
        obtain ⟨f0, f1, f2⟩ := HK.out.facts
        have hk410 : k ≤ 410 := by have := HH.out; omega
        obtain ⟨GK, HG⟩ : ∃ g, Hid (g < gk ∧ k + 1 + g = N) := ⟨gk - 1, by omega, by omega⟩
        have hb1 : Below wr.heap.size wr (wr.alloc (.cells #[.int .u8 ((k : Int) % 256), .int .u8 ((k : Int) / 256)] 5)) := (Below.refl _ _).alloc (Nat.le_refl _) _
        have hM : opE.M (wr.alloc (.cells #[.int .u8 ((k : Int) % 256), .int .u8 ((k : Int) / 256)] 5)) [.slice (some ⟨wr.heap.size, 0, none⟩) 2 2, .bool false, .int .i64 0, .slice none 0 0] (opI k) := ⟨_, 2, none, 0, rfl, sl_two wr (by omega) (by omega), Sl.nil _, in64_0⟩
        have hone := rs_one hM
        have hsz : (wr.alloc (.cells #[.int .u8 ((k : Int) % 256), .int .u8 ((k : Int) / 256)] 5)).heap.size = wr.heap.size + 1 := by simp
        rw [hsz] at hone
        have hb2 : Below wr.heap.size wr ((wr.alloc (.cells #[.int .u8 ((k : Int) % 256), .int .u8 ((k : Int) / 256)] 5)).alloc (.cells #[.slice (some ⟨wr.heap.size, 0, none⟩) 2 2, .bool false, .int .i64 0, .slice none 0 0] 42)) := hb1.alloc hb1.size _
        have M2 := HK.out.later hb2
        have hqlt := (Array.getElem?_eq_some_iff.1 HK.out.bq).1
        have hrefs : ∀ u ∈ [Value.slice (some ⟨wr.heap.size, 0, none⟩) 2 2, .bool false, .int .i64 0, .slice none 0 0], ∀ b, Refs u b → b = wr.heap.size := fun u hu b hr => by
          simp only [List.mem_cons, List.not_mem_nil, or_false] at hu
          obtain ⟨off, l, c, e, hl0⟩ := hr
          rcases hu with rfl | rfl | rfl | rfl
          · simp only [Value.slice.injEq, Option.some.injEq, Addr.mk.injEq, and_true] at e
            exact e.1.1.symm
          · cases e
          · cases e
          · cases e
        have hsep : ∀ u ∈ [Value.slice (some ⟨wr.heap.size, 0, none⟩) 2 2, .bool false, .int .i64 0, .slice none 0 0], ∀ b, Refs u b → (Value.slice va vn vc).ownBlock ≠ some b := fun u hu b hr e => by
          have := (HK.out.row.own_lt e).2
          have := hrefs u hu b hr
          omega
        have hFF : ∀ u ∈ [Value.slice (some ⟨wr.heap.size, 0, none⟩) 2 2, .bool false, .int .i64 0, .slice none 0 0], ∀ b, Refs u b → w.heap.size + 1 ≤ b := fun u hu b hr => by
          have := hrefs u hu b hr
          omega
        have HAP : Hid (MB w w.heap.size ((wr.alloc (.cells #[.int .u8 ((k : Int) % 256), .int .u8 ((k : Int) / 256)] 5)).alloc (.cells #[.slice (some ⟨wr.heap.size, 0, none⟩) 2 2, .bool false, .int .i64 0, .slice none 0 0] 42)) seq (.slice va vn vc) (opsN k) ∧ w.heap.size + 1 ≤ ((wr.alloc (.cells #[.int .u8 ((k : Int) % 256), .int .u8 ((k : Int) / 256)] 5)).alloc (.cells #[.slice (some ⟨wr.heap.size, 0, none⟩) 2 2, .bool false, .int .i64 0, .slice none 0 0] 42)).heap.size) := ⟨M2, by have := hb2.size; omega⟩
        have HON := Hid.mk' hone
        have HSE := Hid.mk' hsep
        have HFF := Hid.mk' hFF
        clear hk hb1 hM hone hsz hb2 M2 hqlt hrefs hsep hFF
        go_wp2_with (at_builtin; refine wpList_appF opE (t := 22) (z := .agg #[.slice none 0 0, .bool false, .int .i64 0, .slice none 0 0]) (bytes := 64) Try.underlying22 opE_info rfl (by decide) rfl (.tmp 38) (.tmp 46) rfl rfl HAP.out.1.row rfl HON.out HSE.out HFF.out (by have := opsN_len k; omega) (by have := opsN_len k; omega) HAP.out.2 ?_; intro v9 w9 r9 g9 m9; obtain ⟨P1, P2, P3⟩ := HAP.out.1.put g9 r9; have HP1 := Hid.mk' P1; obtain ⟨a9, n9, c9, hv9, hn9⟩ := r9.slice'; clear hn9; subst hv9; clear r9 g9 m9 P1)
        go_roundg GK
        case measure => exact HG.out.1
        case rel => exact ⟨k + 1, _, HG.out.2, by go_num, HP1.out⟩
      · have hkl' : (N : Int) ≤ (k : Int) := by omega
        obtain rfl : k = N := by omega
        clear hk hkl
        go_wp2_with fail
        go_meet
        exact ⟨_, HK⟩
  case rest =>
    obtain ⟨v, HC⟩ := hcut
    have hmk := fun S (hS : S ≤ 100000) => run_make_row' (P := Try.prog) 27 5 (.int .u8 0) 1 Try.underlying27 Try.info5 rfl .i64 .i64 S (by omega) (by omega)
    have mkK := hmk K (by have := HH.out; omega)
    have mkV := hmk V (by have := HH.out; omega)
    clear hmk HM0
    go_upto_if 51 with fail
    go_cut [] from 50 to 63 (fun wx => ∃ (v : Value) (ops : List OpV), Hid (MB w w.heap.size wx seq v ops))
    case first =>
      by_cases hN0 : N = 0
      · have HN0 : Hid (N = 0) := hN0
        clear mkK mkV hN0
        go_wp2_with fail
        · exfalso
          have := HN0.out
          omega
        · go_meet
          exact ⟨v, _, HC⟩
      · obtain ⟨M, hNM⟩ : ∃ M, N = M + 1 := ⟨N - 1, by omega⟩
        obtain ⟨g, c, cur, hv, hgg, hglt⟩ := HC.out.row.block (by rw [opsN_len]; omega)
        rw [opsN_len] at hv
        subst hv
        obtain ⟨f0, f1, f2⟩ := HC.out.facts
        have hrs : RS opE wc (some ⟨g, 0, none⟩) N c (opsN N) := by
          obtain ⟨a', c', e, hs'⟩ := HC.out.row.s.rs
          rw [opsN_len] at e hs'
          simp only [Value.slice.injEq] at e
          obtain ⟨rfl, _, rfl⟩ := e
          exact hs'
        obtain ⟨b, off, ka, kc, va, vc, e, d0, d1, d2, d3, hrest⟩ := RS.op hrs (i := M) (o := opI M) (by rw [hNM, opsN, List.getElem?_append_right (by rw [opsN_len]; omega), opsN_len]; simp)
        clear hrest
        simp only [Option.some.injEq, Addr.mk.injEq, and_true] at e
        obtain ⟨rfl, rfl⟩ := e
        rw [Nat.zero_add] at d0 d1 d2 d3
        have z0 := frozen_of hgg (M * 4)
        have z1 := frozen_of hgg (M * 4 + 1)
        have z2 := frozen_of hgg (M * 4 + 2)
        have z3 := frozen_of hgg (M * 4 + 3)
        have hlt : (M : Int) < (N : Int) := by omega
        have hpos : (0 : Int) < (N : Int) := by omega
        have hM62 : M ≤ 2 ^ 61 := by have := HH.out; omega
        have hw1 : wrap64 ((N : Int) - 1) = (M : Int) := by unfold wrap64; have := HH.out; omega
        have hwi : IntKind.i64.wrap ((N : Int) - 1) = (M : Int) := by rw [IntKind.wrap_i64]; have := HH.out; omega
        have HMM : Hid (MB w w.heap.size wc seq (.slice (some ⟨g, 0, none⟩) N c) (opsN M ++ [opI M])) := by
          have := HC.out
          have e : opsN N = opsN M ++ [opI M] := by rw [hNM]; rfl
          rw [e] at this
          exact this
        have HE := HMM.out.made hglt (K := K) (V := V) (by have := HH.out; omega) (by have := HH.out; omega) gone HH.out.2.1 (M * 4) (by rw [opsN_len])
        have HE1 := Hid.mk' HE.1
        have HE2 := Hid.mk' HE.2
        have cl : ∀ wx, Below wc.heap.size wc wx → wx.cell? ⟨w.heap.size, 1, none⟩ = some (.slice (some ⟨g, 0, none⟩) N c) := fun wx hb => cell_later hb f1
        have C0 := Hid.mk' (cl _ (Below.refl _ wc).drew)
        have C1 := Hid.mk' (cl _ ((Below.refl _ wc).alloc (Nat.le_refl _) (.cells (madeCells #[.int .u8 0] K) 5)).drew)
        have C2 := Hid.mk' (cl _ ((Below.refl _ wc).alloc (Nat.le_refl _) (.cells (madeCells #[.int .u8 0] V) 5)).drew)
        have C3 := Hid.mk' (cl _ (((Below.refl _ wc).alloc (Nat.le_refl _) (.cells (madeCells #[.int .u8 0] K) 5)).alloc (by simp) (.cells (madeCells #[.int .u8 0] V) 5)).drew)
        have C4 := Hid.mk' (cl _ (((Below.refl _ wc).alloc (Nat.le_refl _) (.cells (madeCells #[.int .u8 0] V) 5)).alloc (by simp) (.cells (madeCells #[.int .u8 0] K) 5)).drew)
        have C5 := Hid.mk' HE1.out.facts.2.1
        have C6 := Hid.mk' HE2.out.facts.2.1
        clear hNM hN0 hgg hrs HE HMM HC f0 f2 cl
        go_upto_region 9 with fail
        go_region_held_law (fun w' => w'.cell? ⟨w.heap.size, 1, none⟩ = some (.slice (some ⟨g, 0, none⟩) N c)) (first | with_reducible exact C0.out | with_reducible exact C1.out | with_reducible exact C2.out | with_reducible exact C3.out | with_reducible exact C4.out | with_reducible exact C5.out | with_reducible exact C6.out) (fail)
        · go_wp2_with fail
          go_meet
          exact ⟨_, _, HE1⟩
        · go_wp2_with fail
          go_meet
          exact ⟨_, _, HE2⟩
    case rest =>
      clear mkK mkV HC
      obtain ⟨v, os, HC⟩ := hcut
      obtain ⟨ao, cap, hv, h⟩ := HC.out.row.s.rs
      subst hv
      obtain ⟨y0, y1, y2⟩ := HC.out.facts
      have hs := HH.out.1
      obtain ⟨len, hlen⟩ : ∃ l, l = os.length := ⟨_, rfl⟩
      rw [← hlen] at h y1
      have HX : Hid (∀ wx, Below wc.heap.size wc wx → wx.cell? ⟨w.heap.size, 0, none⟩ = some (.int .i64 seq) ∧ wx.cell? ⟨w.heap.size, 1, none⟩ = some (.slice ao len cap)) := fun wx hb => ⟨cell_later hb y0, cell_later hb y1⟩
      obtain ⟨m, hm⟩ : ∃ m, m = mayB seq os := ⟨_, rfl⟩
      have HE : Hid (∀ wx, Below wc.heap.size wc wx → Calls Try.prog 10 #[.agg #[.int .i64 seq, .slice ao len cap]] wx fun e w' => ∃ a c, e = .returned (.tuple #[.slice a (enV seq os).length c, .int .i64 (m : Nat)]) ∧ Sl w' a (enV seq os).length c (enV seq os) ∧ Below wc.heap.size wc w' ∧ Below wx.heap.size wx w') := fun wx hb => (D.enc (h.later hb) hs).mono fun e w' ⟨v, he, ⟨a, c, hv, hsl⟩, hb'⟩ => ⟨a, c, by rw [he, hv, hm], hsl, hb.trans (hb'.mono hb.size), hb'⟩
      have HB : Hid (∀ wx, Below wc.heap.size wc wx → Calls Try.prog 11 #[.agg #[.int .i64 seq, .slice ao len cap]] wx fun e w' => ∃ a c, e = .returned (.tuple #[.slice a (enV seq os).length c, .int .i64 (m : Nat)]) ∧ Sl w' a (enV seq os).length c (enV seq os) ∧ Below wc.heap.size wc w' ∧ Below wx.heap.size wx w') := fun wx hb => (rbatch_any (h.later hb) hs).mono fun e w' ⟨v, he, hr, hb'⟩ => by
        have hok : Okb (enV seq os) := by
          unfold enV
          split
          · refine okb_enB fun o ho => ?_
            obtain ⟨i, hi, rfl⟩ := List.getElem_of_mem ho
            obtain ⟨_, _, _, _, _, _, _, _, _, _, _, l1, l2, _⟩ := RS.op h (List.getElem?_eq_getElem hi)
            exact ⟨l1.2.1, l2.2.1⟩
          · exact fun x hx => by cases hx
        obtain ⟨a, c, hv, hsl⟩ := Sl.ofRow hr hok
        exact ⟨a, c, by rw [he, hv, hm], hsl, hb.trans (hb'.mono hb.size), hb'⟩
      have HM : Hid (∀ wx, Below wc.heap.size wc wx → Calls Try.prog 14 #[.agg #[.int .i64 seq, .slice ao len cap]] wx fun e w' => e = .returned (.int .i64 (m : Nat)) ∧ Below wc.heap.size wc w' ∧ Below wx.heap.size wx w') := fun wx hb => (D.may (h.later hb) hs).mono fun e w' ⟨he, hb'⟩ => ⟨by rw [he, hm], hb.trans (hb'.mono hb.size), hb'⟩
      have HQ : Hid (∀ wx, Below wc.heap.size wc wx → Calls Try.prog 15 #[.agg #[.int .i64 seq, .slice ao len cap]] wx fun e w' => e = .returned (.int .i64 (m : Nat)) ∧ Below wc.heap.size wc w' ∧ Below wx.heap.size wx w') := fun wx hb => (rmay_any (h.later hb) hs).mono fun e w' ⟨he, hb'⟩ => ⟨by rw [he, hm], hb.trans (hb'.mono hb.size), hb'⟩
      have HA : Hid (∀ wx, Below wc.heap.size wc wx → Calls Try.prog 9 #[] wx fun e w' => e = .returned (.bool true) ∧ Below wc.heap.size wc w' ∧ Below wx.heap.size wx w') := fun wx hb => (awake8_any D wx).mono fun e w' ⟨he, hb'⟩ => ⟨he, hb.trans (hb'.mono hb.size), hb'⟩
      have HF : Hid (∀ wx, Below wc.heap.size wc wx → Below w.heap.size w wx) := fun wx hb => HC.out.bel.trans (hb.mono HC.out.bel.size)
      have hmm : ((m : Int) == (m : Int)) = true := by simp
      generalize enV seq os = X at HE HB
      clear h hs hm y2 hlen HC
      go_upto_region 12 with (first | (go_at_call 10; refine (HE.out _ (Below.refl _ _)).mono ?_; rintro e w2 ⟨a2, c2, rfl, s2, b2, g2⟩; obtain ⟨z0, z1⟩ := HX.out _ b2) | (go_at_call 11; refine (HB.out _ b2).mono ?_; rintro e w3 ⟨a3, c3, rfl, s3, b3, g3⟩; obtain ⟨p0, p1⟩ := HX.out _ b3))
      have HKS : Hid (∀ wx, Below w3.heap.size w3 wx → (wx.cell? ⟨w.heap.size, 0, none⟩ = some (.int .i64 seq) ∧ wx.cell? ⟨w.heap.size, 1, none⟩ = some (.slice ao len cap)) ∧ (convert 27 9 (.slice a2 X.length c2)).run Try.prog wx = .ok (.string (strOfNums X)) wx ∧ (convert 27 9 (.slice a3 X.length c3)).run Try.prog wx = .ok (.string (strOfNums X)) wx) := fun wx hb => ⟨HX.out _ (b3.trans (hb.mono b3.size)), str_l (s2.later (g3.trans (hb.mono g3.size))), str_l (s3.later hb)⟩
      have HM5 : Hid (∀ wx, Below w3.heap.size w3 wx → Calls Try.prog 14 #[.agg #[.int .i64 seq, .slice ao len cap]] wx fun e w' => e = .returned (.int .i64 (m : Nat)) ∧ Below w3.heap.size w3 w') := fun wx hb => (HM.out _ (b3.trans (hb.mono b3.size))).mono fun e w' ⟨he, _, hb'⟩ => ⟨he, hb.trans (hb'.mono hb.size)⟩
      have HQ5 : Hid (∀ wx, Below w3.heap.size w3 wx → Calls Try.prog 15 #[.agg #[.int .i64 seq, .slice ao len cap]] wx fun e w' => e = .returned (.int .i64 (m : Nat)) ∧ Below w3.heap.size w3 w') := fun wx hb => (HQ.out _ (b3.trans (hb.mono b3.size))).mono fun e w' ⟨he, _, hb'⟩ => ⟨he, hb.trans (hb'.mono hb.size)⟩
      have HA5 : Hid (∀ wx, Below w3.heap.size w3 wx → Calls Try.prog 9 #[] wx fun e w' => e = .returned (.bool true) ∧ Below w3.heap.size w3 w') := fun wx hb => (HA.out _ (b3.trans (hb.mono b3.size))).mono fun e w' ⟨he, _, hb'⟩ => ⟨he, hb.trans (hb'.mono hb.size)⟩
      have HF5 : Hid (∀ wx, Below w3.heap.size w3 wx → Below w.heap.size w wx) := fun wx hb => HF.out _ (b3.trans (hb.mono b3.size))
      have hst : ((strOfNums X).toList == (strOfNums X).toList) = true := by simp
      generalize strOfNums X = T at HKS hst
      generalize X.length = lx at HKS ⊢
      clear b2 b3 g2 g3 s2 s3 HE HB HM HQ HA HF HX y0 y1 z0 z1 p0 p1
      go_region_held_law (fun w' => (w'.cell? ⟨w.heap.size, 0, none⟩ = some (.int .i64 seq) ∧ w'.cell? ⟨w.heap.size, 1, none⟩ = some (.slice ao len cap)) ∧ (convert 27 9 (.slice a2 lx c2)).run Try.prog w' = .ok (.string T) w' ∧ (convert 27 9 (.slice a3 lx c3)).run Try.prog w' = .ok (.string T) w') (first | exact HKS.out _ b9 | exact HKS.out _ b7 | exact HKS.out _ b6 | exact HKS.out _ (Below.refl _ _) | exact HKS.out _ (Below.refl _ _).drew) (first | (go_at_call 9; refine (HA5.out _ (by first | exact b7 | exact b6)).mono ?_; rintro e w9 ⟨rfl, b9⟩) | (go_at_call 15; refine (HQ5.out _ (by first | exact b6 | exact (Below.refl _ _).drew)).mono ?_; rintro e w7 ⟨rfl, b7⟩) | (go_at_call 14; refine (HM5.out _ (by first | exact b7 | exact (Below.refl _ _).drew)).mono ?_; rintro e w6 ⟨rfl, b6⟩))
      all_goals
        go_wp2_with fail
        exact bodyPost_ret (v := .bool true) (by simp [results, Try.results5, go_sem]) rfl ⟨rfl, HF5.out _ b9⟩
end Go.Proofs.Ytcielnkkbccldaa
