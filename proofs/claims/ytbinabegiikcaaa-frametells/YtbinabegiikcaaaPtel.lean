/- Rows of records, one byte as another one. -/
import Derived.Test.YtbinabegiikcaaaPscn
import Derived.RegionTactic
import Derived.BigQuiet
namespace Go.Proofs.Ytbinabegiikcaaa
open Go.RowKit
set_option linter.unusedVariables false
set_option linter.unusedSimpArgs false

theorem Row.shape {B : Nat} {w : World} {v : Value} {xs : List Int} (h : Row B w v xs) (hp : 0 < xs.length) : ∃ g cap, v = .slice (some ⟨g, 0, none⟩) xs.length cap ∧ xs.length ≤ cap := by
  rcases h.2 with ⟨_, h0⟩ | ⟨g, cap, cur, h1, _, _, h2, _⟩
  · omega
  · exact ⟨g, cap, h1, h2⟩
theorem Row.at {B : Nat} {w : World} {g cap : Nat} {xs : List Int} (h : Row B w (.slice (some ⟨g, 0, none⟩) xs.length cap) xs) (j : Nat) (hj : j < xs.length) : w.cell? ⟨g, j, none⟩ = some (.int .u8 xs[j]) ∧ w.frozen? ⟨g, j, none⟩ = false := by
  refine ⟨?_, World.ownsRow.frozenAt h j⟩
  rw [World.ownsRow.cellAt h j (by omega)]
  simp [hj]
theorem Row.set {B : Nat} {w : World} {g cap : Nat} {xs : List Int} (h : Row B w (.slice (some ⟨g, 0, none⟩) xs.length cap) xs) (j : Nat) (u : Nat) : Row B (w.setCell ⟨g, j, none⟩ (.int .u8 (u : Int))) (.slice (some ⟨g, 0, none⟩) xs.length cap) (xs.set j (u : Int)) ∧ w.grownBy (w.setCell ⟨g, j, none⟩ (.int .u8 (u : Int))) (some g) := by
  obtain ⟨h1, h2⟩ := World.ownsRow.stored h j (.int .u8 (u : Int))
  refine ⟨?_, h2⟩
  unfold Row
  rw [List.map_set, List.length_set]
  exact h1
theorem frs_whole {rs : List (List Int)} {p : Nat} : (frs (rs.take (whole rs p))).length ≤ p := by
  cases hw : whole rs p with
  | zero => simp [frs]
  | succ j =>
    have := whole_le rs p
    exact (whole_iff rs p j (by omega)).2 (by omega)
theorem okb_set {xs : List Int} {p u : Nat} (h : Okb xs) (hu : u < 256) : Okb (xs.set p (u : Int)) := fun x hx => by
  rcases List.mem_or_eq_of_mem_set hx with q | q
  · exact h x q
  · omega
/-- Ahead of the byte all is told as it was. -/
theorem scan_set {rs : List (List Int)} {p u : Nat} (h : Recs rs) (hu : u < 256) : ∃ gs gu, scan ((frs rs).set p (u : Int)) = (rs.take (whole rs p) ++ gs, gu) := by
  have hf := frs_whole (rs := rs) (p := p)
  have h1 : Recs (rs.take (whole rs p)) := fun r hr => h r (List.mem_of_mem_take hr)
  have h2 : Recs (rs.drop (whole rs p)) := fun r hr => h r (List.mem_of_mem_drop hr)
  have e : frs rs = frs (rs.take (whole rs p)) ++ frs (rs.drop (whole rs p)) := by rw [← frs_app, List.take_append_drop]
  have e2 : (frs rs).set p (u : Int) = frs (rs.take (whole rs p)) ++ (frs (rs.drop (whole rs p))).set (p - (frs (rs.take (whole rs p))).length) (u : Int) := by
    conv => lhs; rw [e]
    exact List.set_append_right _ _ hf
  rw [e2, scan_frs h1 (okb_set (okb_frs h2) hu)]
  exact ⟨_, _, rfl⟩

/-- The worlds that hold all that W held. -/
def Later (W : World) : Type := { w : World // Below W.heap.size W w }
/-- A region that draws its order, whose operations read what W held and whose callees leave it as it was: one walk in the order of the text. -/
theorem wp_region_later {P : Program} {id : Nat} {Q : Exit → Act → World → Prop} {a : Act} {w : World} {l : List Oper} (hm : P.follows .mixedOrders = true) (hB : Region.lexB .any l.toArray = true)
    (h : wpQuiet P l.toArray (fun w' => ∃ x : Later w, w' = x.val) (fun a' => ∀ w', (∃ x : Later w, w' = x.val) → Q .normal a' w') l a) : (Code.region id l.toArray true).wp P Q a w :=
  wp_region_quiet (C := fun w' => ∃ x : Later w, w' = x.val) hm hB ⟨⟨w.drew, (Below.refl _ _).drew⟩, rfl⟩ (by simpa using h)
theorem later_at {P : Program} {f : FuncId} {args : Array Value} {W : World} {v : Value} (h : ∀ z : Later W, Calls P f args z.val fun e w' => e = .returned v ∧ Below z.val.heap.size z.val w') (x : Later W) :
    Calls P f args x.val fun e w'' => e = .returned v ∧ ∃ y : Later W, w'' = y.val :=
  (h x).mono fun _ w' ⟨he, hw⟩ => ⟨he, ⟨w', x.2.trans (hw.mono x.2.size)⟩, rfl⟩

set_option maxHeartbeats 2000000 in
set_option maxRecDepth 100000 in
theorem tells_any (D : PF) {w : World} {ao : Option Addr} {len cap : Nat} {rs : List (List Int)} (at0 : Int) (z : Nat) (hz : z < 256) (h : RB w ao len cap rs) :
    Calls Try.prog 7 #[.slice ao len cap, .int .i64 at0, .int .u8 (z : Int)] w fun e w' => e = .returned (.bool true) ∧ Below w.heap.size w w' := by
  have hr := rows_any D h
  have hmax : len ≤ 2 ^ 63 - 1 := by have := h.2.2; unfold maxLen at this; omega
  have HR : Hid (RB w ao len cap rs ∧ z < 256) := ⟨h, hz⟩
  clear h hz
  go_enter Try.func7, Try.ntmps7
  go_wp2_with fail
  refine hr.mono ?_
  rintro e w1 ⟨hcase, hb1⟩
  clear hr
  have HB1 : Hid (Below w.heap.size w w1) := hb1
  clear hb1
  have haw := fun wx => awake6_any D wx
  rcases hcase with ⟨hsm, v5, v6, rfl, h5, h6⟩ | ⟨hns, rfl⟩
  · obtain ⟨a5, c5, hv5, hs5⟩ := h5
    subst hv5
    obtain ⟨a6, c6, hv6, hc6⟩ := h6.rd
    rw [ends_len, HR.out.1.1] at hv6
    subst hv6
    have hLs := frs_small rs hsm.2
    have h20 := hsm.1
    have hrec := hsm.recs HR.out.1.okb
    obtain ⟨L, hL⟩ : ∃ L, L = (frs rs).length := ⟨_, rfl⟩
    rw [← hL] at hs5 hLs ⊢
    by_cases h0 : L = 0
    · subst h0
      clear hs5 h6 hc6 hLs h20 hrec hsm hL
      go_wp2_with (go_at_call 10; refine (haw _).mono ?_; rintro e w4 ⟨rfl, hb4⟩)
      exact bodyPost_ret (v := .bool true) (by simp [results, Try.results7, go_sem]) rfl ⟨rfl, HB1.out.trans (hb4.mono HB1.out.size)⟩
    have h0b : ((L : Int) == 0) = false := by simp; omega
    by_cases hz0 : z = 0
    · subst hz0
      clear hs5 h6 hc6 hLs h20 hrec hsm hL h0
      go_wp2_with (go_at_call 10; refine (haw _).mono ?_; rintro e w4 ⟨rfl, hb4⟩)
      exact bodyPost_ret (v := .bool true) (by simp [results, Try.results7, go_sem]) rfl ⟨rfl, HB1.out.trans (hb4.mono HB1.out.size)⟩
    have hzb : ((z : Int) == 0) = false := by simp; omega
    have hL5 : L ≤ 50000 := by omega
    have a1 : -(L : Int) < at0.tmod (L : Int) ∧ at0.tmod (L : Int) < (L : Int) := ⟨Int.lt_tmod_of_pos at0 (by omega), Int.tmod_lt_of_pos at0 (by omega)⟩
    generalize hT : at0.tmod (L : Int) = T at a1
    have a2 : -50001 < T ∧ T < 50001 := by omega
    obtain ⟨p, hp⟩ := Int.eq_ofNat_of_zero_le (show 0 ≤ (T + (L : Int)).tmod (L : Int) from Int.tmod_nonneg _ (by omega))
    have hpl : p < L := by have := Int.tmod_lt_of_pos (T + (L : Int)) (b := (L : Int)) (by omega); omega
    have hL1 : ¬ (L : Int) = 0 := by omega
    have hl20 : len ≤ 20 := by have := HR.out.1.1; omega
    have HX : Hid (Sl w1 a5 L c5 (frs rs) ∧ Recs rs ∧ L = (frs rs).length) := ⟨hs5, hrec, hL⟩
    have HE : Hid (∀ (k : Nat) (e : Int), (ends rs rs.length)[k]? = some e → ∃ b, a6 = some ⟨b, 0, none⟩ ∧ w1.cell? ⟨b, k, none⟩ = some (.int .i64 e)) := hc6
    have hB1 : Below w1.heap.size w1 (w1.alloc (.cells #[] 5)) := (Below.refl _ _).alloc (Nat.le_refl _) _
    clear hs5 h6 hc6 hLs h20 hrec hL hsm h0 hz0
    go_upto_region 6 with (at_builtin; refine wpList_app rfl _ _ rfl w1.heap.size _ [] (by simp [Act.eval]) (row_empty w1) a5 L c5 (xof (frs rs)) (by simp [Act.eval]) HX.out.1.2.2.1 (HX.out.1.later hB1).2.2.2.2.2 (by simp; omega) hB1.size ?_; intro v2 w2 hr2 hg2 hm2)
    rw [List.nil_append, HX.out.2.2, bs_xof HX.out.1.2.1] at hr2
    have hb2 : Below w1.heap.size w1 w2 := hB1.trans (grown_below (row_empty w1) hg2 hB1.size)
    have hLe := HX.out.2.2
    have hpf : p < (frs rs).length := by omega
    obtain ⟨g, c2, hv2, hc2⟩ := hr2.shape (by omega)
    subst hv2
    obtain ⟨hcell, hfz⟩ := hr2.at p hpf
    obtain ⟨y, hy, hy8⟩ : ∃ y : Nat, (frs rs)[p] = (y : Int) ∧ y < 256 := by
      have := HX.out.1.2.1 _ (List.getElem_mem hpf)
      exact ⟨((frs rs)[p]).toNat, by omega, by omega⟩
    rw [hy] at hcell
    obtain ⟨u, hu⟩ : ∃ u, u = y ^^^ z := ⟨_, rfl⟩
    have hu8 : u < 256 := by rw [hu]; exact xor_lt 8 hy8 HR.out.2
    have hxor : bits .xor .u8 (y : Int) (z : Int) = (u : Int) := by rw [hu]; exact u8_xor_nat y z hy8 HR.out.2
    obtain ⟨hset, hgrow⟩ := hr2.set p u
    have hok : Okb ((frs rs).set p (u : Int)) := okb_set HX.out.1.2.1 hu8
    obtain ⟨gs, gu, hscan⟩ := scan_set (p := p) HX.out.2.1 hu8
    have hb3 : Below w1.heap.size w1 (w2.setCell ⟨g, p, none⟩ (.int .u8 (u : Int))) := hb2.trans (grown_below hr2 hgrow hb2.size)
    obtain ⟨w3, hw3⟩ : ∃ w3, w3 = w2.setCell ⟨g, p, none⟩ (.int .u8 (u : Int)) := ⟨_, rfl⟩
    rw [← hw3] at hset hb3
    have hyl : ((frs rs).set p (u : Int)).length = L := by rw [List.length_set]; exact hLe.symm
    generalize (frs rs).set p (u : Int) = ys at hset hok hscan hyl
    obtain ⟨a3, c3, e3, hs3⟩ := Sl.ofRow hset hok
    simp only [Value.slice.injEq] at e3
    obtain ⟨q1, q2, q3⟩ := e3
    rw [hyl, ← q1, ← q3] at hs3
    rw [← hLe]
    have H3 : Hid (Sl w3 (some ⟨g, 0, none⟩) L c2 ys ∧ Below w1.heap.size w1 w3 ∧ scan ys = (rs.take (whole rs p) ++ gs, gu)) := ⟨hs3, hb3, hscan⟩
    have hc2' : (L : Int) ≤ (c2 : Int) := by omega
    clear hr2 hg2 hm2 hb2 hLe hpf hc2 hy hy8 hu hu8 hset hgrow hok hscan hb3 hyl hs3 q1 q2 q3 hB1 hT hp
    go_upto_region 7 with fail
    rw [← hw3]
    clear hcell hfz hxor hw3
    go_upto_block 0 with fail
    go_cut [11] from 54 to 67 (fun s11 wx => s11 = .int .i64 (whole rs p : Nat) ∧ wx = w3)
    case first =>
      go_wp2_with fail
      go_loopg [11] len (fun g n wr => ∃ k : Nat, k + g = len ∧ n = .int .i64 (k : Int) ∧ wr = w3 ∧ Hid (k ≤ whole rs p))
      case atStart => exact ⟨0, by omega, rfl, rfl, Nat.zero_le _⟩
      case round =>
        obtain ⟨k, hk, rfl, hwr, HK⟩ := hrel
        obtain rfl := hwr.symm
        by_cases hkl : k < len
        · have hkl' : (k : Int) < (len : Int) := by omega
          have hkr : k < rs.length := by have := HR.out.1.1; omega
          obtain ⟨E, hE⟩ : ∃ E, E = (frs (rs.take (k + 1))).length := ⟨_, rfl⟩
          obtain ⟨b, ha6, hcell0⟩ := HE.out k (E : Int) (by rw [hE]; simp [ends, hkr])
          subst ha6
          have hcell := cell_later H3.out.2.1 hcell0
          have hk20 : k ≤ 20 := by omega
          obtain ⟨GK, HG⟩ : ∃ g, Hid (g < gk ∧ k + 1 + g = len) := ⟨gk - 1, by omega, by omega⟩
          by_cases q : E ≤ p
          · have q' : (E : Int) ≤ (p : Int) := by omega
            have HN : Hid (k + 1 ≤ whole rs p) := by rw [hE] at q; exact (whole_iff rs p k hkr).1 q
            clear hE hk q HK hcell0
            go_wp2_with fail
            go_roundg GK
            case measure => exact HG.out.1
            case rel => exact ⟨k + 1, HG.out.2, by go_num, rfl, HN⟩
          · have q' : (p : Int) < (E : Int) := by omega
            have HKW : Hid (k = whole rs p) := by
              rw [hE] at q
              have h1 : ¬ k < whole rs p := fun t => q ((whole_iff rs p k hkr).2 t)
              have := HK.out
              show k = whole rs p
              omega
            clear hE hk q HK hcell0
            go_wp2_with fail
            go_meet
            exact ⟨by rw [← HKW.out], rfl⟩
        · have hkl' : (len : Int) ≤ (k : Int) := by omega
          have HKW : Hid (k = whole rs p) := by
            have := HK.out
            have := whole_le rs p
            have := HR.out.1.1
            show k = whole rs p
            omega
          clear hk HK
          go_wp2_with fail
          go_meet
          exact ⟨by rw [← HKW.out], rfl⟩
    case rest =>
      obtain ⟨rfl, hwx⟩ := hcut
      obtain rfl := hwx.symm
      have HW : Hid (whole rs p ≤ len ∧ whole rs p ≤ cap) := by
        have h1 := whole_le rs p
        have h2 := HR.out.1.1
        have h3 := HR.out.1.2.2.1
        exact ⟨by omega, by omega⟩
      generalize whole rs p = N at H3 HW ⊢
      have hsc := D.scan H3.out.1 (by omega)
      rw [H3.out.2.2] at hsc
      have hrs := fun wx (hb : Below w3.heap.size w3 wx) => rscan_any (H3.out.1.later hb) (by omega)
      simp only [H3.out.2.2] at hrs hsc
      have hGt : (rs.take N ++ gs).take N = rs.take N := by
        rw [List.take_append_of_le_length (by rw [List.length_take]; have := HW.out.1; have := HR.out.1.1; omega), List.take_of_length_le (by rw [List.length_take]; omega)]
      have hGl : N ≤ (rs.take N ++ gs).length := by
        rw [List.length_append, List.length_take]
        have := HW.out.1
        have := HR.out.1.1
        omega
      generalize rs.take N ++ gs = G at hsc hrs hGt hGl
      have HB3 : Hid (Below w.heap.size w w3) := HB1.out.trans (H3.out.2.1.mono HB1.out.size)
      have H2 : Hid (RB w3 (cutA ao cap 0) N cap (rs.take N)) := (RB.later HR.out.1 HB3.out).head N HW.out.1
      have hN20 : N ≤ 20 := by have := HW.out.1; omega
      have hh2 := fun w => run_head30 w ao len cap N HW.out.2
      go_wp2_with fail
      refine hsc.mono ?_
      rintro e w4 ⟨v4, rfl, ⟨a4, c4, rfl, hr4⟩, hb4⟩
      have hh1 := fun w => run_head30 w a4 G.length c4 N (by have := hr4.2.2.1; omega)
      have H4 : Hid (RB w4 (cutA a4 c4 0) N c4 (rs.take N) ∧ RB w4 (cutA ao cap 0) N cap (rs.take N)) := by
        refine ⟨?_, H2.out.later hb4⟩
        rw [← hGt]
        exact hr4.head N hGl
      have H5 : Hid (RB w4 a4 G.length c4 G) := hr4
      have hG63 : G.length ≤ 2 ^ 63 - 1 := by have := hr4.2.2; unfold maxLen at this; omega
      have hlt : (N : Int) ≤ (G.length : Int) := by omega
      have hltb : decide (G.length < N) = false := by simp; omega
      obtain ⟨m, hm⟩ : ∃ m, m = G.length := ⟨_, rfl⟩
      rw [← hm] at hh1 H5 hG63 hlt hltb ⊢
      have H6 : Hid (∀ wx (hb : Below w3.heap.size w3 wx), Calls Try.prog 14 #[.slice (some ⟨g, 0, none⟩) L c2] wx fun e w' => ∃ v, e = .returned (.tuple #[v, .int .i64 (gu : Int)]) ∧ RowB wx.heap.size w' v G ∧ Below wx.heap.size wx w') := hrs
      have HAW : Hid (∀ wx, Calls Try.prog 10 #[] wx fun e w' => e = .returned (.bool true) ∧ Below wx.heap.size wx w') := haw
      have HB4 : Hid (Below w3.heap.size w3 w4) := hb4
      have hsm : ∀ z : Later w4, Calls Try.prog 15 #[.slice (cutA a4 c4 0) N c4, .slice (cutA ao cap 0) N cap] z.val fun e w' => e = .returned (.bool true) ∧ Below z.val.heap.size z.val w' := fun z => by
        have := same_any (H4.out.1.later z.2) (H4.out.2.later z.2)
        have e1 : decide (rs.take N = rs.take N) = true := by simp
        rw [e1] at this
        exact this
      clear hsc hr4 hGt hGl hm H2 hrs haw hb4 H4 H3 HX HE a1 a2 hpl h0b hzb hL1 hmax hN20
      go_wp2_with fail
      refine wp_region_later (by kernel_rfl) (by kernel_rfl) ?_
      repeat (go_big_quiet_step (first | exact rfl | (go_at_call 15; exact later_at hsm _)))
      refine wpQuiet_nil ?_
      rintro w5 ⟨z5, hz5⟩
      have hb5 : Below w4.heap.size w4 w5 := by rw [hz5]; exact z5.2
      clear hz5
      have B5 : Below w3.heap.size w3 w5 := HB4.out.trans (hb5.mono HB4.out.size)
      have h6 := H6.out w5 B5
      clear hsm
      go_wp2_with fail
      refine h6.mono ?_
      rintro e w6 ⟨v6, rfl, hr6, hb6⟩
      obtain ⟨a7, c7, rfl, hr7⟩ := RBV.ofRow hr6
      have hs2 := same_any ((H5.out.later hb5).later hb6) hr7
      have e1 : decide (G = G) = true := by simp
      rw [e1] at hs2
      have hgg : ((gu : Int) == (gu : Int)) = true := by simp
      have B6 := B5.trans (hb6.mono B5.size)
      have HB6 : Hid (Below w.heap.size w w6) := HB3.out.trans (B6.mono HB3.out.size)
      generalize G.length = m2 at hs2 ⊢
      clear h6 hr6 hr7 hb6 B5 B6 e1 hb5
      go_wp2_with fail
      refine hs2.mono ?_
      rintro e w7 ⟨rfl, hb7⟩
      have h8 := HAW.out w7
      clear hs2
      go_wp2_with fail
      refine h8.mono ?_
      rintro e w8 ⟨rfl, hb8⟩
      have B7 := HB6.out.trans (hb7.mono HB6.out.size)
      go_wp2_with fail
      exact bodyPost_ret (v := .bool true) (by simp [results, Try.results7, go_sem]) rfl ⟨rfl, B7.trans (hb8.mono B7.size)⟩
  · go_wp2_with (go_at_call 10; refine (haw _).mono ?_; rintro e w4 ⟨rfl, hb4⟩)
    exact bodyPost_ret (v := .bool true) (by simp [results, Try.results7, go_sem]) rfl ⟨rfl, HB1.out.trans (hb4.mono HB1.out.size)⟩
end Go.Proofs.Ytbinabegiikcaaa
