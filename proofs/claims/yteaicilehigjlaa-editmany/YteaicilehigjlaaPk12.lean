import Derived.Deep.RegionHeldLaw
import Derived.Test.YteaicilehigjlaaPk05
import Derived.Test.YteaicilehigjlaaPk07
import Derived.Test.YteaicilehigjlaaPk10
import Derived.Test.YteaicilehigjlaaPk11
/- What the document's own MayEdit answers. -/
namespace Go.Proofs.Yteaicilehigjlaa
open Go.RowKit
set_option linter.unusedVariables false
set_option linter.unusedSimpArgs false

theorem ix3_0 (x0 x1 x2 : Int) (w : World) : (Instr.index 50 (.agg #[.int .i64 x0, .int .i64 x1, .int .i64 x2]) (.int .i64 0)).run Try.prog w = .ok (.int .i64 x0) w := by kernel_rfl
theorem ix3_1 (x0 x1 x2 : Int) (w : World) : (Instr.index 50 (.agg #[.int .i64 x0, .int .i64 x1, .int .i64 x2]) (.int .i64 1)).run Try.prog w = .ok (.int .i64 x1) w := by kernel_rfl
theorem ix3_2 (x0 x1 x2 : Int) (w : World) : (Instr.index 50 (.agg #[.int .i64 x0, .int .i64 x1, .int .i64 x2]) (.int .i64 2)).run Try.prog w = .ok (.int .i64 x2) w := by kernel_rfl
theorem mayEd_mk {e : EdV} (h : mayMk e.log = false ∨ mayMk e.next = false ∨ mayMk e.seq = false) : mayEd e = false := by
  unfold mayEd
  rcases h with q | q | q <;> rw [q] <;> simp
theorem mayEd_ad {e : EdV} (h : mayAd e.add = false) : mayEd e = false := by unfold mayEd; rw [h]; simp
theorem mayEd_rm {e : EdV} (h : mayRm e.rem = false) : mayEd e = false := by unfold mayEd; rw [h]; simp
theorem mayMk_no {n : Int} (h : n < 0 ∨ 4611686018427387904 < n) : mayMk n = false := decide_eq_false (by omega)
theorem mayMk_yes {n : Int} (h1 : 0 ≤ n) (h2 : n ≤ 4611686018427387904) : mayMk n = true := decide_eq_true ⟨h1, h2⟩
theorem mayAd_bad {l : List LnV} {k : Nat} {x : LnV} (h : l[k]? = some x) (hp : mayLn x = false) : mayAd l = false := by
  unfold mayAd
  rw [all_take_bad h hp]
  simp
theorem mayRm_bad {l : List Int} {k : Nat} {x : Int} (h : l[k]? = some x) (hp : mayNo x = false) : mayRm l = false := by
  unfold mayRm
  rw [all_take_bad h hp]
  simp
theorem not_nodup {l : List Int} {j k : Nat} {x : Int} (hjk : j < k) (h1 : l[j]? = some x) (h2 : l[k]? = some x) : ¬ l.Nodup := fun h => by
  obtain ⟨a1, a2⟩ := List.getElem?_eq_some_iff.1 h1
  obtain ⟨b1, b2⟩ := List.getElem?_eq_some_iff.1 h2
  have := List.pairwise_iff_getElem.1 h j k a1 b1 hjk
  exact this (by rw [a2, b2])
theorem mayAd_two {l : List LnV} {j k : Nat} {x y : LnV} (hjk : j < k) (h1 : l[j]? = some x) (h2 : l[k]? = some y) (he : x.num = y.num) : mayAd l = false := by
  have : ¬ (nosL l).Nodup := not_nodup (x := y.num) hjk (by unfold nosL; rw [List.getElem?_map, h1]; simp [he]) (by unfold nosL; rw [List.getElem?_map, h2]; rfl)
  unfold mayAd
  rw [decide_eq_false this]
  simp
theorem mayRm_two {l : List Int} {j k : Nat} {x : Int} (hjk : j < k) (h1 : l[j]? = some x) (h2 : l[k]? = some x) : mayRm l = false := by
  unfold mayRm
  rw [decide_eq_false (not_nodup hjk h1 h2)]
  simp
/-- No number of the first j is the one of x. -/
def Un (l : List Int) (j : Nat) (x : Int) : Prop := ∀ i, i < j → ∀ y, l[i]? = some y → y ≠ x
theorem Un.next {l : List Int} {j : Nat} {x y : Int} (h : Un l j x) (hy : l[j]? = some y) (hne : y ≠ x) : Un l (j + 1) x := fun i hi z hz => by
  by_cases e : i = j
  · subst e
    rw [hy] at hz
    cases hz
    exact hne
  · exact h i (by omega) z hz
theorem Un.nodup {l : List Int} {k : Nat} {x : Int} (h : Un l k x) (hx : l[k]? = some x) (hn : (l.take k).Nodup) : (l.take (k + 1)).Nodup := by
  obtain ⟨hk, rfl⟩ := List.getElem?_eq_some_iff.1 hx
  rw [List.take_add_one, List.getElem?_eq_getElem hk]
  refine List.nodup_append.2 ⟨hn, by simp, fun a ha b hb => ?_⟩
  simp only [Option.toList, List.mem_singleton] at hb
  subst hb
  obtain ⟨i, hi, rfl⟩ := List.getElem_of_mem ha
  rw [List.length_take] at hi
  exact h i (by omega) _ (by rw [List.getElem_take, List.getElem?_eq_getElem (by omega)])
theorem nosL_at {l : List LnV} {k : Nat} {x : LnV} (h : l[k]? = some x) : (nosL l)[k]? = some x.num := by unfold nosL; rw [List.getElem?_map, h]; rfl
theorem nosL_take (l : List LnV) (k : Nat) : nosL (l.take k) = (nosL l).take k := by unfold nosL; rw [List.map_take]

set_option maxHeartbeats 8000000 in
set_option maxRecDepth 100000 in
theorem rmay_ed {w : World} {e : EdV} {aa ra : Option Addr} {ac rc : Nat} (h : EdM w e aa ac ra rc) :
    Calls Try.prog 15 #[edV e aa ac ra rc] w fun r w' => r = .returned (.bool (mayEd e)) ∧ Below w.heap.size w w' := by
  obtain ⟨log, next, seq, add, rem⟩ := e
  obtain ⟨i1, i2, i3, ha, hr⟩ := h
  unfold edV
  simp only at i1 i2 i3 ha hr ⊢
  have hbx := fun (wx : World) hb => box5 w (.int .i64 log) (.int .i64 next) (.int .i64 seq) (.slice aa add.length ac) (.slice ra rem.length rc) 30 (wx := wx) hb
  obtain ⟨W, hW⟩ : ∃ W, W = w.alloc (.cells #[.int .i64 log, .int .i64 next, .int .i64 seq, .slice aa add.length ac, .slice ra rem.length rc] 30) := ⟨_, rfl⟩
  have hWb : Below w.heap.size w W := by rw [hW]; exact (Below.refl _ w).alloc (Nat.le_refl _) _
  rw [← hW] at hbx
  obtain ⟨T, hT⟩ : ∃ T, T = mayEd ⟨log, next, seq, add, rem⟩ := ⟨_, rfl⟩
  have HT := hidE hT
  rw [← hT]
  have hna := ha.len
  have hnr := hr.len
  have hna63 : add.length ≤ 2 ^ 63 - 1 := by have := hna.2; unfold maxLen at this; omega
  have hnr63 : rem.length ≤ 2 ^ 63 - 1 := by have := hnr.2; unfold maxLen at this; omega
  have HAD := hidE (And.intro (ha.later hWb) (hr.later hWb))
  have HBX := hidE hbx
  have HWB := hidE hWb
  obtain ⟨x0, x1, x2, x3, x4⟩ := hbx _ (Below.refl _ _)
  obtain ⟨na, hnaE⟩ : ∃ na, na = add.length := ⟨_, rfl⟩
  obtain ⟨nr, hnrE⟩ : ∃ nr, nr = rem.length := ⟨_, rfl⟩
  have HNL := hidE (And.intro hnaE hnrE)
  rw [← hnaE] at x3 hna63 ⊢
  rw [← hnrE] at x4 hnr63 ⊢
  have HBX2 : Hid (∀ wx, Below W.heap.size W wx → wx.cell? ⟨w.heap.size, 3, none⟩ = some (.slice aa na ac) ∧ wx.cell? ⟨w.heap.size, 4, none⟩ = some (.slice ra nr rc)) := fun wx hb => by
    have := HBX.out wx hb
    rw [HNL.out.1, HNL.out.2]
    exact ⟨this.2.2.2.1, this.2.2.2.2⟩
  have HW := hidE hW
  rw [hnaE.symm, hnrE.symm] at hW
  clear HBX hT ha hr hWb hbx i1 i2 i3 hna hnr hnaE hnrE
  rw [hW] at x0 x1 x2 x3 x4
  go_enter Try.func15, Try.ntmps15
  go_wp2_with fail
  rw [← hW]
  rw [← hW] at x0 x1 x2 x3 x4
  clear hW
  go_loopg [20] 3 (fun g i wr => ∃ k : Nat, k + g = 3 ∧ i = .int .i64 (k : Int) ∧ wr = W ∧ Hid ((1 ≤ k → mayMk log = true) ∧ (2 ≤ k → mayMk next = true) ∧ (3 ≤ k → mayMk seq = true)))
  case atStart => exact ⟨0, by omega, rfl, rfl, (fun z => by omega), (fun z => by omega), fun z => by omega⟩
  case round =>
    obtain ⟨k, hk, rfl, hw, HK⟩ := hrel
    obtain rfl := hw.symm
    by_cases hlt : k < 3
    · match k, hk, hlt, HK with
      | 0, hk, _, HK =>
        have hix := fun wx => ix3_0 log next seq wx
        by_cases q1 : log < 0
        · have HF : Hid (T = false) := HT.out.trans (mayEd_mk (.inl (mayMk_no (.inl q1))))
          go_wp2_with fail
          exact bodyPost_ret (v := .bool false) (by simp [results, Try.results15, go_sem]) rfl ⟨by rw [HF.out], HWB.out⟩
        by_cases q2 : 4611686018427387904 < log
        · have HF : Hid (T = false) := HT.out.trans (mayEd_mk (.inl (mayMk_no (.inr q2))))
          have q1' : 0 ≤ log := by omega
          go_wp2_with fail
          exact bodyPost_ret (v := .bool false) (by simp [results, Try.results15, go_sem]) rfl ⟨by rw [HF.out], HWB.out⟩
        have q1' : 0 ≤ log := by omega
        have q2' : log ≤ 4611686018427387904 := by omega
        have HM : Hid (mayMk log = true) := mayMk_yes q1' q2'
        go_wp2_with fail
        go_roundg 2
        case measure => omega
        case rel => exact ⟨1, rfl, rfl, rfl, fun _ => HM.out, (fun z => by omega), fun z => by omega⟩
      | 1, hk, _, HK =>
        have hix := fun wx => ix3_1 log next seq wx
        by_cases q1 : next < 0
        · have HF : Hid (T = false) := HT.out.trans (mayEd_mk (.inr (.inl (mayMk_no (.inl q1)))))
          go_wp2_with fail
          exact bodyPost_ret (v := .bool false) (by simp [results, Try.results15, go_sem]) rfl ⟨by rw [HF.out], HWB.out⟩
        by_cases q2 : 4611686018427387904 < next
        · have HF : Hid (T = false) := HT.out.trans (mayEd_mk (.inr (.inl (mayMk_no (.inr q2)))))
          have q1' : 0 ≤ next := by omega
          go_wp2_with fail
          exact bodyPost_ret (v := .bool false) (by simp [results, Try.results15, go_sem]) rfl ⟨by rw [HF.out], HWB.out⟩
        have q1' : 0 ≤ next := by omega
        have q2' : next ≤ 4611686018427387904 := by omega
        have HM : Hid (mayMk next = true) := mayMk_yes q1' q2'
        go_wp2_with fail
        go_roundg 1
        case measure => omega
        case rel => exact ⟨2, rfl, rfl, rfl, fun _ => HK.out.1 (by omega), fun _ => HM.out, fun z => by omega⟩
      | 2, hk, _, HK =>
        have hix := fun wx => ix3_2 log next seq wx
        by_cases q1 : seq < 0
        · have HF : Hid (T = false) := HT.out.trans (mayEd_mk (.inr (.inr (mayMk_no (.inl q1)))))
          go_wp2_with fail
          exact bodyPost_ret (v := .bool false) (by simp [results, Try.results15, go_sem]) rfl ⟨by rw [HF.out], HWB.out⟩
        by_cases q2 : 4611686018427387904 < seq
        · have HF : Hid (T = false) := HT.out.trans (mayEd_mk (.inr (.inr (mayMk_no (.inr q2)))))
          have q1' : 0 ≤ seq := by omega
          go_wp2_with fail
          exact bodyPost_ret (v := .bool false) (by simp [results, Try.results15, go_sem]) rfl ⟨by rw [HF.out], HWB.out⟩
        have q1' : 0 ≤ seq := by omega
        have q2' : seq ≤ 4611686018427387904 := by omega
        have HM : Hid (mayMk seq = true) := mayMk_yes q1' q2'
        go_wp2_with fail
        go_roundg 0
        case measure => omega
        case rel => exact ⟨3, rfl, rfl, rfl, fun _ => HK.out.1 (by omega), fun _ => HK.out.2.1 (by omega), fun _ => HM.out⟩
      | n + 3, _, hlt, _ => omega
    · obtain rfl : k = 3 := by omega
      have HMK : Hid (T = (mayAd add && mayRm rem)) := by
        show _ = _
        rw [HT.out]
        unfold mayEd
        rw [HK.out.1 (by omega), HK.out.2.1 (by omega), HK.out.2.2 (by omega)]
        rfl
      clear hk hlt HK
      by_cases q1 : 200 < na
      · have q1' : (200 : Int) < (na : Int) := by omega
        have HF : Hid (T = false) := by show _ = _; rw [HMK.out, mayAd_long (by rw [← HNL.out.1]; exact q1)]; rfl
        clear q1
        go_wp2_with fail
        exact bodyPost_ret (v := .bool false) (by simp [results, Try.results15, go_sem]) rfl ⟨by rw [HF.out], HWB.out⟩
      have q1' : (na : Int) ≤ 200 := by omega
      by_cases q2 : 200 < nr
      · have q2' : (200 : Int) < (nr : Int) := by omega
        have HF : Hid (T = false) := by show _ = _; rw [HMK.out, mayRm_long (by rw [← HNL.out.2]; exact q2), Bool.and_false]
        clear q1 q2
        go_wp2_with fail
        exact bodyPost_ret (v := .bool false) (by simp [results, Try.results15, go_sem]) rfl ⟨by rw [HF.out], HWB.out⟩
      have q2' : (nr : Int) ≤ 200 := by omega
      have HN2 : Hid (na ≤ 200 ∧ nr ≤ 200) := ⟨by omega, by omega⟩
      clear q1 q2
      go_wp2_with fail
      clear q1' q2'
      go_loopg [43] na (fun g i wr => ∃ k : Nat, k + g = na ∧ i = .int .i64 (k : Int) ∧ Hid (Below W.heap.size W wr ∧ (add.take k).all mayLn = true ∧ ((nosL add).take k).Nodup))
      case atStart => exact ⟨0, by omega, rfl, Below.refl _ _, by simp, by simp⟩
      case round =>
        obtain ⟨k, hk, rfl, HK⟩ := hrel
        by_cases hkl : k < na
        · have hkl' : (k : Int) < (na : Int) := by omega
          have hkx : k < add.length := by rw [← HNL.out.1]; exact hkl
          have hox := List.getElem?_eq_getElem hkx
          have bel := HK.out.1
          obtain ⟨b, off, la, lc, ma, mc, rfl, d0, d1, d2, d3, d4, k1, k2, j1, j2, j3⟩ := RS.ln (HAD.out.1.later bel) hox
          have HOX := hidE hox
          generalize add[k] = x at d0 d1 d2 d3 d4 k1 k2 j1 HOX
          have hacl : na ≤ ac := by have := HAD.out.1.len; rw [HNL.out.1]; exact this.2.1
          obtain ⟨W1, hW1⟩ : ∃ W1, W1 = wr.alloc (.cells #[.int .i64 x.num, .int .i64 x.lvl, .int .i64 x.size, .slice la x.least.length lc, .slice ma x.most.length mc] 24) := ⟨_, rfl⟩
          have b1 : Below wr.heap.size wr W1 := by rw [hW1]; exact (Below.refl _ _).alloc (Nat.le_refl _) _
          have hT := rmtab_any (k1.later b1) (k2.later b1)
          have B1 := bel.trans (b1.mono bel.size)
          have c0 : W1.cell? ⟨wr.heap.size, 0, none⟩ = some (.int .i64 x.num) := by rw [hW1, cell_of (heap_alloc_new wr _)]; rfl
          obtain ⟨m, hm⟩ : ∃ m, m = mayLn x := ⟨_, rfl⟩
          rw [← hm] at hT
          have HM := hidE hm
          have HB1 := hidE (And.intro B1 c0)
          have HW1 := hidE hW1
          rw [hW1] at hT
          have hk62 : k ≤ 2 ^ 61 := by have := HN2.out; omega
          obtain ⟨GK, HG⟩ : ∃ g, Hid (g < gk ∧ k + 1 + g = na) := ⟨gk - 1, by omega, by omega⟩
          have HALL := hidE HK.out.2
          have hhd := fun wx => run_headT wx b off na ac k (by omega)
          generalize x.least.length = nl at d3 hT HW1
          generalize x.most.length = nm at d4 hT HW1
          have HKN : Hid (k < na ∧ na ≤ 200) := ⟨hkl, HN2.out.1⟩
          clear hm k1 k2 bel b1 B1 c0 hW1 HK hk hacl hox
          cases m
          · have HF : Hid (T = false) := by show _ = _; rw [HMK.out, mayAd_bad HOX.out HM.out.symm]; rfl
            go_wp2_with (go_at_call 9; refine hT.mono ?_; rintro e w2 ⟨rfl, b2⟩; rw [← HW1.out] at b2)
            have B2 := HB1.out.1.trans (b2.mono HB1.out.1.size)
            exact bodyPost_ret (v := .bool false) (by simp [results, Try.results15, go_sem]) rfl ⟨by rw [HF.out], HWB.out.trans (B2.mono HWB.out.size)⟩
          · have HN : Hid ((add.take (k + 1)).all mayLn = true) := all_take_next HOX.out HM.out.symm HALL.out.1
            go_upto_region 14 with (go_at_call 9; refine hT.mono ?_; rintro e w2 ⟨rfl, b2⟩; rw [← HW1.out] at b2)
            have B2 := hidE (HB1.out.1.trans (b2.mono HB1.out.1.size))
            have c2 := hidE (cell_later b2 HB1.out.2)
            obtain ⟨y3, y4⟩ := HBX2.out _ B2.out
            clear b2 hT
            go_wp2_with fail
            go_loopg [56] k (fun g i wr => ∃ j : Nat, j + g = k ∧ i = .int .i64 (j : Int) ∧ Hid (Below w2.heap.size w2 wr ∧ Un (nosL add) j x.num))
            case atStart => exact ⟨0, by omega, rfl, Below.refl _ _, fun i hi => by omega⟩
            case round =>
              obtain ⟨j, hj, rfl, HJ⟩ := hrel
              by_cases hjk : j < k
              · have hjk' : (j : Int) < (k : Int) := by omega
                have hjx : j < add.length := by omega
                have hoy := List.getElem?_eq_getElem hjx
                have BJ := B2.out.trans (HJ.out.1.mono B2.out.size)
                obtain ⟨b', off', la', lc', ma', mc', e', f0, f1, f2, f3, f4, -, -, l1, -, -⟩ := RS.ln (HAD.out.1.later BJ) hoy
                simp only [Option.some.injEq, Addr.mk.injEq, and_true] at e'
                obtain ⟨rfl, rfl⟩ := e'
                have HOY := hidE hoy
                generalize add[j] = y at f0 f1 f2 f3 f4 HOY
                have bb : Below wr.heap.size wr (wr.alloc (.cells #[.int .i64 y.num, .int .i64 y.lvl, .int .i64 y.size, .slice la' y.least.length lc', .slice ma' y.most.length mc'] 24)) := (Below.refl _ _).alloc (Nat.le_refl _) _
                have cx := cell_later bb (cell_later HJ.out.1 c2.out)
                have HBJ := hidE (And.intro (BJ.trans (bb.mono BJ.size)) (HJ.out.1.trans (bb.mono HJ.out.1.size)))
                generalize y.least.length = nl' at f3 cx HBJ
                generalize y.most.length = nm' at f4 cx HBJ
                have hj62 : j ≤ 2 ^ 61 := by omega
                obtain ⟨GJ, HGJ⟩ : ∃ g, Hid (g < gk ∧ j + 1 + g = k) := ⟨gk - 1, by omega, by omega⟩
                by_cases qe : y.num = x.num
                · have HF : Hid (T = false) := by show _ = _; rw [HMK.out, mayAd_two hjk HOY.out HOX.out qe]; rfl
                  have qe' : (y.num == x.num) = true := by simp [qe]
                  clear BJ bb hj hoy qe
                  go_wp2_with fail
                  exact bodyPost_ret (v := .bool false) (by simp [results, Try.results15, go_sem]) rfl ⟨by rw [HF.out], HWB.out.trans (HBJ.out.1.mono HWB.out.size)⟩
                · have qe' : (y.num == x.num) = false := by simp [qe]
                  have HU : Hid (Un (nosL add) (j + 1) x.num) := HJ.out.2.next (nosL_at HOY.out) qe
                  clear BJ bb hj hoy HJ
                  go_wp2_with fail
                  go_roundg GJ
                  case measure => exact HGJ.out.1
                  case rel => exact ⟨j + 1, HGJ.out.2, by go_num, HBJ.out.2, HU.out⟩
              · obtain rfl : j = k := by omega
                have HE : Hid (Below W.heap.size W wr ∧ ((nosL add).take (j + 1)).Nodup) := ⟨B2.out.trans (HJ.out.1.mono B2.out.size), HJ.out.2.nodup (nosL_at HOX.out) HALL.out.2⟩
                have hjj : ¬ ((j : Int) < (j : Int)) := by omega
                clear hj HJ hjk
                go_wp2_with fail
                go_roundg GK
                case measure => exact HG.out.1
                case rel => exact ⟨j + 1, HG.out.2, by go_num, HE.out.1, HN.out, HE.out.2⟩
        · have hkl' : (na : Int) ≤ (k : Int) := by omega
          have HMR : Hid (Below W.heap.size W wr ∧ T = mayRm rem) := by
            refine ⟨HK.out.1, ?_⟩
            have h1 := HK.out.2
            rw [List.take_of_length_le (by rw [← HNL.out.1]; omega), List.take_of_length_le (by rw [show (nosL add).length = add.length by unfold nosL; simp, ← HNL.out.1]; omega)] at h1
            have : mayAd add = true := by
              unfold mayAd
              rw [h1.1, decide_eq_true h1.2, decide_eq_true (by rw [← HNL.out.1]; exact HN2.out.1)]
              rfl
            rw [HMK.out, this]
            rfl
          obtain ⟨y3, y4⟩ := HBX2.out _ HMR.out.1
          have hd1 : decide (k < na) = false := decide_eq_false (by omega)
          have hd2 : decide ((k : Int) < (na : Int)) = false := decide_eq_false (by omega)
          clear hk hkl HK HMK
          go_wp2_with fail
          go_loopg [9, 10, 70] nr (fun g _ _ i wx => ∃ k : Nat, k + g = nr ∧ i = .int .i64 (k : Int) ∧ wx = wr ∧ Hid ((rem.take k).all mayNo = true ∧ (rem.take k).Nodup))
          case atStart => exact ⟨0, by omega, rfl, rfl, by simp, by simp⟩
          case round =>
            obtain ⟨k, hk, rfl, hw2, HK⟩ := hrel
            obtain rfl := hw2.symm
            by_cases hkl : k < nr
            · have hkl' : (k : Int) < (nr : Int) := by omega
              have hkx : k < rem.length := by rw [← HNL.out.2]; exact hkl
              have hox := List.getElem?_eq_getElem hkx
              obtain ⟨b, off, rfl, d0, j1⟩ := RS.i64 (HAD.out.2.later HMR.out.1) hox
              have HOX := hidE hox
              generalize rem[k] = x at d0 j1 HOX
              have hacl : nr ≤ rc := by have := HAD.out.2.len; rw [HNL.out.2]; exact this.2.1
              have hhd := fun wx => run_headI wx b off nr rc k (by omega)
              have hk62 : k ≤ 2 ^ 61 := by have := HN2.out; omega
              have HALL := hidE HK.out
              have HKN : Hid (k < nr ∧ nr ≤ 200) := ⟨hkl, HN2.out.2⟩
              obtain ⟨GK, HG⟩ : ∃ g, Hid (g < gk ∧ k + 1 + g = nr) := ⟨gk - 1, by omega, by omega⟩
              clear HK hk hacl hox
              by_cases p1 : x < 1
              · have HF : Hid (T = false) := by show _ = _; rw [HMR.out.2]; exact mayRm_bad HOX.out (decide_eq_false (by omega))
                go_wp2_with fail
                exact bodyPost_ret (v := .bool false) (by simp [results, Try.results15, go_sem]) rfl ⟨by rw [HF.out], HWB.out.trans (HMR.out.1.mono HWB.out.size)⟩
              have p1' : 1 ≤ x := by omega
              by_cases p2 : 1099511627776 < x
              · have HF : Hid (T = false) := by show _ = _; rw [HMR.out.2]; exact mayRm_bad HOX.out (decide_eq_false (by omega))
                go_wp2_with fail
                exact bodyPost_ret (v := .bool false) (by simp [results, Try.results15, go_sem]) rfl ⟨by rw [HF.out], HWB.out.trans (HMR.out.1.mono HWB.out.size)⟩
              have p2' : x ≤ 1099511627776 := by omega
              have HN : Hid ((rem.take (k + 1)).all mayNo = true) := all_take_next HOX.out (decide_eq_true ⟨p1', p2'⟩) HALL.out.1
              go_wp2_with fail
              go_loopg [12, 86] k (fun g _ i wx => ∃ j : Nat, j + g = k ∧ i = .int .i64 (j : Int) ∧ wx = wr ∧ Hid (Un rem j x))
              case atStart => exact ⟨0, by omega, rfl, rfl, fun i hi => by omega⟩
              case round =>
                obtain ⟨j, hj, rfl, hw3, HJ⟩ := hrel
                obtain rfl := hw3.symm
                by_cases hjk : j < k
                · have hjk' : (j : Int) < (k : Int) := by omega
                  have hjx : j < rem.length := by omega
                  have hoy := List.getElem?_eq_getElem hjx
                  obtain ⟨b', off', e', f0, l1⟩ := RS.i64 (HAD.out.2.later HMR.out.1) hoy
                  simp only [Option.some.injEq, Addr.mk.injEq, and_true] at e'
                  obtain ⟨rfl, rfl⟩ := e'
                  have HOY := hidE hoy
                  generalize rem[j] = y at f0 HOY
                  have hj62 : j ≤ 2 ^ 61 := by omega
                  obtain ⟨GJ, HGJ⟩ : ∃ g, Hid (g < gk ∧ j + 1 + g = k) := ⟨gk - 1, by omega, by omega⟩
                  by_cases qe : y = x
                  · have HF : Hid (T = false) := by show _ = _; rw [HMR.out.2]; exact mayRm_two hjk HOY.out (by rw [qe]; exact HOX.out)
                    have qe' : (y == x) = true := by simp [qe]
                    clear hj hoy qe
                    go_wp2_with fail
                    exact bodyPost_ret (v := .bool false) (by simp [results, Try.results15, go_sem]) rfl ⟨by rw [HF.out], HWB.out.trans (HMR.out.1.mono HWB.out.size)⟩
                  · have qe' : (y == x) = false := by simp [qe]
                    have HU : Hid (Un rem (j + 1) x) := HJ.out.next HOY.out qe
                    clear hj hoy HJ
                    go_wp2_with fail
                    go_roundg GJ
                    case measure => exact HGJ.out.1
                    case rel => exact ⟨j + 1, HGJ.out.2, by go_num, rfl, HU.out⟩
                · obtain rfl : j = k := by omega
                  have HE : Hid ((rem.take (j + 1)).Nodup) := HJ.out.nodup HOX.out HALL.out.2
                  have hjj : ¬ ((j : Int) < (j : Int)) := by omega
                  clear hj HJ hjk
                  go_wp2_with fail
                  go_roundg GK
                  case measure => exact HG.out.1
                  case rel => exact ⟨j + 1, HG.out.2, by go_num, rfl, HN.out, HE.out⟩
            · have hkl' : (nr : Int) ≤ (k : Int) := by omega
              have HF : Hid (T = true) := by
                show _ = _
                have h1 := HK.out
                rw [List.take_of_length_le (by rw [← HNL.out.2]; omega)] at h1
                rw [HMR.out.2]
                unfold mayRm
                rw [h1.1, decide_eq_true h1.2, decide_eq_true (by rw [← HNL.out.2]; exact HN2.out.2)]
                rfl
              clear hk hkl HK
              go_wp2_with fail
              exact bodyPost_ret (v := .bool true) (by simp [results, Try.results15, go_sem]) rfl ⟨by rw [HF.out], HWB.out.trans (HMR.out.1.mono HWB.out.size)⟩
end Go.Proofs.Yteaicilehigjlaa

/- What PutBytes makes, and the document's own. -/
namespace Go.Proofs.Yteaicilehigjlaa
open Go.RowKit
set_option linter.unusedVariables false

theorem pby_any (ao so : Option Addr) (len cap ls cs : Nat) (X S : Nat → Nat) (w : World) (hb : Byt w ao len X) (hnil : ao = none → len = 0 ∧ cap = 0) (hsb : Byt w so ls S) (hsnil : so = none → ls = 0 ∧ cs = 0) (hl : len + ls ≤ 140737488351232) :
    Calls Try.prog 40 #[.slice ao len cap, .slice so ls cs] w fun e w' => ∃ v', e = .returned v' ∧ Row w.heap.size w' v' (bs X len ++ uv ls ++ bs S ls) ∧ Below w.heap.size w w' := by
  have hf := fresh_any ao len cap (10 + ls) X w hb hnil (by omega) (by omega)
  have hu := uv_len64 (n := ls) (by omega)
  have hs : ∀ v w1, Row w.heap.size w1 v (bs X len) → Below w.heap.size w w1 → Calls Try.prog 46 #[v, .int .u64 (ls : Int)] w1 fun e w' => ∃ v', e = .returned v' ∧ Row w.heap.size w' v' (bs X len ++ uv ls) ∧ Below w.heap.size w w' := fun v w1 h1 h2 =>
    (sevs_any w.heap.size v (bs X len) ls w1 h1 h2.size (by rw [bs_length]; omega) (by omega)).mono fun e w' ⟨v', he, hr, hg, _⟩ => ⟨v', he, hr, h2.trans (grown_below h1 hg h2.size)⟩
  have HS : Hid (Byt w so ls S ∧ (so = none → ls = 0 ∧ cs = 0) ∧ (bs X len ++ uv ls).length + ls ≤ 140737488355328) := ⟨hsb, hsnil, by rw [List.length_append, bs_length]; omega⟩
  have hw1 : ls ≤ 2 ^ 63 - 11 := by omega
  have e10 : ((10 + ls : Nat) : Int) = 10 + (ls : Int) := by omega
  rw [e10] at hf
  clear hb hnil hsb hsnil hl hu e10
  go_enter Try.func40, Try.ntmps40
  go_wp2_with (first | (go_at_call 47; refine hf.mono ?_; rintro e w1 ⟨v1, rfl, hr1, hb1⟩) | (go_at_call 46; refine (hs _ _ hr1 hb1).mono ?_; rintro e w2 ⟨v2, rfl, hr2, hb2⟩) | (at_builtin; refine wpList_app rfl (.tmp 15) (.tmp 16) rfl w.heap.size v2 _ rfl hr2 so ls cs S rfl HS.out.2.1 (HS.out.1.later hb2) HS.out.2.2 hb2.size ?_; intro v3 w3 hr3 hg3 hm3))
  exact bodyPost_ret (v := v3) (by simp [results, Try.results40, go_sem]) rfl ⟨v3, rfl, hr3, hb2.trans (grown_below hr2 hg3 hb2.size)⟩

/-- What is read elsewhere, of a slice that the row does not lie in. -/
theorem rpby_any (B : Nat) (v : Value) (xs : List Int) (so : Option Addr) (ls cs : Nat) (S : Nat → Nat) (w W : World) (hrow : Row B w v xs) (hB : B ≤ w.heap.size) (hWB : W.heap.size ≤ B) (hW : Below W.heap.size W w) (hsb : Byt W so ls S) (hsnil : so = none → ls = 0 ∧ cs = 0) (hl : xs.length + ls ≤ 140737488351232) :
    Calls Try.prog 26 #[v, .slice so ls cs] w fun e w' => ∃ v', e = .returned v' ∧ Row B w' v' (xs ++ uv ls ++ bs S ls) ∧ w.grownBy w' v.ownBlock ∧ Moved w v v' := by
  have hu := uv_len64 (n := ls) (by omega)
  have hs := rput_any B v xs ls w hrow hB (by omega) (by omega)
  have HS : Hid (Byt W so ls S ∧ (so = none → ls = 0 ∧ cs = 0) ∧ (xs ++ uv ls).length + ls ≤ 140737488355328 ∧ Row B w v xs ∧ B ≤ w.heap.size ∧ W.heap.size ≤ B ∧ Below W.heap.size W w) := ⟨hsb, hsnil, by rw [List.length_append]; omega, hrow, hB, hWB, hW⟩
  have hw1 : ls ≤ 2 ^ 63 - 11 := by omega
  clear hrow hB hWB hW hsb hsnil hl hu
  go_enter Try.func26, Try.ntmps26
  go_wp2_with (first | (go_at_call 25; refine hs.mono ?_; rintro e w1 ⟨v1, rfl, hr1, hg1, hm1⟩) | (at_builtin; refine wpList_app rfl (.tmp 9) (.tmp 10) rfl B v1 _ rfl hr1 so ls cs S rfl HS.out.2.1 (HS.out.1.later (HS.out.2.2.2.2.2.2.trans ((grown_below HS.out.2.2.2.1 hg1 HS.out.2.2.2.2.1).mono HS.out.2.2.2.2.2.1))) HS.out.2.2.1 (Nat.le_trans HS.out.2.2.2.2.1 hg1.size) ?_; intro v3 w3 hr3 hg3 hm3))
  exact bodyPost_ret (v := v3) (by simp [results, Try.results26, go_sem]) rfl ⟨v3, rfl, hr3, grow_trans hg1 hm1 hg3, hm1.trans hm3 hg1.size⟩
end Go.Proofs.Yteaicilehigjlaa

/- The document's own Batch: a batch as bytes. -/
namespace Go.Proofs.Yteaicilehigjlaa
open Go.RowKit
set_option linter.unusedVariables false
set_option linter.unusedSimpArgs false

theorem undrew {w w2 : World} {r : Option Nat} (h : w.drew.grownBy w2 r) : w.grownBy w2 r := ⟨h.os, h.tape, h.output, h.size, h.block⟩
theorem Row.slice {B : Nat} {w : World} {v : Value} {xs : List Int} (h : Row B w v xs) : ∃ ao c, v = .slice ao xs.length c := by
  rcases h.2 with ⟨rfl, h0⟩ | ⟨g, cap, cur, rfl, _⟩
  · exact ⟨none, 0, by rw [h0]⟩
  · exact ⟨_, _, rfl⟩
theorem Row.drew {B : Nat} {w : World} {v : Value} {xs : List Int} (h : Row B w v xs) : Row B w.drew v xs := h
theorem wrap64u {n : Nat} (h : n < 18446744073709551616) : IntKind.u64.wrap (n : Int) = (n : Int) := by rw [IntKind.wrap_u64]; omega
/-- PutBytes of what was there at the beginning. -/
theorem rpb_l {W w : World} {B : Nat} {v : Value} {xs : List Int} {so : Option Addr} {ls cs : Nat} {rs : List Int} (hrow : Row B w v xs) (hWB : W.heap.size ≤ B) (hW : Below W.heap.size W w) (hB : B ≤ w.heap.size) (hs : Sl W so ls cs rs) (hl : xs.length + ls ≤ 140737488351232) :
    Calls Try.prog 26 #[v, .slice so ls cs] w fun e w' => ∃ v', e = .returned v' ∧ Row B w' v' (xs ++ lb rs) ∧ w.grownBy w' v.ownBlock ∧ Moved w v v' := by
  refine (rpby_any B v xs so ls cs (xof rs) w W hrow hB hWB hW hs.2.2.2.2.2 hs.2.2.1 hl).mono ?_
  rintro e w' ⟨v', rfl, h1, h2, h3⟩
  rw [← hs.1, bs_xof hs.2.1, List.append_assoc] at h1
  exact ⟨v', rfl, h1, h2, h3⟩
/-- One byte behind a row of one's own, as a step of a region that draws. -/
theorem step_app1 {ops : Array Oper} {w : World} {o : Oper} {a : Act} {K : Act → World → Prop} {Q : Exit → Act → World → Prop} {E : Prop} {B N : Nat} {v : Value} {xs : List Int} {c : Int} (hgd : o.guard = none) (s x : Operand)
    (ho : o.op = .call { callee := .builtin .append, args := #[s, x], argTypes := #[22, 22] }) (hs : a.eval s = v) (hrow : Row B w v xs) (hx : a.eval x = .slice (some ⟨N, 0, none⟩) 1 1) (hc : w.cell? ⟨N, 0, none⟩ = some (.int .u8 c)) (hc8 : 0 ≤ c ∧ c < 256) (hb : xs.length + 1 ≤ 140737488355328) (hB : B ≤ w.heap.size)
    (h : ∀ v' w', Row B w' v' (xs ++ [c]) → w.grownBy w' v.ownBlock → Moved w v v' → K (a.put o.dst v') w') :
    if Region.wanted o (yielded ops a.tmps) = true then Oper.wp Try.prog o a w K Q else E := by
  have hw : Region.wanted o (yielded ops a.tmps) = true := by simp [Region.wanted, hgd]
  rw [if_pos hw]
  obtain ⟨n, rfl⟩ := Int.eq_ofNat_of_zero_le hc8.1
  obtain ⟨v', w', hr, h2, h3, h4⟩ := run_app B w o.type v xs hrow (some ⟨N, 0, none⟩) 1 1 (fun _ => n) (fun e => by cases e) (fun k hk => by
    obtain rfl : k = 0 := by omega
    exact ⟨by show n < 256; omega, N, 0, rfl, hc⟩) hb hB
  unfold Oper.wp execOp
  simp only [ho, resolve, invoke, builtin, Sem.run_bind, Sem.run_pure, Result.andThen_ok, List.map_toArray, List.map_cons, List.map_nil, hs, hx, hr]
  exact h _ _ h2 h3 h4
/-- A row of one's own, beside a block that is read. -/
structure Mid (W : World) (ob : Nat) (C : Array Value) (t : TypeId) (wx : World) (v : Value) (ys : List Int) : Prop where
  row : Row W.heap.size wx v ys
  bel : Below W.heap.size W wx
  blk : wx.heap[ob]? = some (.cells C t (0, 0))
  ne : v.ownBlock ≠ some ob
theorem Mid.step {W : World} {ob : Nat} {C : Array Value} {t : TypeId} {wx wy : World} {v v' : Value} {ys zs : List Int} (h : Mid W ob C t wx v ys) (hg : wx.grownBy wy v.ownBlock) (hm : Moved wx v v') (hr : Row W.heap.size wy v' zs) : Mid W ob C t wy v' zs := by
  have hlt := (Array.getElem?_eq_some_iff.1 h.blk).1
  refine ⟨hr, h.bel.trans (grown_below h.row hg h.bel.size), (hg.block ob hlt (Ne.symm h.ne)).trans h.blk, ?_⟩
  rcases hm with q | ⟨g, q1, q2⟩
  · rw [q]; exact h.ne
  · rw [q1]
    intro e
    simp only [Option.some.injEq] at e
    omega
theorem Mid.alloc {W : World} {ob : Nat} {C : Array Value} {t : TypeId} {wx : World} {v : Value} {ys : List Int} (h : Mid W ob C t wx v ys) (o : Obj) : Mid W ob C t (wx.alloc o) v ys := by
  have hb : Below wx.heap.size wx (wx.alloc o) := (Below.refl _ wx).alloc (Nat.le_refl _) _
  exact ⟨h.row.later hb, h.bel.trans (hb.mono h.bel.size), (hb.block ob (Array.getElem?_eq_some_iff.1 h.blk).1).trans h.blk, h.ne⟩
theorem Mid.drew {W : World} {ob : Nat} {C : Array Value} {t : TypeId} {wx : World} {v : Value} {ys : List Int} (h : Mid W ob C t wx v ys) : Mid W ob C t wx.drew v ys := ⟨h.row, h.bel.drew, h.blk, h.ne⟩
theorem Mid.cells {W : World} {ob : Nat} {c0 c1 c2 c3 : Value} {t : TypeId} {wx : World} {v : Value} {ys : List Int} (h : Mid W ob #[c0, c1, c2, c3] t wx v ys) : wx.cell? ⟨ob, 0, none⟩ = some c0 ∧ wx.cell? ⟨ob, 1, none⟩ = some c1 ∧ wx.cell? ⟨ob, 2, none⟩ = some c2 ∧ wx.cell? ⟨ob, 3, none⟩ = some c3 :=
  ⟨by rw [cell_of h.blk]; rfl, by rw [cell_of h.blk]; rfl, by rw [cell_of h.blk]; rfl, by rw [cell_of h.blk]; rfl⟩
def enV (s : Int) (os : List OpV) : List Int := if mayB s os = 0 then enB s os else []
theorem enOs_take {os : List OpV} {k : Nat} {o : OpV} (h : os[k]? = some o) : enOs (os.take (k + 1)) = enOs (os.take k) ++ enO o := by
  obtain ⟨hk, rfl⟩ := List.getElem?_eq_some_iff.1 h
  rw [List.take_add_one, List.getElem?_eq_getElem hk, enOs_app]
  show _ ++ (enO os[k] ++ []) = _
  rw [List.append_nil]

end Go.Proofs.Yteaicilehigjlaa
