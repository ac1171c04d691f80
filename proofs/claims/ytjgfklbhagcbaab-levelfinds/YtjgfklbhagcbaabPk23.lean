import Derived.Test.YtjgfklbhagcbaabPk17
import Derived.Test.YtjgfklbhagcbaabPk20
/- What the document's own MayEdit answers. -/
namespace Go.Proofs.Ytjgfklbhagcbaab
open Go.RowKit
set_option linter.unusedVariables false
set_option linter.unusedSimpArgs false

theorem ix3_0 (x0 x1 x2 : Int) (w : World) : (Instr.index 59 (.agg #[.int .i64 x0, .int .i64 x1, .int .i64 x2]) (.int .i64 0)).run Try.prog w = .ok (.int .i64 x0) w := by kernel_rfl
theorem ix3_1 (x0 x1 x2 : Int) (w : World) : (Instr.index 59 (.agg #[.int .i64 x0, .int .i64 x1, .int .i64 x2]) (.int .i64 1)).run Try.prog w = .ok (.int .i64 x1) w := by kernel_rfl
theorem ix3_2 (x0 x1 x2 : Int) (w : World) : (Instr.index 59 (.agg #[.int .i64 x0, .int .i64 x1, .int .i64 x2]) (.int .i64 2)).run Try.prog w = .ok (.int .i64 x2) w := by kernel_rfl
theorem mayEd_mk {e : EdV} (h : mayMk e.log = false ∨ mayMk e.next = false ∨ mayMk e.seq = false) : mayEd e = false := by
  unfold mayEd
  rcases h with q | q | q <;> rw [q] <;> simp
theorem mayEd_ad {e : EdV} (h : mayAd e.add = false) : mayEd e = false := by unfold mayEd; rw [h]; simp
theorem mayEd_rm {e : EdV} (h : mayRm e.rem = false) : mayEd e = false := by unfold mayEd; rw [h]; simp
theorem mayMk_no {n : Int} (h : n < 0 ∨ 4611686018427387904 < n) : mayMk n = false := decide_eq_false (by omega)
theorem mayMk_yes {n : Int} (h1 : 0 ≤ n) (h2 : n ≤ 4611686018427387904) : mayMk n = true := decide_eq_true ⟨h1, h2⟩
theorem mayAd_bad {l : List LnV} {k : Nat} {x : LnV} (h : l[k]? = some x) (hp : mayLn x = false) : mayAd l = false := by
  unfold mayAd
  rw [all_take_bad h hp]
  simp
theorem mayRm_bad {l : List Int} {k : Nat} {x : Int} (h : l[k]? = some x) (hp : mayNo x = false) : mayRm l = false := by
  unfold mayRm
  rw [all_take_bad h hp]
  simp
theorem not_nodup {l : List Int} {j k : Nat} {x : Int} (hjk : j < k) (h1 : l[j]? = some x) (h2 : l[k]? = some x) : ¬ l.Nodup := fun h => by
  obtain ⟨a1, a2⟩ := List.getElem?_eq_some_iff.1 h1
  obtain ⟨b1, b2⟩ := List.getElem?_eq_some_iff.1 h2
  have := List.pairwise_iff_getElem.1 h j k a1 b1 hjk
  exact this (by rw [a2, b2])
theorem mayAd_two {l : List LnV} {j k : Nat} {x y : LnV} (hjk : j < k) (h1 : l[j]? = some x) (h2 : l[k]? = some y) (he : x.num = y.num) : mayAd l = false := by
  have : ¬ (nosL l).Nodup := not_nodup (x := y.num) hjk (by unfold nosL; rw [List.getElem?_map, h1]; simp [he]) (by unfold nosL; rw [List.getElem?_map, h2]; rfl)
  unfold mayAd
  rw [decide_eq_false this]
  simp
theorem mayRm_two {l : List Int} {j k : Nat} {x : Int} (hjk : j < k) (h1 : l[j]? = some x) (h2 : l[k]? = some x) : mayRm l = false := by
  unfold mayRm
  rw [decide_eq_false (not_nodup hjk h1 h2)]
  simp
/-- No number of the first j is the one of x. -/
def Un (l : List Int) (j : Nat) (x : Int) : Prop := ∀ i, i < j → ∀ y, l[i]? = some y → y ≠ x
theorem Un.next {l : List Int} {j : Nat} {x y : Int} (h : Un l j x) (hy : l[j]? = some y) (hne : y ≠ x) : Un l (j + 1) x := fun i hi z hz => by
  by_cases e : i = j
  · subst e
    rw [hy] at hz
    cases hz
    exact hne
  · exact h i (by omega) z hz
theorem Un.nodup {l : List Int} {k : Nat} {x : Int} (h : Un l k x) (hx : l[k]? = some x) (hn : (l.take k).Nodup) : (l.take (k + 1)).Nodup := by
  obtain ⟨hk, rfl⟩ := List.getElem?_eq_some_iff.1 hx
  rw [List.take_add_one, List.getElem?_eq_getElem hk]
  refine List.nodup_append.2 ⟨hn, by simp, fun a ha b hb => ?_⟩
  simp only [Option.toList, List.mem_singleton] at hb
  subst hb
  obtain ⟨i, hi, rfl⟩ := List.getElem_of_mem ha
  rw [List.length_take] at hi
  exact h i (by omega) _ (by rw [List.getElem_take, List.getElem?_eq_getElem (by omega)])
theorem nosL_at {l : List LnV} {k : Nat} {x : LnV} (h : l[k]? = some x) : (nosL l)[k]? = some x.num := by unfold nosL; rw [List.getElem?_map, h]; rfl
theorem nosL_take (l : List LnV) (k : Nat) : nosL (l.take k) = (nosL l).take k := by unfold nosL; rw [List.map_take]

set_option maxHeartbeats 8000000 in
set_option maxRecDepth 100000 in
theorem rmay_ed {w : World} {e : EdV} {aa ra : Option Addr} {ac rc : Nat} (h : EdM w e aa ac ra rc) :
    Calls Try.prog 17 #[edV e aa ac ra rc] w fun r w' => r = .returned (.bool (mayEd e)) ∧ Below w.heap.size w w' := by
  obtain ⟨log, next, seq, add, rem⟩ := e
  obtain ⟨i1, i2, i3, ha, hr⟩ := h
  unfold edV
  simp only at i1 i2 i3 ha hr ⊢
  have hbx := fun (wx : World) hb => box5 w (.int .i64 log) (.int .i64 next) (.int .i64 seq) (.slice aa add.length ac) (.slice ra rem.length rc) 37 (wx := wx) hb
  obtain ⟨W, hW⟩ : ∃ W, W = w.alloc (.cells #[.int .i64 log, .int .i64 next, .int .i64 seq, .slice aa add.length ac, .slice ra rem.length rc] 37) := ⟨_, rfl⟩
  have hWb : Below w.heap.size w W := by rw [hW]; exact (Below.refl _ w).alloc (Nat.le_refl _) _
  rw [← hW] at hbx
  obtain ⟨T, hT⟩ : ∃ T, T = mayEd ⟨log, next, seq, add, rem⟩ := ⟨_, rfl⟩
  have HT := hidE hT
  rw [← hT]
  have hna := ha.len
  have hnr := hr.len
  have hna63 : add.length ≤ 2 ^ 63 - 1 := by have := hna.2; unfold maxLen at this; omega
  have hnr63 : rem.length ≤ 2 ^ 63 - 1 := by have := hnr.2; unfold maxLen at this; omega
  have HAD := hidE (And.intro (ha.later hWb) (hr.later hWb))
  have HBX := hidE hbx
  have HWB := hidE hWb
  obtain ⟨x0, x1, x2, x3, x4⟩ := hbx _ (Below.refl _ _)
  obtain ⟨na, hnaE⟩ : ∃ na, na = add.length := ⟨_, rfl⟩
  obtain ⟨nr, hnrE⟩ : ∃ nr, nr = rem.length := ⟨_, rfl⟩
  have HNL := hidE (And.intro hnaE hnrE)
  rw [← hnaE] at x3 hna63 ⊢
  rw [← hnrE] at x4 hnr63 ⊢
  have HBX2 : Hid (∀ wx, Below W.heap.size W wx → wx.cell? ⟨w.heap.size, 3, none⟩ = some (.slice aa na ac) ∧ wx.cell? ⟨w.heap.size, 4, none⟩ = some (.slice ra nr rc)) := fun wx hb => by
    have := HBX.out wx hb
    rw [HNL.out.1, HNL.out.2]
    exact ⟨this.2.2.2.1, this.2.2.2.2⟩
  have HW := hidE hW
  rw [hnaE.symm, hnrE.symm] at hW
  clear HBX hT ha hr hWb hbx i1 i2 i3 hna hnr hnaE hnrE
  rw [hW] at x0 x1 x2 x3 x4
  go_enter Try.func17, Try.ntmps17
  go_wp2_with fail
  rw [← hW]
  rw [← hW] at x0 x1 x2 x3 x4
  clear hW
  go_loopg [20] 3 (fun g i wr => ∃ k : Nat, k + g = 3 ∧ i = .int .i64 (k : Int) ∧ wr = W ∧ Hid ((1 ≤ k → mayMk log = true) ∧ (2 ≤ k → mayMk next = true) ∧ (3 ≤ k → mayMk seq = true)))
  case atStart => exact ⟨0, by omega, rfl, rfl, (fun z => by omega), (fun z => by omega), fun z => by omega⟩
  case round =>
    obtain ⟨k, hk, rfl, hw, HK⟩ := hrel
    obtain rfl := hw.symm
    by_cases hlt : k < 3
    · match k, hk, hlt, HK with
      | 0, hk, _, HK =>
        have hix := fun wx => ix3_0 log next seq wx
        by_cases q1 : log < 0
        · have HF : Hid (T = false) := HT.out.trans (mayEd_mk (.inl (mayMk_no (.inl q1))))
          go_wp2_with fail
          exact bodyPost_ret (v := .bool false) (by simp [results, Try.results17, go_sem]) rfl ⟨by rw [HF.out], HWB.out⟩
        by_cases q2 : 4611686018427387904 < log
        · have HF : Hid (T = false) := HT.out.trans (mayEd_mk (.inl (mayMk_no (.inr q2))))
          have q1' : 0 ≤ log := by omega
          go_wp2_with fail
          exact bodyPost_ret (v := .bool false) (by simp [results, Try.results17, go_sem]) rfl ⟨by rw [HF.out], HWB.out⟩
        have q1' : 0 ≤ log := by omega
        have q2' : log ≤ 4611686018427387904 := by omega
        have HM : Hid (mayMk log = true) := mayMk_yes q1' q2'
        go_wp2_with fail
        go_roundg 2
        case measure => omega
        case rel => exact ⟨1, rfl, rfl, rfl, fun _ => HM.out, (fun z => by omega), fun z => by omega⟩
      | 1, hk, _, HK =>
        have hix := fun wx => ix3_1 log next seq wx
        by_cases q1 : next < 0
        · have HF : Hid (T = false) := HT.out.trans (mayEd_mk (.inr (.inl (mayMk_no (.inl q1)))))
          go_wp2_with fail
          exact bodyPost_ret (v := .bool false) (by simp [results, Try.results17, go_sem]) rfl ⟨by rw [HF.out], HWB.out⟩
        by_cases q2 : 4611686018427387904 < next
        · have HF : Hid (T = false) := HT.out.trans (mayEd_mk (.inr (.inl (mayMk_no (.inr q2)))))
          have q1' : 0 ≤ next := by omega
          go_wp2_with fail
          exact bodyPost_ret (v := .bool false) (by simp [results, Try.results17, go_sem]) rfl ⟨by rw [HF.out], HWB.out⟩
        have q1' : 0 ≤ next := by omega
        have q2' : next ≤ 4611686018427387904 := by omega
        have HM : Hid (mayMk next = true) := mayMk_yes q1' q2'
        go_wp2_with fail
        go_roundg 1
        case measure => omega
        case rel => exact ⟨2, rfl, rfl, rfl, fun _ => HK.out.1 (by omega), fun _ => HM.out, fun z => by omega⟩
      | 2, hk, _, HK =>
        have hix := fun wx => ix3_2 log next seq wx
        by_cases q1 : seq < 0
        · have HF : Hid (T = false) := HT.out.trans (mayEd_mk (.inr (.inr (mayMk_no (.inl q1)))))
          go_wp2_with fail
          exact bodyPost_ret (v := .bool false) (by simp [results, Try.results17, go_sem]) rfl ⟨by rw [HF.out], HWB.out⟩
        by_cases q2 : 4611686018427387904 < seq
        · have HF : Hid (T = false) := HT.out.trans (mayEd_mk (.inr (.inr (mayMk_no (.inr q2)))))
          have q1' : 0 ≤ seq := by omega
          go_wp2_with fail
          exact bodyPost_ret (v := .bool false) (by simp [results, Try.results17, go_sem]) rfl ⟨by rw [HF.out], HWB.out⟩
        have q1' : 0 ≤ seq := by omega
        have q2' : seq ≤ 4611686018427387904 := by omega
        have HM : Hid (mayMk seq = true) := mayMk_yes q1' q2'
        go_wp2_with fail
        go_roundg 0
        case measure => omega
        case rel => exact ⟨3, rfl, rfl, rfl, fun _ => HK.out.1 (by omega), fun _ => HK.out.2.1 (by omega), fun _ => HM.out⟩
      | n + 3, _, hlt, _ => omega
    · obtain rfl : k = 3 := by omega
      have HMK : Hid (T = (mayAd add && mayRm rem)) := by
        show _ = _
        rw [HT.out]
        unfold mayEd
        rw [HK.out.1 (by omega), HK.out.2.1 (by omega), HK.out.2.2 (by omega)]
        rfl
      clear hk hlt HK
      by_cases q1 : 200 < na
      · have q1' : (200 : Int) < (na : Int) := by omega
        have HF : Hid (T = false) := by show _ = _; rw [HMK.out, mayAd_long (by rw [← HNL.out.1]; exact q1)]; rfl
        clear q1
        go_wp2_with fail
        exact bodyPost_ret (v := .bool false) (by simp [results, Try.results17, go_sem]) rfl ⟨by rw [HF.out], HWB.out⟩
      have q1' : (na : Int) ≤ 200 := by omega
      by_cases q2 : 200 < nr
      · have q2' : (200 : Int) < (nr : Int) := by omega
        have HF : Hid (T = false) := by show _ = _; rw [HMK.out, mayRm_long (by rw [← HNL.out.2]; exact q2), Bool.and_false]
        clear q1 q2
        go_wp2_with fail
        exact bodyPost_ret (v := .bool false) (by simp [results, Try.results17, go_sem]) rfl ⟨by rw [HF.out], HWB.out⟩
      have q2' : (nr : Int) ≤ 200 := by omega
      have HN2 : Hid (na ≤ 200 ∧ nr ≤ 200) := ⟨by omega, by omega⟩
      clear q1 q2
      go_wp2_with fail
      clear q1' q2'
      go_loopg [43] na (fun g i wr => ∃ k : Nat, k + g = na ∧ i = .int .i64 (k : Int) ∧ Hid (Below W.heap.size W wr ∧ (add.take k).all mayLn = true ∧ ((nosL add).take k).Nodup))
      case atStart => exact ⟨0, by omega, rfl, Below.refl _ _, by simp, by simp⟩
      case round =>
        obtain ⟨k, hk, rfl, HK⟩ := hrel
        by_cases hkl : k < na
        · have hkl' : (k : Int) < (na : Int) := by omega
          have hkx : k < add.length := by rw [← HNL.out.1]; exact hkl
          have hox := List.getElem?_eq_getElem hkx
          have bel := HK.out.1
          obtain ⟨b, off, la, lc, ma, mc, rfl, d0, d1, d2, d3, d4, k1, k2, j1, j2, j3⟩ := RS.ln (HAD.out.1.later bel) hox
          have HOX := hidE hox
          generalize add[k] = x at d0 d1 d2 d3 d4 k1 k2 j1 HOX
          have hacl : na ≤ ac := by have := HAD.out.1.len; rw [HNL.out.1]; exact this.2.1
          obtain ⟨W1, hW1⟩ : ∃ W1, W1 = wr.alloc (.cells #[.int .i64 x.num, .int .i64 x.lvl, .int .i64 x.size, .slice la x.least.length lc, .slice ma x.most.length mc] 30) := ⟨_, rfl⟩
          have b1 : Below wr.heap.size wr W1 := by rw [hW1]; exact (Below.refl _ _).alloc (Nat.le_refl _) _
          have hT := rmtab_any (k1.later b1) (k2.later b1)
          have B1 := bel.trans (b1.mono bel.size)
          have c0 : W1.cell? ⟨wr.heap.size, 0, none⟩ = some (.int .i64 x.num) := by rw [hW1, cell_of (heap_alloc_new wr _)]; rfl
          obtain ⟨m, hm⟩ : ∃ m, m = mayLn x := ⟨_, rfl⟩
          rw [← hm] at hT
          have HM := hidE hm
          have HB1 := hidE (And.intro B1 c0)
          have HW1 := hidE hW1
          rw [hW1] at hT
          have hk62 : k ≤ 2 ^ 61 := by have := HN2.out; omega
          obtain ⟨GK, HG⟩ : ∃ g, Hid (g < gk ∧ k + 1 + g = na) := ⟨gk - 1, by omega, by omega⟩
          have HALL := hidE HK.out.2
          have hhd := fun wx => run_headT wx b off na ac k (by omega)
          generalize x.least.length = nl at d3 hT HW1
          generalize x.most.length = nm at d4 hT HW1
          have HKN : Hid (k < na ∧ na ≤ 200) := ⟨hkl, HN2.out.1⟩
          clear hm k1 k2 bel b1 B1 c0 hW1 HK hk hacl hox
          cases m
          · have HF : Hid (T = false) := by show _ = _; rw [HMK.out, mayAd_bad HOX.out HM.out.symm]; rfl
            go_wp2_with (go_at_call 33; refine hT.mono ?_; rintro e w2 ⟨rfl, b2⟩; rw [← HW1.out] at b2)
            have B2 := HB1.out.1.trans (b2.mono HB1.out.1.size)
            exact bodyPost_ret (v := .bool false) (by simp [results, Try.results17, go_sem]) rfl ⟨by rw [HF.out], HWB.out.trans (B2.mono HWB.out.size)⟩
          · have HN : Hid ((add.take (k + 1)).all mayLn = true) := all_take_next HOX.out HM.out.symm HALL.out.1
            go_upto_region 14 with (go_at_call 33; refine hT.mono ?_; rintro e w2 ⟨rfl, b2⟩; rw [← HW1.out] at b2)
            have B2 := hidE (HB1.out.1.trans (b2.mono HB1.out.1.size))
            have c2 := hidE (cell_later b2 HB1.out.2)
            obtain ⟨y3, y4⟩ := HBX2.out _ B2.out
            clear b2 hT
            go_wp2_with fail
            go_loopg [56] k (fun g i wr => ∃ j : Nat, j + g = k ∧ i = .int .i64 (j : Int) ∧ Hid (Below w2.heap.size w2 wr ∧ Un (nosL add) j x.num))
            case atStart => exact ⟨0, by omega, rfl, Below.refl _ _, fun i hi => by omega⟩
            case round =>
              obtain ⟨j, hj, rfl, HJ⟩ := hrel
              by_cases hjk : j < k
              · have hjk' : (j : Int) < (k : Int) := by omega
                have hjx : j < add.length := by omega
                have hoy := List.getElem?_eq_getElem hjx
                have BJ := B2.out.trans (HJ.out.1.mono B2.out.size)
                obtain ⟨b', off', la', lc', ma', mc', e', f0, f1, f2, f3, f4, -, -, l1, -, -⟩ := RS.ln (HAD.out.1.later BJ) hoy
                simp only [Option.some.injEq, Addr.mk.injEq, and_true] at e'
                obtain ⟨rfl, rfl⟩ := e'
                have HOY := hidE hoy
                generalize add[j] = y at f0 f1 f2 f3 f4 HOY
                have bb : Below wr.heap.size wr (wr.alloc (.cells #[.int .i64 y.num, .int .i64 y.lvl, .int .i64 y.size, .slice la' y.least.length lc', .slice ma' y.most.length mc'] 30)) := (Below.refl _ _).alloc (Nat.le_refl _) _
                have cx := cell_later bb (cell_later HJ.out.1 c2.out)
                have HBJ := hidE (And.intro (BJ.trans (bb.mono BJ.size)) (HJ.out.1.trans (bb.mono HJ.out.1.size)))
                generalize y.least.length = nl' at f3 cx HBJ
                generalize y.most.length = nm' at f4 cx HBJ
                have hj62 : j ≤ 2 ^ 61 := by omega
                obtain ⟨GJ, HGJ⟩ : ∃ g, Hid (g < gk ∧ j + 1 + g = k) := ⟨gk - 1, by omega, by omega⟩
                by_cases qe : y.num = x.num
                · have HF : Hid (T = false) := by show _ = _; rw [HMK.out, mayAd_two hjk HOY.out HOX.out qe]; rfl
                  have qe' : (y.num == x.num) = true := by simp [qe]
                  clear BJ bb hj hoy qe
                  go_wp2_with fail
                  exact bodyPost_ret (v := .bool false) (by simp [results, Try.results17, go_sem]) rfl ⟨by rw [HF.out], HWB.out.trans (HBJ.out.1.mono HWB.out.size)⟩
                · have qe' : (y.num == x.num) = false := by simp [qe]
                  have HU : Hid (Un (nosL add) (j + 1) x.num) := HJ.out.2.next (nosL_at HOY.out) qe
                  clear BJ bb hj hoy HJ
                  go_wp2_with fail
                  go_roundg GJ
                  case measure => exact HGJ.out.1
                  case rel => exact ⟨j + 1, HGJ.out.2, by go_num, HBJ.out.2, HU.out⟩
              · obtain rfl : j = k := by omega
                have HE : Hid (Below W.heap.size W wr ∧ ((nosL add).take (j + 1)).Nodup) := ⟨B2.out.trans (HJ.out.1.mono B2.out.size), HJ.out.2.nodup (nosL_at HOX.out) HALL.out.2⟩
                have hjj : ¬ ((j : Int) < (j : Int)) := by omega
                clear hj HJ hjk
                go_wp2_with fail
                go_roundg GK
                case measure => exact HG.out.1
                case rel => exact ⟨j + 1, HG.out.2, by go_num, HE.out.1, HN.out, HE.out.2⟩
        · have hkl' : (na : Int) ≤ (k : Int) := by omega
          have HMR : Hid (Below W.heap.size W wr ∧ T = mayRm rem) := by
            refine ⟨HK.out.1, ?_⟩
            have h1 := HK.out.2
            rw [List.take_of_length_le (by rw [← HNL.out.1]; omega), List.take_of_length_le (by rw [show (nosL add).length = add.length by unfold nosL; simp, ← HNL.out.1]; omega)] at h1
            have : mayAd add = true := by
              unfold mayAd
              rw [h1.1, decide_eq_true h1.2, decide_eq_true (by rw [← HNL.out.1]; exact HN2.out.1)]
              rfl
            rw [HMK.out, this]
            rfl
          obtain ⟨y3, y4⟩ := HBX2.out _ HMR.out.1
          have hd1 : decide (k < na) = false := decide_eq_false (by omega)
          have hd2 : decide ((k : Int) < (na : Int)) = false := decide_eq_false (by omega)
          clear hk hkl HK HMK
          go_wp2_with fail
          go_loopg [9, 10, 70] nr (fun g _ _ i wx => ∃ k : Nat, k + g = nr ∧ i = .int .i64 (k : Int) ∧ wx = wr ∧ Hid ((rem.take k).all mayNo = true ∧ (rem.take k).Nodup))
          case atStart => exact ⟨0, by omega, rfl, rfl, by simp, by simp⟩
          case round =>
            obtain ⟨k, hk, rfl, hw2, HK⟩ := hrel
            obtain rfl := hw2.symm
            by_cases hkl : k < nr
            · have hkl' : (k : Int) < (nr : Int) := by omega
              have hkx : k < rem.length := by rw [← HNL.out.2]; exact hkl
              have hox := List.getElem?_eq_getElem hkx
              obtain ⟨b, off, rfl, d0, j1⟩ := RS.i64 (HAD.out.2.later HMR.out.1) hox
              have HOX := hidE hox
              generalize rem[k] = x at d0 j1 HOX
              have hacl : nr ≤ rc := by have := HAD.out.2.len; rw [HNL.out.2]; exact this.2.1
              have hhd := fun wx => run_headI wx b off nr rc k (by omega)
              have hk62 : k ≤ 2 ^ 61 := by have := HN2.out; omega
              have HALL := hidE HK.out
              have HKN : Hid (k < nr ∧ nr ≤ 200) := ⟨hkl, HN2.out.2⟩
              obtain ⟨GK, HG⟩ : ∃ g, Hid (g < gk ∧ k + 1 + g = nr) := ⟨gk - 1, by omega, by omega⟩
              clear HK hk hacl hox
              by_cases p1 : x < 1
              · have HF : Hid (T = false) := by show _ = _; rw [HMR.out.2]; exact mayRm_bad HOX.out (decide_eq_false (by omega))
                go_wp2_with fail
                exact bodyPost_ret (v := .bool false) (by simp [results, Try.results17, go_sem]) rfl ⟨by rw [HF.out], HWB.out.trans (HMR.out.1.mono HWB.out.size)⟩
              have p1' : 1 ≤ x := by omega
              by_cases p2 : 1099511627776 < x
              · have HF : Hid (T = false) := by show _ = _; rw [HMR.out.2]; exact mayRm_bad HOX.out (decide_eq_false (by omega))
                go_wp2_with fail
                exact bodyPost_ret (v := .bool false) (by simp [results, Try.results17, go_sem]) rfl ⟨by rw [HF.out], HWB.out.trans (HMR.out.1.mono HWB.out.size)⟩
              have p2' : x ≤ 1099511627776 := by omega
              have HN : Hid ((rem.take (k + 1)).all mayNo = true) := all_take_next HOX.out (decide_eq_true ⟨p1', p2'⟩) HALL.out.1
              go_wp2_with fail
              go_loopg [12, 86] k (fun g _ i wx => ∃ j : Nat, j + g = k ∧ i = .int .i64 (j : Int) ∧ wx = wr ∧ Hid (Un rem j x))
              case atStart => exact ⟨0, by omega, rfl, rfl, fun i hi => by omega⟩
              case round =>
                obtain ⟨j, hj, rfl, hw3, HJ⟩ := hrel
                obtain rfl := hw3.symm
                by_cases hjk : j < k
                · have hjk' : (j : Int) < (k : Int) := by omega
                  have hjx : j < rem.length := by omega
                  have hoy := List.getElem?_eq_getElem hjx
                  obtain ⟨b', off', e', f0, l1⟩ := RS.i64 (HAD.out.2.later HMR.out.1) hoy
                  simp only [Option.some.injEq, Addr.mk.injEq, and_true] at e'
                  obtain ⟨rfl, rfl⟩ := e'
                  have HOY := hidE hoy
                  generalize rem[j] = y at f0 HOY
                  have hj62 : j ≤ 2 ^ 61 := by omega
                  obtain ⟨GJ, HGJ⟩ : ∃ g, Hid (g < gk ∧ j + 1 + g = k) := ⟨gk - 1, by omega, by omega⟩
                  by_cases qe : y = x
                  · have HF : Hid (T = false) := by show _ = _; rw [HMR.out.2]; exact mayRm_two hjk HOY.out (by rw [qe]; exact HOX.out)
                    have qe' : (y == x) = true := by simp [qe]
                    clear hj hoy qe
                    go_wp2_with fail
                    exact bodyPost_ret (v := .bool false) (by simp [results, Try.results17, go_sem]) rfl ⟨by rw [HF.out], HWB.out.trans (HMR.out.1.mono HWB.out.size)⟩
                  · have qe' : (y == x) = false := by simp [qe]
                    have HU : Hid (Un rem (j + 1) x) := HJ.out.next HOY.out qe
                    clear hj hoy HJ
                    go_wp2_with fail
                    go_roundg GJ
                    case measure => exact HGJ.out.1
                    case rel => exact ⟨j + 1, HGJ.out.2, by go_num, rfl, HU.out⟩
                · obtain rfl : j = k := by omega
                  have HE : Hid ((rem.take (j + 1)).Nodup) := HJ.out.nodup HOX.out HALL.out.2
                  have hjj : ¬ ((j : Int) < (j : Int)) := by omega
                  clear hj HJ hjk
                  go_wp2_with fail
                  go_roundg GK
                  case measure => exact HG.out.1
                  case rel => exact ⟨j + 1, HG.out.2, by go_num, rfl, HN.out, HE.out⟩
            · have hkl' : (nr : Int) ≤ (k : Int) := by omega
              have HF : Hid (T = true) := by
                show _ = _
                have h1 := HK.out
                rw [List.take_of_length_le (by rw [← HNL.out.2]; omega)] at h1
                rw [HMR.out.2]
                unfold mayRm
                rw [h1.1, decide_eq_true h1.2, decide_eq_true (by rw [← HNL.out.2]; exact HN2.out.2)]
                rfl
              clear hk hkl HK
              go_wp2_with fail
              exact bodyPost_ret (v := .bool true) (by simp [results, Try.results17, go_sem]) rfl ⟨by rw [HF.out], HWB.out.trans (HMR.out.1.mono HWB.out.size)⟩
end Go.Proofs.Ytjgfklbhagcbaab

/- The document's own: which line stands ahead; may a version be. -/
namespace Go.Proofs.Ytjgfklbhagcbaab
open Go.RowKit
set_option linter.unusedVariables false
set_option linter.unusedSimpArgs false

set_option maxHeartbeats 4000000 in
set_option maxRecDepth 100000 in
theorem rahd_t {w : World} {us vs : List Value} {p t : LnV} (hp : LnM w us p) (ht : LnM w vs t) :
    Calls Try.prog 34 #[.agg us.toArray, .agg vs.toArray] w fun e w' => e = .returned (.bool (aheadL p t)) ∧ Below w.heap.size w w' := by
  obtain ⟨la, lc, qa, qc, rfl, hs, i1, i2, i3⟩ := lnM_parts hp
  obtain ⟨la2, lc2, qa2, qc2, rfl, hs2, j1, j2, j3⟩ := lnM_parts ht
  have hb : ∀ o o2, Below w.heap.size w ((w.alloc o).alloc o2) := fun o o2 => ((Below.refl _ w).alloc (Nat.le_refl _) o).alloc (by simp) _
  have HB := hidS hb
  have c1 := fun o o2 => rcmp_any (hs _ (hb o o2)).1 (hs2 _ (hb o o2)).1
  have HE : Hid (aheadL p t = if p.lvl ≠ t.lvl then decide (p.lvl < t.lvl) else if p.lvl = 0 then decide (t.num < p.num) else decide (cmp p.least t.least < 0)) := by
    show _ = _
    unfold aheadL ordC cmI
    by_cases q : p.lvl = t.lvl
    · rw [if_neg (show ¬ p.lvl ≠ t.lvl from fun h => h q), if_neg (show ¬ p.lvl ≠ t.lvl from fun h => h q)]
      by_cases q2 : p.lvl = 0
      · rw [if_pos q2, if_pos q2, decide_eq_decide]
        split <;> first | omega | (split <;> omega)
      · rw [if_neg q2, if_neg q2]
    · rw [if_pos (show p.lvl ≠ t.lvl from q), if_pos (show p.lvl ≠ t.lvl from q), decide_eq_decide]
      split <;> first | omega | (split <;> omega)
  rw [HE.out]
  clear hp ht hs hs2 hb i1 i2 i3 j1 j2 j3 HE
  generalize cmp p.least t.least = C at c1 ⊢
  generalize t.least.length = L1 at c1 ⊢
  generalize p.least.length = L2 at c1 ⊢
  generalize t.most.length = L3
  generalize p.most.length = L4
  generalize t.num = num
  generalize t.lvl = lvl
  generalize t.size = size
  generalize p.num = num2
  generalize p.lvl = lvl2
  generalize p.size = size2
  by_cases q : lvl2 = lvl
  · rw [if_neg (show ¬ lvl2 ≠ lvl from fun h => h q)]
    subst q
    have q0 : (lvl2 != lvl2) = false := by simp
    by_cases q2 : lvl2 = 0
    · rw [if_pos q2]
      subst q2
      go_enter Try.func34, Try.ntmps34
      go_wp2_with fail
      exact bodyPost_ret (v := .bool (decide (num < num2))) (by simp [results, Try.results34, go_sem]) rfl ⟨rfl, HB.out _ _⟩
    · rw [if_neg q2]
      have q1 : (lvl2 == 0) = false := by simpa using q2
      go_enter Try.func34, Try.ntmps34
      go_wp2_with (go_at_call 6; refine (c1 _ _).mono ?_; rintro e w' ⟨rfl, b2⟩)
      exact bodyPost_ret (v := .bool (decide (C < 0))) (by simp [results, Try.results34, go_sem]) rfl ⟨rfl, (HB.out _ _).trans (b2.mono (HB.out _ _).size)⟩
  · rw [if_pos (show lvl2 ≠ lvl from q)]
    have q1 : (lvl2 != lvl) = true := by simpa using q
    go_enter Try.func34, Try.ntmps34
    go_wp2_with fail
    exact bodyPost_ret (v := .bool (decide (lvl2 < lvl))) (by simp [results, Try.results34, go_sem]) rfl ⟨rfl, HB.out _ _⟩
end Go.Proofs.Ytjgfklbhagcbaab

/- The document's own: may a version be. -/
namespace Go.Proofs.Ytjgfklbhagcbaab
open Go.RowKit
set_option linter.unusedVariables false
set_option linter.unusedSimpArgs false

theorem mayVr_mk {v : VrV} (h : mayMk v.log = false ∨ mayMk v.next = false ∨ mayMk v.seq = false) : mayVr v = false := by
  unfold mayVr; rcases h with h | h | h <;> rw [h] <;> simp
theorem mayVr_ad {v : VrV} (h : mayAd v.tabs = false) : mayVr v = false := by unfold mayVr; rw [h]; simp
theorem mayVr_be {v : VrV} (h : bel v.tabs v.next = false) : mayVr v = false := by unfold mayVr; rw [h]; simp
theorem mayVr_ch {v : VrV} (h : chn nxR v.tabs = false) : mayVr v = false := by unfold mayVr; rw [h]; simp
/-- The conditions on a line and the one ahead of it, guarded. -/
def hdB (c : Bool) (k : Int) : Bool := c && decide (0 ≤ k)
set_option maxHeartbeats 16000000 in
set_option maxRecDepth 100000 in
theorem rmay_vr {w : World} {v : VrV} {a : Option Addr} {c : Nat} (h : VrM w v a c) :
    Calls Try.prog 16 #[vrV v a c] w fun r w' => r = .returned (.bool (mayVr v)) ∧ Below w.heap.size w w' := by
  obtain ⟨log, next, seq, tabs⟩ := v
  obtain ⟨i1, i2, i3, ha⟩ := h
  unfold vrV
  simp only at i1 i2 i3 ha ⊢
  have hbx := fun (wx : World) hb => box4 w (.int .i64 log) (.int .i64 next) (.int .i64 seq) (.slice a tabs.length c) 26 (wx := wx) hb
  obtain ⟨W, hW⟩ : ∃ W, W = w.alloc (.cells #[.int .i64 log, .int .i64 next, .int .i64 seq, .slice a tabs.length c] 26) := ⟨_, rfl⟩
  have hWb : Below w.heap.size w W := by rw [hW]; exact (Below.refl _ w).alloc (Nat.le_refl _) _
  rw [← hW] at hbx
  obtain ⟨T, hT⟩ : ∃ T, T = mayVr ⟨log, next, seq, tabs⟩ := ⟨_, rfl⟩
  have HT := hidE hT
  rw [← hT]
  have hna := ha.len
  have hna63 : tabs.length ≤ 2 ^ 63 - 1 := by have := hna.2; unfold maxLen at this; omega
  have HAD := hidE (ha.later hWb)
  have HWB := hidE hWb
  obtain ⟨x0, x1, x2, x3⟩ := hbx _ (Below.refl _ _)
  obtain ⟨na, hnaE⟩ : ∃ na, na = tabs.length := ⟨_, rfl⟩
  have HNL := hidE hnaE
  rw [← hnaE] at x3 hna63 ⊢
  have HBX2 : Hid (∀ wx, Below W.heap.size W wx → wx.cell? ⟨w.heap.size, 1, none⟩ = some (.int .i64 next) ∧ wx.cell? ⟨w.heap.size, 3, none⟩ = some (.slice a na c)) := fun wx hb => by
    have := hbx wx hb
    rw [HNL.out]
    exact ⟨this.2.1, this.2.2.2⟩
  have HW := hidE hW
  rw [hnaE.symm] at hW
  clear hT ha hWb hbx i1 i2 i3 hna hnaE
  rw [hW] at x0 x1 x2 x3
  go_enter Try.func16, Try.ntmps16
  go_wp2_with fail
  rw [← hW]
  rw [← hW] at x0 x1 x2 x3
  clear hW
  go_loopg [17] 3 (fun g i wr => ∃ k : Nat, k + g = 3 ∧ i = .int .i64 (k : Int) ∧ wr = W ∧ Hid ((1 ≤ k → mayMk log = true) ∧ (2 ≤ k → mayMk next = true) ∧ (3 ≤ k → mayMk seq = true)))
  case atStart => exact ⟨0, by omega, rfl, rfl, (fun z => by omega), (fun z => by omega), fun z => by omega⟩
  case round =>
    obtain ⟨k, hk, rfl, hw, HK⟩ := hrel
    obtain rfl := hw.symm
    by_cases hlt : k < 3
    · match k, hk, hlt, HK with
      | 0, hk, _, HK =>
        have hix := fun wx => ix3_0 log next seq wx
        by_cases q1 : log < 0
        · have HF : Hid (T = false) := HT.out.trans (mayVr_mk (.inl (mayMk_no (.inl q1))))
          go_wp2_with fail
          exact bodyPost_ret (v := .bool false) (by simp [results, Try.results16, go_sem]) rfl ⟨by rw [HF.out], HWB.out⟩
        by_cases q2 : 4611686018427387904 < log
        · have HF : Hid (T = false) := HT.out.trans (mayVr_mk (.inl (mayMk_no (.inr q2))))
          have q1' : 0 ≤ log := by omega
          go_wp2_with fail
          exact bodyPost_ret (v := .bool false) (by simp [results, Try.results16, go_sem]) rfl ⟨by rw [HF.out], HWB.out⟩
        have q1' : 0 ≤ log := by omega
        have q2' : log ≤ 4611686018427387904 := by omega
        have HM : Hid (mayMk log = true) := mayMk_yes q1' q2'
        go_wp2_with fail
        go_roundg 2
        case measure => omega
        case rel => exact ⟨1, rfl, rfl, rfl, fun _ => HM.out, (fun z => by omega), fun z => by omega⟩
      | 1, hk, _, HK =>
        have hix := fun wx => ix3_1 log next seq wx
        by_cases q1 : next < 0
        · have HF : Hid (T = false) := HT.out.trans (mayVr_mk (.inr <| .inl (mayMk_no (.inl q1))))
          go_wp2_with fail
          exact bodyPost_ret (v := .bool false) (by simp [results, Try.results16, go_sem]) rfl ⟨by rw [HF.out], HWB.out⟩
        by_cases q2 : 4611686018427387904 < next
        · have HF : Hid (T = false) := HT.out.trans (mayVr_mk (.inr <| .inl (mayMk_no (.inr q2))))
          have q1' : 0 ≤ next := by omega
          go_wp2_with fail
          exact bodyPost_ret (v := .bool false) (by simp [results, Try.results16, go_sem]) rfl ⟨by rw [HF.out], HWB.out⟩
        have q1' : 0 ≤ next := by omega
        have q2' : next ≤ 4611686018427387904 := by omega
        have HM : Hid (mayMk next = true) := mayMk_yes q1' q2'
        go_wp2_with fail
        go_roundg 1
        case measure => omega
        case rel => exact ⟨2, rfl, rfl, rfl, fun _ => HK.out.1 (by omega), (fun _ => HM.out), fun z => by omega⟩
      | 2, hk, _, HK =>
        have hix := fun wx => ix3_2 log next seq wx
        by_cases q1 : seq < 0
        · have HF : Hid (T = false) := HT.out.trans (mayVr_mk (.inr <| .inr (mayMk_no (.inl q1))))
          go_wp2_with fail
          exact bodyPost_ret (v := .bool false) (by simp [results, Try.results16, go_sem]) rfl ⟨by rw [HF.out], HWB.out⟩
        by_cases q2 : 4611686018427387904 < seq
        · have HF : Hid (T = false) := HT.out.trans (mayVr_mk (.inr <| .inr (mayMk_no (.inr q2))))
          have q1' : 0 ≤ seq := by omega
          go_wp2_with fail
          exact bodyPost_ret (v := .bool false) (by simp [results, Try.results16, go_sem]) rfl ⟨by rw [HF.out], HWB.out⟩
        have q1' : 0 ≤ seq := by omega
        have q2' : seq ≤ 4611686018427387904 := by omega
        have HM : Hid (mayMk seq = true) := mayMk_yes q1' q2'
        go_wp2_with fail
        go_roundg 0
        case measure => omega
        case rel => exact ⟨3, rfl, rfl, rfl, fun _ => HK.out.1 (by omega), (fun _ => HK.out.2.1 (by omega)), fun _ => HM.out⟩
    · obtain rfl : k = 3 := by omega
      have HMK : Hid (T = (mayAd tabs && (bel tabs next && chn nxR tabs))) := by
        show _ = _
        rw [HT.out]
        unfold mayVr
        rw [HK.out.1 (by omega), HK.out.2.1 (by omega), HK.out.2.2 (by omega)]
        rfl
      clear hk hlt HK
      by_cases q1 : 200 < na
      · have q1' : (200 : Int) < (na : Int) := by omega
        have HF : Hid (T = false) := by show _ = _; rw [HMK.out, mayAd_long (by rw [← HNL.out]; exact q1)]; rfl
        clear q1
        go_wp2_with fail
        exact bodyPost_ret (v := .bool false) (by simp [results, Try.results16, go_sem]) rfl ⟨by rw [HF.out], HWB.out⟩
      have q1' : (na : Int) ≤ 200 := by omega
      have HN2 : Hid (na ≤ 200) := by show _ ≤ _; omega
      clear q1
      go_wp2_with fail
      clear q1'
      go_loopg [34] na (fun g i wr => ∃ k : Nat, k + g = na ∧ i = .int .i64 (k : Int) ∧ Hid (Below W.heap.size W wr ∧ (tabs.take k).all mayLn = true ∧ ((nosL tabs).take k).Nodup ∧ bel (tabs.take k) next = true ∧ chn nxR (tabs.take k) = true))
      case atStart => exact ⟨0, by omega, rfl, Below.refl _ _, by simp, by simp, rfl, rfl⟩
      case round =>
        obtain ⟨k, hk, rfl, HK⟩ := hrel
        by_cases hkl : k < na
        · have hkl' : (k : Int) < (na : Int) := by omega
          have hkx : k < tabs.length := by rw [← HNL.out]; exact hkl
          have hox := List.getElem?_eq_getElem hkx
          have bel0 := HK.out.1
          obtain ⟨b, off, la, lc, ma, mc, rfl, d0, d1, d2, d3, d4, k1, k2, j1, j2, j3⟩ := RS.ln (HAD.out.later bel0) hox
          have HOX := hidE hox
          generalize tabs[k] = x at d0 d1 d2 d3 d4 k1 k2 j1 j2 j3 HOX
          have hacl : na ≤ c := by have := HAD.out.len; rw [HNL.out]; exact this.2.1
          have hXB := fun (wx : World) hb => box5 wr (.int .i64 x.num) (.int .i64 x.lvl) (.int .i64 x.size) (.slice la x.least.length lc) (.slice ma x.most.length mc) 30 (wx := wx) hb
          obtain ⟨W1, hW1⟩ : ∃ W1, W1 = wr.alloc (.cells #[.int .i64 x.num, .int .i64 x.lvl, .int .i64 x.size, .slice la x.least.length lc, .slice ma x.most.length mc] 30) := ⟨_, rfl⟩
          have b1 : Below wr.heap.size wr W1 := by rw [hW1]; exact (Below.refl _ _).alloc (Nat.le_refl _) _
          have hT := rmtab_any (k1.later b1) (k2.later b1)
          have B1 := bel0.trans (b1.mono bel0.size)
          rw [← hW1] at hXB
          have HXM : Hid (∀ wx, Below W1.heap.size W1 wx → LnM wx [.int .i64 x.num, .int .i64 x.lvl, .int .i64 x.size, .slice la x.least.length lc, .slice ma x.most.length mc] x ∧ Sl wx la x.least.length lc x.least) := fun wx hb => by
            have q := b1.trans (hb.mono b1.size)
            exact ⟨⟨la, lc, ma, mc, rfl, k1.later q, k2.later q, j1, j2, j3⟩, k1.later q⟩
          obtain ⟨m, hm⟩ : ∃ m, m = mayLn x := ⟨_, rfl⟩
          rw [← hm] at hT
          have HM := hidE hm
          have HB1 := hidE B1
          have HW1 := hidE hW1
          rw [hW1] at hT
          have hk62 : k ≤ 2 ^ 61 := by have := HN2.out; omega
          obtain ⟨GK, HG⟩ : ∃ g, Hid (g < gk ∧ k + 1 + g = na) := ⟨gk - 1, by omega, by omega⟩
          have HALL := hidE HK.out.2
          have hhd := fun wx => run_headT wx b off na c k (by omega)
          have HBE : Hid (bel (tabs.take (k + 1)) next = (bel (tabs.take k) next && decide (x.num < next))) := bel_take HOX.out next
          have HXB := hidE hXB
          have HL2 : Hid (∀ wx, Below W.heap.size W wx → RS lnE wx (some ⟨b, off, none⟩) tabs.length c tabs) := fun wx hb => HAD.out.later hb
          obtain ⟨nl, hnl⟩ : ∃ n, n = x.least.length := ⟨_, rfl⟩
          obtain ⟨nm, hnm⟩ : ∃ n, n = x.most.length := ⟨_, rfl⟩
          rw [← hnl] at d3 hT HW1 HXB HXM
          rw [← hnm] at d4 hT HW1 HXB HXM
          have HKN : Hid (k < na ∧ na ≤ 200) := ⟨hkl, HN2.out⟩
          clear hm k1 k2 bel0 b1 B1 hW1 HK hk hacl hox hXB j1 j2 j3 hnl hnm
          cases m
          · have HF : Hid (T = false) := by show _ = _; rw [HMK.out, mayAd_bad HOX.out HM.out.symm]; rfl
            go_wp2_with (go_at_call 33; refine hT.mono ?_; rintro e w2 ⟨rfl, b2⟩; rw [← HW1.out] at b2)
            have B2 := HB1.out.trans (b2.mono HB1.out.size)
            exact bodyPost_ret (v := .bool false) (by simp [results, Try.results16, go_sem]) rfl ⟨by rw [HF.out], HWB.out.trans (B2.mono HWB.out.size)⟩
          · have HN : Hid ((tabs.take (k + 1)).all mayLn = true) := all_take_next HOX.out HM.out.symm HALL.out.1
            by_cases qn : next ≤ x.num
            · have HF : Hid (T = false) := by
                have z : bel tabs next = false := bel_false (k := k + 1) (by rw [HBE.out, decide_eq_false (by omega), Bool.and_false])
                show _ = _; rw [HMK.out, z]; simp
              go_wp2_with (go_at_call 33; refine hT.mono ?_; rintro e w2 ⟨rfl, b2⟩; rw [← HW1.out] at b2; have B2 := hidE (HB1.out.trans (b2.mono HB1.out.size)); obtain ⟨c0, c1, c2, c3, c4⟩ := HXB.out _ b2; obtain ⟨y1, y3⟩ := HBX2.out _ B2.out)
              exact bodyPost_ret (v := .bool false) (by simp [results, Try.results16, go_sem]) rfl ⟨by rw [HF.out], HWB.out.trans (B2.out.mono HWB.out.size)⟩
            · have qn' : x.num < next := by omega
              have HBN : Hid (bel (tabs.take (k + 1)) next = true) := by show _ = _; rw [HBE.out, HALL.out.2.2.1, decide_eq_true qn']; rfl
              clear qn
              go_upto_region 14 with (go_at_call 33; refine hT.mono ?_; rintro e w2 ⟨rfl, b2⟩; rw [← HW1.out] at b2; have B2 := hidE (HB1.out.trans (b2.mono HB1.out.size)); obtain ⟨c0, c1, c2, c3, c4⟩ := HXB.out _ b2; obtain ⟨y1, y3⟩ := HBX2.out _ B2.out)
              have HB2 := hidE b2
              clear b2 hT qn' d0 d1 d2 d3 d4
              go_wp2_with fail
              clear hhd y1 y3 c0 c1 c2 c3 c4
              go_loopg [54] k (fun g i wr => ∃ j : Nat, j + g = k ∧ i = .int .i64 (j : Int) ∧ Hid (Below w2.heap.size w2 wr ∧ Un (nosL tabs) j x.num))
              case atStart => exact ⟨0, by omega, rfl, Below.refl _ _, fun i hi => by omega⟩
              case round =>
                obtain ⟨j, hj, rfl, HJ⟩ := hrel
                have BJ := B2.out.trans (HJ.out.1.mono B2.out.size)
                have BX := HB2.out.trans (HJ.out.1.mono HB2.out.size)
                by_cases hjk : j < k
                · have hjk' : (j : Int) < (k : Int) := by omega
                  have hjx : j < tabs.length := by have := HKN.out.1; have := HNL.out; omega
                  have hoy := List.getElem?_eq_getElem hjx
                  obtain ⟨b', off', la', lc', ma', mc', e', f0, f1, f2, f3, f4, -, -, l1, -, -⟩ := RS.ln (HL2.out _ BJ) hoy
                  simp only [Option.some.injEq, Addr.mk.injEq, and_true] at e'
                  obtain ⟨rfl, rfl⟩ := e'
                  have HOY := hidE hoy
                  generalize tabs[j] = y at f0 f1 f2 f3 f4 HOY
                  have bb : Below wr.heap.size wr (wr.alloc (.cells #[.int .i64 y.num, .int .i64 y.lvl, .int .i64 y.size, .slice la' y.least.length lc', .slice ma' y.most.length mc'] 30)) := (Below.refl _ _).alloc (Nat.le_refl _) _
                  have cx := cell_later bb (HXB.out _ BX).1
                  have HBJ := hidE (And.intro (BJ.trans (bb.mono BJ.size)) (HJ.out.1.trans (bb.mono HJ.out.1.size)))
                  generalize y.least.length = nl' at f3 cx HBJ
                  generalize y.most.length = nm' at f4 cx HBJ
                  have hj62 : j ≤ 2 ^ 61 := by omega
                  obtain ⟨GJ, HGJ⟩ : ∃ g, Hid (g < gk ∧ j + 1 + g = k) := ⟨gk - 1, by omega, by omega⟩
                  by_cases qe : y.num = x.num
                  · have HF : Hid (T = false) := by show _ = _; rw [HMK.out, mayAd_two hjk HOY.out HOX.out qe]; rfl
                    have qe' : (y.num == x.num) = true := by simp [qe]
                    clear BJ BX bb hj hoy qe
                    go_wp2_with fail
                    exact bodyPost_ret (v := .bool false) (by simp [results, Try.results16, go_sem]) rfl ⟨by rw [HF.out], HWB.out.trans (HBJ.out.1.mono HWB.out.size)⟩
                  · have qe' : (y.num == x.num) = false := by simp [qe]
                    have HU : Hid (Un (nosL tabs) (j + 1) x.num) := HJ.out.2.next (nosL_at HOY.out) qe
                    clear BJ BX bb hj hoy HJ
                    go_wp2_with fail
                    go_roundg GJ
                    case measure => exact HGJ.out.1
                    case rel => exact ⟨j + 1, HGJ.out.2, by go_num, HBJ.out.2, HU.out⟩
                · obtain rfl : j = k := by omega
                  have HE : Hid (Below W.heap.size W wr ∧ ((nosL tabs).take (j + 1)).Nodup) := ⟨BJ, HJ.out.2.nodup (nosL_at HOX.out) HALL.out.2.1⟩
                  have hjj : ¬ ((j : Int) < (j : Int)) := by omega
                  by_cases hj0 : j = 0
                  · subst hj0
                    have HCH : Hid (chn nxR (tabs.take 1) = true) := by show _ = _; cases tabs <;> rfl
                    clear hj HJ hjk BJ BX
                    go_wp2_with fail
                    go_roundg GK
                    case measure => exact HG.out.1
                    case rel => exact ⟨0 + 1, HG.out.2, by go_num, HE.out.1, HN.out, HE.out.2, HBN.out, HCH.out⟩
                  · obtain ⟨q, hjq⟩ : ∃ q, j = q + 1 := ⟨j - 1, by omega⟩
                    have hq := HKN.out
                    have hqx : q < tabs.length := by have := HNL.out; omega
                    have hop := List.getElem?_eq_getElem hqx
                    obtain ⟨b', off', la', lc', ma', mc', e', f0, f1, f2, f3, f4, p1, p2, l1, l2, l3⟩ := RS.ln (HL2.out _ BJ) hop
                    simp only [Option.some.injEq, Addr.mk.injEq, and_true] at e'
                    obtain ⟨rfl, rfl⟩ := e'
                    have HOP := hidE hop
                    generalize tabs[q] = p at f0 f1 f2 f3 f4 p1 p2 l1 l2 l3 HOP
                    have HCT : Hid (chn nxR (tabs.take (j + 1)) = (chn nxR (tabs.take j) && nxR p x)) := by
                      subst hjq
                      exact chn_take nxR HOP.out HOX.out
                    have hPB := fun (wx : World) hb => box5 wr (.int .i64 p.num) (.int .i64 p.lvl) (.int .i64 p.size) (.slice la' p.least.length lc') (.slice ma' p.most.length mc') 30 (wx := wx) hb
                    obtain ⟨W3, hW3⟩ : ∃ W, W = wr.alloc (.cells #[.int .i64 p.num, .int .i64 p.lvl, .int .i64 p.size, .slice la' p.least.length lc', .slice ma' p.most.length mc'] 30) := ⟨_, rfl⟩
                    have b3 : Below wr.heap.size wr W3 := by rw [hW3]; exact (Below.refl _ _).alloc (Nat.le_refl _) _
                    rw [← hW3] at hPB
                    have BX3 := BX.trans (b3.mono BX.size)
                    have hA := rahd_t (w := W3) ⟨la', lc', ma', mc', rfl, p1.later b3, p2.later b3, l1, l2, l3⟩ (HXM.out _ BX3).1
                    have HCM : Hid (∀ wx, Below W3.heap.size W3 wx → Calls Try.prog 6 #[.slice ma' p.most.length mc', .slice la nl lc] wx fun e w' => e = .returned (.int .i64 (cmp p.most x.least)) ∧ Below wx.heap.size wx w') := fun wx hb => rcmp_any (p2.later (b3.trans (hb.mono b3.size))) (HXM.out _ (BX3.trans (hb.mono BX3.size))).2
                    have HBX3 : Hid (∀ wx, Below W3.heap.size W3 wx → Below W1.heap.size W1 wx ∧ Below W.heap.size W wx) := fun wx hb => ⟨BX3.trans (hb.mono BX3.size), (BJ.trans (b3.mono BJ.size)).trans (hb.mono (Nat.le_trans BJ.size b3.size))⟩
                    obtain ⟨y1, y3⟩ := HBX2.out _ BJ
                    obtain ⟨c0, c1, c2, c3, c4⟩ := HXB.out _ BX
                    obtain ⟨g0, g1, g2, g3, g4⟩ := HXB.out _ BX3
                    obtain ⟨A, hAe⟩ : ∃ A, A = aheadL p x := ⟨_, rfl⟩
                    obtain ⟨C, hC⟩ : ∃ C, C = cmp p.most x.least := ⟨_, rfl⟩
                    rw [← hAe] at hA
                    rw [← hC] at HCM
                    have HNX : Hid (nxR p x = (A && !(decide (p.lvl = x.lvl ∧ 0 < x.lvl) && decide (0 ≤ C)))) := by show _ = _; rw [hAe, hC]; rfl
                    have HCJ : Hid (chn nxR (tabs.take j) = true) := HALL.out.2.2.2
                    have HFN : Hid (nxR p x = false → T = false) := fun z => by rw [HMK.out, chn_false nxR (k := j + 1) (by rw [HCT.out, z, Bool.and_false])]; simp
                    have HTN : Hid (nxR p x = true → chn nxR (tabs.take (j + 1)) = true) := fun z => by rw [HCT.out, HCJ.out, z]; rfl
                    have hq62 : q ≤ 2 ^ 61 := by omega
                    have hj62 : j ≤ 2 ^ 61 := by omega
                    have hjp : (0 : Int) < (j : Int) := by omega
                    have hqn : q < na := by omega
                    have hwm : wrap64 ((j : Int) - 1) = (q : Int) := by unfold wrap64; omega
                    have hwk : IntKind.i64.wrap ((j : Int) - 1) = (q : Int) := by rw [IntKind.wrap_i64]; omega
                    have hwn : (j : Int) - 1 = (q : Int) := by omega
                    have HPB := hidE hPB
                    have HW3 := hidE hW3
                    have HEN : Hid (∀ wx, Below W3.heap.size W3 wx → Below w.heap.size w wx) := fun wx hb => HWB.out.trans ((HBX3.out wx hb).2.mono HWB.out.size)
                    rw [hW3] at hA g0 g1 g2 g3 g4
                    clear hop p1 p2 l1 l2 l3 hPB b3 BX3 hAe hC hjq hj HJ hjk BJ BX hq hqx hj0 hW3
                    generalize p.num = pn at f0 hA HPB HW3 g0 g1 g2 g3 g4
                    generalize p.lvl = pl at f1 hA HPB HNX HW3 g0 g1 g2 g3 g4
                    generalize p.size = ps at f2 hA HPB HW3 g0 g1 g2 g3 g4
                    generalize p.least.length = pnl at f3 hA HPB HW3 g0 g1 g2 g3 g4
                    generalize p.most.length = pnm at f4 hA HPB HW3 HCM g0 g1 g2 g3 g4
                    cases A with
                    | false =>
                      have HF : Hid (T = false) := HFN.out (by rw [HNX.out]; rfl)
                      go_wp2_with (go_at_call 34; refine hA.mono ?_; rintro e w5 ⟨rfl, b5⟩; rw [← HW3.out] at b5)
                      exact bodyPost_ret (v := .bool false) (by simp [results, Try.results16, go_sem]) rfl ⟨by rw [HF.out], HEN.out _ b5⟩
                    | true =>
                      by_cases e1 : pl = x.lvl
                      · subst e1
                        have e1b : (x.lvl == x.lvl) = true := by simp
                        by_cases e2 : 0 < x.lvl
                        · have e2b : decide ((0 : Int) < x.lvl) = true := decide_eq_true e2
                          by_cases e3 : 0 ≤ C
                          · have HF : Hid (T = false) := HFN.out (by rw [HNX.out, decide_eq_true (And.intro rfl e2), decide_eq_true e3]; rfl)
                            go_wp2_with (first | (go_at_call 34; refine hA.mono ?_; rintro e w5 ⟨rfl, b5⟩; rw [← HW3.out] at b5; have k5 := HBX3.out _ b5; obtain ⟨u0, u1, u2, u3, u4⟩ := HPB.out _ b5; obtain ⟨v0, v1, v2, v3, v4⟩ := HXB.out _ k5.1) | (go_at_call 6; refine (HCM.out _ b5).mono ?_; rintro e w6 ⟨rfl, b6⟩))
                            exact bodyPost_ret (v := .bool false) (by simp [results, Try.results16, go_sem]) rfl ⟨by rw [HF.out], HEN.out _ (b5.trans (b6.mono b5.size))⟩
                          · have e3b : decide ((0 : Int) ≤ C) = false := decide_eq_false e3
                            have HCH := hidE (HTN.out (by rw [HNX.out, decide_eq_true (And.intro rfl e2), decide_eq_false e3]; rfl))
                            go_wp2_with (first | (go_at_call 34; refine hA.mono ?_; rintro e w5 ⟨rfl, b5⟩; rw [← HW3.out] at b5; have k5 := HBX3.out _ b5; obtain ⟨u0, u1, u2, u3, u4⟩ := HPB.out _ b5; obtain ⟨v0, v1, v2, v3, v4⟩ := HXB.out _ k5.1) | (go_at_call 6; refine (HCM.out _ b5).mono ?_; rintro e w6 ⟨rfl, b6⟩))
                            go_roundg GK
                            case measure => exact HG.out.1
                            case rel => exact ⟨j + 1, HG.out.2, by go_num, (HBX3.out _ (b5.trans (b6.mono b5.size))).2, HN.out, HE.out.2, HBN.out, HCH.out⟩
                        · have e2b : decide ((0 : Int) < x.lvl) = false := decide_eq_false e2
                          have HCH := hidE (HTN.out (by rw [HNX.out, decide_eq_false (fun z => e2 z.2)]; rfl))
                          go_wp2_with (first | (go_at_call 34; refine hA.mono ?_; rintro e w5 ⟨rfl, b5⟩; rw [← HW3.out] at b5; have k5 := HBX3.out _ b5; obtain ⟨u0, u1, u2, u3, u4⟩ := HPB.out _ b5; obtain ⟨v0, v1, v2, v3, v4⟩ := HXB.out _ k5.1))
                          go_roundg GK
                          case measure => exact HG.out.1
                          case rel => exact ⟨j + 1, HG.out.2, by go_num, (HBX3.out _ b5).2, HN.out, HE.out.2, HBN.out, HCH.out⟩
                      · have e1b : (pl == x.lvl) = false := by simpa using e1
                        have HCH := hidE (HTN.out (by rw [HNX.out, decide_eq_false (fun z => e1 z.1)]; rfl))
                        go_wp2_with (first | (go_at_call 34; refine hA.mono ?_; rintro e w5 ⟨rfl, b5⟩; rw [← HW3.out] at b5; have k5 := HBX3.out _ b5; obtain ⟨u0, u1, u2, u3, u4⟩ := HPB.out _ b5; obtain ⟨v0, v1, v2, v3, v4⟩ := HXB.out _ k5.1))
                        go_roundg GK
                        case measure => exact HG.out.1
                        case rel => exact ⟨j + 1, HG.out.2, by go_num, (HBX3.out _ b5).2, HN.out, HE.out.2, HBN.out, HCH.out⟩
        · have hkl' : (na : Int) ≤ (k : Int) := by omega
          have HF : Hid (T = true) := by
            have h1 := HK.out.2
            rw [List.take_of_length_le (by rw [← HNL.out]; omega), List.take_of_length_le (by rw [show (nosL tabs).length = tabs.length by unfold nosL; simp, ← HNL.out]; omega)] at h1
            have : mayAd tabs = true := by
              unfold mayAd
              rw [h1.1, decide_eq_true h1.2.1, decide_eq_true (by rw [← HNL.out]; exact HN2.out)]
              rfl
            show _ = _
            rw [HMK.out, this, h1.2.2.1, h1.2.2.2]
            rfl
          have hd1 : decide (k < na) = false := decide_eq_false (by omega)
          have hd2 : decide ((k : Int) < (na : Int)) = false := decide_eq_false (by omega)
          have hB := HK.out.1
          have HB := hidE (HWB.out.trans (hB.mono HWB.out.size))
          clear hk hkl HK HMK hB
          go_wp2_with fail
          exact bodyPost_ret (v := .bool true) (by simp [results, Try.results16, go_sem]) rfl ⟨by rw [HF.out], HB.out⟩
end Go.Proofs.Ytjgfklbhagcbaab
