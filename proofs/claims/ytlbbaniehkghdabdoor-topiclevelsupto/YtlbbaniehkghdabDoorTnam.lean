/- The program's names, clients, filters. -/
import Derived.Test.YtlbbaniehkghdabDoorTspl
import Derived.Test.YtlbbaniehkghdabDoorRmat
namespace Go.Proofs.YtlbbaniehkghdabDoor
open Go.RowKit
set_option linter.unusedVariables false
set_option linter.unusedSimpArgs false

theorem ttext_str (w : World) (s : ByteArray) (hl : s.size ≤ maxLen) : Calls Tryd.prog 21 #[.slice (some ⟨w.heap.size, 0, none⟩) s.size (grownCap w s.size 0 5)] (Lib.bytesWorld w 5 s) fun e w' => e = .returned (.bool (text s.data.toList)) ∧ w' = Lib.bytesWorld w 5 s := by
  have := ttext_any _ s.size (grownCap w s.size 0 5) _ _ (conv_byt w s) (grownCap_ge w s.size 0 5) (grownCap_le_maxLen w s.size 0 5 hl)
  rw [ul_sx] at this
  exact this
theorem within_any (s : ByteArray) (m : Nat) (w : World) (hl : s.size ≤ maxLen) : Calls Tryd.prog 13 #[.string s, .int .i64 (m : Int)] w fun e w' => e = .returned (.bool (decide (1 ≤ s.size) && decide (s.size ≤ m) && text s.data.toList)) ∧ Below w.heap.size w w' := by
  have h63 : s.size ≤ 2 ^ 63 - 1 := by unfold maxLen at hl; omega
  by_cases h1 : 1 ≤ s.size
  · have h1' : (1 : Int) ≤ (s.size : Int) := by omega
    by_cases h2 : s.size ≤ m
    · have h2' : (s.size : Int) ≤ (m : Int) := by omega
      have hc := conv_str w s
      have ht := ttext_str w s hl
      have hB := conv_below w s
      generalize text s.data.toList = T at ht ⊢
      generalize Lib.bytesWorld w 5 s = w1 at hc ht hB
      generalize grownCap w s.size 0 5 = cp at hc ht
      simp only [h1, h2, decide_true, Bool.true_and]
      clear hl h1 h2
      go_enter Tryd.func13, Tryd.ntmps13
      go_wp2_with (go_at_call 21; refine ht.mono ?_; rintro e w2 ⟨rfl, hw⟩; obtain rfl := hw.symm)
      go_ret
      exact ⟨rfl, hB⟩
    · have h2' : (m : Int) < (s.size : Int) := by omega
      simp only [h1, h2, decide_true, decide_false, Bool.true_and, Bool.false_and]
      clear hl
      go_enter Tryd.func13, Tryd.ntmps13
      go_wp2_with fail
      go_ret
      exact ⟨rfl, Below.refl _ _⟩
  · have h1' : (s.size : Int) < 1 := by omega
    simp only [h1, decide_false, Bool.false_and]
    clear hl
    go_enter Tryd.func13, Tryd.ntmps13
    go_wp2_with fail
    go_ret
    exact ⟨rfl, Below.refl _ _⟩
theorem within_64 (s : ByteArray) (w : World) (hl : s.size ≤ maxLen) : Calls Tryd.prog 13 #[.string s, .int .i64 64] w fun e w' => e = .returned (.bool (decide (1 ≤ s.size) && decide (s.size ≤ 64) && text s.data.toList)) ∧ Below w.heap.size w w' := within_any s 64 w hl
theorem tname_any (s : ByteArray) (w : World) (hl : s.size ≤ maxLen) : Calls Tryd.prog 7 #[.string s] w fun e w' => e = .returned (.bool (nam s.data.toList)) ∧ Below w.heap.size w w' := by
  have h1 := within_64 s w hl
  unfold nam
  rw [len_data]
  by_cases q : s.size ≤ 64
  · have h2 := fun w => tsign_any s w (by omega)
    generalize (decide (1 ≤ s.size) && decide (s.size ≤ 64) && text s.data.toList) = A at h1 ⊢
    generalize sgn s.data.toList = B at h2 ⊢
    clear hl q
    cases A with
    | false =>
      simp only [Bool.false_and]
      go_enter Tryd.func7, Tryd.ntmps7
      go_wp2_with (go_at_call 13; refine h1.mono ?_; rintro e w1 ⟨rfl, hb1⟩)
      go_ret
      exact ⟨rfl, hb1⟩
    | true =>
      simp only [Bool.true_and]
      go_enter Tryd.func7, Tryd.ntmps7
      go_wp2_with (first | (go_at_call 13; refine h1.mono ?_; rintro e w1 ⟨rfl, hb1⟩) | (go_at_call 14; refine (h2 _).mono ?_; rintro e w2 ⟨rfl, hb2⟩))
      go_ret
      exact ⟨rfl, hb1.trans (hb2.mono hb1.size)⟩
  · have e : (decide (1 ≤ s.size) && decide (s.size ≤ 64) && text s.data.toList) = false := by simp [q]
    rw [e] at h1 ⊢
    simp only [Bool.false_and]
    clear hl
    go_enter Tryd.func7, Tryd.ntmps7
    go_wp2_with (go_at_call 13; refine h1.mono ?_; rintro e w1 ⟨rfl, hb1⟩)
    go_ret
    exact ⟨rfl, hb1⟩
/-- Whether a level may stand in a filter. -/
def okL (x : List UInt8) (last : Bool) : Bool := x == [43] || (last && x == [35]) || !sgn x
theorem flev_any (x : ByteArray) (last : Bool) (w : World) (hs : x.size ≤ 64) : Calls Tryd.prog 15 #[.string x, .bool last] w fun e w' => e = .returned (.bool (okL x.data.toList last)) ∧ Below w.heap.size w w' := by
  have h := tsign_any x w (by omega)
  unfold okL
  generalize sgn x.data.toList = S at h ⊢
  rw [← tl_eq]
  cases q1 : (x.toList == [43]) with
  | true =>
    simp only [Bool.true_or]
    go_enter Tryd.func15, Tryd.ntmps15
    go_wp2_with fail
    go_ret
    exact ⟨rfl, Below.refl _ _⟩
  | false =>
    cases last with
    | true =>
      cases q2 : (x.toList == [35]) with
      | true =>
        simp only [Bool.false_or, Bool.true_and, Bool.true_or]
        go_enter Tryd.func15, Tryd.ntmps15
        go_wp2_with fail
        go_ret
        exact ⟨rfl, Below.refl _ _⟩
      | false =>
        simp only [Bool.false_or, Bool.true_and]
        go_enter Tryd.func15, Tryd.ntmps15
        go_wp2_with (go_at_call 14; refine h.mono ?_; rintro e w1 ⟨rfl, hb1⟩)
        go_ret
        exact ⟨rfl, hb1⟩
    | false =>
      simp only [Bool.false_or, Bool.false_and]
      go_enter Tryd.func15, Tryd.ntmps15
      go_wp2_with (go_at_call 14; refine h.mono ?_; rintro e w1 ⟨rfl, hb1⟩)
      go_ret
      exact ⟨rfl, hb1⟩

set_option maxHeartbeats 2000000 in
set_option maxRecDepth 100000 in
theorem tfil_any (s : ByteArray) (w : World) (hl : s.size ≤ maxLen) : Calls Tryd.prog 8 #[.string s] w fun e w' => e = .returned (.bool (fil s.data.toList)) ∧ Below w.heap.size w w' := by
  have h1 := within_64 s w hl
  unfold fil
  rw [len_data]
  generalize hAe : (decide (1 ≤ s.size) && decide (s.size ≤ 64) && text s.data.toList) = A at h1 ⊢
  cases A with
  | false =>
    simp only [Bool.false_and]
    clear hl hAe
    go_enter Tryd.func8, Tryd.ntmps8
    go_wp2_with (go_at_call 13; refine h1.mono ?_; rintro e w1 ⟨rfl, hb1⟩)
    go_ret
    exact ⟨rfl, hb1⟩
  | true =>
    simp only [Bool.true_and]
    have h2 : s.size ≤ 64 := by
      simp only [Bool.and_eq_true, decide_eq_true_eq] at hAe
      exact hAe.1.2
    have hlev := fun w => tsplit_any s w (by omega)
    obtain ⟨T, hT⟩ : ∃ T, T = okF (lv s.data.toList) := ⟨_, rfl⟩
    rw [← hT]
    have HT : Hid (T = okF (lv s.data.toList) ∧ s.size ≤ 64) := ⟨hT, h2⟩
    clear hl h2 hT hAe
    go_enter Tryd.func8, Tryd.ntmps8
    go_upto_region 4 with (first | (go_at_call 13; refine h1.mono ?_; rintro e w1 ⟨rfl, hb1⟩) | (go_at_call 11; refine (hlev _).mono ?_; rintro e w2 ⟨v, xs, rfl, r1, r2, r3⟩))
    obtain ⟨ao, cap, rfl, c1, c2, c3⟩ := r1.strs
    have hsl := sl_xs xs
    rw [r2] at hsl
    obtain ⟨n, hn⟩ : ∃ n, n = xs.length := ⟨_, rfl⟩
    rw [← hn] at c1 c3 hsl ⊢
    obtain ⟨Y, hY⟩ : ∃ Y : Nat → ByteArray, Y = fun k => xs.getD k ⟨#[]⟩ := ⟨_, rfl⟩
    rw [← hY] at c3 hsl
    have hsz : ∀ k, k < n → (Y k).size ≤ 64 := fun k hk => by
      have hm : (Y k).data.toList ∈ lv s.data.toList := by
        rw [← hsl]
        exact List.mem_map.2 ⟨k, List.mem_range.2 hk, rfl⟩
      have := lv_le _ _ hm
      rw [len_data, len_data] at this
      have := HT.out
      omega
    have hn1 : n = s.data.toList.count 47 + 1 := by
      have h3 := lv_length s.data.toList
      rw [← hsl, sl_length] at h3
      exact h3
    have hn63 : n ≤ 2 ^ 62 := by
      have h4 := List.count_le_length (a := (47 : UInt8)) (l := s.data.toList)
      rw [len_data] at h4
      have := HT.out
      omega
    have hnp : 1 ≤ n := by omega
    obtain ⟨p, hp⟩ : ∃ p, n = p + 1 := ⟨n - 1, by omega⟩
    subst hp
    have HY : Hid (Strs w2 ao (p + 1) Y ∧ (∀ k, k < p + 1 → (Y k).size ≤ 64) ∧ okF (sl Y (p + 1)) = T ∧ Below w.heap.size w w2) := ⟨c3, hsz, by rw [hsl]; exact HT.out.1.symm, hb1.trans (r3.mono hb1.size)⟩
    clear h1 hlev r1 r2 r3 c3 hsl hsz hn hY HT hb1 hn1 hnp
    go_wp2_with fail
    go_loopg [5, 6, 17] (p + 1) (fun g _ _ i wr => ∃ k : Nat, k + g = p + 1 ∧ i = .int .i64 (k : Int) ∧ Hid (Below w2.heap.size w2 wr ∧ okF ((sl Y (p + 1)).drop k) = T))
    case atStart => exact ⟨0, by omega, rfl, Below.refl _ _, HY.out.2.2.1⟩
    case round =>
      obtain ⟨k, hk, rfl, HK⟩ := hrel
      by_cases h : k < p + 1
      · have h' : (k : Int) < (p : Int) + 1 := by omega
        obtain ⟨b, off, hao, hcell0⟩ := HY.out.1 k h
        subst hao
        have hcell := cell_later HK.out.1 hcell0
        have hd := HK.out.2
        rw [sl_drop Y (p + 1) k h] at hd
        have hfl := flev_any (Y k) ((k : Int) == (p : Int)) wr (HY.out.2.1 k h)
        obtain ⟨x, hx⟩ : ∃ x, x = Y k := ⟨_, rfl⟩
        rw [← hx] at hd hfl hcell
        have hem : ((sl Y (p + 1)).drop (k + 1)).isEmpty = ((k : Int) == (p : Int)) := by
          rw [Bool.eq_iff_iff, List.isEmpty_iff, beq_iff_eq]
          constructor
          · intro e
            have := congrArg List.length e
            rw [List.length_drop, sl_length] at this
            simp at this
            omega
          · intro e
            exact List.drop_eq_nil_of_le (by rw [sl_length]; omega)
        have hd2 : (okL x.data.toList ((k : Int) == (p : Int)) && okF ((sl Y (p + 1)).drop (k + 1))) = T := by
          rw [← hd]
          simp only [okF, hem, okL]
          cases sgn x.data.toList <;> cases (x.data.toList == [43]) <;> cases (x.data.toList == [35]) <;> cases ((k : Int) == (p : Int)) <;> rfl
        obtain ⟨GK, HG⟩ : ∃ g, Hid (g < gk ∧ k + 1 + g = p + 1) := ⟨gk - 1, by omega, by omega⟩
        have hk62 : k ≤ 2 ^ 62 := by omega
        generalize okL x.data.toList ((k : Int) == (p : Int)) = O at hfl hd2
        have HB : Hid (Below w.heap.size w wr) := HY.out.2.2.2.trans (HK.out.1.mono HY.out.2.2.2.size)
        clear hk hem hx hd hcell0
        cases O with
        | false =>
          have hF : T = false := by rw [← hd2]; rfl
          subst hF
          clear hd2
          go_wp2_with (go_at_call 15; refine hfl.mono ?_; rintro e w3 ⟨rfl, hb3⟩)
          go_ret
          exact ⟨rfl, HB.out.trans (hb3.mono HB.out.size)⟩
        | true =>
          have HS : Hid (∀ w3, Below wr.heap.size wr w3 → Below w2.heap.size w2 w3 ∧ okF ((sl Y (p + 1)).drop (k + 1)) = T) := fun w3 hb3 => ⟨HK.out.1.trans (hb3.mono HK.out.1.size), by simpa using hd2⟩
          clear hd2 HK
          go_wp2_with (go_at_call 15; refine hfl.mono ?_; rintro e w3 ⟨rfl, hb3⟩)
          go_roundg GK
          case measure => exact HG.out.1
          case rel => exact ⟨k + 1, HG.out.2, by go_num, HS.out _ hb3⟩
      · have h' : (p : Int) + 1 ≤ (k : Int) := by omega
        have hF : T = true := by
          have := HK.out.2
          rw [List.drop_eq_nil_of_le (by rw [sl_length]; omega)] at this
          exact this.symm
        subst hF
        clear hk h
        go_wp2_with fail
        go_ret
        exact ⟨rfl, HY.out.2.2.2.trans (HK.out.1.mono HY.out.2.2.2.size)⟩
end Go.Proofs.YtlbbaniehkghdabDoor
