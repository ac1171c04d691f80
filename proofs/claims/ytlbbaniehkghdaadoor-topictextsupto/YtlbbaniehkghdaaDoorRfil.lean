/- The document's own filters. -/
import Derived.Test.YtlbbaniehkghdaaDoorRcovers
namespace Go.Proofs.YtlbbaniehkghdaaDoor
open Go.RowKit
set_option linter.unusedVariables false

theorem lv_le : ∀ (s : List UInt8), ∀ x ∈ lv s, x.length ≤ s.length
  | [], x, hx => by simp [lv] at hx; subst hx; simp
  | c :: s, x, hx => by
    by_cases h : c = 47
    · subst h
      rw [lv_stroke] at hx
      rcases List.mem_cons.1 hx with q | q
      · subst q; simp
      · have := lv_le s x q; simp; omega
    · obtain ⟨y, r, e1, e2⟩ := lv_other h s
      rw [e2] at hx
      rcases List.mem_cons.1 hx with q | q
      · subst q
        have := lv_le s y (by rw [e1]; simp)
        simp; omega
      · have := lv_le s x (by rw [e1]; simp [q])
        simp; omega
/-- A row of strings of one's own, read. -/
theorem RowS.strs {B : Nat} {w : World} {v : Value} {xs : List ByteArray} (h : RowS B w v xs) : ∃ ao cap, v = .slice ao xs.length cap ∧ xs.length ≤ cap ∧ cap ≤ maxLen ∧ Strs w ao xs.length (fun k => xs.getD k ⟨#[]⟩) := by
  have hcells : ∀ g, v.ownBlock = some g → _ := fun g hg => World.ownsRow.cells h (g := g) hg
  rcases h.2 with ⟨rfl, h0⟩ | ⟨g, cap, cur, rfl, hbg, hg, hnc, hcm, hcs, htake⟩
  · exact ⟨none, 0, by rw [h0], by omega, Nat.zero_le _, fun k hk => absurd hk (by omega)⟩
  · refine ⟨some ⟨g, 0, none⟩, cap, rfl, hnc, hcm, fun k hk => ⟨g, 0, rfl, ?_⟩⟩
    have := hcells g rfl k (.string xs[k]) (by simp [List.getElem?_eq_getElem hk])
    rw [Addr.add_lit] at this
    rw [this]
    simp [List.getElem?_eq_getElem hk]
theorem sl_xs (xs : List ByteArray) : sl (fun k => xs.getD k ⟨#[]⟩) xs.length = xs.map (fun x => x.data.toList) := by
  apply List.ext_getElem
  · simp [sl]
  · intro i h1 h2
    simp only [List.length_map] at h2
    simp [sl, List.getElem?_eq_getElem h2]
theorem sl_length (Y : Nat → ByteArray) (n : Nat) : (sl Y n).length = n := by simp [sl]
theorem sl_drop (Y : Nat → ByteArray) (n k : Nat) (h : k < n) : (sl Y n).drop k = (Y k).data.toList :: (sl Y n).drop (k + 1) := by
  have h' : k < (sl Y n).length := by rw [sl_length]; exact h
  rw [List.drop_eq_getElem_cons h']
  congr 1
  simp [sl]
theorem Strs.later {w w' : World} {ao : Option Addr} {len : Nat} {Y : Nat → ByteArray} (h : Strs w ao len Y) (hb : Below w.heap.size w w') : Strs w' ao len Y := fun k hk => by
  obtain ⟨b, off, e, hc⟩ := h k hk
  exact ⟨b, off, e, cell_later hb hc⟩

set_option maxHeartbeats 2000000 in
set_option maxRecDepth 100000 in
theorem rfil_any (s : ByteArray) (w : World) (hl : s.size ≤ maxLen) : Calls Tryd.prog 20 #[.string s] w fun e w' => e = .returned (.bool (fil s.data.toList)) ∧ Below w.heap.size w w' := by
  have h63 : s.size ≤ 2 ^ 63 - 1 := by unfold maxLen at hl; omega
  unfold fil
  rw [len_data]
  by_cases h1 : 1 ≤ s.size
  · have h1' : (1 : Int) ≤ (s.size : Int) := by omega
    by_cases h2 : s.size ≤ 64
    · have h2' : (s.size : Int) ≤ 64 := by omega
      have hc := conv_str w s
      have ht := rtext_str w s hl
      have hB := conv_below w s
      simp only [h1, h2, decide_true, Bool.true_and]
      generalize text s.data.toList = T at ht ⊢
      generalize Lib.bytesWorld w 5 s = w1 at hc ht hB
      generalize grownCap w s.size 0 5 = cp at hc ht
      cases T with
      | false =>
        simp only [Bool.false_and]
        clear hl h1 h2
        go_enter Tryd.func20, Tryd.ntmps20
        go_wp2_with (go_at_call 10; refine ht.mono ?_; rintro e w1 ⟨rfl, rfl⟩)
        go_ret
        exact ⟨rfl, hB⟩
      | true =>
        simp only [Bool.true_and]
        have hlev := rlev_any s w1 (by omega)
        obtain ⟨T, hT⟩ : ∃ T, T = okF (lv s.data.toList) := ⟨_, rfl⟩
        rw [← hT]
        have HT : Hid (T = okF (lv s.data.toList) ∧ s.size ≤ 64 ∧ Below w.heap.size w w1) := ⟨hT, h2, hB⟩
        clear hl h1 h2 hT hB
        go_enter Tryd.func20, Tryd.ntmps20
        go_upto_region 4 with (first | (go_at_call 10; refine ht.mono ?_; rintro e w1 ⟨rfl, rfl⟩) | (go_at_call 17; refine hlev.mono ?_; rintro e w2 ⟨v, xs, rfl, r1, r2, r3⟩))
        obtain ⟨ao, cap, rfl, c1, c2, c3⟩ := r1.strs
        have hsl := sl_xs xs
        rw [r2] at hsl
        obtain ⟨n, hn⟩ : ∃ n, n = xs.length := ⟨_, rfl⟩
        rw [← hn] at c1 c3 hsl ⊢
        obtain ⟨Y, hY⟩ : ∃ Y : Nat → ByteArray, Y = fun k => xs.getD k ⟨#[]⟩ := ⟨_, rfl⟩
        rw [← hY] at c3 hsl
        have hsz : ∀ k, k < n → (Y k).size ≤ 64 := fun k hk => by
          have hm : (Y k).data.toList ∈ lv s.data.toList := by
            rw [← hsl]
            exact List.mem_map.2 ⟨k, List.mem_range.2 hk, rfl⟩
          have := lv_le _ _ hm
          rw [len_data, len_data] at this
          have := HT.out
          omega
        have hn63 : n ≤ 2 ^ 62 := by
          have h3 := lv_length s.data.toList
          rw [← hsl, sl_length] at h3
          have h4 := List.count_le_length (a := (47 : UInt8)) (l := s.data.toList)
          rw [len_data] at h4
          have := HT.out
          omega
        have HY : Hid (Strs w2 ao n Y ∧ (∀ k, k < n → (Y k).size ≤ 64) ∧ okF (sl Y n) = T ∧ Below w.heap.size w w2) := ⟨c3, hsz, by rw [hsl]; exact HT.out.1.symm, HT.out.2.2.trans (r3.mono HT.out.2.2.size)⟩
        clear ht hlev r1 r2 r3 c3 hsl hsz hn hY HT hc
        go_wp2_with fail
        go_loopg [24] n (fun g i wr => ∃ k : Nat, k + g = n ∧ i = .int .i64 (k : Int) ∧ wr = w2 ∧ Hid (okF ((sl Y n).drop k) = T))
        case atStart => exact ⟨0, by omega, rfl, rfl, HY.out.2.2.1⟩
        case round =>
          obtain ⟨k, hk, rfl, hw, HK⟩ := hrel
          obtain rfl := hw
          by_cases h : k < n
          · have h' : (k : Int) < (n : Int) := by omega
            obtain ⟨b, off, hao, hcell⟩ := HY.out.1 k h
            subst hao
            have hd := HK.out
            rw [sl_drop Y n k h] at hd
            have hsg := rsign_any (Y k) wr (by have := HY.out.2.1 k h; unfold maxLen; omega)
            obtain ⟨x, hx⟩ : ∃ x, x = Y k := ⟨_, rfl⟩
            rw [← hx] at hd hsg hcell
            have hem : ((sl Y n).drop (k + 1)).isEmpty = decide (k + 1 = n) := by
              rw [Bool.eq_iff_iff, List.isEmpty_iff, decide_eq_true_eq]
              constructor
              · intro e
                have := congrArg List.length e
                rw [List.length_drop, sl_length] at this
                simp at this
                omega
              · intro e
                exact List.drop_eq_nil_of_le (by rw [sl_length]; omega)
            simp only [okF, hem] at hd
            obtain ⟨GK, HG⟩ : ∃ g, Hid (g < gk ∧ k + 1 + g = n) := ⟨gk - 1, by omega, by omega⟩
            generalize sgn x.data.toList = S at hsg hd
            clear hk hem hx
            cases S with
            | false =>
              have HS : Hid (okF ((sl Y n).drop (k + 1)) = T) := (by simpa using hd : okF ((sl Y n).drop (k + 1)) = T)
              clear hd
              go_wp2_with (go_at_call 29; refine hsg.mono ?_; rintro e wr ⟨rfl, rfl⟩)
              go_roundg GK
              case measure => exact HG.out.1
              case rel => exact ⟨k + 1, HG.out.2, by go_num, rfl, HS⟩
            | true =>
              by_cases q1 : x.data.toList = [43]
              · have b43 : (x.toList == [43]) = true := by rw [tl_eq, q1]; rfl
                have b43' : (x.toList != [43]) = false := by unfold bne; rw [b43]; rfl
                have HS : Hid (okF ((sl Y n).drop (k + 1)) = T) := (by simpa [q1] using hd : okF ((sl Y n).drop (k + 1)) = T)
                clear hd q1
                go_wp2_with (go_at_call 29; refine hsg.mono ?_; rintro e wr ⟨rfl, rfl⟩)
                go_roundg GK
                case measure => exact HG.out.1
                case rel => exact ⟨k + 1, HG.out.2, by go_num, rfl, HS⟩
              · have b43 : (x.toList == [43]) = false := by rw [tl_eq]; simpa using q1
                have b43' : (x.toList != [43]) = true := by unfold bne; rw [b43]; rfl
                by_cases q2 : x.data.toList = [35]
                · have b35 : (x.toList == [35]) = true := by rw [tl_eq, q2]; rfl
                  have b35' : (x.toList != [35]) = false := by unfold bne; rw [b35]; rfl
                  by_cases q3 : k + 1 = n
                  · have HS : Hid (okF ((sl Y n).drop (k + 1)) = T) := (by simpa [q2, q3] using hd : okF ((sl Y n).drop (k + 1)) = T)
                    have q3' : (n : Int) ≤ (k : Int) + 1 := by omega
                    clear hd q1 q2 q3
                    go_wp2_with (go_at_call 29; refine hsg.mono ?_; rintro e wr ⟨rfl, rfl⟩)
                    go_roundg GK
                    case measure => exact HG.out.1
                    case rel => exact ⟨k + 1, HG.out.2, by go_num, rfl, HS⟩
                  · have hF : T = false := by rw [← hd]; simp [q2, q3]
                    have q3' : (k : Int) + 1 < (n : Int) := by omega
                    subst hF
                    clear hd q1 q2 q3
                    go_wp2_with (go_at_call 29; refine hsg.mono ?_; rintro e wr ⟨rfl, rfl⟩)
                    go_ret
                    exact ⟨rfl, HY.out.2.2.2⟩
                · have b35 : (x.toList == [35]) = false := by rw [tl_eq]; simpa using q2
                  have b35' : (x.toList != [35]) = true := by unfold bne; rw [b35]; rfl
                  have hF : T = false := by rw [← hd]; simp [q1, q2]
                  subst hF
                  clear hd q1 q2
                  go_wp2_with (go_at_call 29; refine hsg.mono ?_; rintro e wr ⟨rfl, rfl⟩)
                  go_ret
                  exact ⟨rfl, HY.out.2.2.2⟩
          · have h' : (n : Int) ≤ (k : Int) := by omega
            have hF : T = true := by
              have := HK.out
              rw [List.drop_eq_nil_of_le (by rw [sl_length]; omega)] at this
              exact this.symm
            subst hF
            clear hk h
            go_wp2_with fail
            go_ret
            exact ⟨rfl, HY.out.2.2.2⟩
    · have h2' : (64 : Int) < (s.size : Int) := by omega
      simp only [h1, h2, decide_true, decide_false, Bool.true_and, Bool.false_and]
      clear hl
      go_enter Tryd.func20, Tryd.ntmps20
      go_wp2_with fail
      go_ret
      exact ⟨rfl, Below.refl _ _⟩
  · have h1' : (s.size : Int) < 1 := by omega
    simp only [h1, decide_false, Bool.false_and]
    clear hl
    go_enter Tryd.func20, Tryd.ntmps20
    go_wp2_with fail
    go_ret
    exact ⟨rfl, Below.refl _ _⟩
end Go.Proofs.YtlbbaniehkghdaaDoor
