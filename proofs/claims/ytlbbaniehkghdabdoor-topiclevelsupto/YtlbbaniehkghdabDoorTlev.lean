/- The program's walk by levels. -/
import Derived.Test.YtlbbaniehkghdabDoorTnam
namespace Go.Proofs.YtlbbaniehkghdabDoor
open Go.RowKit
set_option linter.unusedVariables false
set_option linter.unusedSimpArgs false

/-- The walk by levels, whatever a level takes. -/
def wlk (tk : List UInt8 → List UInt8 → Bool) : List (List UInt8) → List (List UInt8) → Bool
  | [], n => n.isEmpty
  | x :: f, n => x == [35] || match n with
    | [] => false
    | y :: n => tk x y && wlk tk f n
def tkM (x y : List UInt8) : Bool := x == [43] || x == y
def tkC (x y : List UInt8) : Bool := (x == [43] && y != [35]) || x == y
theorem wlk_mts : ∀ f n, wlk tkM f n = mts f n
  | [], n => rfl
  | x :: f, [] => rfl
  | x :: f, y :: n => by simp only [wlk, mts, tkM, wlk_mts f n]
theorem wlk_cvs : ∀ f n, wlk tkC f n = cvs f n
  | [], n => rfl
  | x :: f, [] => rfl
  | x :: f, y :: n => by simp only [wlk, cvs, tkC, wlk_cvs f n]

theorem tkM_any (x y : ByteArray) (w : World) : Calls Tryd.prog 17 #[.string x, .string y] w fun e w' => e = .returned (.bool (tkM x.data.toList y.data.toList)) ∧ w' = w := by
  unfold tkM
  rw [← tl_eq, ← tl_eq y]
  cases q1 : (x.toList == [43]) with
  | true =>
    simp only [Bool.true_or]
    go_enter Tryd.func17, Tryd.ntmps17
    go_wp2_with fail
    go_ret
    exact ⟨rfl, rfl⟩
  | false =>
    simp only [Bool.false_or]
    go_enter Tryd.func17, Tryd.ntmps17
    go_wp2_with fail
    go_ret
    exact ⟨rfl, rfl⟩
theorem tkC_any (x y : ByteArray) (w : World) : Calls Tryd.prog 18 #[.string x, .string y] w fun e w' => e = .returned (.bool (tkC x.data.toList y.data.toList)) ∧ w' = w := by
  unfold tkC
  rw [← tl_eq, ← tl_eq y]
  cases q1 : (x.toList == [43]) with
  | true =>
    cases q2 : (y.toList == [35]) with
    | true =>
      have q3 : (y.toList != [35]) = false := by unfold bne; rw [q2]; rfl
      rw [q3]
      simp only [Bool.true_and, Bool.false_or]
      go_enter Tryd.func18, Tryd.ntmps18
      go_wp2_with fail
      go_ret
      exact ⟨rfl, rfl⟩
    | false =>
      have q3 : (y.toList != [35]) = true := by unfold bne; rw [q2]; rfl
      rw [q3]
      simp only [Bool.true_and, Bool.true_or]
      go_enter Tryd.func18, Tryd.ntmps18
      go_wp2_with fail
      go_ret
      exact ⟨rfl, rfl⟩
  | false =>
    simp only [Bool.false_and, Bool.false_or]
    go_enter Tryd.func18, Tryd.ntmps18
    go_wp2_with fail
    go_ret
    exact ⟨rfl, rfl⟩

theorem pre_one (s : List UInt8) (c : UInt8) : Lib.hasPrefix s [c] = (s.head? == some c) := by
  unfold Lib.hasPrefix
  cases s with
  | nil => rfl
  | cons a t =>
    simp [List.isPrefixOf]
    exact Bool.beq_comm
theorem pre_any (s : ByteArray) (c : UInt8) (w : World) : Calls Tryd.prog 23 #[.string s, .string ⟨#[c]⟩] w fun e w' => e = .returned (.bool (s.data.toList.head? == some c)) ∧ w' = w := by
  have := Tryd.strings_HasPrefix s ⟨#[c]⟩ w
  rw [show (ByteArray.mk #[c]).data.toList = [c] from rfl, pre_one] at this
  exact this
theorem begins_any (s : ByteArray) (w : World) : Calls Tryd.prog 24 #[.string s] w fun e w' => e = .returned (.bool (s.data.toList.head? == some 43 || s.data.toList.head? == some 35)) ∧ w' = w := by
  have h1 := pre_any s 43 w
  have h2 := pre_any s 35 w
  generalize (s.data.toList.head? == some 43) = A at h1 ⊢
  generalize (s.data.toList.head? == some 35) = B at h2 ⊢
  cases A with
  | true =>
    simp only [Bool.true_or]
    go_enter Tryd.func24, Tryd.ntmps24
    go_wp2_with fail
    refine h1.mono ?_
    rintro e w1 ⟨rfl, hw⟩
    obtain rfl := hw.symm
    go_wp2_with fail
    go_ret
    exact ⟨rfl, rfl⟩
  | false =>
    simp only [Bool.false_or]
    go_enter Tryd.func24, Tryd.ntmps24
    go_wp2_with fail
    refine h1.mono ?_
    rintro e w1 ⟨rfl, hw⟩
    obtain rfl := hw.symm
    go_wp2_with fail
    refine h2.mono ?_
    rintro e w2 ⟨rfl, hw⟩
    obtain rfl := hw.symm
    go_wp2_with fail
    go_ret
    exact ⟨rfl, rfl⟩
/-- The walk, of two texts that are no longer than may be. -/
theorem wlk_stop (tk : List UInt8 → List UInt8 → Bool) (f n : List (List UInt8)) : wlk tk ([35] :: f) n = true := by simp [wlk]
theorem wlk_end (tk : List UInt8 → List UInt8 → Bool) (x : List UInt8) (f : List (List UInt8)) (h : x ≠ [35]) : wlk tk (x :: f) [] = false := by simp [wlk, h]
theorem wlk_on (tk : List UInt8 → List UInt8 → Bool) (x y : List UInt8) (f n : List (List UInt8)) (h : x ≠ [35]) : wlk tk (x :: f) (y :: n) = (tk x y && wlk tk f n) := by simp [wlk, h]

set_option maxHeartbeats 4000000 in
set_option maxRecDepth 100000 in
theorem byM_any (f n : ByteArray) (w : World) (hf : f.size ≤ 64) (hn : n.size ≤ 64) : Calls Tryd.prog 16 #[.string f, .string n, .func (Fn.func 17) #[] #[]] w fun e w' => e = .returned (.bool (!far f.data.toList n.data.toList && wlk tkM (lv f.data.toList) (lv n.data.toList))) ∧ Below w.heap.size w w' := by
  have h1 := fun w => pre_any n 36 w
  have h2 := fun w => begins_any f w
  have hlf := fun w => tsplit_any f w (by omega)
  have hln := fun w => tsplit_any n w (by omega)
  unfold far
  generalize (n.data.toList.head? == some 36) = A at h1 ⊢
  generalize (f.data.toList.head? == some 43 || f.data.toList.head? == some 35) = B at h2 ⊢
  by_cases hAB : (A && B) = true
  · simp only [hAB, Bool.not_true, Bool.false_and]
    obtain ⟨rfl, rfl⟩ : A = true ∧ B = true := by simpa using hAB
    clear hlf hln
    go_enter Tryd.func16, Tryd.ntmps16
    go_wp2_with (first | (go_at_call 23; refine (h1 _).mono ?_; rintro e w1 ⟨rfl, hw⟩; obtain rfl := hw.symm) | (go_at_call 24; refine (h2 _).mono ?_; rintro e w1 ⟨rfl, hw⟩; obtain rfl := hw.symm))
    go_ret
    exact ⟨rfl, Below.refl _ _⟩
  · have hAB' : (A && B) = false := by simpa using hAB
    simp only [hAB', Bool.not_false, Bool.true_and]
    obtain ⟨T, hT⟩ : ∃ T, T = wlk tkM (lv f.data.toList) (lv n.data.toList) := ⟨_, rfl⟩
    rw [← hT]
    have HT : Hid (T = wlk tkM (lv f.data.toList) (lv n.data.toList) ∧ f.size ≤ 64 ∧ n.size ≤ 64) := ⟨hT, hf, hn⟩
    clear hT hf hn
    have go : Calls Tryd.prog 16 #[.string f, .string n, .func (Fn.func 17) #[] #[]] w fun e w' => e = .returned (.bool T) ∧ Below w.heap.size w w' := by
      go_enter Tryd.func16, Tryd.ntmps16
      cases A with
      | true =>
        obtain rfl : B = false := by simpa using hAB'
        go_wp2_with (first | (go_at_call 23; refine (h1 _).mono ?_; rintro e w1 ⟨rfl, hw⟩; obtain rfl := hw.symm) | (go_at_call 24; refine (h2 _).mono ?_; rintro e w1 ⟨rfl, hw⟩; obtain rfl := hw.symm))
        refine (hln _).mono ?_
        rintro e w3 ⟨v6, ys, rfl, r6, e6, hb3⟩
        obtain ⟨ao6, cap6, rfl, d1, d2, d3⟩ := r6.strs
        go_wp2_with fail
        refine (hlf _).mono ?_
        rintro e w4 ⟨v5, xs, rfl, r5, e5, hb4⟩
        obtain ⟨ao5, cap5, rfl, c1, c2, c3⟩ := r5.strs
        have hT2 := HT.out.1
        rw [← e5, ← e6, ← sl_xs, ← sl_xs] at hT2
        have hxl : xs.length ≤ 2 ^ 62 := by
          have h3 := lv_length f.data.toList
          have h4 := List.count_le_length (a := (47 : UInt8)) (l := f.data.toList)
          rw [len_data] at h4
          rw [← e5, List.length_map] at h3
          have := HT.out
          omega
        have hyl : ys.length ≤ 2 ^ 62 := by
          have h3 := lv_length n.data.toList
          have h4 := List.count_le_length (a := (47 : UInt8)) (l := n.data.toList)
          rw [len_data] at h4
          rw [← e6, List.length_map] at h3
          have := HT.out
          omega
        obtain ⟨m, hm⟩ : ∃ m, m = xs.length := ⟨_, rfl⟩
        rw [← hm] at c1 c3 hT2 hxl ⊢
        obtain ⟨l0, hl0⟩ : ∃ l0, l0 = ys.length := ⟨_, rfl⟩
        rw [← hl0] at d1 d3 hT2 hyl ⊢
        obtain ⟨X, hX⟩ : ∃ X : Nat → ByteArray, X = fun k => xs.getD k ⟨#[]⟩ := ⟨_, rfl⟩
        rw [← hX] at c3 hT2
        obtain ⟨Y, hY⟩ : ∃ Y : Nat → ByteArray, Y = fun k => ys.getD k ⟨#[]⟩ := ⟨_, rfl⟩
        rw [← hY] at d3 hT2
        have d4 := d3.later hb4
        have HB : Hid (Below w.heap.size w w4) := hb3.trans (hb4.mono hb3.size)
        have HX : Hid (Strs w4 ao5 m X) := c3
        have H0 : Hid (Strs w4 ao6 l0 Y ∧ l0 ≤ cap6 ∧ cap6 ≤ maxLen ∧ wlk tkM ((sl X m).drop 0) (sl Y l0) = T ∧ l0 ≤ 2 ^ 62) := ⟨d4, d1, d2, hT2.symm, hyl⟩
        clear h1 h2 hlf hln HT r5 r6 e5 e6 hb3 hb4 c1 c2 c3 d1 d2 d3 d4 hT2 hm hl0 hX hY hAB hAB' hyl
        go_wp2_with fail
        go_loopg [7, 9, 21] m (fun g s7 _ i wr => ∃ (k l cap : Nat) (ao : Option Addr) (Y : Nat → ByteArray), k + g = m ∧ i = .int .i64 (k : Int) ∧ s7 = .slice ao l cap ∧ wr = w4 ∧ Hid (Strs w4 ao l Y ∧ l ≤ cap ∧ cap ≤ maxLen ∧ wlk tkM ((sl X m).drop k) (sl Y l) = T ∧ l ≤ 2 ^ 62))
        case atStart => exact ⟨0, l0, cap6, ao6, Y, by omega, rfl, rfl, rfl, H0⟩
        case round =>
          obtain ⟨k, l, cap, ao, Z, hk, rfl, rfl, hw, HK⟩ := hrel
          obtain rfl := hw
          by_cases h : k < m
          · have h' : (k : Int) < (m : Int) := by omega
            obtain ⟨b, off, hao, hcell⟩ := HX.out k h
            subst hao
            have hd := HK.out.2.2.2.1
            rw [sl_drop X m k h] at hd
            have htk := fun (y : ByteArray) w => tkM_any (X k) y w
            obtain ⟨x, hx⟩ : ∃ x, x = X k := ⟨_, rfl⟩
            simp only [← hx] at hd htk hcell
            have hk62 : k ≤ 2 ^ 62 := by omega
            obtain ⟨GK, HG⟩ : ∃ g, Hid (g < gk ∧ k + 1 + g = m) := ⟨gk - 1, by omega, by omega⟩
            by_cases q : x.data.toList = [35]
            · have b35 : (x.toList == [35]) = true := by rw [tl_eq, q]; rfl
              have hF : T = true := by rw [← hd, q]; exact wlk_stop _ _ _
              subst hF
              clear hd q hx htk hk HK
              go_wp2_with fail
              go_ret
              exact ⟨rfl, HB.out⟩
            · have b35 : (x.toList == [35]) = false := by rw [tl_eq]; simpa using q
              cases l with
              | zero =>
                have hF : T = false := by rw [← hd, sl_zero]; exact wlk_end _ _ _ q
                subst hF
                clear hd q hx htk hk HK
                go_wp2_with fail
                go_ret
                exact ⟨rfl, HB.out⟩
              | succ l =>
                obtain ⟨b2, off2, hao2, hcell2⟩ := HK.out.1 0 (by omega)
                subst hao2
                rw [Nat.add_zero] at hcell2
                have hrest := @strs_rest wr b2 off2 l (cap - 1) Z HK.out.1 (by have := HK.out; omega)
                obtain ⟨rc, rfl⟩ : ∃ rc, cap = rc + 1 := ⟨cap - 1, by have := HK.out; omega⟩
                rw [Nat.add_sub_cancel] at hrest
                obtain ⟨b3, off3, hif, hZ3⟩ := hrest
                rw [sl_succ, wlk_on _ _ _ _ _ q] at hd
                obtain ⟨y, hy⟩ : ∃ y, y = Z 0 := ⟨_, rfl⟩
                simp only [← hy] at hd hcell2
                have hty := htk y
                have hl62 : l ≤ 2 ^ 62 := by have := HK.out; omega
                have hlr : (l : Int) ≤ (rc : Int) := by have := HK.out; omega
                have hz0 : (((l : Int) + 1) == 0) = false := by simp; omega
                have hlp : (0 : Int) < (l : Int) + 1 := by omega
                have HR : Hid (Strs wr (some ⟨b3, off3, none⟩) l (fun k => Z (k + 1)) ∧ l ≤ rc ∧ rc ≤ maxLen) := ⟨hZ3, by omega, by have := HK.out; omega⟩
                generalize tkM x.data.toList y.data.toList = O at hty hd
                clear htk hx hy hk q hZ3 HK
                cases O with
                | false =>
                  have hF : T = false := by rw [← hd]; rfl
                  subst hF
                  clear hd
                  go_wp2_with (go_at_call 17; refine (hty _).mono ?_; rintro e w5 ⟨rfl, hw⟩; obtain rfl := hw.symm)
                  go_ret
                  exact ⟨rfl, HB.out⟩
                | true =>
                  have HN : Hid (wlk tkM ((sl X m).drop (k + 1)) (sl (fun k => Z (k + 1)) l) = T) := (by simpa using hd : wlk tkM ((sl X m).drop (k + 1)) (sl (fun k => Z (k + 1)) l) = T)
                  clear hd
                  go_wp2_with (go_at_call 17; refine (hty _).mono ?_; rintro e w5 ⟨rfl, hw⟩; obtain rfl := hw.symm)
                  go_roundg GK
                  case measure => exact HG.out.1
                  case rel => exact ⟨k + 1, l, rc, _, _, HG.out.2, by go_num, rfl, rfl, HR.out.1, HR.out.2.1, HR.out.2.2, HN.out, by omega⟩
          · have h' : (m : Int) ≤ (k : Int) := by omega
            have hF : T = ((l : Int) == 0) := by
              have := HK.out.2.2.2.1
              rw [List.drop_eq_nil_of_le (by rw [sl_length]; omega)] at this
              rw [← this]
              cases l with
              | zero => rfl
              | succ l => rw [sl_succ]; simp [wlk]; omega
            subst hF
            clear hk h
            go_wp2_with fail
            go_ret
            exact ⟨rfl, HB.out⟩
      | false =>
        go_wp2_with (first | (go_at_call 23; refine (h1 _).mono ?_; rintro e w1 ⟨rfl, hw⟩; obtain rfl := hw.symm))
        refine (hln _).mono ?_
        rintro e w3 ⟨v6, ys, rfl, r6, e6, hb3⟩
        obtain ⟨ao6, cap6, rfl, d1, d2, d3⟩ := r6.strs
        go_wp2_with fail
        refine (hlf _).mono ?_
        rintro e w4 ⟨v5, xs, rfl, r5, e5, hb4⟩
        obtain ⟨ao5, cap5, rfl, c1, c2, c3⟩ := r5.strs
        have hT2 := HT.out.1
        rw [← e5, ← e6, ← sl_xs, ← sl_xs] at hT2
        have hxl : xs.length ≤ 2 ^ 62 := by
          have h3 := lv_length f.data.toList
          have h4 := List.count_le_length (a := (47 : UInt8)) (l := f.data.toList)
          rw [len_data] at h4
          rw [← e5, List.length_map] at h3
          have := HT.out
          omega
        have hyl : ys.length ≤ 2 ^ 62 := by
          have h3 := lv_length n.data.toList
          have h4 := List.count_le_length (a := (47 : UInt8)) (l := n.data.toList)
          rw [len_data] at h4
          rw [← e6, List.length_map] at h3
          have := HT.out
          omega
        obtain ⟨m, hm⟩ : ∃ m, m = xs.length := ⟨_, rfl⟩
        rw [← hm] at c1 c3 hT2 hxl ⊢
        obtain ⟨l0, hl0⟩ : ∃ l0, l0 = ys.length := ⟨_, rfl⟩
        rw [← hl0] at d1 d3 hT2 hyl ⊢
        obtain ⟨X, hX⟩ : ∃ X : Nat → ByteArray, X = fun k => xs.getD k ⟨#[]⟩ := ⟨_, rfl⟩
        rw [← hX] at c3 hT2
        obtain ⟨Y, hY⟩ : ∃ Y : Nat → ByteArray, Y = fun k => ys.getD k ⟨#[]⟩ := ⟨_, rfl⟩
        rw [← hY] at d3 hT2
        have d4 := d3.later hb4
        have HB : Hid (Below w.heap.size w w4) := hb3.trans (hb4.mono hb3.size)
        have HX : Hid (Strs w4 ao5 m X) := c3
        have H0 : Hid (Strs w4 ao6 l0 Y ∧ l0 ≤ cap6 ∧ cap6 ≤ maxLen ∧ wlk tkM ((sl X m).drop 0) (sl Y l0) = T ∧ l0 ≤ 2 ^ 62) := ⟨d4, d1, d2, hT2.symm, hyl⟩
        clear h1 h2 hlf hln HT r5 r6 e5 e6 hb3 hb4 c1 c2 c3 d1 d2 d3 d4 hT2 hm hl0 hX hY hAB hAB' hyl
        go_wp2_with fail
        go_loopg [7, 9, 21] m (fun g s7 _ i wr => ∃ (k l cap : Nat) (ao : Option Addr) (Y : Nat → ByteArray), k + g = m ∧ i = .int .i64 (k : Int) ∧ s7 = .slice ao l cap ∧ wr = w4 ∧ Hid (Strs w4 ao l Y ∧ l ≤ cap ∧ cap ≤ maxLen ∧ wlk tkM ((sl X m).drop k) (sl Y l) = T ∧ l ≤ 2 ^ 62))
        case atStart => exact ⟨0, l0, cap6, ao6, Y, by omega, rfl, rfl, rfl, H0⟩
        case round =>
          obtain ⟨k, l, cap, ao, Z, hk, rfl, rfl, hw, HK⟩ := hrel
          obtain rfl := hw
          by_cases h : k < m
          · have h' : (k : Int) < (m : Int) := by omega
            obtain ⟨b, off, hao, hcell⟩ := HX.out k h
            subst hao
            have hd := HK.out.2.2.2.1
            rw [sl_drop X m k h] at hd
            have htk := fun (y : ByteArray) w => tkM_any (X k) y w
            obtain ⟨x, hx⟩ : ∃ x, x = X k := ⟨_, rfl⟩
            simp only [← hx] at hd htk hcell
            have hk62 : k ≤ 2 ^ 62 := by omega
            obtain ⟨GK, HG⟩ : ∃ g, Hid (g < gk ∧ k + 1 + g = m) := ⟨gk - 1, by omega, by omega⟩
            by_cases q : x.data.toList = [35]
            · have b35 : (x.toList == [35]) = true := by rw [tl_eq, q]; rfl
              have hF : T = true := by rw [← hd, q]; exact wlk_stop _ _ _
              subst hF
              clear hd q hx htk hk HK
              go_wp2_with fail
              go_ret
              exact ⟨rfl, HB.out⟩
            · have b35 : (x.toList == [35]) = false := by rw [tl_eq]; simpa using q
              cases l with
              | zero =>
                have hF : T = false := by rw [← hd, sl_zero]; exact wlk_end _ _ _ q
                subst hF
                clear hd q hx htk hk HK
                go_wp2_with fail
                go_ret
                exact ⟨rfl, HB.out⟩
              | succ l =>
                obtain ⟨b2, off2, hao2, hcell2⟩ := HK.out.1 0 (by omega)
                subst hao2
                rw [Nat.add_zero] at hcell2
                have hrest := @strs_rest wr b2 off2 l (cap - 1) Z HK.out.1 (by have := HK.out; omega)
                obtain ⟨rc, rfl⟩ : ∃ rc, cap = rc + 1 := ⟨cap - 1, by have := HK.out; omega⟩
                rw [Nat.add_sub_cancel] at hrest
                obtain ⟨b3, off3, hif, hZ3⟩ := hrest
                rw [sl_succ, wlk_on _ _ _ _ _ q] at hd
                obtain ⟨y, hy⟩ : ∃ y, y = Z 0 := ⟨_, rfl⟩
                simp only [← hy] at hd hcell2
                have hty := htk y
                have hl62 : l ≤ 2 ^ 62 := by have := HK.out; omega
                have hlr : (l : Int) ≤ (rc : Int) := by have := HK.out; omega
                have hz0 : (((l : Int) + 1) == 0) = false := by simp; omega
                have hlp : (0 : Int) < (l : Int) + 1 := by omega
                have HR : Hid (Strs wr (some ⟨b3, off3, none⟩) l (fun k => Z (k + 1)) ∧ l ≤ rc ∧ rc ≤ maxLen) := ⟨hZ3, by omega, by have := HK.out; omega⟩
                generalize tkM x.data.toList y.data.toList = O at hty hd
                clear htk hx hy hk q hZ3 HK
                cases O with
                | false =>
                  have hF : T = false := by rw [← hd]; rfl
                  subst hF
                  clear hd
                  go_wp2_with (go_at_call 17; refine (hty _).mono ?_; rintro e w5 ⟨rfl, hw⟩; obtain rfl := hw.symm)
                  go_ret
                  exact ⟨rfl, HB.out⟩
                | true =>
                  have HN : Hid (wlk tkM ((sl X m).drop (k + 1)) (sl (fun k => Z (k + 1)) l) = T) := (by simpa using hd : wlk tkM ((sl X m).drop (k + 1)) (sl (fun k => Z (k + 1)) l) = T)
                  clear hd
                  go_wp2_with (go_at_call 17; refine (hty _).mono ?_; rintro e w5 ⟨rfl, hw⟩; obtain rfl := hw.symm)
                  go_roundg GK
                  case measure => exact HG.out.1
                  case rel => exact ⟨k + 1, l, rc, _, _, HG.out.2, by go_num, rfl, rfl, HR.out.1, HR.out.2.1, HR.out.2.2, HN.out, by omega⟩
          · have h' : (m : Int) ≤ (k : Int) := by omega
            have hF : T = ((l : Int) == 0) := by
              have := HK.out.2.2.2.1
              rw [List.drop_eq_nil_of_le (by rw [sl_length]; omega)] at this
              rw [← this]
              cases l with
              | zero => rfl
              | succ l => rw [sl_succ]; simp [wlk]; omega
            subst hF
            clear hk h
            go_wp2_with fail
            go_ret
            exact ⟨rfl, HB.out⟩
    exact go
set_option maxHeartbeats 4000000 in
set_option maxRecDepth 100000 in
theorem byC_any (f n : ByteArray) (w : World) (hf : f.size ≤ 64) (hn : n.size ≤ 64) : Calls Tryd.prog 16 #[.string f, .string n, .func (Fn.func 18) #[] #[]] w fun e w' => e = .returned (.bool (!far f.data.toList n.data.toList && wlk tkC (lv f.data.toList) (lv n.data.toList))) ∧ Below w.heap.size w w' := by
  have h1 := fun w => pre_any n 36 w
  have h2 := fun w => begins_any f w
  have hlf := fun w => tsplit_any f w (by omega)
  have hln := fun w => tsplit_any n w (by omega)
  unfold far
  generalize (n.data.toList.head? == some 36) = A at h1 ⊢
  generalize (f.data.toList.head? == some 43 || f.data.toList.head? == some 35) = B at h2 ⊢
  by_cases hAB : (A && B) = true
  · simp only [hAB, Bool.not_true, Bool.false_and]
    obtain ⟨rfl, rfl⟩ : A = true ∧ B = true := by simpa using hAB
    clear hlf hln
    go_enter Tryd.func16, Tryd.ntmps16
    go_wp2_with (first | (go_at_call 23; refine (h1 _).mono ?_; rintro e w1 ⟨rfl, hw⟩; obtain rfl := hw.symm) | (go_at_call 24; refine (h2 _).mono ?_; rintro e w1 ⟨rfl, hw⟩; obtain rfl := hw.symm))
    go_ret
    exact ⟨rfl, Below.refl _ _⟩
  · have hAB' : (A && B) = false := by simpa using hAB
    simp only [hAB', Bool.not_false, Bool.true_and]
    obtain ⟨T, hT⟩ : ∃ T, T = wlk tkC (lv f.data.toList) (lv n.data.toList) := ⟨_, rfl⟩
    rw [← hT]
    have HT : Hid (T = wlk tkC (lv f.data.toList) (lv n.data.toList) ∧ f.size ≤ 64 ∧ n.size ≤ 64) := ⟨hT, hf, hn⟩
    clear hT hf hn
    have go : Calls Tryd.prog 16 #[.string f, .string n, .func (Fn.func 18) #[] #[]] w fun e w' => e = .returned (.bool T) ∧ Below w.heap.size w w' := by
      go_enter Tryd.func16, Tryd.ntmps16
      cases A with
      | true =>
        obtain rfl : B = false := by simpa using hAB'
        go_wp2_with (first | (go_at_call 23; refine (h1 _).mono ?_; rintro e w1 ⟨rfl, hw⟩; obtain rfl := hw.symm) | (go_at_call 24; refine (h2 _).mono ?_; rintro e w1 ⟨rfl, hw⟩; obtain rfl := hw.symm))
        refine (hln _).mono ?_
        rintro e w3 ⟨v6, ys, rfl, r6, e6, hb3⟩
        obtain ⟨ao6, cap6, rfl, d1, d2, d3⟩ := r6.strs
        go_wp2_with fail
        refine (hlf _).mono ?_
        rintro e w4 ⟨v5, xs, rfl, r5, e5, hb4⟩
        obtain ⟨ao5, cap5, rfl, c1, c2, c3⟩ := r5.strs
        have hT2 := HT.out.1
        rw [← e5, ← e6, ← sl_xs, ← sl_xs] at hT2
        have hxl : xs.length ≤ 2 ^ 62 := by
          have h3 := lv_length f.data.toList
          have h4 := List.count_le_length (a := (47 : UInt8)) (l := f.data.toList)
          rw [len_data] at h4
          rw [← e5, List.length_map] at h3
          have := HT.out
          omega
        have hyl : ys.length ≤ 2 ^ 62 := by
          have h3 := lv_length n.data.toList
          have h4 := List.count_le_length (a := (47 : UInt8)) (l := n.data.toList)
          rw [len_data] at h4
          rw [← e6, List.length_map] at h3
          have := HT.out
          omega
        obtain ⟨m, hm⟩ : ∃ m, m = xs.length := ⟨_, rfl⟩
        rw [← hm] at c1 c3 hT2 hxl ⊢
        obtain ⟨l0, hl0⟩ : ∃ l0, l0 = ys.length := ⟨_, rfl⟩
        rw [← hl0] at d1 d3 hT2 hyl ⊢
        obtain ⟨X, hX⟩ : ∃ X : Nat → ByteArray, X = fun k => xs.getD k ⟨#[]⟩ := ⟨_, rfl⟩
        rw [← hX] at c3 hT2
        obtain ⟨Y, hY⟩ : ∃ Y : Nat → ByteArray, Y = fun k => ys.getD k ⟨#[]⟩ := ⟨_, rfl⟩
        rw [← hY] at d3 hT2
        have d4 := d3.later hb4
        have HB : Hid (Below w.heap.size w w4) := hb3.trans (hb4.mono hb3.size)
        have HX : Hid (Strs w4 ao5 m X) := c3
        have H0 : Hid (Strs w4 ao6 l0 Y ∧ l0 ≤ cap6 ∧ cap6 ≤ maxLen ∧ wlk tkC ((sl X m).drop 0) (sl Y l0) = T ∧ l0 ≤ 2 ^ 62) := ⟨d4, d1, d2, hT2.symm, hyl⟩
        clear h1 h2 hlf hln HT r5 r6 e5 e6 hb3 hb4 c1 c2 c3 d1 d2 d3 d4 hT2 hm hl0 hX hY hAB hAB' hyl
        go_wp2_with fail
        go_loopg [7, 9, 21] m (fun g s7 _ i wr => ∃ (k l cap : Nat) (ao : Option Addr) (Y : Nat → ByteArray), k + g = m ∧ i = .int .i64 (k : Int) ∧ s7 = .slice ao l cap ∧ wr = w4 ∧ Hid (Strs w4 ao l Y ∧ l ≤ cap ∧ cap ≤ maxLen ∧ wlk tkC ((sl X m).drop k) (sl Y l) = T ∧ l ≤ 2 ^ 62))
        case atStart => exact ⟨0, l0, cap6, ao6, Y, by omega, rfl, rfl, rfl, H0⟩
        case round =>
          obtain ⟨k, l, cap, ao, Z, hk, rfl, rfl, hw, HK⟩ := hrel
          obtain rfl := hw
          by_cases h : k < m
          · have h' : (k : Int) < (m : Int) := by omega
            obtain ⟨b, off, hao, hcell⟩ := HX.out k h
            subst hao
            have hd := HK.out.2.2.2.1
            rw [sl_drop X m k h] at hd
            have htk := fun (y : ByteArray) w => tkC_any (X k) y w
            obtain ⟨x, hx⟩ : ∃ x, x = X k := ⟨_, rfl⟩
            simp only [← hx] at hd htk hcell
            have hk62 : k ≤ 2 ^ 62 := by omega
            obtain ⟨GK, HG⟩ : ∃ g, Hid (g < gk ∧ k + 1 + g = m) := ⟨gk - 1, by omega, by omega⟩
            by_cases q : x.data.toList = [35]
            · have b35 : (x.toList == [35]) = true := by rw [tl_eq, q]; rfl
              have hF : T = true := by rw [← hd, q]; exact wlk_stop _ _ _
              subst hF
              clear hd q hx htk hk HK
              go_wp2_with fail
              go_ret
              exact ⟨rfl, HB.out⟩
            · have b35 : (x.toList == [35]) = false := by rw [tl_eq]; simpa using q
              cases l with
              | zero =>
                have hF : T = false := by rw [← hd, sl_zero]; exact wlk_end _ _ _ q
                subst hF
                clear hd q hx htk hk HK
                go_wp2_with fail
                go_ret
                exact ⟨rfl, HB.out⟩
              | succ l =>
                obtain ⟨b2, off2, hao2, hcell2⟩ := HK.out.1 0 (by omega)
                subst hao2
                rw [Nat.add_zero] at hcell2
                have hrest := @strs_rest wr b2 off2 l (cap - 1) Z HK.out.1 (by have := HK.out; omega)
                obtain ⟨rc, rfl⟩ : ∃ rc, cap = rc + 1 := ⟨cap - 1, by have := HK.out; omega⟩
                rw [Nat.add_sub_cancel] at hrest
                obtain ⟨b3, off3, hif, hZ3⟩ := hrest
                rw [sl_succ, wlk_on _ _ _ _ _ q] at hd
                obtain ⟨y, hy⟩ : ∃ y, y = Z 0 := ⟨_, rfl⟩
                simp only [← hy] at hd hcell2
                have hty := htk y
                have hl62 : l ≤ 2 ^ 62 := by have := HK.out; omega
                have hlr : (l : Int) ≤ (rc : Int) := by have := HK.out; omega
                have hz0 : (((l : Int) + 1) == 0) = false := by simp; omega
                have hlp : (0 : Int) < (l : Int) + 1 := by omega
                have HR : Hid (Strs wr (some ⟨b3, off3, none⟩) l (fun k => Z (k + 1)) ∧ l ≤ rc ∧ rc ≤ maxLen) := ⟨hZ3, by omega, by have := HK.out; omega⟩
                generalize tkC x.data.toList y.data.toList = O at hty hd
                clear htk hx hy hk q hZ3 HK
                cases O with
                | false =>
                  have hF : T = false := by rw [← hd]; rfl
                  subst hF
                  clear hd
                  go_wp2_with (go_at_call 18; refine (hty _).mono ?_; rintro e w5 ⟨rfl, hw⟩; obtain rfl := hw.symm)
                  go_ret
                  exact ⟨rfl, HB.out⟩
                | true =>
                  have HN : Hid (wlk tkC ((sl X m).drop (k + 1)) (sl (fun k => Z (k + 1)) l) = T) := (by simpa using hd : wlk tkC ((sl X m).drop (k + 1)) (sl (fun k => Z (k + 1)) l) = T)
                  clear hd
                  go_wp2_with (go_at_call 18; refine (hty _).mono ?_; rintro e w5 ⟨rfl, hw⟩; obtain rfl := hw.symm)
                  go_roundg GK
                  case measure => exact HG.out.1
                  case rel => exact ⟨k + 1, l, rc, _, _, HG.out.2, by go_num, rfl, rfl, HR.out.1, HR.out.2.1, HR.out.2.2, HN.out, by omega⟩
          · have h' : (m : Int) ≤ (k : Int) := by omega
            have hF : T = ((l : Int) == 0) := by
              have := HK.out.2.2.2.1
              rw [List.drop_eq_nil_of_le (by rw [sl_length]; omega)] at this
              rw [← this]
              cases l with
              | zero => rfl
              | succ l => rw [sl_succ]; simp [wlk]; omega
            subst hF
            clear hk h
            go_wp2_with fail
            go_ret
            exact ⟨rfl, HB.out⟩
      | false =>
        go_wp2_with (first | (go_at_call 23; refine (h1 _).mono ?_; rintro e w1 ⟨rfl, hw⟩; obtain rfl := hw.symm))
        refine (hln _).mono ?_
        rintro e w3 ⟨v6, ys, rfl, r6, e6, hb3⟩
        obtain ⟨ao6, cap6, rfl, d1, d2, d3⟩ := r6.strs
        go_wp2_with fail
        refine (hlf _).mono ?_
        rintro e w4 ⟨v5, xs, rfl, r5, e5, hb4⟩
        obtain ⟨ao5, cap5, rfl, c1, c2, c3⟩ := r5.strs
        have hT2 := HT.out.1
        rw [← e5, ← e6, ← sl_xs, ← sl_xs] at hT2
        have hxl : xs.length ≤ 2 ^ 62 := by
          have h3 := lv_length f.data.toList
          have h4 := List.count_le_length (a := (47 : UInt8)) (l := f.data.toList)
          rw [len_data] at h4
          rw [← e5, List.length_map] at h3
          have := HT.out
          omega
        have hyl : ys.length ≤ 2 ^ 62 := by
          have h3 := lv_length n.data.toList
          have h4 := List.count_le_length (a := (47 : UInt8)) (l := n.data.toList)
          rw [len_data] at h4
          rw [← e6, List.length_map] at h3
          have := HT.out
          omega
        obtain ⟨m, hm⟩ : ∃ m, m = xs.length := ⟨_, rfl⟩
        rw [← hm] at c1 c3 hT2 hxl ⊢
        obtain ⟨l0, hl0⟩ : ∃ l0, l0 = ys.length := ⟨_, rfl⟩
        rw [← hl0] at d1 d3 hT2 hyl ⊢
        obtain ⟨X, hX⟩ : ∃ X : Nat → ByteArray, X = fun k => xs.getD k ⟨#[]⟩ := ⟨_, rfl⟩
        rw [← hX] at c3 hT2
        obtain ⟨Y, hY⟩ : ∃ Y : Nat → ByteArray, Y = fun k => ys.getD k ⟨#[]⟩ := ⟨_, rfl⟩
        rw [← hY] at d3 hT2
        have d4 := d3.later hb4
        have HB : Hid (Below w.heap.size w w4) := hb3.trans (hb4.mono hb3.size)
        have HX : Hid (Strs w4 ao5 m X) := c3
        have H0 : Hid (Strs w4 ao6 l0 Y ∧ l0 ≤ cap6 ∧ cap6 ≤ maxLen ∧ wlk tkC ((sl X m).drop 0) (sl Y l0) = T ∧ l0 ≤ 2 ^ 62) := ⟨d4, d1, d2, hT2.symm, hyl⟩
        clear h1 h2 hlf hln HT r5 r6 e5 e6 hb3 hb4 c1 c2 c3 d1 d2 d3 d4 hT2 hm hl0 hX hY hAB hAB' hyl
        go_wp2_with fail
        go_loopg [7, 9, 21] m (fun g s7 _ i wr => ∃ (k l cap : Nat) (ao : Option Addr) (Y : Nat → ByteArray), k + g = m ∧ i = .int .i64 (k : Int) ∧ s7 = .slice ao l cap ∧ wr = w4 ∧ Hid (Strs w4 ao l Y ∧ l ≤ cap ∧ cap ≤ maxLen ∧ wlk tkC ((sl X m).drop k) (sl Y l) = T ∧ l ≤ 2 ^ 62))
        case atStart => exact ⟨0, l0, cap6, ao6, Y, by omega, rfl, rfl, rfl, H0⟩
        case round =>
          obtain ⟨k, l, cap, ao, Z, hk, rfl, rfl, hw, HK⟩ := hrel
          obtain rfl := hw
          by_cases h : k < m
          · have h' : (k : Int) < (m : Int) := by omega
            obtain ⟨b, off, hao, hcell⟩ := HX.out k h
            subst hao
            have hd := HK.out.2.2.2.1
            rw [sl_drop X m k h] at hd
            have htk := fun (y : ByteArray) w => tkC_any (X k) y w
            obtain ⟨x, hx⟩ : ∃ x, x = X k := ⟨_, rfl⟩
            simp only [← hx] at hd htk hcell
            have hk62 : k ≤ 2 ^ 62 := by omega
            obtain ⟨GK, HG⟩ : ∃ g, Hid (g < gk ∧ k + 1 + g = m) := ⟨gk - 1, by omega, by omega⟩
            by_cases q : x.data.toList = [35]
            · have b35 : (x.toList == [35]) = true := by rw [tl_eq, q]; rfl
              have hF : T = true := by rw [← hd, q]; exact wlk_stop _ _ _
              subst hF
              clear hd q hx htk hk HK
              go_wp2_with fail
              go_ret
              exact ⟨rfl, HB.out⟩
            · have b35 : (x.toList == [35]) = false := by rw [tl_eq]; simpa using q
              cases l with
              | zero =>
                have hF : T = false := by rw [← hd, sl_zero]; exact wlk_end _ _ _ q
                subst hF
                clear hd q hx htk hk HK
                go_wp2_with fail
                go_ret
                exact ⟨rfl, HB.out⟩
              | succ l =>
                obtain ⟨b2, off2, hao2, hcell2⟩ := HK.out.1 0 (by omega)
                subst hao2
                rw [Nat.add_zero] at hcell2
                have hrest := @strs_rest wr b2 off2 l (cap - 1) Z HK.out.1 (by have := HK.out; omega)
                obtain ⟨rc, rfl⟩ : ∃ rc, cap = rc + 1 := ⟨cap - 1, by have := HK.out; omega⟩
                rw [Nat.add_sub_cancel] at hrest
                obtain ⟨b3, off3, hif, hZ3⟩ := hrest
                rw [sl_succ, wlk_on _ _ _ _ _ q] at hd
                obtain ⟨y, hy⟩ : ∃ y, y = Z 0 := ⟨_, rfl⟩
                simp only [← hy] at hd hcell2
                have hty := htk y
                have hl62 : l ≤ 2 ^ 62 := by have := HK.out; omega
                have hlr : (l : Int) ≤ (rc : Int) := by have := HK.out; omega
                have hz0 : (((l : Int) + 1) == 0) = false := by simp; omega
                have hlp : (0 : Int) < (l : Int) + 1 := by omega
                have HR : Hid (Strs wr (some ⟨b3, off3, none⟩) l (fun k => Z (k + 1)) ∧ l ≤ rc ∧ rc ≤ maxLen) := ⟨hZ3, by omega, by have := HK.out; omega⟩
                generalize tkC x.data.toList y.data.toList = O at hty hd
                clear htk hx hy hk q hZ3 HK
                cases O with
                | false =>
                  have hF : T = false := by rw [← hd]; rfl
                  subst hF
                  clear hd
                  go_wp2_with (go_at_call 18; refine (hty _).mono ?_; rintro e w5 ⟨rfl, hw⟩; obtain rfl := hw.symm)
                  go_ret
                  exact ⟨rfl, HB.out⟩
                | true =>
                  have HN : Hid (wlk tkC ((sl X m).drop (k + 1)) (sl (fun k => Z (k + 1)) l) = T) := (by simpa using hd : wlk tkC ((sl X m).drop (k + 1)) (sl (fun k => Z (k + 1)) l) = T)
                  clear hd
                  go_wp2_with (go_at_call 18; refine (hty _).mono ?_; rintro e w5 ⟨rfl, hw⟩; obtain rfl := hw.symm)
                  go_roundg GK
                  case measure => exact HG.out.1
                  case rel => exact ⟨k + 1, l, rc, _, _, HG.out.2, by go_num, rfl, rfl, HR.out.1, HR.out.2.1, HR.out.2.2, HN.out, by omega⟩
          · have h' : (m : Int) ≤ (k : Int) := by omega
            have hF : T = ((l : Int) == 0) := by
              have := HK.out.2.2.2.1
              rw [List.drop_eq_nil_of_le (by rw [sl_length]; omega)] at this
              rw [← this]
              cases l with
              | zero => rfl
              | succ l => rw [sl_succ]; simp [wlk]; omega
            subst hF
            clear hk h
            go_wp2_with fail
            go_ret
            exact ⟨rfl, HB.out⟩
    exact go
end Go.Proofs.YtlbbaniehkghdabDoor
