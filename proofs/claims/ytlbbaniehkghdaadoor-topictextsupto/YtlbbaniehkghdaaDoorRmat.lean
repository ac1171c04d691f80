/- The document's own Match and Covers. -/
import Derived.Test.YtlbbaniehkghdaaDoorRfil
import Derived.WalkSmall
namespace Go.Proofs.YtlbbaniehkghdaaDoor
open Go.RowKit
set_option linter.unusedVariables false

theorem fil_size (s : ByteArray) (h : fil s.data.toList = true) : 1 ≤ s.size ∧ s.size ≤ 64 := by
  simp only [fil, Bool.and_eq_true, decide_eq_true_eq, len_data] at h
  exact h.1.1
theorem nam_size (s : ByteArray) (h : nam s.data.toList = true) : 1 ≤ s.size ∧ s.size ≤ 64 := by
  simp only [nam, Bool.and_eq_true, decide_eq_true_eq, len_data] at h
  exact h.1.1
theorem head_str (s : ByteArray) (h : 0 < s.size) : s.data.toList.head? = some s[0] := by
  have := drop_bytes s 0 h
  rw [List.drop_zero] at this
  rw [this]
  rfl
theorem far_str (f n : ByteArray) (hf : 0 < f.size) (hn : 0 < n.size) : far f.data.toList n.data.toList = (((n[0].toNat : Int) == 36) && (((f[0].toNat : Int) == 43) || ((f[0].toNat : Int) == 35))) := by
  unfold far
  rw [head_str f hf, head_str n hn]
  have e36 : (n[0] == 36) = ((n[0].toNat : Int) == 36) := u8_nat n[0] 36 (by decide)
  have e43 : (f[0] == 43) = ((f[0].toNat : Int) == 43) := u8_nat f[0] 43 (by decide)
  have e35 : (f[0] == 35) = ((f[0].toNat : Int) == 35) := u8_nat f[0] 35 (by decide)
  rw [← e36, ← e43, ← e35]
  rfl

set_option maxHeartbeats 2000000 in
set_option maxRecDepth 100000 in
theorem rmat_any (f n : ByteArray) (w : World) (hf : f.size ≤ maxLen) (hn : n.size ≤ maxLen) : Calls Tryd.prog 22 #[.string f, .string n] w fun e w' => e = .returned (.bool (mat f.data.toList n.data.toList)) ∧ Below w.heap.size w w' := by
  have h1 := rfil_any f w hf
  have h2 := fun w => rname_any n w hn
  have hfs := fil_size f
  have hns := nam_size n
  unfold mat
  generalize hFe : fil f.data.toList = F at h1 ⊢
  generalize hNe : nam n.data.toList = NN at h2 ⊢
  cases F with
  | false =>
    simp only [Bool.false_and]
    clear h2 hf hn hfs hns
    go_enter Tryd.func22, Tryd.ntmps22
    go_wp2_with fail
    refine h1.mono ?_
    rintro e w1 ⟨rfl, hb1⟩
    go_wp2_with fail
    go_ret
    exact ⟨rfl, hb1⟩
  | true =>
    cases NN with
    | false =>
      simp only [Bool.true_and, Bool.false_and]
      clear hf hn hfs hns
      go_enter Tryd.func22, Tryd.ntmps22
      go_wp2_with fail
      refine h1.mono ?_
      rintro e w1 ⟨rfl, hb1⟩
      go_wp2_with fail
      refine (h2 w1).mono ?_
      rintro e w2 ⟨rfl, hb2⟩
      go_wp2_with fail
      go_ret
      exact ⟨rfl, hb1.trans (hb2.mono hb1.size)⟩
    | true =>
      simp only [Bool.true_and]
      obtain ⟨f1, f64⟩ := hfs hFe
      obtain ⟨n1, n64⟩ := hns hNe
      have hf1 : (0 : Int) < (f.size : Int) := by omega
      have hn1 : (0 : Int) < (n.size : Int) := by omega
      have hfar := far_str f n f1 n1
      have hlf := fun w => rlev_any f w (by omega)
      have hln := fun w => rlev_any n w (by omega)
      have fin : ∀ (w2 w3 w4 : World) (m : Nat), Below w.heap.size w w2 → Below w2.heap.size w2 w3 → Below w3.heap.size w3 w4 → Below w.heap.size w (w4.drewN m) := fun w2 w3 w4 m a b c => below_drewN ((a.trans (b.mono a.size)).trans (c.mono (a.trans (b.mono a.size)).size)) m
      clear hf hn hfs hns hFe hNe f64 n64
      by_cases q : (n[0].toNat : Int) = 36
      · have b36 : ((n[0].toNat : Int) == 36) = true := by simp [q]
        by_cases q1 : (f[0].toNat : Int) = 43
        · have e : far f.data.toList n.data.toList = true := by rw [hfar]; simp [q, q1]
          rw [e]
          simp only [Bool.not_true, Bool.false_and]
          clear hlf hln e
          go_enter Tryd.func22, Tryd.ntmps22
          go_wp2_with fail
          refine h1.mono ?_
          rintro e w1 ⟨rfl, hb1⟩
          go_wp2_with fail
          refine (h2 w1).mono ?_
          rintro e w2 ⟨rfl, hb2⟩
          go_wp2_with fail
          go_ret
          exact ⟨rfl, hb1.trans (hb2.mono hb1.size)⟩
        · have b43 : ((f[0].toNat : Int) == 43) = false := by simp [q1]
          by_cases q2 : (f[0].toNat : Int) = 35
          · have e : far f.data.toList n.data.toList = true := by rw [hfar]; simp [q, q2]
            rw [e]
            simp only [Bool.not_true, Bool.false_and]
            clear hlf hln e
            go_enter Tryd.func22, Tryd.ntmps22
            go_wp2_with fail
            refine h1.mono ?_
            rintro e w1 ⟨rfl, hb1⟩
            go_wp2_with fail
            refine (h2 w1).mono ?_
            rintro e w2 ⟨rfl, hb2⟩
            go_wp2_with fail
            go_ret
            exact ⟨rfl, hb1.trans (hb2.mono hb1.size)⟩
          · have b35 : ((f[0].toNat : Int) == 35) = false := by simp [q2]
            have e : far f.data.toList n.data.toList = false := by rw [hfar, b36, b43, b35]; rfl
            rw [e]
            simp only [Bool.not_false, Bool.true_and]
            clear hfar e
            have hmt : ∀ (w3 : World) (v5 v6 : Value) (xs ys : List ByteArray) (w4 : World) (B5 B6 : Nat), RowS B5 w3 v5 xs → RowS B6 w4 v6 ys → xs.map (fun x => x.data.toList) = lv f.data.toList → ys.map (fun x => x.data.toList) = lv n.data.toList → Below w3.heap.size w3 w4 → Calls Tryd.prog 35 #[v5, v6] w4 fun e w' => e = .returned (.bool (mts (lv f.data.toList) (lv n.data.toList))) ∧ ∃ m, w' = w4.drewN m := fun w3 v5 v6 xs ys w4 B5 B6 r5 r6 e5 e6 hb => by
              obtain ⟨ao5, cap5, rfl, c1, c2, c3⟩ := r5.strs
              obtain ⟨ao6, cap6, rfl, d1, d2, d3⟩ := r6.strs
              have := rmeets_any xs.length ao5 cap5 _ ao6 ys.length cap6 _ w4 (c3.later hb) d3 c1 c2 d1 d2
              rw [sl_xs, sl_xs, e5, e6] at this
              exact this
            generalize mts (lv f.data.toList) (lv n.data.toList) = R at hmt ⊢
            go_enter Tryd.func22, Tryd.ntmps22
            go_wp2_with fail
            refine h1.mono ?_
            rintro e w1 ⟨rfl, hb1⟩
            go_wp2_with fail
            refine (h2 w1).mono ?_
            rintro e w2 ⟨rfl, hb2⟩
            go_wp2_with fail
            refine (hlf w2).mono ?_
            rintro e w3 ⟨v5, xs, rfl, r5, e5, hb3⟩
            have H5 : Hid (RowS w2.heap.size w3 v5 xs ∧ xs.map (fun x => x.data.toList) = lv f.data.toList ∧ Below w2.heap.size w2 w3) := ⟨r5, e5, hb3⟩
            clear r5 e5 hb3
            go_wp2_with fail
            refine (hln w3).mono ?_
            rintro e w4 ⟨v6, ys, rfl, r6, e6, hb4⟩
            have H6 : Hid (RowS w3.heap.size w4 v6 ys ∧ ys.map (fun x => x.data.toList) = lv n.data.toList ∧ Below w3.heap.size w3 w4) := ⟨r6, e6, hb4⟩
            clear r6 e6 hb4
            go_wp2_with fail
            refine (hmt w3 v5 v6 xs ys w4 _ _ H5.out.1 H6.out.1 H5.out.2.1 H6.out.2.1 H6.out.2.2).mono ?_
            rintro e w5 ⟨rfl, m5, rfl⟩
            go_wp2_with fail
            go_ret
            exact ⟨rfl, fin _ _ _ _ (hb1.trans (hb2.mono hb1.size)) H5.out.2.2 H6.out.2.2⟩
      · have b36 : ((n[0].toNat : Int) == 36) = false := by simp [q]
        have e : far f.data.toList n.data.toList = false := by rw [hfar, b36]; rfl
        rw [e]
        simp only [Bool.not_false, Bool.true_and]
        clear hfar e
        have hmt : ∀ (w3 : World) (v5 v6 : Value) (xs ys : List ByteArray) (w4 : World) (B5 B6 : Nat), RowS B5 w3 v5 xs → RowS B6 w4 v6 ys → xs.map (fun x => x.data.toList) = lv f.data.toList → ys.map (fun x => x.data.toList) = lv n.data.toList → Below w3.heap.size w3 w4 → Calls Tryd.prog 35 #[v5, v6] w4 fun e w' => e = .returned (.bool (mts (lv f.data.toList) (lv n.data.toList))) ∧ ∃ m, w' = w4.drewN m := fun w3 v5 v6 xs ys w4 B5 B6 r5 r6 e5 e6 hb => by
          obtain ⟨ao5, cap5, rfl, c1, c2, c3⟩ := r5.strs
          obtain ⟨ao6, cap6, rfl, d1, d2, d3⟩ := r6.strs
          have := rmeets_any xs.length ao5 cap5 _ ao6 ys.length cap6 _ w4 (c3.later hb) d3 c1 c2 d1 d2
          rw [sl_xs, sl_xs, e5, e6] at this
          exact this
        generalize mts (lv f.data.toList) (lv n.data.toList) = R at hmt ⊢
        go_enter Tryd.func22, Tryd.ntmps22
        go_wp2_with fail
        refine h1.mono ?_
        rintro e w1 ⟨rfl, hb1⟩
        go_wp2_with fail
        refine (h2 w1).mono ?_
        rintro e w2 ⟨rfl, hb2⟩
        go_wp2_with fail
        refine (hlf w2).mono ?_
        rintro e w3 ⟨v5, xs, rfl, r5, e5, hb3⟩
        have H5 : Hid (RowS w2.heap.size w3 v5 xs ∧ xs.map (fun x => x.data.toList) = lv f.data.toList ∧ Below w2.heap.size w2 w3) := ⟨r5, e5, hb3⟩
        clear r5 e5 hb3
        go_wp2_with fail
        refine (hln w3).mono ?_
        rintro e w4 ⟨v6, ys, rfl, r6, e6, hb4⟩
        have H6 : Hid (RowS w3.heap.size w4 v6 ys ∧ ys.map (fun x => x.data.toList) = lv n.data.toList ∧ Below w3.heap.size w3 w4) := ⟨r6, e6, hb4⟩
        clear r6 e6 hb4
        go_wp2_with fail
        refine (hmt w3 v5 v6 xs ys w4 _ _ H5.out.1 H6.out.1 H5.out.2.1 H6.out.2.1 H6.out.2.2).mono ?_
        rintro e w5 ⟨rfl, m5, rfl⟩
        go_wp2_with fail
        go_ret
        exact ⟨rfl, fin _ _ _ _ (hb1.trans (hb2.mono hb1.size)) H5.out.2.2 H6.out.2.2⟩

set_option maxHeartbeats 2000000 in
set_option maxRecDepth 100000 in
theorem rcov_any (f n : ByteArray) (w : World) (hf : f.size ≤ maxLen) (hn : n.size ≤ maxLen) : Calls Tryd.prog 24 #[.string f, .string n] w fun e w' => e = .returned (.bool (cov f.data.toList n.data.toList)) ∧ Below w.heap.size w w' := by
  have h1 := rfil_any f w hf
  have h2 := fun w => rfil_any n w hn
  have hfs := fil_size f
  have hns := fil_size n
  unfold cov
  generalize hFe : fil f.data.toList = F at h1 ⊢
  generalize hNe : fil n.data.toList = NN at h2 ⊢
  cases F with
  | false =>
    simp only [Bool.false_and]
    clear h2 hf hn hfs hns
    go_enter Tryd.func24, Tryd.ntmps24
    go_wp2_with fail
    refine h1.mono ?_
    rintro e w1 ⟨rfl, hb1⟩
    go_wp2_with fail
    go_ret
    exact ⟨rfl, hb1⟩
  | true =>
    cases NN with
    | false =>
      simp only [Bool.true_and, Bool.false_and]
      clear hf hn hfs hns
      go_enter Tryd.func24, Tryd.ntmps24
      go_wp2_with fail
      refine h1.mono ?_
      rintro e w1 ⟨rfl, hb1⟩
      go_wp2_with fail
      refine (h2 w1).mono ?_
      rintro e w2 ⟨rfl, hb2⟩
      go_wp2_with fail
      go_ret
      exact ⟨rfl, hb1.trans (hb2.mono hb1.size)⟩
    | true =>
      simp only [Bool.true_and]
      obtain ⟨f1, f64⟩ := hfs hFe
      obtain ⟨n1, n64⟩ := hns hNe
      have hf1 : (0 : Int) < (f.size : Int) := by omega
      have hn1 : (0 : Int) < (n.size : Int) := by omega
      have hfar := far_str f n f1 n1
      have hlf := fun w => rlev_any f w (by omega)
      have hln := fun w => rlev_any n w (by omega)
      have fin : ∀ (w2 w3 w4 : World) (m : Nat), Below w.heap.size w w2 → Below w2.heap.size w2 w3 → Below w3.heap.size w3 w4 → Below w.heap.size w (w4.drewN m) := fun w2 w3 w4 m a b c => below_drewN ((a.trans (b.mono a.size)).trans (c.mono (a.trans (b.mono a.size)).size)) m
      clear hf hn hfs hns hFe hNe f64 n64
      by_cases q : (n[0].toNat : Int) = 36
      · have b36 : ((n[0].toNat : Int) == 36) = true := by simp [q]
        by_cases q1 : (f[0].toNat : Int) = 43
        · have e : far f.data.toList n.data.toList = true := by rw [hfar]; simp [q, q1]
          rw [e]
          simp only [Bool.not_true, Bool.false_and]
          clear hlf hln e
          go_enter Tryd.func24, Tryd.ntmps24
          go_wp2_with fail
          refine h1.mono ?_
          rintro e w1 ⟨rfl, hb1⟩
          go_wp2_with fail
          refine (h2 w1).mono ?_
          rintro e w2 ⟨rfl, hb2⟩
          go_wp2_with fail
          go_ret
          exact ⟨rfl, hb1.trans (hb2.mono hb1.size)⟩
        · have b43 : ((f[0].toNat : Int) == 43) = false := by simp [q1]
          by_cases q2 : (f[0].toNat : Int) = 35
          · have e : far f.data.toList n.data.toList = true := by rw [hfar]; simp [q, q2]
            rw [e]
            simp only [Bool.not_true, Bool.false_and]
            clear hlf hln e
            go_enter Tryd.func24, Tryd.ntmps24
            go_wp2_with fail
            refine h1.mono ?_
            rintro e w1 ⟨rfl, hb1⟩
            go_wp2_with fail
            refine (h2 w1).mono ?_
            rintro e w2 ⟨rfl, hb2⟩
            go_wp2_with fail
            go_ret
            exact ⟨rfl, hb1.trans (hb2.mono hb1.size)⟩
          · have b35 : ((f[0].toNat : Int) == 35) = false := by simp [q2]
            have e : far f.data.toList n.data.toList = false := by rw [hfar, b36, b43, b35]; rfl
            rw [e]
            simp only [Bool.not_false, Bool.true_and]
            clear hfar e
            have hmt : ∀ (w3 : World) (v5 v6 : Value) (xs ys : List ByteArray) (w4 : World) (B5 B6 : Nat), RowS B5 w3 v5 xs → RowS B6 w4 v6 ys → xs.map (fun x => x.data.toList) = lv f.data.toList → ys.map (fun x => x.data.toList) = lv n.data.toList → Below w3.heap.size w3 w4 → Calls Tryd.prog 37 #[v5, v6] w4 fun e w' => e = .returned (.bool (cvs (lv f.data.toList) (lv n.data.toList))) ∧ ∃ m, w' = w4.drewN m := fun w3 v5 v6 xs ys w4 B5 B6 r5 r6 e5 e6 hb => by
              obtain ⟨ao5, cap5, rfl, c1, c2, c3⟩ := r5.strs
              obtain ⟨ao6, cap6, rfl, d1, d2, d3⟩ := r6.strs
              have := rcovers_any xs.length ao5 cap5 _ ao6 ys.length cap6 _ w4 (c3.later hb) d3 c1 c2 d1 d2
              rw [sl_xs, sl_xs, e5, e6] at this
              exact this
            generalize cvs (lv f.data.toList) (lv n.data.toList) = R at hmt ⊢
            go_enter Tryd.func24, Tryd.ntmps24
            go_wp2_with fail
            refine h1.mono ?_
            rintro e w1 ⟨rfl, hb1⟩
            go_wp2_with fail
            refine (h2 w1).mono ?_
            rintro e w2 ⟨rfl, hb2⟩
            go_wp2_with fail
            refine (hlf w2).mono ?_
            rintro e w3 ⟨v5, xs, rfl, r5, e5, hb3⟩
            have H5 : Hid (RowS w2.heap.size w3 v5 xs ∧ xs.map (fun x => x.data.toList) = lv f.data.toList ∧ Below w2.heap.size w2 w3) := ⟨r5, e5, hb3⟩
            clear r5 e5 hb3
            go_wp2_with fail
            refine (hln w3).mono ?_
            rintro e w4 ⟨v6, ys, rfl, r6, e6, hb4⟩
            have H6 : Hid (RowS w3.heap.size w4 v6 ys ∧ ys.map (fun x => x.data.toList) = lv n.data.toList ∧ Below w3.heap.size w3 w4) := ⟨r6, e6, hb4⟩
            clear r6 e6 hb4
            go_wp2_with fail
            refine (hmt w3 v5 v6 xs ys w4 _ _ H5.out.1 H6.out.1 H5.out.2.1 H6.out.2.1 H6.out.2.2).mono ?_
            rintro e w5 ⟨rfl, m5, rfl⟩
            go_wp2_with fail
            go_ret
            exact ⟨rfl, fin _ _ _ _ (hb1.trans (hb2.mono hb1.size)) H5.out.2.2 H6.out.2.2⟩
      · have b36 : ((n[0].toNat : Int) == 36) = false := by simp [q]
        have e : far f.data.toList n.data.toList = false := by rw [hfar, b36]; rfl
        rw [e]
        simp only [Bool.not_false, Bool.true_and]
        clear hfar e
        have hmt : ∀ (w3 : World) (v5 v6 : Value) (xs ys : List ByteArray) (w4 : World) (B5 B6 : Nat), RowS B5 w3 v5 xs → RowS B6 w4 v6 ys → xs.map (fun x => x.data.toList) = lv f.data.toList → ys.map (fun x => x.data.toList) = lv n.data.toList → Below w3.heap.size w3 w4 → Calls Tryd.prog 37 #[v5, v6] w4 fun e w' => e = .returned (.bool (cvs (lv f.data.toList) (lv n.data.toList))) ∧ ∃ m, w' = w4.drewN m := fun w3 v5 v6 xs ys w4 B5 B6 r5 r6 e5 e6 hb => by
          obtain ⟨ao5, cap5, rfl, c1, c2, c3⟩ := r5.strs
          obtain ⟨ao6, cap6, rfl, d1, d2, d3⟩ := r6.strs
          have := rcovers_any xs.length ao5 cap5 _ ao6 ys.length cap6 _ w4 (c3.later hb) d3 c1 c2 d1 d2
          rw [sl_xs, sl_xs, e5, e6] at this
          exact this
        generalize cvs (lv f.data.toList) (lv n.data.toList) = R at hmt ⊢
        go_enter Tryd.func24, Tryd.ntmps24
        go_wp2_with fail
        refine h1.mono ?_
        rintro e w1 ⟨rfl, hb1⟩
        go_wp2_with fail
        refine (h2 w1).mono ?_
        rintro e w2 ⟨rfl, hb2⟩
        go_wp2_with fail
        refine (hlf w2).mono ?_
        rintro e w3 ⟨v5, xs, rfl, r5, e5, hb3⟩
        have H5 : Hid (RowS w2.heap.size w3 v5 xs ∧ xs.map (fun x => x.data.toList) = lv f.data.toList ∧ Below w2.heap.size w2 w3) := ⟨r5, e5, hb3⟩
        clear r5 e5 hb3
        go_wp2_with fail
        refine (hln w3).mono ?_
        rintro e w4 ⟨v6, ys, rfl, r6, e6, hb4⟩
        have H6 : Hid (RowS w3.heap.size w4 v6 ys ∧ ys.map (fun x => x.data.toList) = lv n.data.toList ∧ Below w3.heap.size w3 w4) := ⟨r6, e6, hb4⟩
        clear r6 e6 hb4
        go_wp2_with fail
        refine (hmt w3 v5 v6 xs ys w4 _ _ H5.out.1 H6.out.1 H5.out.2.1 H6.out.2.1 H6.out.2.2).mono ?_
        rintro e w5 ⟨rfl, m5, rfl⟩
        go_wp2_with fail
        go_ret
        exact ⟨rfl, fin _ _ _ _ (hb1.trans (hb2.mono hb1.size)) H5.out.2.2 H6.out.2.2⟩
end Go.Proofs.YtlbbaniehkghdaaDoor
