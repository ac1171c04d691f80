/- The laws on filters, meetings and covers. -/
import Derived.Test.YtlbbaniehkghdaaDoorTmat
namespace Go.Proofs.YtlbbaniehkghdaaDoor
open Go.RowKit
set_option linter.unusedVariables false

theorem mat_a : mat [97, 47, 43, 47, 99] [97, 47, 98, 47, 99] = true := by decide +kernel
theorem mat_b : mat [43] [36, 120] = false := by decide +kernel
theorem small_ok {s : ByteArray} (h : s.size ≤ 64) : s.size ≤ maxLen := by unfold maxLen; omega

theorem awake_any (w : World) : Calls Tryd.prog 18 #[] w fun e w' => e = .returned (.bool true) ∧ Below w.heap.size w w' := by
  have h1 := tmat_any ⟨#[97, 47, 43, 47, 99]⟩ ⟨#[97, 47, 98, 47, 99]⟩ w (small_ok (by decide)) (small_ok (by decide))
  have h2 := fun w => tmat_any ⟨#[43]⟩ ⟨#[36, 120]⟩ w (small_ok (by decide)) (small_ok (by decide))
  have e1 : mat (ByteArray.mk #[97, 47, 43, 47, 99]).data.toList (ByteArray.mk #[97, 47, 98, 47, 99]).data.toList = true := mat_a
  have e2 : mat (ByteArray.mk #[43]).data.toList (ByteArray.mk #[36, 120]).data.toList = false := mat_b
  rw [e1] at h1
  simp only [e2] at h2
  go_enter Tryd.func18, Tryd.ntmps18
  go_wp2_with fail
  refine h1.mono ?_
  rintro e w1 ⟨rfl, hb1⟩
  go_wp2_with fail
  refine (h2 w1).mono ?_
  rintro e w2 ⟨rfl, hb2⟩
  go_wp2_with fail
  go_ret
  exact ⟨rfl, hb1.trans (hb2.mono hb1.size)⟩

theorem filters_any (s : ByteArray) (w : World) (hs : s.size ≤ maxLen) : Calls Tryd.prog 4 #[.string s] w fun e w' => e = .returned (.bool true) ∧ Below w.heap.size w w' := by
  have h1 := tfil_any s w hs
  have h2 := fun w => rfil_any s w hs
  generalize fil s.data.toList = B at h1 h2
  go_enter Tryd.func4, Tryd.ntmps4
  go_wp2_with fail
  refine h1.mono ?_
  rintro e w1 ⟨rfl, hb1⟩
  go_wp2_with fail
  refine (h2 w1).mono ?_
  rintro e w2 ⟨rfl, hb2⟩
  go_wp2_with fail
  refine (awake_any w2).mono ?_
  rintro e w3 ⟨rfl, hb3⟩
  go_wp2_with fail
  go_ret
  have b2 := hb1.trans (hb2.mono hb1.size)
  exact ⟨rfl, b2.trans (hb3.mono b2.size)⟩

theorem matches_any (f n : ByteArray) (w : World) (hf : f.size ≤ maxLen) (hn : n.size ≤ maxLen) : Calls Tryd.prog 5 #[.string f, .string n] w fun e w' => e = .returned (.bool true) ∧ Below w.heap.size w w' := by
  have h1 := tmat_any f n w hf hn
  have h2 := fun w => rmat_any f n w hf hn
  have h3 := fun w => tcov_any f n w hf hn
  have h4 := fun w => rcov_any f n w hf hn
  generalize mat f.data.toList n.data.toList = B at h1 h2
  generalize cov f.data.toList n.data.toList = C at h3 h4
  go_enter Tryd.func5, Tryd.ntmps5
  go_wp2_with fail
  refine h1.mono ?_
  rintro e w1 ⟨rfl, hb1⟩
  go_wp2_with fail
  refine (h2 w1).mono ?_
  rintro e w2 ⟨rfl, hb2⟩
  go_wp2_with fail
  refine (h3 w2).mono ?_
  rintro e w3 ⟨rfl, hb3⟩
  go_wp2_with fail
  refine (h4 w3).mono ?_
  rintro e w4 ⟨rfl, hb4⟩
  go_wp2_with fail
  refine (awake_any w4).mono ?_
  rintro e w5 ⟨rfl, hb5⟩
  go_wp2_with fail
  go_ret
  have b2 := hb1.trans (hb2.mono hb1.size)
  have b3 := b2.trans (hb3.mono b2.size)
  have b4 := b3.trans (hb4.mono b3.size)
  exact ⟨rfl, b4.trans (hb5.mono b4.size)⟩

set_option maxHeartbeats 1000000 in
theorem covers_any (a b c n : ByteArray) (w : World) (ha : a.size ≤ maxLen) (hb : b.size ≤ maxLen) (hc : c.size ≤ maxLen) (hn : n.size ≤ maxLen) : Calls Tryd.prog 7 #[.string a, .string b, .string c, .string n] w fun e w' => e = .returned (.bool true) ∧ Below w.heap.size w w' := by
  have h1 := tcov_any a b w ha hb
  have h2 := fun w => tmat_any b n w hb hn
  have h3 := fun w => tmat_any a n w ha hn
  have h4 := fun w => tcov_any b c w hb hc
  have h5 := fun w => tcov_any a c w ha hc
  have k1 := @mat_cov a.data.toList b.data.toList n.data.toList
  have k2 := @cov_cov a.data.toList b.data.toList c.data.toList
  generalize cov a.data.toList b.data.toList = AB at h1 k1 k2
  generalize mat b.data.toList n.data.toList = BN at h2 k1
  generalize mat a.data.toList n.data.toList = AN at h3 k1
  generalize cov b.data.toList c.data.toList = BC at h4 k2
  generalize cov a.data.toList c.data.toList = AC at h5 k2
  clear ha hb hc hn
  cases AB with
  | false =>
    clear h2 h3 h4 h5 k1 k2
    go_enter Tryd.func7, Tryd.ntmps7
    go_wp2_with fail
    refine h1.mono ?_
    rintro e w1 ⟨rfl, hb1⟩
    go_wp2_with fail
    refine (awake_any w1).mono ?_
    rintro e w2 ⟨rfl, hb2⟩
    go_wp2_with fail
    go_ret
    exact ⟨rfl, hb1.trans (hb2.mono hb1.size)⟩
  | true =>
    cases BN with
    | true =>
      obtain rfl := k1 rfl rfl
      cases BC with
      | true =>
        obtain rfl := k2 rfl rfl
        clear k1 k2
        go_enter Tryd.func7, Tryd.ntmps7
        go_wp2_with fail
        refine h1.mono ?_
        rintro e w1 ⟨rfl, hb1⟩
        go_wp2_with fail
        refine (h2 w1).mono ?_
        rintro e w2 ⟨rfl, hb2⟩
        go_wp2_with fail
        refine (h3 w2).mono ?_
        rintro e w3 ⟨rfl, hb3⟩
        go_wp2_with fail
        refine (h4 w3).mono ?_
        rintro e w4 ⟨rfl, hb4⟩
        go_wp2_with fail
        refine (h5 w4).mono ?_
        rintro e w5 ⟨rfl, hb5⟩
        go_wp2_with fail
        refine (awake_any w5).mono ?_
        rintro e w6 ⟨rfl, hb6⟩
        go_wp2_with fail
        go_ret
        have b2 := hb1.trans (hb2.mono hb1.size)
        have b3 := b2.trans (hb3.mono b2.size)
        have b4 := b3.trans (hb4.mono b3.size)
        have b5 := b4.trans (hb5.mono b4.size)
        exact ⟨rfl, b5.trans (hb6.mono b5.size)⟩
      | false =>
        clear k1 k2
        go_enter Tryd.func7, Tryd.ntmps7
        go_wp2_with fail
        refine h1.mono ?_
        rintro e w1 ⟨rfl, hb1⟩
        go_wp2_with fail
        refine (h2 w1).mono ?_
        rintro e w2 ⟨rfl, hb2⟩
        go_wp2_with fail
        refine (h3 w2).mono ?_
        rintro e w3 ⟨rfl, hb3⟩
        go_wp2_with fail
        refine (h4 w3).mono ?_
        rintro e w4 ⟨rfl, hb4⟩
        go_wp2_with fail
        refine (awake_any w4).mono ?_
        rintro e w5 ⟨rfl, hb5⟩
        go_wp2_with fail
        go_ret
        have b2 := hb1.trans (hb2.mono hb1.size)
        have b3 := b2.trans (hb3.mono b2.size)
        have b4 := b3.trans (hb4.mono b3.size)
        exact ⟨rfl, b4.trans (hb5.mono b4.size)⟩
    | false =>
      clear h3 k1
      cases BC with
      | true =>
        obtain rfl := k2 rfl rfl
        clear k2
        go_enter Tryd.func7, Tryd.ntmps7
        go_wp2_with fail
        refine h1.mono ?_
        rintro e w1 ⟨rfl, hb1⟩
        go_wp2_with fail
        refine (h2 w1).mono ?_
        rintro e w2 ⟨rfl, hb2⟩
        go_wp2_with fail
        refine (h4 w2).mono ?_
        rintro e w3 ⟨rfl, hb3⟩
        go_wp2_with fail
        refine (h5 w3).mono ?_
        rintro e w4 ⟨rfl, hb4⟩
        go_wp2_with fail
        refine (awake_any w4).mono ?_
        rintro e w5 ⟨rfl, hb5⟩
        go_wp2_with fail
        go_ret
        have b2 := hb1.trans (hb2.mono hb1.size)
        have b3 := b2.trans (hb3.mono b2.size)
        have b4 := b3.trans (hb4.mono b3.size)
        exact ⟨rfl, b4.trans (hb5.mono b4.size)⟩
      | false =>
        clear k2
        go_enter Tryd.func7, Tryd.ntmps7
        go_wp2_with fail
        refine h1.mono ?_
        rintro e w1 ⟨rfl, hb1⟩
        go_wp2_with fail
        refine (h2 w1).mono ?_
        rintro e w2 ⟨rfl, hb2⟩
        go_wp2_with fail
        refine (h4 w2).mono ?_
        rintro e w3 ⟨rfl, hb3⟩
        go_wp2_with fail
        refine (awake_any w3).mono ?_
        rintro e w4 ⟨rfl, hb4⟩
        go_wp2_with fail
        go_ret
        have b2 := hb1.trans (hb2.mono hb1.size)
        have b3 := b2.trans (hb3.mono b2.size)
        exact ⟨rfl, b3.trans (hb4.mono b3.size)⟩
end Go.Proofs.YtlbbaniehkghdaaDoor
