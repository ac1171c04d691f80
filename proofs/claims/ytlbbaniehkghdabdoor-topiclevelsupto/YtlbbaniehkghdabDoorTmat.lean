/- The program's meetings and covers. -/
import Derived.Test.YtlbbaniehkghdabDoorTlev
namespace Go.Proofs.YtlbbaniehkghdabDoor
open Go.RowKit
set_option linter.unusedVariables false
set_option linter.unusedSimpArgs false

theorem tmat_any (f n : ByteArray) (w : World) (hf : f.size ≤ maxLen) (hn : n.size ≤ maxLen) : Calls Tryd.prog 9 #[.string f, .string n] w fun e w' => e = .returned (.bool (mat f.data.toList n.data.toList)) ∧ Below w.heap.size w w' := by
  have h1 := fun w => tfil_any f w hf
  have h2 := fun w => tname_any n w hn
  have hfs := fil_size f
  have hns := nam_size n
  have h3 := fun w (q1 : f.size ≤ 64) (q2 : n.size ≤ 64) => byM_any f n w q1 q2
  unfold mat
  simp only [wlk_mts] at h3
  generalize fil f.data.toList = F at h1 hfs ⊢
  generalize nam n.data.toList = M at h2 hns ⊢
  clear hf hn
  cases F with
  | false =>
    simp only [Bool.false_and]
    clear h2 h3 hfs hns
    go_enter Tryd.func9, Tryd.ntmps9
    go_wp2_with fail
    refine (h1 w).mono ?_
    rintro e w1 ⟨rfl, hb1⟩
    go_wp2_with fail
    go_ret
    exact ⟨rfl, hb1⟩
  | true =>
    cases M with
    | false =>
      simp only [Bool.true_and, Bool.false_and]
      clear h3 hfs hns
      go_enter Tryd.func9, Tryd.ntmps9
      go_wp2_with fail
      refine (h1 w).mono ?_
      rintro e w1 ⟨rfl, hb1⟩
      go_wp2_with fail
      refine (h2 w1).mono ?_
      rintro e w2 ⟨rfl, hb2⟩
      go_wp2_with fail
      go_ret
      exact ⟨rfl, hb1.trans (hb2.mono hb1.size)⟩
    | true =>
      simp only [Bool.true_and]
      have h4 := fun w => h3 w (hfs rfl).2 (hns rfl).2
      generalize (!far f.data.toList n.data.toList && mts (lv f.data.toList) (lv n.data.toList)) = R at h4 ⊢
      clear h3 hfs hns
      go_enter Tryd.func9, Tryd.ntmps9
      go_wp2_with fail
      refine (h1 w).mono ?_
      rintro e w1 ⟨rfl, hb1⟩
      go_wp2_with fail
      refine (h2 w1).mono ?_
      rintro e w2 ⟨rfl, hb2⟩
      go_wp2_with fail
      refine (h4 w2).mono ?_
      rintro e w3 ⟨rfl, hb3⟩
      go_wp2_with fail
      go_ret
      have B2 := hb1.trans (hb2.mono hb1.size)
      exact ⟨rfl, B2.trans (hb3.mono B2.size)⟩
theorem tcov_any (f n : ByteArray) (w : World) (hf : f.size ≤ maxLen) (hn : n.size ≤ maxLen) : Calls Tryd.prog 10 #[.string f, .string n] w fun e w' => e = .returned (.bool (cov f.data.toList n.data.toList)) ∧ Below w.heap.size w w' := by
  have h1 := fun w => tfil_any f w hf
  have h2 := fun w => tfil_any n w hn
  have hfs := fil_size f
  have hns := fil_size n
  have h3 := fun w (q1 : f.size ≤ 64) (q2 : n.size ≤ 64) => byC_any f n w q1 q2
  unfold cov
  simp only [wlk_cvs] at h3
  generalize fil f.data.toList = F at h1 hfs ⊢
  generalize fil n.data.toList = M at h2 hns ⊢
  clear hf hn
  cases F with
  | false =>
    simp only [Bool.false_and]
    clear h2 h3 hfs hns
    go_enter Tryd.func10, Tryd.ntmps10
    go_wp2_with fail
    refine (h1 w).mono ?_
    rintro e w1 ⟨rfl, hb1⟩
    go_wp2_with fail
    go_ret
    exact ⟨rfl, hb1⟩
  | true =>
    cases M with
    | false =>
      simp only [Bool.true_and, Bool.false_and]
      clear h3 hfs hns
      go_enter Tryd.func10, Tryd.ntmps10
      go_wp2_with fail
      refine (h1 w).mono ?_
      rintro e w1 ⟨rfl, hb1⟩
      go_wp2_with fail
      refine (h2 w1).mono ?_
      rintro e w2 ⟨rfl, hb2⟩
      go_wp2_with fail
      go_ret
      exact ⟨rfl, hb1.trans (hb2.mono hb1.size)⟩
    | true =>
      simp only [Bool.true_and]
      have h4 := fun w => h3 w (hfs rfl).2 (hns rfl).2
      generalize (!far f.data.toList n.data.toList && cvs (lv f.data.toList) (lv n.data.toList)) = R at h4 ⊢
      clear h3 hfs hns
      go_enter Tryd.func10, Tryd.ntmps10
      go_wp2_with fail
      refine (h1 w).mono ?_
      rintro e w1 ⟨rfl, hb1⟩
      go_wp2_with fail
      refine (h2 w1).mono ?_
      rintro e w2 ⟨rfl, hb2⟩
      go_wp2_with fail
      refine (h4 w2).mono ?_
      rintro e w3 ⟨rfl, hb3⟩
      go_wp2_with fail
      go_ret
      have B2 := hb1.trans (hb2.mono hb1.size)
      exact ⟨rfl, B2.trans (hb3.mono B2.size)⟩
end Go.Proofs.YtlbbaniehkghdabDoor
