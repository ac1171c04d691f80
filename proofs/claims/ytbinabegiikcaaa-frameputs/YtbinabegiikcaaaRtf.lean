/- The document's own TakeFrame. -/
import Derived.Test.YtbinabegiikcaaaSlc
namespace Go.Proofs.Ytbinabegiikcaaa
open Go.RowKit
set_option linter.unusedVariables false
set_option linter.unusedSimpArgs false

/-- What a look at a frame answers: beside an error, nothing; else the record, in memory of its own. -/
def Tk (B : Nat) (w' : World) (e : Ending) (t : Nat × List Int × Nat) : Prop :=
  ∃ v, e = .returned (.tuple #[v, .int .i64 (t.2.2 : Int), .int .i64 (t.1 : Int)]) ∧ Row B w' v t.2.1
theorem tf_case (xs : List Int) : (xs.length < 4 ∧ tf xs = (5, [], 0)) ∨ (4 ≤ xs.length ∧ ¬ enL (xs.drop 4) < (xs.drop 4).length ∧ tf xs = (5, [], 0)) ∨
    (4 ≤ xs.length ∧ enL (xs.drop 4) < (xs.drop 4).length ∧ ¬ good (xof (xs.drop 4)) (enL (xs.drop 4)) ∧ tf xs = (3, [], 0)) ∨
    (4 ≤ xs.length ∧ enL (xs.drop 4) < (xs.drop 4).length ∧ good (xof (xs.drop 4)) (enL (xs.drop 4)) ∧ ∃ n, n = val (xof (xs.drop 4)) (enL (xs.drop 4) + 1) ∧ (
      (1048576 < n ∧ tf xs = (2, [], 0)) ∨ (n ≤ 1048576 ∧ (xs.drop 4).length < enL (xs.drop 4) + 1 + n ∧ tf xs = (5, [], 0)) ∨
      (n ≤ 1048576 ∧ enL (xs.drop 4) + 1 + n ≤ (xs.drop 4).length ∧ fv (xof xs) 4 ≠ mask (more 0 (nl ((xs.drop 4).take (enL (xs.drop 4) + 1 + n)))) ∧ tf xs = (4, [], 0)) ∨
      (n ≤ 1048576 ∧ enL (xs.drop 4) + 1 + n ≤ (xs.drop 4).length ∧ fv (xof xs) 4 = mask (more 0 (nl ((xs.drop 4).take (enL (xs.drop 4) + 1 + n)))) ∧ tf xs = (0, ((xs.drop 4).drop (enL (xs.drop 4) + 1)).take n, 4 + (enL (xs.drop 4) + 1) + n)))) := by
  unfold tf
  by_cases h1 : xs.length < 4
  · rw [if_pos h1]; exact .inl ⟨h1, rfl⟩
  rw [if_neg h1]
  by_cases h2' : ¬ enL (xs.drop 4) < (xs.drop 4).length
  · rw [if_pos h2']; exact .inr (.inl ⟨by omega, h2', rfl⟩)
  rw [if_neg h2']
  have h2 := Decidable.not_not.1 h2'
  by_cases h3' : ¬ good (xof (xs.drop 4)) (enL (xs.drop 4))
  · rw [if_pos h3']; exact .inr (.inr (.inl ⟨by omega, h2, h3', rfl⟩))
  rw [if_neg h3']
  have h3 := Decidable.not_not.1 h3'
  refine .inr (.inr (.inr ⟨by omega, h2, h3, _, rfl, ?_⟩))
  by_cases h4 : 1048576 < val (xof (xs.drop 4)) (enL (xs.drop 4) + 1)
  · rw [if_pos h4]; exact .inl ⟨h4, rfl⟩
  rw [if_neg h4]
  by_cases h5 : (xs.drop 4).length < enL (xs.drop 4) + 1 + val (xof (xs.drop 4)) (enL (xs.drop 4) + 1)
  · rw [if_pos h5]; exact .inr (.inl ⟨by omega, h5, rfl⟩)
  rw [if_neg h5]
  by_cases h6 : fv (xof xs) 4 = mask (more 0 (nl ((xs.drop 4).take (enL (xs.drop 4) + 1 + val (xof (xs.drop 4)) (enL (xs.drop 4) + 1)))))
  · rw [if_neg (not_not_intro h6)]; exact .inr (.inr (.inr ⟨by omega, by omega, h6, rfl⟩))
  · rw [if_pos h6]; exact .inr (.inr (.inl ⟨by omega, by omega, h6, rfl⟩))

set_option maxHeartbeats 2000000 in
set_option maxRecDepth 100000 in
theorem rtf_any {w : World} {ao : Option Addr} {len cap : Nat} {xs : List Int} (h : Sl w ao len cap xs) (hl : len ≤ 1099511627776) : Calls Try.prog 12 #[.slice ao len cap] w fun e w' => Tk w.heap.size w' e (tf xs) ∧ Below w.heap.size w w' := by
  have hcap := h.2.2.2.1
  have hmax : cap ≤ 2 ^ 63 - 1 := by have := h.2.2.2.2.1; unfold maxLen at this; omega
  have hln := h.1
  have hdl : (xs.drop 4).length = len - 4 := by rw [List.length_drop, hln]
  rcases tf_case xs with ⟨h1, ht⟩ | ⟨h1, h2, ht⟩ | ⟨h1, h2, h3, ht⟩ | ⟨h1, h2, h3, n, hn, hrest⟩
  · rw [ht]
    have c1 : (len : Int) < 4 := by omega
    clear h ht hdl hln
    go_enter Try.func12, Try.ntmps12
    go_wp2_with fail
    exact bodyPost_ret (v := .tuple #[.slice none 0 0, .int .i64 0, .int .i64 5]) (by simp [results, Try.results12, go_sem]) rfl ⟨⟨_, rfl, Row.nil _ _⟩, Below.refl _ _⟩
  all_goals
    have c1 : ¬ (len : Int) < 4 := by omega
    have hf := h.from 4 (by omega)
    have hcf := fun w => run_from w ao len cap 4 (by omega) hcap
    have htk := rtake_l hf
    rw [show ((4 : Nat) : Int) = 4 from rfl] at hcf
  · rw [ht]
    have hv : takeV (xof (xs.drop 4)) (len - 4) (enL (xs.drop 4)) = .tuple #[.int .u64 0, .int .i64 0, .int .i64 5] := by unfold takeV; rw [if_neg (by omega)]
    rw [hv] at htk
    generalize cutA ao cap 4 = a4 at hcf htk hf
    clear h ht hdl hln hv h2 hf
    go_enter Try.func12, Try.ntmps12
    go_wp2_with (go_at_call 28; refine htk.mono ?_; rintro e w' ⟨rfl, hw⟩; obtain rfl := hw.symm)
    exact bodyPost_ret (v := .tuple #[.slice none 0 0, .int .i64 0, .int .i64 5]) (by simp [results, Try.results12, go_sem]) rfl ⟨⟨_, rfl, Row.nil _ _⟩, Below.refl _ _⟩
  · rw [ht]
    have hv : takeV (xof (xs.drop 4)) (len - 4) (enL (xs.drop 4)) = .tuple #[.int .u64 0, .int .i64 0, .int .i64 3] := by unfold takeV; rw [if_pos (by omega), if_neg h3]
    rw [hv] at htk
    generalize cutA ao cap 4 = a4 at hcf htk hf
    clear h ht hdl hln hv h2 h3 hf
    go_enter Try.func12, Try.ntmps12
    go_wp2_with (go_at_call 28; refine htk.mono ?_; rintro e w' ⟨rfl, hw⟩; obtain rfl := hw.symm)
    exact bodyPost_ret (v := .tuple #[.slice none 0 0, .int .i64 0, .int .i64 3]) (by simp [results, Try.results12, go_sem]) rfl ⟨⟨_, rfl, Row.nil _ _⟩, Below.refl _ _⟩
  · have hv : takeV (xof (xs.drop 4)) (len - 4) (enL (xs.drop 4)) = .tuple #[.int .u64 (n : Nat), .int .i64 ((enL (xs.drop 4) : Int) + 1), .int .i64 0] := by unfold takeV; rw [if_pos (by omega), if_pos h3, ← hn]
    rw [hv] at htk
    have hn64 : n < 18446744073709551616 := by rw [hn]; exact val_good h3
    obtain ⟨E, hE⟩ : ∃ E, E = enL (xs.drop 4) := ⟨_, rfl⟩
    rw [← hE] at htk hrest h2
    generalize cutA ao cap 4 = a4 at hcf htk hf
    rcases hrest with ⟨q1, ht⟩ | ⟨q1, q2, ht⟩ | ⟨q1, q2, q3, ht⟩ | ⟨q1, q2, q3, ht⟩
    · rw [ht]
      have c2 : (1048576 : Int) < (n : Int) := by omega
      clear h ht hdl hln hv h2 h3 hf hn hE
      go_enter Try.func12, Try.ntmps12
      go_wp2_with (go_at_call 28; refine htk.mono ?_; rintro e w' ⟨rfl, hw⟩; obtain rfl := hw.symm)
      exact bodyPost_ret (v := .tuple #[.slice none 0 0, .int .i64 0, .int .i64 2]) (by simp [results, Try.results12, go_sem]) rfl ⟨⟨_, rfl, Row.nil _ _⟩, Below.refl _ _⟩
    · rw [ht]
      have c2 : (n : Int) ≤ 1048576 := by omega
      have hE62 : E ≤ 2 ^ 62 := by omega
      have c3 : (len : Int) < 4 + ((E : Int) + 1) + (n : Int) := by omega
      clear h ht hln hv h3 hf hn hE h2 q2 hdl
      go_enter Try.func12, Try.ntmps12
      go_wp2_with (go_at_call 28; refine htk.mono ?_; rintro e w' ⟨rfl, hw⟩; obtain rfl := hw.symm)
      exact bodyPost_ret (v := .tuple #[.slice none 0 0, .int .i64 0, .int .i64 5]) (by simp [results, Try.results12, go_sem]) rfl ⟨⟨_, rfl, Row.nil _ _⟩, Below.refl _ _⟩
    all_goals
      have c2 : (n : Int) ≤ 1048576 := by omega
      have hE62 : E ≤ 2 ^ 62 := by omega
      have c3 : ¬ (len : Int) < 4 + ((E : Int) + 1) + (n : Int) := by omega
      have hrd := rread4_l h (by omega)
      have hcut := h.cut 4 (4 + (E + 1) + n) (by omega) (by omega)
      have hcc := fun w => run_cut w ao len cap 4 (4 + (E + 1) + n) (by omega) (by omega)
      rw [show 4 + (E + 1) + n - 4 = E + 1 + n by omega] at hcut hcc
      rw [show ((4 : Nat) : Int) = 4 from rfl, show ((4 + (E + 1) + n : Nat) : Int) = 4 + ((E : Int) + 1) + (n : Int) by omega] at hcc
      have hsm := rsum_l hcut
      have hmk := rmask_any (more 0 (nl ((xs.drop 4).take (E + 1 + n)))) w (more0_lt hcut.2.1)
      have hfv := fv4_lt h.2.1 (by omega)
    · rw [ht]
      generalize mask (more 0 (nl ((xs.drop 4).take (E + 1 + n)))) = M at q3 hmk
      generalize more 0 (nl ((xs.drop 4).take (E + 1 + n))) = S at hsm hmk
      generalize fv (xof xs) 4 = G at hrd hfv q3
      have hne : ((G : Int) != (M : Int)) = true := by simp; omega
      generalize cutA ao cap 4 = a5 at hcut hcc hsm
      clear h ht hln hv h3 hf hn hE h2 q2 hdl hcut q3 hn64
      go_enter Try.func12, Try.ntmps12
      go_wp2_with (first | (go_at_call 28; refine htk.mono ?_; rintro e w' ⟨rfl, hw⟩; obtain rfl := hw.symm) | (go_at_call 29; refine hrd.mono ?_; rintro e w' ⟨rfl, hw⟩; obtain rfl := hw.symm) | (go_at_call 25; refine hsm.mono ?_; rintro e w' ⟨rfl, hw⟩; obtain rfl := hw.symm) | (go_at_call 24; refine hmk.mono ?_; rintro e w' ⟨rfl, hw⟩; obtain rfl := hw.symm))
      exact bodyPost_ret (v := .tuple #[.slice none 0 0, .int .i64 0, .int .i64 4]) (by simp [results, Try.results12, go_sem]) rfl ⟨⟨_, rfl, Row.nil _ _⟩, Below.refl _ _⟩
    · rw [ht]
      have hcut2 := h.cut (4 + (E + 1)) (4 + (E + 1) + n) (by omega) (by omega)
      have hcc2 := fun w => run_cut w ao len cap (4 + (E + 1)) (4 + (E + 1) + n) (by omega) (by omega)
      rw [show 4 + (E + 1) + n - (4 + (E + 1)) = n by omega] at hcut2 hcc2
      rw [show ((4 + (E + 1) : Nat) : Int) = 4 + ((E : Int) + 1) by omega, show ((4 + (E + 1) + n : Nat) : Int) = 4 + ((E : Int) + 1) + (n : Int) by omega] at hcc2
      have hrec : (xs.drop (4 + (E + 1))).take n = ((xs.drop 4).drop (E + 1)).take n := by rw [List.drop_drop]
      rw [hrec] at hcut2
      generalize mask (more 0 (nl ((xs.drop 4).take (E + 1 + n)))) = M at q3 hmk
      generalize more 0 (nl ((xs.drop 4).take (E + 1 + n))) = S at hsm hmk
      generalize fv (xof xs) 4 = G at hrd hfv q3
      subst q3
      have hne : ((G : Int) != (G : Int)) = false := by simp
      generalize cutA ao cap 4 = a5 at hcut hcc hsm
      generalize cutA ao cap (4 + (E + 1)) = a6 at hcut2 hcc2
      generalize ((xs.drop 4).drop (E + 1)).take n = R at hcut2 ⊢
      have HC : Hid (Sl w a6 n (cap - (4 + (E + 1))) R ∧ n ≤ 1048576) := ⟨hcut2, q1⟩
      generalize cap - (4 + (E + 1)) = rc at HC hcc2
      clear h ht hln hv h3 hf hn hE h2 q2 hdl hcut hn64 hcut2 q1 hrec
      go_enter Try.func12, Try.ntmps12
      go_wp2_with (first | (go_at_call 28; refine htk.mono ?_; rintro e w' ⟨rfl, hw⟩; obtain rfl := hw.symm) | (go_at_call 29; refine hrd.mono ?_; rintro e w' ⟨rfl, hw⟩; obtain rfl := hw.symm) | (go_at_call 25; refine hsm.mono ?_; rintro e w' ⟨rfl, hw⟩; obtain rfl := hw.symm) | (go_at_call 24; refine hmk.mono ?_; rintro e w' ⟨rfl, hw⟩; obtain rfl := hw.symm) | (at_builtin; refine wpList_app rfl _ _ rfl w.heap.size (.slice none 0 0) [] rfl (Row.nil _ _) a6 n rc (xof R) (by simp [Act.eval]) HC.out.1.2.2.1 HC.out.1.2.2.2.2.2 (by have := HC.out.2; simp; omega) (Nat.le_refl _) ?_; intro v2 w2 hr2 hg2 hm2))
      have hrow : Row w.heap.size w2 v2 R := by
        rw [List.nil_append, ← HC.out.1.1, bs_xof HC.out.1.2.1] at hr2
        exact hr2
      exact bodyPost_ret (v := .tuple #[v2, .int .i64 (4 + ((E : Int) + 1) + (n : Int)), .int .i64 0]) (by simp [results, Try.results12, go_sem]) rfl ⟨⟨v2, by simp, hrow⟩, grown_below (Row.nil _ _) hg2 (Nat.le_refl _)⟩
end Go.Proofs.Ytbinabegiikcaaa
