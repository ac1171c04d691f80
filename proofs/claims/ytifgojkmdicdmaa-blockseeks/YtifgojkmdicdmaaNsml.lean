/- What the landed mem's small functions answer. -/
import Derived.Test.YtifgojkmdicdmaaMpm
import Derived.Test.YtifgojkmdicdmaaKext
namespace Go.Proofs.Ytifgojkmdicdmaa
open Go.RowKit
set_option linter.unusedVariables false
set_option linter.unusedSimpArgs false

set_option maxHeartbeats 2000000 in
set_option maxRecDepth 100000 in
theorem may_m {w : World} {ka va : Option Addr} {kc vc : Nat} {e : EntV} : Calls Try.prog 43 #[entA ka kc va vc e] w fun r w' => r = .returned (.bool (mayE e)) ∧ Below w.heap.size w w' := by
  obtain ⟨key, seq, gone, till, vl⟩ := e
  unfold entA
  simp only
  unfold mayE
  simp only
  generalize key.length = kl
  generalize vl.length = ln
  cases gone
  · go_enter Try.func43, Try.ntmps43
    go_wp2_with fail
    all_goals
      go_ret
      refine ⟨congrArg (fun b => Ending.returned (.bool b)) ?_, (Below.refl _ w).alloc (Nat.le_refl _) _⟩
      rw [Bool.eq_iff_iff]
      simp
      try omega
  · go_enter Try.func43, Try.ntmps43
    go_wp2_with fail
    all_goals
      go_ret
      refine ⟨congrArg (fun b => Ending.returned (.bool b)) ?_, (Below.refl _ w).alloc (Nat.le_refl _) _⟩
      rw [Bool.eq_iff_iff]
      simp
      try omega
theorem eql_m {w : World} {ao bo : Option Addr} {la ca lb cb : Nat} {xs ys : List Int} (ha : Sl w ao la ca xs) (hb : Sl w bo lb cb ys) : Calls Try.prog 34 #[.slice ao la ca, .slice bo lb cb] w fun e w' => e = .returned (.bool (decide (xs = ys))) ∧ w' = w := by
  have h1 := str_l ha
  have h2 := str_l hb
  have HE := hid (str_eq ha.2.1 hb.2.1)
  clear ha hb
  go_enter Try.func34, Try.ntmps34
  go_wp2_with fail
  go_ret
  refine ⟨?_, rfl⟩
  rw [← HE.out]
  simp
/-- As cmp.Compare of whole numbers. -/
def cmpI (a b : Int) : Int := if a < b then -1 else if b < a then 1 else 0
end Go.Proofs.Ytifgojkmdicdmaa
