/- What the landed mem's small functions answer. -/
import Derived.Test.YtaefddnmldbgiabDoorMpm
import Derived.Test.YtaefddnmldbgiabDoorKext
namespace Go.Proofs.YtaefddnmldbgiabDoor
open Go.RowKit
set_option linter.unusedVariables false
set_option linter.unusedSimpArgs false

set_option maxHeartbeats 2000000 in
set_option maxRecDepth 100000 in
theorem may_m {w : World} {ka va : Option Addr} {kc vc : Nat} {e : EntV} : Calls Tryd.prog 13 #[entA ka kc va vc e] w fun r w' => r = .returned (.bool (mayE e)) ∧ Below w.heap.size w w' := by
  obtain ⟨key, seq, gone, till, vl⟩ := e
  unfold entA
  simp only
  unfold mayE
  simp only
  generalize key.length = kl
  generalize vl.length = ln
  cases gone
  · go_enter Tryd.func13, Tryd.ntmps13
    go_wp2_with fail
    all_goals
      go_ret
      refine ⟨congrArg (fun b => Ending.returned (.bool b)) ?_, (Below.refl _ w).alloc (Nat.le_refl _) _⟩
      rw [Bool.eq_iff_iff]
      simp
      try omega
  · go_enter Tryd.func13, Tryd.ntmps13
    go_wp2_with fail
    all_goals
      go_ret
      refine ⟨congrArg (fun b => Ending.returned (.bool b)) ?_, (Below.refl _ w).alloc (Nat.le_refl _) _⟩
      rw [Bool.eq_iff_iff]
      simp
      try omega
theorem eql_m {w : World} {ao bo : Option Addr} {la ca lb cb : Nat} {xs ys : List Int} (ha : Sl w ao la ca xs) (hb : Sl w bo lb cb ys) : Calls Tryd.prog 25 #[.slice ao la ca, .slice bo lb cb] w fun e w' => e = .returned (.bool (decide (xs = ys))) ∧ w' = w := by
  have h1 := str_l ha
  have h2 := str_l hb
  have HE := hid (str_eq ha.2.1 hb.2.1)
  clear ha hb
  go_enter Tryd.func25, Tryd.ntmps25
  go_wp2_with fail
  go_ret
  refine ⟨?_, rfl⟩
  rw [← HE.out]
  simp
/-- As cmp.Compare of whole numbers. -/
def cmpI (a b : Int) : Int := if a < b then -1 else if b < a then 1 else 0
theorem nan_m {w : World} {a : Int} : Calls Tryd.prog 39 #[.int .i64 a] w fun e w' => e = .returned (.bool false) ∧ w' = w := by
  go_enter Tryd.func39, Tryd.ntmps39
  go_wp2_with fail
  go_ret
  exact ⟨by simp, rfl⟩
theorem cmp64_m {w : World} {a b : Int} : Calls Tryd.prog 35 #[.int .i64 a, .int .i64 b] w fun e w' => e = .returned (.int .i64 (cmpI a b)) ∧ w' = w := by
  have h1 := @nan_m w a
  have h2 := @nan_m w b
  unfold cmpI
  go_enter Tryd.func35, Tryd.ntmps35
  go_wp2_with (go_at_call 39; refine (@nan_m _ _).mono ?_; rintro e w' ⟨rfl, rfl⟩)
  all_goals
    go_ret
    simp
    try omega
/-- The table of the package: sixty-four small numbers. -/
def Tab (w : World) : Prop := ∃ C t fr, w.heap[1]? = some (.cells C t fr) ∧ (t ≠ 51 ∧ t ≠ 43 ∧ t ≠ 45) ∧ ∀ i : Nat, i < 64 → ∃ n : Nat, C[i]? = some (.int .u8 (n : Int)) ∧ n < 256
theorem Tab.keep {w w' : World} (h : Tab w) (hk : w'.heap[1]? = w.heap[1]?) : Tab w' := by
  obtain ⟨C, t, fr, h1, ht, h2⟩ := h
  exact ⟨C, t, fr, hk.trans h1, ht, h2⟩
theorem Tab.lt {w : World} (h : Tab w) : 2 ≤ w.heap.size := by
  obtain ⟨C, t, fr, h1, ht, h2⟩ := h
  have := (Array.getElem?_eq_some_iff.1 h1).1
  omega
theorem Tab.later {w w' : World} (h : Tab w) (hb : Below w.heap.size w w') : Tab w' := h.keep (hb.block 1 (by have := h.lt; omega))
theorem Tab.at {w : World} (h : Tab w) {i : Nat} (hi : i < 64) : ∃ n : Nat, w.cell? ⟨1, i, none⟩ = some (.int .u8 (n : Int)) ∧ n < 256 := by
  obtain ⟨C, t, fr, h1, ht, h2⟩ := h
  obtain ⟨n, h3, h4⟩ := h2 i hi
  exact ⟨n, by rw [cell_of h1]; exact h3, h4⟩
theorem tz_m {w : World} (h : Tab w) {x : Int} (hx : 0 ≤ x ∧ x < 18446744073709551616) : Calls Tryd.prog 32 #[.int .u64 x] w fun e w' => (∃ n : Nat, n < 256 ∧ e = .returned (.int .i64 (n : Int))) ∧ w' = w := by
  have HT := hid h
  clear h
  by_cases hz : x = 0
  · subst hz
    go_enter Tryd.func32, Tryd.ntmps32
    go_wp2_with fail
    go_ret
    exact ⟨⟨64, by decide, rfl⟩, rfl⟩
  · have h0 : (x == 0) = false := by simpa using hz
    obtain ⟨Y, hY⟩ : ∃ Y, Y = IntKind.u64.wrap (bits .and .u64 x (IntKind.u64.wrap (-x)) * 285870213051353865) / 288230376151711744 := ⟨_, rfl⟩
    have hY2 : 0 ≤ Y ∧ Y < 64 := by rw [hY, IntKind.wrap_u64]; omega
    obtain ⟨n, hn, hn2⟩ := HT.out.at (i := Y.toNat) (by omega)
    have hY1 := hY2.1
    have hY3 := hY2.2
    rw [hY] at hn hY1 hY3
    have HN := hid hn2
    have hw : wrap64 (n : Int) = (n : Int) := by unfold wrap64; omega
    clear hY2 hY hn2 HT Y
    go_enter Tryd.func32, Tryd.ntmps32
    go_wp2_with fail
    go_ret
    exact ⟨⟨n, HN.out, by simp [hw]⟩, rfl⟩
/-- A key's height is from one to twelve. -/
theorem height_m {w : World} (h : Tab w) {ao : Option Addr} {len cap : Nat} {xs : List Int} (hs : Sl w ao len cap xs) : Calls Tryd.prog 27 #[.slice ao len cap] w fun e w' => (∃ n : Nat, 1 ≤ n ∧ n ≤ 12 ∧ e = .returned (.int .i64 (n : Int))) ∧ w' = w := by
  have HT := hid h
  have HS := hid hs
  have hl63 : len ≤ 2 ^ 63 - 1 := by have := hs.2.2.2.2.1; have := hs.2.2.2.1; unfold maxLen at *; omega
  clear h hs
  go_enter Tryd.func27, Tryd.ntmps27
  go_wp2_with fail
  go_loopg [3, 5, 8] len (fun g s _ i wr => wr = w ∧ ∃ (j : Nat) (x : Int), j + g = len ∧ i = .int .i64 (j : Int) ∧ s = .int .u64 x ∧ Hid (0 ≤ x ∧ x < 18446744073709551616))
  case atStart => exact ⟨rfl, 0, 1, by omega, rfl, rfl, by decide, by decide⟩
  case round =>
    obtain ⟨rfl, j, x, hj, rfl, rfl, hx⟩ := hrel
    by_cases hlt : j < len
    · have hlt' : (j : Int) < (len : Int) := by omega
      obtain ⟨hc, b, off, rfl, hcell⟩ := HS.out.2.2.2.2.2 j hlt
      generalize xof xs j = c at hc hcell
      go_wp2_with fail
      go_roundg (gk - 1)
      case measure => omega
      case rel => exact ⟨rfl, j + 1, _, by omega, by go_num, rfl, by
        show 0 ≤ _ ∧ _ < _
        rw [Int.tmod_eq_emod_of_nonneg (by rw [IntKind.wrap_u64]; omega)]
        omega⟩
    · have hlt' : (len : Int) ≤ (j : Int) := by omega
      have htz := tz_m HT.out hx.out
      clear hj hlt
      go_wp2_with fail
      refine htz.mono ?_
      rintro e w' ⟨⟨n, hn, rfl⟩, rfl⟩
      go_wp2_with fail
      · exact bodyPost_ret (v := .int .i64 ((12 : Nat) : Int)) (by simp [results, Tryd.results27, go_sem]) rfl ⟨⟨12, by omega, by omega, rfl⟩, rfl⟩
      · exact bodyPost_ret (v := .int .i64 ((1 + n / 2 : Nat) : Int)) (by simp [results, Tryd.results27, go_sem]) rfl ⟨⟨1 + n / 2, by omega, by omega, rfl⟩, rfl⟩
end Go.Proofs.YtaefddnmldbgiabDoor
