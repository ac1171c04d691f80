/- The document's own covering of levels. -/
import Derived.Test.YtlbbaniehkghdaaDoorRmeets
namespace Go.Proofs.YtlbbaniehkghdaaDoor
open Go.RowKit
set_option linter.unusedVariables false

set_option maxHeartbeats 2000000 in
set_option maxRecDepth 100000 in
theorem rcovers_any : ∀ (fl : Nat) (fo : Option Addr) (fc : Nat) (F : Nat → ByteArray) (no : Option Addr) (nl nc : Nat) (M : Nat → ByteArray) (w : World), Strs w fo fl F → Strs w no nl M → fl ≤ fc → fc ≤ maxLen → nl ≤ nc → nc ≤ maxLen →
    Calls Tryd.prog 37 #[.slice fo fl fc, .slice no nl nc] w fun e w' => e = .returned (.bool (cvs (sl F fl) (sl M nl))) ∧ ∃ m, w' = w.drewN m := by
  intro fl
  induction fl with
  | zero =>
    intro fo fc F no nl nc M w hF hM h1 h2 h3 h4
    rw [sl_zero]
    have e : cvs [] (sl M nl) = ((nl : Int) == 0) := by
      cases nl with
      | zero => rfl
      | succ n => rw [sl_succ]; simp [cvs]; omega
    rw [e]
    clear hF hM h1 h2 h3 h4 e
    go_enter Tryd.func37, Tryd.ntmps37
    go_wp2_with fail
    go_ret
    exact ⟨rfl, 0, rfl⟩
  | succ l ih =>
    intro fo fc F no nl nc M w hF hM h1 h2 h3 h4
    obtain ⟨b1, off1, hfo, hc1⟩ := hF 0 (by omega)
    subst hfo
    rw [Nat.add_zero] at hc1
    rw [sl_succ]
    obtain ⟨x, hx⟩ : ∃ x, x = F 0 := ⟨_, rfl⟩
    rw [← hx] at hc1 ⊢
    have hl63 : l ≤ 2 ^ 63 - 2 := by simp only [maxLen] at h2; omega
    have hz : (((l : Int) + 1) == 0) = false := by simp; omega
    by_cases q : x.data.toList = [35]
    · have b35' : (x.toList == [35]) = true := by rw [tl_eq, q]; rfl
      have e : cvs (x.data.toList :: sl (fun k => F (k + 1)) l) (sl M nl) = true := by simp [cvs, q]
      rw [e]
      clear hF hM h1 h2 h3 h4 e ih hx q
      go_enter Tryd.func37, Tryd.ntmps37
      go_wp2_with fail
      go_ret
      exact ⟨rfl, 0, rfl⟩
    · have b35' : (x.toList == [35]) = false := by rw [tl_eq]; simpa using q
      cases nl with
      | zero =>
        have e : cvs (x.data.toList :: sl (fun k => F (k + 1)) l) (sl M 0) = false := by rw [sl_zero]; simp [cvs, q]
        rw [e]
        clear hF hM h1 h2 h3 h4 e ih hx q
        go_enter Tryd.func37, Tryd.ntmps37
        go_wp2_with fail
        go_quiet (fail)
        go_wp2_with fail
        go_ret
        exact ⟨rfl, nq, rfl⟩
      | succ n =>
        obtain ⟨b2, off2, hno, hc2⟩ := hM 0 (by omega)
        subst hno
        rw [Nat.add_zero] at hc2
        rw [sl_succ]
        obtain ⟨y, hy⟩ : ∃ y, y = M 0 := ⟨_, rfl⟩
        rw [← hy] at hc2 ⊢
        obtain ⟨fr, rfl⟩ : ∃ fr, fc = fr + 1 := ⟨fc - 1, by omega⟩
        obtain ⟨nr, rfl⟩ : ∃ nr, nc = nr + 1 := ⟨nc - 1, by omega⟩
        obtain ⟨b3, off3, hif3, hF3⟩ := strs_rest hF (by omega : l ≤ fr)
        obtain ⟨b4, off4, hif4, hM4⟩ := strs_rest hM (by omega : n ≤ nr)
        have hrec : ∀ m, Calls Tryd.prog 37 #[.slice (some ⟨b3, off3, none⟩) l fr, .slice (some ⟨b4, off4, none⟩) n nr] (w.drewN m) fun e w' => e = .returned (.bool (cvs (sl (fun k => F (k + 1)) l) (sl (fun k => M (k + 1)) n))) ∧ ∃ m', w' = (w.drewN m).drewN m' := fun m =>
          ih _ fr _ _ n nr _ (w.drewN m) (hF3.drewN m) (hM4.drewN m) (by omega) (by omega) (by omega) (by omega)
        have hn63 : n ≤ 2 ^ 63 - 2 := by simp only [maxLen] at h4; omega
        have e : cvs (x.data.toList :: sl (fun k => F (k + 1)) l) (y.data.toList :: sl (fun k => M (k + 1)) n) = (((x.data.toList == [43] && y.data.toList != [35]) || x.data.toList == y.data.toList) && cvs (sl (fun k => F (k + 1)) l) (sl (fun k => M (k + 1)) n)) := by simp [cvs, q]
        rw [e]
        generalize cvs (sl (fun k => F (k + 1)) l) (sl (fun k => M (k + 1)) n) = R at hrec ⊢
        have hp1 : (0 : Int) < (n : Int) + 1 := by omega
        have hle1 : (l : Int) ≤ (fr : Int) := by omega
        have hle2 : (n : Int) ≤ (nr : Int) := by omega
        clear hF hM h1 h2 h3 h4 e ih hx hy q hF3 hM4
        by_cases q1 : x.data.toList = [43]
        · have b43 : (x.toList == [43]) = true := by rw [tl_eq, q1]; rfl
          by_cases q2 : y.data.toList = [35]
          · have y35 : (y.toList == [35]) = true := by rw [tl_eq, q2]; rfl
            have y35' : (y.toList != [35]) = false := by unfold bne; rw [y35]; rfl
            have bxy : (x.toList == y.toList) = false := by rw [tl_eq, tl_eq, q1, q2]; rfl
            have e1 : (((x.data.toList == [43] && y.data.toList != [35]) || x.data.toList == y.data.toList) && R) = false := by rw [← tl_eq x, ← tl_eq y, b43, bxy, y35']; rfl
            rw [e1]
            clear e1 q1 q2 hrec
            go_enter Tryd.func37, Tryd.ntmps37
            go_wp2_with fail
            go_quiet (fail)
            go_wp2_with fail
            go_ret
            exact ⟨rfl, nq, rfl⟩
          · have y35 : (y.toList == [35]) = false := by rw [tl_eq]; simpa using q2
            have y35' : (y.toList != [35]) = true := by unfold bne; rw [y35]; rfl
            have e1 : (((x.data.toList == [43] && y.data.toList != [35]) || x.data.toList == y.data.toList) && R) = R := by rw [← tl_eq x, ← tl_eq y, b43, y35']; simp
            rw [e1]
            clear e1 q1 q2
            go_enter Tryd.func37, Tryd.ntmps37
            go_wp2_with fail
            go_quiet (first | (go_at_call 37; exact Calls.quiet_of (hrec _)))
            go_wp2_with fail
            go_ret
            exact ⟨rfl, nq, rfl⟩
        · have b43 : (x.toList == [43]) = false := by rw [tl_eq]; simpa using q1
          by_cases q2 : x.data.toList = y.data.toList
          · have bxy : (x.toList == y.toList) = true := by rw [tl_eq, tl_eq, q2]; simp
            have e1 : (((x.data.toList == [43] && y.data.toList != [35]) || x.data.toList == y.data.toList) && R) = R := by rw [← tl_eq x, ← tl_eq y, b43, bxy]; simp
            rw [e1]
            clear e1 q1 q2
            go_enter Tryd.func37, Tryd.ntmps37
            go_wp2_with fail
            go_quiet (first | (go_at_call 37; exact Calls.quiet_of (hrec _)))
            go_wp2_with fail
            go_ret
            exact ⟨rfl, nq, rfl⟩
          · have bxy : (x.toList == y.toList) = false := by rw [tl_eq, tl_eq]; simpa using q2
            have e1 : (((x.data.toList == [43] && y.data.toList != [35]) || x.data.toList == y.data.toList) && R) = false := by rw [← tl_eq x, ← tl_eq y, b43, bxy]; rfl
            rw [e1]
            clear e1 q1 q2 hrec
            go_enter Tryd.func37, Tryd.ntmps37
            go_wp2_with fail
            go_quiet (fail)
            go_wp2_with fail
            go_ret
            exact ⟨rfl, nq, rfl⟩
end Go.Proofs.YtlbbaniehkghdaaDoor
