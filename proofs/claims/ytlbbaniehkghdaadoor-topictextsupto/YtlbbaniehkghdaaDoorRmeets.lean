/- The document's own meeting of levels. -/
import Derived.Test.YtlbbaniehkghdaaDoorRlev
namespace Go.Proofs.YtlbbaniehkghdaaDoor
open Go.RowKit
set_option linter.unusedVariables false

/-- What is read of a slice of strings. -/
def Strs (w : World) (ao : Option Addr) (len : Nat) (Y : Nat → ByteArray) : Prop :=
  ∀ k, k < len → ∃ b off, ao = some ⟨b, off, none⟩ ∧ w.cell? ⟨b, off + k, none⟩ = some (.string (Y k))
def sl (Y : Nat → ByteArray) (n : Nat) : List (List UInt8) := (List.range n).map fun k => (Y k).data.toList
theorem sl_zero (Y : Nat → ByteArray) : sl Y 0 = [] := rfl
theorem sl_succ (Y : Nat → ByteArray) (n : Nat) : sl Y (n + 1) = (Y 0).data.toList :: sl (fun k => Y (k + 1)) n := by
  simp [sl, List.range_succ_eq_map, List.map_map, Function.comp_def]
theorem Strs.cut {w : World} {ao : Option Addr} {len : Nat} {Y : Nat → ByteArray} (h : Strs w ao (len + 1) Y) (b off : Nat) (e : ao = some ⟨b, off, none⟩) : Strs w (some ⟨b, off + 1, none⟩) len (fun k => Y (k + 1)) := fun k hk => by
  obtain ⟨b', off', e', hc⟩ := h (k + 1) (by omega)
  rw [e] at e'
  simp only [Option.some.injEq, Addr.mk.injEq, and_true] at e'
  obtain ⟨rfl, rfl⟩ := e'
  exact ⟨b, off + 1, rfl, by rw [show off + 1 + k = off + (k + 1) by omega]; exact hc⟩
theorem Strs.drewN {w : World} {ao : Option Addr} {len : Nat} {Y : Nat → ByteArray} (h : Strs w ao len Y) (n : Nat) : Strs (w.drewN n) ao len Y := h
/-- What is left behind the first: where it lies, and what it holds. -/
theorem strs_rest {w : World} {b off len rc : Nat} {Y : Nat → ByteArray} (h : Strs w (some ⟨b, off, none⟩) (len + 1) Y) (hl : len ≤ rc) : ∃ b' off', (if rc = 0 then some (⟨b, off, none⟩ : Addr) else some ⟨b, off + 1, none⟩) = some ⟨b', off', none⟩ ∧ Strs w (some ⟨b', off', none⟩) len (fun k => Y (k + 1)) := by
  by_cases q : rc = 0
  · exact ⟨b, off, by simp [q], fun k hk => absurd hk (by omega)⟩
  · exact ⟨b, off + 1, by simp [q], h.cut b off rfl⟩
theorem tl_eq (x : ByteArray) : x.toList = x.data.toList := ByteArray.toList_eq x

set_option maxHeartbeats 2000000 in
set_option maxRecDepth 100000 in
theorem rmeets_any : ∀ (fl : Nat) (fo : Option Addr) (fc : Nat) (F : Nat → ByteArray) (no : Option Addr) (nl nc : Nat) (M : Nat → ByteArray) (w : World), Strs w fo fl F → Strs w no nl M → fl ≤ fc → fc ≤ maxLen → nl ≤ nc → nc ≤ maxLen →
    Calls Tryd.prog 35 #[.slice fo fl fc, .slice no nl nc] w fun e w' => e = .returned (.bool (mts (sl F fl) (sl M nl))) ∧ ∃ m, w' = w.drewN m := by
  intro fl
  induction fl with
  | zero =>
    intro fo fc F no nl nc M w hF hM h1 h2 h3 h4
    rw [sl_zero]
    have e : mts [] (sl M nl) = ((nl : Int) == 0) := by
      cases nl with
      | zero => rfl
      | succ n => rw [sl_succ]; simp [mts]; omega
    rw [e]
    clear hF hM h1 h2 h3 h4 e
    go_enter Tryd.func35, Tryd.ntmps35
    go_wp2_with fail
    go_ret
    exact ⟨rfl, 0, rfl⟩
  | succ l ih =>
    intro fo fc F no nl nc M w hF hM h1 h2 h3 h4
    obtain ⟨b1, off1, hfo, hc1⟩ := hF 0 (by omega)
    subst hfo
    rw [Nat.add_zero] at hc1
    rw [sl_succ]
    obtain ⟨x, hx⟩ : ∃ x, x = F 0 := ⟨_, rfl⟩
    rw [← hx] at hc1 ⊢
    have hl63 : l ≤ 2 ^ 63 - 2 := by simp only [maxLen] at h2; omega
    have hz : (((l : Int) + 1) == 0) = false := by simp; omega
    by_cases q : x.data.toList = [35]
    · have b35' : (x.toList == [35]) = true := by rw [tl_eq, q]; rfl
      have e : mts (x.data.toList :: sl (fun k => F (k + 1)) l) (sl M nl) = true := by simp [mts, q]
      rw [e]
      clear hF hM h1 h2 h3 h4 e ih hx q
      go_enter Tryd.func35, Tryd.ntmps35
      go_wp2_with fail
      go_ret
      exact ⟨rfl, 0, rfl⟩
    · have b35' : (x.toList == [35]) = false := by rw [tl_eq]; simpa using q
      cases nl with
      | zero =>
        have e : mts (x.data.toList :: sl (fun k => F (k + 1)) l) (sl M 0) = false := by rw [sl_zero]; simp [mts, q]
        rw [e]
        clear hF hM h1 h2 h3 h4 e ih hx q
        go_enter Tryd.func35, Tryd.ntmps35
        go_wp2_with fail
        go_quiet (fail)
        go_wp2_with fail
        go_ret
        exact ⟨rfl, nq, rfl⟩
      | succ n =>
        obtain ⟨b2, off2, hno, hc2⟩ := hM 0 (by omega)
        subst hno
        rw [Nat.add_zero] at hc2
        rw [sl_succ]
        obtain ⟨y, hy⟩ : ∃ y, y = M 0 := ⟨_, rfl⟩
        rw [← hy] at hc2 ⊢
        obtain ⟨fr, rfl⟩ : ∃ fr, fc = fr + 1 := ⟨fc - 1, by omega⟩
        obtain ⟨nr, rfl⟩ : ∃ nr, nc = nr + 1 := ⟨nc - 1, by omega⟩
        obtain ⟨b3, off3, hif3, hF3⟩ := strs_rest hF (by omega : l ≤ fr)
        obtain ⟨b4, off4, hif4, hM4⟩ := strs_rest hM (by omega : n ≤ nr)
        have hrec : ∀ m, Calls Tryd.prog 35 #[.slice (some ⟨b3, off3, none⟩) l fr, .slice (some ⟨b4, off4, none⟩) n nr] (w.drewN m) fun e w' => e = .returned (.bool (mts (sl (fun k => F (k + 1)) l) (sl (fun k => M (k + 1)) n))) ∧ ∃ m', w' = (w.drewN m).drewN m' := fun m =>
          ih _ fr _ _ n nr _ (w.drewN m) (hF3.drewN m) (hM4.drewN m) (by omega) (by omega) (by omega) (by omega)
        have hn63 : n ≤ 2 ^ 63 - 2 := by simp only [maxLen] at h4; omega
        have e : mts (x.data.toList :: sl (fun k => F (k + 1)) l) (y.data.toList :: sl (fun k => M (k + 1)) n) = ((x.data.toList == [43] || x.data.toList == y.data.toList) && mts (sl (fun k => F (k + 1)) l) (sl (fun k => M (k + 1)) n)) := by simp [mts, q]
        rw [e]
        generalize mts (sl (fun k => F (k + 1)) l) (sl (fun k => M (k + 1)) n) = R at hrec ⊢
        have hp1 : (0 : Int) < (n : Int) + 1 := by omega
        have hle1 : (l : Int) ≤ (fr : Int) := by omega
        have hle2 : (n : Int) ≤ (nr : Int) := by omega
        clear hF hM h1 h2 h3 h4 e ih hx hy q hF3 hM4
        by_cases q1 : x.data.toList = [43]
        · have b43 : (x.toList == [43]) = true := by rw [tl_eq, q1]; rfl
          have e1 : ((x.data.toList == [43] || x.data.toList == y.data.toList) && R) = R := by simp [q1]
          rw [e1]
          clear e1 q1
          go_enter Tryd.func35, Tryd.ntmps35
          go_wp2_with fail
          go_quiet (first | (go_at_call 35; exact Calls.quiet_of (hrec _)))
          go_wp2_with fail
          go_ret
          exact ⟨rfl, nq, rfl⟩
        · have b43 : (x.toList == [43]) = false := by rw [tl_eq]; simpa using q1
          by_cases q2 : x.data.toList = y.data.toList
          · have bxy : (x.toList == y.toList) = true := by rw [tl_eq, tl_eq, q2]; simp
            have e1 : ((x.data.toList == [43] || x.data.toList == y.data.toList) && R) = R := by simp [q2]
            rw [e1]
            clear e1 q1 q2
            go_enter Tryd.func35, Tryd.ntmps35
            go_wp2_with fail
            go_quiet (first | (go_at_call 35; exact Calls.quiet_of (hrec _)))
            go_wp2_with fail
            go_ret
            exact ⟨rfl, nq, rfl⟩
          · have bxy : (x.toList == y.toList) = false := by rw [tl_eq, tl_eq]; simpa using q2
            have e1 : ((x.data.toList == [43] || x.data.toList == y.data.toList) && R) = false := by rw [← tl_eq x, ← tl_eq y, b43, bxy]; rfl
            rw [e1]
            clear e1 q1 q2 hrec
            go_enter Tryd.func35, Tryd.ntmps35
            go_wp2_with fail
            go_quiet (fail)
            go_wp2_with fail
            go_ret
            exact ⟨rfl, nq, rfl⟩
end Go.Proofs.YtlbbaniehkghdaaDoor
