/- The document's own Compare, and its numbers. -/
import Derived.Test.YtifgojkmdicdmaaKtake
import Derived.Laws.Cover1
namespace Go.Proofs.Ytifgojkmdicdmaa
open Go.RowKit
set_option linter.unusedVariables false
set_option linter.unusedSimpArgs false

theorem less_cmp : ∀ {xs ys : List Int}, Okb xs → Okb ys → Op.bytesLess (xs.map fun n => UInt8.ofNat n.toNat) (ys.map fun n => UInt8.ofNat n.toNat) = decide (cmp xs ys = -1)
  | [], [], _, _ => by simp [Op.bytesLess, cmp]
  | [], _ :: _, _, _ => by simp [Op.bytesLess, cmp]
  | _ :: _, [], _, _ => by simp [Op.bytesLess, cmp]
  | x :: xs, y :: ys, hx, hy => by
    have ih := less_cmp hx.tail hy.tail
    have h1 := hx.head
    have h2 := hy.head
    have e1 : (UInt8.ofNat x.toNat).toNat = x.toNat := by
      rw [UInt8.toNat_ofNat']
      simp only [Nat.reducePow]
      exact Nat.mod_eq_of_lt (by omega)
    have e2 : (UInt8.ofNat y.toNat).toNat = y.toNat := by
      rw [UInt8.toNat_ofNat']
      simp only [Nat.reducePow]
      exact Nat.mod_eq_of_lt (by omega)
    rw [List.map_cons, List.map_cons, Op.bytesLess]
    rcases Int.lt_trichotomy x y with h | h | h
    · have l1 : UInt8.ofNat x.toNat < UInt8.ofNat y.toNat := by rw [UInt8.lt_iff_toNat_lt, e1, e2]; omega
      rw [cmp_less h]
      simp [l1]
    · subst h
      rw [cmp_same, ← ih]
      simp
    · have l1 : ¬ UInt8.ofNat x.toNat < UInt8.ofNat y.toNat := by rw [UInt8.lt_iff_toNat_lt, e1, e2]; omega
      have l2 : UInt8.ofNat x.toNat ≠ UInt8.ofNat y.toNat := fun e => by
        have := congrArg UInt8.toNat e
        rw [e1, e2] at this
        omega
      rw [cmp_more h]
      simp [l1, l2]
theorem less_str {xs ys : List Int} (hx : Okb xs) (hy : Okb ys) : Op.bytesLess (strOfNums xs).toList (strOfNums ys).toList = decide (cmp xs ys = -1) := by
  rw [ByteArray.toList_eq, ByteArray.toList_eq, strOfNums_data, strOfNums_data]
  exact less_cmp hx hy

set_option maxHeartbeats 1000000 in
set_option maxRecDepth 100000 in
theorem rcmp_any {w : World} {a b : Option Addr} {la ca lb cb : Nat} {xs ys : List Int} (ha : Sl w a la ca xs) (hb : Sl w b lb cb ys) :
    Calls Try.prog 19 #[.slice a la ca, .slice b lb cb] w fun e w' => e = .returned (.int .i64 (cmp xs ys)) ∧ Below w.heap.size w w' := by
  have g1 := fun j => str_l (ha.drewN j)
  have g2 := fun j => str_l (hb.drewN j)
  have hlt := less_str ha.2.1 hb.2.1
  have heq := str_eq ha.2.1 hb.2.1
  have hz := @cmp_zero xs ys
  have hv := cmp_vals xs ys
  clear ha hb
  generalize strOfNums xs = S1 at g1 hlt heq
  generalize strOfNums ys = S2 at g2 hlt heq
  generalize cmp xs ys = c at hlt hz hv ⊢
  rcases hv with e | e | e <;> subst e
  · have h1 : Op.bytesLess S1.toList S2.toList = true := by rw [hlt]; rfl
    clear hlt heq hz
    go_enter Try.func19, Try.ntmps19
    go_wp2_with fail
    go_quiet (fail)
    go_wp2_with fail
    go_ret
    exact ⟨rfl, below_drewN (Below.refl _ _) _⟩
  · have h1 : Op.bytesLess S1.toList S2.toList = false := by rw [hlt]; rfl
    have h2 : (S1.toList == S2.toList) = true := by rw [heq]; simpa using hz.1 rfl
    clear hlt heq hz
    go_enter Try.func19, Try.ntmps19
    go_wp2_with fail
    go_quiet (fail)
    go_wp2_with fail
    go_ret
    exact ⟨rfl, below_drewN (Below.refl _ _) _⟩
  · have h1 : Op.bytesLess S1.toList S2.toList = false := by rw [hlt]; rfl
    have h2 : (S1.toList == S2.toList) = false := by
      rw [heq, decide_eq_false_iff_not]
      intro e
      have := hz.2 e
      omega
    clear hlt heq hz
    go_enter Try.func19, Try.ntmps19
    go_wp2_with fail
    go_quiet (fail)
    go_wp2_with fail
    go_ret
    exact ⟨rfl, below_drewN (Below.refl _ _) _⟩

/-- A number as eight bytes: its sign bit turned. -/
def turned (n : Int) : Nat := (n + 9223372036854775808).toNat
theorem xor_top {a : Nat} (h : a < 9223372036854775808) : a ^^^ 9223372036854775808 = a + 9223372036854775808 := by
  have e : (9223372036854775808 : Nat) = 2 ^ 63 := rfl
  rw [e] at h ⊢
  rw [Nat.add_comm]
  apply Nat.eq_of_testBit_eq
  intro i
  rw [Nat.testBit_xor, Nat.testBit_two_pow]
  rcases Nat.lt_trichotomy i 63 with q | q | q
  · rw [Nat.testBit_two_pow_add_gt q]
    have : decide (63 = i) = false := by simp; omega
    simp [this]
  · subst q
    rw [Nat.testBit_two_pow_add_eq]
    simp
  · have h1 : a.testBit i = false := Nat.testBit_lt_two_pow (Nat.lt_of_lt_of_le h (Nat.pow_le_pow_right (by decide) (by omega)))
    have h2 : (2 ^ 63 + a).testBit i = false := Nat.testBit_lt_two_pow (Nat.lt_of_lt_of_le (show 2 ^ 63 + a < 2 ^ 64 by omega) (Nat.pow_le_pow_right (by decide) (by omega)))
    have : decide (63 = i) = false := by simp; omega
    rw [h1, h2, this]
    rfl
theorem xor_low {a : Nat} (h : a < 9223372036854775808) : (a + 9223372036854775808) ^^^ 9223372036854775808 = a := by
  rw [← xor_top h, Nat.xor_assoc, Nat.xor_self, Nat.xor_zero]
def InI (n : Int) : Prop := -9223372036854775808 ≤ n ∧ n ≤ 9223372036854775807
theorem turned_lt {n : Int} (h : InI n) : turned n < 18446744073709551616 := by unfold InI at h; unfold turned; omega
theorem turn_xor {n : Int} (h : InI n) : ∃ A : Nat, A < 18446744073709551616 ∧ IntKind.u64.wrap n = (A : Int) ∧ A ^^^ 9223372036854775808 = turned n := by
  unfold InI at h
  unfold turned
  by_cases q : 0 ≤ n
  · refine ⟨n.toNat, by omega, ?_, ?_⟩
    · rw [IntKind.wrap_u64]
      omega
    · rw [xor_top (by omega)]
      omega
  · refine ⟨(n + 18446744073709551616).toNat, by omega, ?_, ?_⟩
    · rw [IntKind.wrap_u64]
      omega
    · have e : (n + 18446744073709551616).toNat = (n + 9223372036854775808).toNat + 9223372036854775808 := by omega
      rw [e, xor_low (by omega)]
theorem fxs8 (n : Nat) : fxs n 8 = fx n 8 := by
  unfold fxs
  rw [if_pos (by unfold InSize; decide)]
  rfl
/-- The number of eight bytes. -/
def back (u : Nat) : Int := (u : Int) - 9223372036854775808
theorem back_turned {n : Int} (h : InI n) : back (turned n) = n := by unfold InI at h; unfold back turned; omega
theorem back_xor {u : Nat} (h : u < 18446744073709551616) : ∃ A : Nat, A < 18446744073709551616 ∧ u ^^^ 9223372036854775808 = A ∧ IntKind.i64.wrap (A : Int) = back u := by
  by_cases q : u < 9223372036854775808
  · refine ⟨u + 9223372036854775808, by omega, xor_top q, ?_⟩
    unfold back
    rw [IntKind.wrap_i64]
    omega
  · obtain ⟨t, rfl⟩ : ∃ t, u = t + 9223372036854775808 := ⟨u - 9223372036854775808, by omega⟩
    refine ⟨t, by omega, xor_low (by omega), ?_⟩
    unfold back
    rw [IntKind.wrap_i64]
    omega
/-- The number at the beginning: an error (0: none) and itself. -/
def tn (xs : List Int) : Nat × Int := if xs.length < 8 then (5, 0) else (0, back (fv (xof xs) 8))
theorem fv8_lt {xs : List Int} (h : Okb xs) (h8 : 8 ≤ xs.length) : fv (xof xs) 8 < 18446744073709551616 := by
  have := fv_lt (xof xs) 8 (fun j hj => by
    have := h xs[j] (List.getElem_mem (by omega))
    simp [xof, List.getElem?_eq_getElem (show j < xs.length by omega)]
    omega)
  omega
end Go.Proofs.Ytifgojkmdicdmaa
