import Derived.Laws.Cover1
import Derived.Test.YtnoackenjfpcmaaPk10
/- The document's own TakePart. -/
namespace Go.Proofs.Ytnoackenjfpcmaa
open Go.RowKit
set_option linter.unusedVariables false
set_option linter.unusedSimpArgs false

theorem tp_err : ∀ (n : Nat) (xs : List Int), xs.length ≤ n → (tp xs).1 ≠ 0 → tp xs = ((tp xs).1, [], 0)
  | 0, xs, h, h0 => by
    have e : xs = [] := List.length_eq_zero_iff.1 (by omega)
    subst e
    simp [tp]
  | n + 1, xs, h, h0 => by
    match xs, h, h0 with
    | [], _, h0 => simp [tp]
    | [x], _, h0 => simp [tp]
    | x :: y :: r, h, h0 =>
      by_cases q : x = 0
      · subst q
        by_cases y1 : y = 1
        · subst y1
          rw [tp_end] at h0
          simp at h0
        · by_cases y2 : y = 255
          · subst y2
            rw [tp_zero] at h0 ⊢
            by_cases t : (tp r).1 = 0
            · rw [if_pos t] at h0
              simp at h0
            · rw [if_neg t]
          · rw [tp_bad y1 y2]
      · rw [tp_plain q] at h0 ⊢
        by_cases t : (tp (y :: r)).1 = 0
        · rw [if_pos t] at h0
          simp at h0
        · rw [if_neg t]
theorem okb_tp : ∀ (n : Nat) (xs : List Int), xs.length ≤ n → Okb xs → Okb (tp xs).2.1
  | 0, xs, h, _ => by
    have e : xs = [] := List.length_eq_zero_iff.1 (by omega)
    subst e
    exact fun x hx => by simp [tp] at hx
  | n + 1, xs, h, hk => by
    match xs, h, hk with
    | [], _, _ => exact fun x hx => by simp [tp] at hx
    | [y], _, _ => exact fun x hx => by simp [tp] at hx
    | x :: y :: r, h, hk =>
      simp at h
      by_cases q : x = 0
      · subst q
        by_cases y1 : y = 1
        · subst y1
          rw [tp_end]
          exact fun x hx => by cases hx
        · by_cases y2 : y = 255
          · subst y2
            rw [tp_zero]
            by_cases t : (tp r).1 = 0
            · rw [if_pos t]
              intro z hz
              rcases List.mem_cons.1 hz with e | e
              · omega
              · exact okb_tp n r (by omega) hk.tail.tail z e
            · rw [if_neg t]
              exact fun x hx => by cases hx
          · rw [tp_bad y1 y2]
            exact fun x hx => by cases hx
      · rw [tp_plain q]
        by_cases t : (tp (y :: r)).1 = 0
        · rw [if_pos t]
          intro z hz
          rcases List.mem_cons.1 hz with e | e
          · rw [e]; exact hk.head
          · exact okb_tp n (y :: r) (by simp; omega) hk.tail z e
        · rw [if_neg t]
          exact fun x hx => by cases hx
/-- What was found so far, and what is still to be read. -/
def J (xs out : List Int) (i : Nat) : Prop := tp xs = if (tp (xs.drop i)).1 = 0 then (0, out ++ (tp (xs.drop i)).2.1, i + (tp (xs.drop i)).2.2) else ((tp (xs.drop i)).1, [], 0)
theorem J.zero (xs : List Int) : J xs [] 0 := by
  unfold J
  rw [List.drop_zero]
  by_cases t : (tp xs).1 = 0
  · rw [if_pos t, List.nil_append, Nat.zero_add, ← t]
  · rw [if_neg t]
    exact tp_err _ xs (Nat.le_refl _) t
theorem J.plain {xs out : List Int} {i : Nat} (h : J xs out i) (hi : i < xs.length) (hc : xs[i] ≠ 0) : J xs (out ++ [xs[i]]) (i + 1) := by
  unfold J at h ⊢
  rw [List.drop_eq_getElem_cons hi, tp_plain hc] at h
  by_cases t : (tp (xs.drop (i + 1))).1 = 0
  · rw [if_pos t] at h ⊢
    rw [h]
    simp
    omega
  · rw [if_neg t] at h ⊢
    rw [h]
    simp [t]
theorem J.esc {xs out : List Int} {i : Nat} (h : J xs out i) (hi : i + 1 < xs.length) (h0 : xs[i] = 0) (hc : xs[i + 1] = 255) : J xs (out ++ [0]) (i + 1 + 1) := by
  unfold J at h ⊢
  rw [List.drop_eq_getElem_cons (by omega), List.drop_eq_getElem_cons hi, h0, hc, tp_zero] at h
  by_cases t : (tp (xs.drop (i + 1 + 1))).1 = 0
  · rw [if_pos t] at h ⊢
    rw [h]
    simp
    omega
  · rw [if_neg t] at h ⊢
    rw [h]
    simp [t]
theorem J.end {xs out : List Int} {i : Nat} (h : J xs out i) (hi : i + 1 < xs.length) (h0 : xs[i] = 0) (hc : xs[i + 1] = 1) : tp xs = (0, out, i + 1 + 1) := by
  unfold J at h
  rw [List.drop_eq_getElem_cons (by omega), List.drop_eq_getElem_cons hi, h0, hc, tp_end] at h
  rw [h]
  simp
theorem J.bad {xs out : List Int} {i : Nat} (h : J xs out i) (hi : i + 1 < xs.length) (h0 : xs[i] = 0) (h1 : xs[i + 1] ≠ 1) (h2 : xs[i + 1] ≠ 255) : tp xs = (3, [], 0) := by
  unfold J at h
  rw [List.drop_eq_getElem_cons (by omega), List.drop_eq_getElem_cons hi, h0, tp_bad h1 h2] at h
  rw [h]
  simp
theorem J.lone {xs out : List Int} {i : Nat} (h : J xs out i) (hi : i + 1 = xs.length) (h0 : xs[i] = 0) : tp xs = (5, [], 0) := by
  unfold J at h
  rw [List.drop_eq_getElem_cons (by omega), h0, List.drop_of_length_le (by omega), tp_lone] at h
  rw [h]
  simp
theorem J.out {xs out : List Int} {i : Nat} (h : J xs out i) (hi : xs.length ≤ i) : tp xs = (5, [], 0) := by
  unfold J at h
  rw [List.drop_of_length_le hi, tp_nil] at h
  rw [h]
  simp

/-- What is told of a part. -/
def Tp (xs : List Int) (B : Nat) (e : Ending) (w' : World) : Prop := ∃ v, e = .returned (.tuple #[v, .int .i64 ((tp xs).2.2 : Int), .int .i64 ((tp xs).1 : Int)]) ∧ Row B w' v (tp xs).2.1

end Go.Proofs.Ytnoackenjfpcmaa

/- The document's own Compare, and its numbers. -/
namespace Go.Proofs.Ytnoackenjfpcmaa
open Go.RowKit
set_option linter.unusedVariables false
set_option linter.unusedSimpArgs false

theorem less_cmp : ∀ {xs ys : List Int}, Okb xs → Okb ys → Op.bytesLess (xs.map fun n => UInt8.ofNat n.toNat) (ys.map fun n => UInt8.ofNat n.toNat) = decide (cmp xs ys = -1)
  | [], [], _, _ => by simp [Op.bytesLess, cmp]
  | [], _ :: _, _, _ => by simp [Op.bytesLess, cmp]
  | _ :: _, [], _, _ => by simp [Op.bytesLess, cmp]
  | x :: xs, y :: ys, hx, hy => by
    have ih := less_cmp hx.tail hy.tail
    have h1 := hx.head
    have h2 := hy.head
    have e1 : (UInt8.ofNat x.toNat).toNat = x.toNat := by
      rw [UInt8.toNat_ofNat']
      simp only [Nat.reducePow]
      exact Nat.mod_eq_of_lt (by omega)
    have e2 : (UInt8.ofNat y.toNat).toNat = y.toNat := by
      rw [UInt8.toNat_ofNat']
      simp only [Nat.reducePow]
      exact Nat.mod_eq_of_lt (by omega)
    rw [List.map_cons, List.map_cons, Op.bytesLess]
    rcases Int.lt_trichotomy x y with h | h | h
    · have l1 : UInt8.ofNat x.toNat < UInt8.ofNat y.toNat := by rw [UInt8.lt_iff_toNat_lt, e1, e2]; omega
      rw [cmp_less h]
      simp [l1]
    · subst h
      rw [cmp_same, ← ih]
      simp
    · have l1 : ¬ UInt8.ofNat x.toNat < UInt8.ofNat y.toNat := by rw [UInt8.lt_iff_toNat_lt, e1, e2]; omega
      have l2 : UInt8.ofNat x.toNat ≠ UInt8.ofNat y.toNat := fun e => by
        have := congrArg UInt8.toNat e
        rw [e1, e2] at this
        omega
      rw [cmp_more h]
      simp [l1, l2]
theorem less_str {xs ys : List Int} (hx : Okb xs) (hy : Okb ys) : Op.bytesLess (strOfNums xs).toList (strOfNums ys).toList = decide (cmp xs ys = -1) := by
  rw [ByteArray.toList_eq, ByteArray.toList_eq, strOfNums_data, strOfNums_data]
  exact less_cmp hx hy

set_option maxHeartbeats 1000000 in
set_option maxRecDepth 100000 in
theorem rcmp_any {w : World} {a b : Option Addr} {la ca lb cb : Nat} {xs ys : List Int} (ha : Sl w a la ca xs) (hb : Sl w b lb cb ys) :
    Calls Try.prog 18 #[.slice a la ca, .slice b lb cb] w fun e w' => e = .returned (.int .i64 (cmp xs ys)) ∧ Below w.heap.size w w' := by
  have g1 := fun j => str_l (ha.drewN j)
  have g2 := fun j => str_l (hb.drewN j)
  have hlt := less_str ha.2.1 hb.2.1
  have heq := str_eq ha.2.1 hb.2.1
  have hz := @cmp_zero xs ys
  have hv := cmp_vals xs ys
  clear ha hb
  generalize strOfNums xs = S1 at g1 hlt heq
  generalize strOfNums ys = S2 at g2 hlt heq
  generalize cmp xs ys = c at hlt hz hv ⊢
  rcases hv with e | e | e <;> subst e
  · have h1 : Op.bytesLess S1.toList S2.toList = true := by rw [hlt]; rfl
    clear hlt heq hz
    go_enter Try.func18, Try.ntmps18
    go_wp2_with fail
    go_quiet (fail)
    go_wp2_with fail
    go_ret
    exact ⟨rfl, below_drewN (Below.refl _ _) _⟩
  · have h1 : Op.bytesLess S1.toList S2.toList = false := by rw [hlt]; rfl
    have h2 : (S1.toList == S2.toList) = true := by rw [heq]; simpa using hz.1 rfl
    clear hlt heq hz
    go_enter Try.func18, Try.ntmps18
    go_wp2_with fail
    go_quiet (fail)
    go_wp2_with fail
    go_ret
    exact ⟨rfl, below_drewN (Below.refl _ _) _⟩
  · have h1 : Op.bytesLess S1.toList S2.toList = false := by rw [hlt]; rfl
    have h2 : (S1.toList == S2.toList) = false := by
      rw [heq, decide_eq_false_iff_not]
      intro e
      have := hz.2 e
      omega
    clear hlt heq hz
    go_enter Try.func18, Try.ntmps18
    go_wp2_with fail
    go_quiet (fail)
    go_wp2_with fail
    go_ret
    exact ⟨rfl, below_drewN (Below.refl _ _) _⟩

/-- A number as eight bytes: its sign bit turned. -/
def turned (n : Int) : Nat := (n + 9223372036854775808).toNat
theorem xor_top {a : Nat} (h : a < 9223372036854775808) : a ^^^ 9223372036854775808 = a + 9223372036854775808 := by
  have e : (9223372036854775808 : Nat) = 2 ^ 63 := rfl
  rw [e] at h ⊢
  rw [Nat.add_comm]
  apply Nat.eq_of_testBit_eq
  intro i
  rw [Nat.testBit_xor, Nat.testBit_two_pow]
  rcases Nat.lt_trichotomy i 63 with q | q | q
  · rw [Nat.testBit_two_pow_add_gt q]
    have : decide (63 = i) = false := by simp; omega
    simp [this]
  · subst q
    rw [Nat.testBit_two_pow_add_eq]
    simp
  · have h1 : a.testBit i = false := Nat.testBit_lt_two_pow (Nat.lt_of_lt_of_le h (Nat.pow_le_pow_right (by decide) (by omega)))
    have h2 : (2 ^ 63 + a).testBit i = false := Nat.testBit_lt_two_pow (Nat.lt_of_lt_of_le (show 2 ^ 63 + a < 2 ^ 64 by omega) (Nat.pow_le_pow_right (by decide) (by omega)))
    have : decide (63 = i) = false := by simp; omega
    rw [h1, h2, this]
    rfl
theorem xor_low {a : Nat} (h : a < 9223372036854775808) : (a + 9223372036854775808) ^^^ 9223372036854775808 = a := by
  rw [← xor_top h, Nat.xor_assoc, Nat.xor_self, Nat.xor_zero]
def InI (n : Int) : Prop := -9223372036854775808 ≤ n ∧ n ≤ 9223372036854775807
theorem turned_lt {n : Int} (h : InI n) : turned n < 18446744073709551616 := by unfold InI at h; unfold turned; omega
theorem turn_xor {n : Int} (h : InI n) : ∃ A : Nat, A < 18446744073709551616 ∧ IntKind.u64.wrap n = (A : Int) ∧ A ^^^ 9223372036854775808 = turned n := by
  unfold InI at h
  unfold turned
  by_cases q : 0 ≤ n
  · refine ⟨n.toNat, by omega, ?_, ?_⟩
    · rw [IntKind.wrap_u64]
      omega
    · rw [xor_top (by omega)]
      omega
  · refine ⟨(n + 18446744073709551616).toNat, by omega, ?_, ?_⟩
    · rw [IntKind.wrap_u64]
      omega
    · have e : (n + 18446744073709551616).toNat = (n + 9223372036854775808).toNat + 9223372036854775808 := by omega
      rw [e, xor_low (by omega)]
theorem fxs8 (n : Nat) : fxs n 8 = fx n 8 := by
  unfold fxs
  rw [if_pos (by unfold InSize; decide)]
  rfl
/-- The number of eight bytes. -/
def back (u : Nat) : Int := (u : Int) - 9223372036854775808
theorem back_turned {n : Int} (h : InI n) : back (turned n) = n := by unfold InI at h; unfold back turned; omega
theorem back_xor {u : Nat} (h : u < 18446744073709551616) : ∃ A : Nat, A < 18446744073709551616 ∧ u ^^^ 9223372036854775808 = A ∧ IntKind.i64.wrap (A : Int) = back u := by
  by_cases q : u < 9223372036854775808
  · refine ⟨u + 9223372036854775808, by omega, xor_top q, ?_⟩
    unfold back
    rw [IntKind.wrap_i64]
    omega
  · obtain ⟨t, rfl⟩ : ∃ t, u = t + 9223372036854775808 := ⟨u - 9223372036854775808, by omega⟩
    refine ⟨t, by omega, xor_low (by omega), ?_⟩
    unfold back
    rw [IntKind.wrap_i64]
    omega
/-- The number at the beginning: an error (0: none) and itself. -/
def tn (xs : List Int) : Nat × Int := if xs.length < 8 then (5, 0) else (0, back (fv (xof xs) 8))
theorem fv8_lt {xs : List Int} (h : Okb xs) (h8 : 8 ≤ xs.length) : fv (xof xs) 8 < 18446744073709551616 := by
  have := fv_lt (xof xs) 8 (fun j hj => by
    have := h xs[j] (List.getElem_mem (by omega))
    simp [xof, List.getElem?_eq_getElem (show j < xs.length by omega)]
    omega)
  omega
end Go.Proofs.Ytnoackenjfpcmaa

/- The document's own May, Weight and Ahead of entries. -/
namespace Go.Proofs.Ytnoackenjfpcmaa
open Go.RowKit
set_option linter.unusedVariables false
set_option linter.unusedSimpArgs false

set_option maxHeartbeats 2000000 in
set_option maxRecDepth 100000 in
theorem rahead_any {w : World} {ka va kb vb : Option Addr} {kc vc kd vd : Nat} {a b : EntV} (ha : Sl w ka a.key.length kc a.key) (hb : Sl w kb b.key.length kd b.key) : Calls Try.prog 22 #[entA ka kc va vc a, entA kb kd vb vd b] w fun r w' => r = .returned (.int .i64 (ahead a b)) ∧ Below w.heap.size w w' := by
  obtain ⟨key, seq, gone, till, vl⟩ := a
  obtain ⟨key', seq', gone', till', vl'⟩ := b
  unfold entA ahead
  simp only at ha hb ⊢
  obtain ⟨W, hW⟩ : ∃ W, W = (w.alloc (.cells #[.slice ka key.length kc, .int .i64 seq, .bool gone, .int .i64 till, .slice va vl.length vc] 35)).alloc (.cells #[.slice kb key'.length kd, .int .i64 seq', .bool gone', .int .i64 till', .slice vb vl'.length vd] 35) := ⟨_, rfl⟩
  have b1 : Below w.heap.size w W := by rw [hW]; exact ((Below.refl _ w).alloc (Nat.le_refl _) _).alloc (by simp) _
  have c1 : W.cell? ⟨w.heap.size, 1, none⟩ = some (.int .i64 seq) := by rw [hW]; simp
  have c2 : W.cell? ⟨w.heap.size + 1, 1, none⟩ = some (.int .i64 seq') := by rw [hW]; simp
  have hc := rcmp_any (ha.later b1) (hb.later b1)
  have HK : Hid (∀ w2, Below W.heap.size W w2 → (w2.cell? ⟨w.heap.size, 1, none⟩ = some (.int .i64 seq) ∧ w2.cell? ⟨w.heap.size + 1, 1, none⟩ = some (.int .i64 seq')) ∧ Below w.heap.size w w2) := fun w2 h => ⟨⟨cell_later h c1, cell_later h c2⟩, b1.trans (h.mono b1.size)⟩
  have HW := hid hW
  generalize cmp key key' = c at hc ⊢
  rw [hW] at hc
  generalize key.length = kl at hc HW ⊢
  generalize key'.length = kl' at hc HW ⊢
  generalize vl.length = ln at hc HW ⊢
  generalize vl'.length = ln' at hc HW ⊢
  clear ha hb c1 c2 b1 hW
  by_cases q : c = 0
  · subst q
    have e0 : ((0 : Int) != 0) = false := rfl
    simp only [ne_eq, not_true_eq_false, if_false]
    go_enter Try.func22, Try.ntmps22
    go_wp2_with (go_at_call 18; refine hc.mono ?_; rintro e w2 ⟨rfl, b2⟩; rw [← HW.out] at b2; obtain ⟨⟨d1, d2⟩, b3⟩ := HK.out _ b2)
    all_goals
      go_ret
      refine ⟨congrArg (fun b => Ending.returned (.int .i64 b)) ?_, by assumption⟩
      first | rfl | (repeat' split) <;> omega
  · have e0 : (c != 0) = true := by simpa using q
    simp only [ne_eq, q, not_false_eq_true, if_true]
    go_enter Try.func22, Try.ntmps22
    go_wp2_with (go_at_call 18; refine hc.mono ?_; rintro e w2 ⟨rfl, b2⟩; rw [← HW.out] at b2; obtain ⟨⟨d1, d2⟩, b3⟩ := HK.out _ b2)
    go_ret
    exact ⟨rfl, b3⟩
end Go.Proofs.Ytnoackenjfpcmaa
