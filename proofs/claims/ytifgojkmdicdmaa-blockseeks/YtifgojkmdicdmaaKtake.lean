/- The document's own TakePart. -/
import Derived.Test.YtifgojkmdicdmaaKpart
namespace Go.Proofs.Ytifgojkmdicdmaa
open Go.RowKit
set_option linter.unusedVariables false
set_option linter.unusedSimpArgs false

theorem tp_err : ∀ (n : Nat) (xs : List Int), xs.length ≤ n → (tp xs).1 ≠ 0 → tp xs = ((tp xs).1, [], 0)
  | 0, xs, h, h0 => by
    have e : xs = [] := List.length_eq_zero_iff.1 (by omega)
    subst e
    simp [tp]
  | n + 1, xs, h, h0 => by
    match xs, h, h0 with
    | [], _, h0 => simp [tp]
    | [x], _, h0 => simp [tp]
    | x :: y :: r, h, h0 =>
      by_cases q : x = 0
      · subst q
        by_cases y1 : y = 1
        · subst y1
          rw [tp_end] at h0
          simp at h0
        · by_cases y2 : y = 255
          · subst y2
            rw [tp_zero] at h0 ⊢
            by_cases t : (tp r).1 = 0
            · rw [if_pos t] at h0
              simp at h0
            · rw [if_neg t]
          · rw [tp_bad y1 y2]
      · rw [tp_plain q] at h0 ⊢
        by_cases t : (tp (y :: r)).1 = 0
        · rw [if_pos t] at h0
          simp at h0
        · rw [if_neg t]
theorem okb_tp : ∀ (n : Nat) (xs : List Int), xs.length ≤ n → Okb xs → Okb (tp xs).2.1
  | 0, xs, h, _ => by
    have e : xs = [] := List.length_eq_zero_iff.1 (by omega)
    subst e
    exact fun x hx => by simp [tp] at hx
  | n + 1, xs, h, hk => by
    match xs, h, hk with
    | [], _, _ => exact fun x hx => by simp [tp] at hx
    | [y], _, _ => exact fun x hx => by simp [tp] at hx
    | x :: y :: r, h, hk =>
      simp at h
      by_cases q : x = 0
      · subst q
        by_cases y1 : y = 1
        · subst y1
          rw [tp_end]
          exact fun x hx => by cases hx
        · by_cases y2 : y = 255
          · subst y2
            rw [tp_zero]
            by_cases t : (tp r).1 = 0
            · rw [if_pos t]
              intro z hz
              rcases List.mem_cons.1 hz with e | e
              · omega
              · exact okb_tp n r (by omega) hk.tail.tail z e
            · rw [if_neg t]
              exact fun x hx => by cases hx
          · rw [tp_bad y1 y2]
            exact fun x hx => by cases hx
      · rw [tp_plain q]
        by_cases t : (tp (y :: r)).1 = 0
        · rw [if_pos t]
          intro z hz
          rcases List.mem_cons.1 hz with e | e
          · rw [e]; exact hk.head
          · exact okb_tp n (y :: r) (by simp; omega) hk.tail z e
        · rw [if_neg t]
          exact fun x hx => by cases hx
/-- What was found so far, and what is still to be read. -/
def J (xs out : List Int) (i : Nat) : Prop := tp xs = if (tp (xs.drop i)).1 = 0 then (0, out ++ (tp (xs.drop i)).2.1, i + (tp (xs.drop i)).2.2) else ((tp (xs.drop i)).1, [], 0)
theorem J.zero (xs : List Int) : J xs [] 0 := by
  unfold J
  rw [List.drop_zero]
  by_cases t : (tp xs).1 = 0
  · rw [if_pos t, List.nil_append, Nat.zero_add, ← t]
  · rw [if_neg t]
    exact tp_err _ xs (Nat.le_refl _) t
theorem J.plain {xs out : List Int} {i : Nat} (h : J xs out i) (hi : i < xs.length) (hc : xs[i] ≠ 0) : J xs (out ++ [xs[i]]) (i + 1) := by
  unfold J at h ⊢
  rw [List.drop_eq_getElem_cons hi, tp_plain hc] at h
  by_cases t : (tp (xs.drop (i + 1))).1 = 0
  · rw [if_pos t] at h ⊢
    rw [h]
    simp
    omega
  · rw [if_neg t] at h ⊢
    rw [h]
    simp [t]
theorem J.esc {xs out : List Int} {i : Nat} (h : J xs out i) (hi : i + 1 < xs.length) (h0 : xs[i] = 0) (hc : xs[i + 1] = 255) : J xs (out ++ [0]) (i + 1 + 1) := by
  unfold J at h ⊢
  rw [List.drop_eq_getElem_cons (by omega), List.drop_eq_getElem_cons hi, h0, hc, tp_zero] at h
  by_cases t : (tp (xs.drop (i + 1 + 1))).1 = 0
  · rw [if_pos t] at h ⊢
    rw [h]
    simp
    omega
  · rw [if_neg t] at h ⊢
    rw [h]
    simp [t]
theorem J.end {xs out : List Int} {i : Nat} (h : J xs out i) (hi : i + 1 < xs.length) (h0 : xs[i] = 0) (hc : xs[i + 1] = 1) : tp xs = (0, out, i + 1 + 1) := by
  unfold J at h
  rw [List.drop_eq_getElem_cons (by omega), List.drop_eq_getElem_cons hi, h0, hc, tp_end] at h
  rw [h]
  simp
theorem J.bad {xs out : List Int} {i : Nat} (h : J xs out i) (hi : i + 1 < xs.length) (h0 : xs[i] = 0) (h1 : xs[i + 1] ≠ 1) (h2 : xs[i + 1] ≠ 255) : tp xs = (3, [], 0) := by
  unfold J at h
  rw [List.drop_eq_getElem_cons (by omega), List.drop_eq_getElem_cons hi, h0, tp_bad h1 h2] at h
  rw [h]
  simp
theorem J.lone {xs out : List Int} {i : Nat} (h : J xs out i) (hi : i + 1 = xs.length) (h0 : xs[i] = 0) : tp xs = (5, [], 0) := by
  unfold J at h
  rw [List.drop_eq_getElem_cons (by omega), h0, List.drop_of_length_le (by omega), tp_lone] at h
  rw [h]
  simp
theorem J.out {xs out : List Int} {i : Nat} (h : J xs out i) (hi : xs.length ≤ i) : tp xs = (5, [], 0) := by
  unfold J at h
  rw [List.drop_of_length_le hi, tp_nil] at h
  rw [h]
  simp

/-- What is told of a part. -/
def Tp (xs : List Int) (B : Nat) (e : Ending) (w' : World) : Prop := ∃ v, e = .returned (.tuple #[v, .int .i64 ((tp xs).2.2 : Int), .int .i64 ((tp xs).1 : Int)]) ∧ Row B w' v (tp xs).2.1

end Go.Proofs.Ytifgojkmdicdmaa
