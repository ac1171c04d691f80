import Derived.Test.YtnoackenjfpcmaaPk03
import Derived.Test.YtnoackenjfpcmaaPk07
/- Slices of bytes as lists, beside the keys' theory. -/
namespace Go.Proofs.Ytnoackenjfpcmaa
end Go.Proofs.Ytnoackenjfpcmaa

/- The document's own parts of keys: Part, TakePart. -/
namespace Go.Proofs.Ytnoackenjfpcmaa
open Go.RowKit
set_option linter.unusedVariables false
set_option linter.unusedSimpArgs false

/-- One byte appended to a row of one's own. -/
theorem wpList_app1 {w : World} {ops : Array Oper} {rest : List Oper} {o : Oper} {a : Act} {Q : Exit → Act → World → Prop} {s x : Operand} {B : Nat} {v : Value} {xs : List Int} {c : Nat} (hgd : o.guard = none)
    (ho : o.op = .call { callee := .builtin .append, args := #[s, x], argTypes := #[33, 33] }) (hs : a.eval s = v) (hx : a.eval x = .slice (some ⟨w.heap.size, 0, none⟩) 1 1) (hrow : Row B w v xs) (hc : c < 256) (hb : xs.length + 1 ≤ 140737488355328) (hB : B ≤ w.heap.size)
    (h : ∀ v' w', Row B w' v' (xs ++ [(c : Int)]) → Below B w w' → (∀ {W0 : World} {v0 : Value}, W0.grownBy w v0.ownBlock → Moved W0 v0 v → W0.grownBy w' v0.ownBlock ∧ Moved W0 v0 v') → wpList Try.prog ops Q rest (a.put o.dst v') w') : wpList Try.prog ops Q (o :: rest) a (w.alloc (.cells #[.int .u8 (c : Int)] 5)) := by
  have hb0 : Below B w (w.alloc (.cells #[.int .u8 (c : Int)] 5)) := (Below.refl _ _).alloc hB _
  refine wpList_app hgd s x ho B v xs hs (hrow.alloc _) (some ⟨w.heap.size, 0, none⟩) 1 1 (fun _ => c) hx (fun e => by cases e) (byt_one w c hc) hb (Nat.le_trans hB hb0.size) fun v' w' q1 q2 q3 => h v' w' ?_ ?_ (fun g1 g2 => app_step g1 g2 q2 q3)
  · have e : bs (fun _ => c) 1 = [(c : Int)] := rfl
    rw [e] at q1
    exact q1
  · exact hb0.trans (grown_below (hrow.alloc _) q2 (Nat.le_trans hB hb0.size))
/-- Two bytes appended. -/
theorem wpList_app2 {w : World} {ops : Array Oper} {rest : List Oper} {o : Oper} {a : Act} {Q : Exit → Act → World → Prop} {s x : Operand} {B : Nat} {v : Value} {xs : List Int} {c d : Nat} (hgd : o.guard = none)
    (ho : o.op = .call { callee := .builtin .append, args := #[s, x], argTypes := #[33, 33] }) (hs : a.eval s = v) (hx : a.eval x = .slice (some ⟨w.heap.size, 0, none⟩) 2 2) (hrow : Row B w v xs) (hc : c < 256) (hd : d < 256) (hb : xs.length + 2 ≤ 140737488355328) (hB : B ≤ w.heap.size)
    (h : ∀ v' w', Row B w' v' (xs ++ [(c : Int), (d : Int)]) → Below B w w' → (∀ {W0 : World} {v0 : Value}, W0.grownBy w v0.ownBlock → Moved W0 v0 v → W0.grownBy w' v0.ownBlock ∧ Moved W0 v0 v') → wpList Try.prog ops Q rest (a.put o.dst v') w') : wpList Try.prog ops Q (o :: rest) a (w.alloc (.cells #[.int .u8 (c : Int), .int .u8 (d : Int)] 5)) := by
  have hb0 : Below B w (w.alloc (.cells #[.int .u8 (c : Int), .int .u8 (d : Int)] 5)) := (Below.refl _ _).alloc hB _
  refine wpList_app hgd s x ho B v xs hs (hrow.alloc _) (some ⟨w.heap.size, 0, none⟩) 2 2 (fun k => if k = 0 then c else d) hx (fun e => by cases e) (fun k hk => ?_) hb (Nat.le_trans hB hb0.size) fun v' w' q1 q2 q3 => h v' w' ?_ ?_ (fun g1 g2 => app_step g1 g2 q2 q3)
  · have : k = 0 ∨ k = 1 := by omega
    rcases this with e | e <;> subst e
    · exact ⟨hc, w.heap.size, 0, rfl, by simp⟩
    · exact ⟨hd, w.heap.size, 0, rfl, by simp⟩
  · have e : bs (fun k => if k = 0 then c else d) 2 = [(c : Int), (d : Int)] := rfl
    rw [e] at q1
    exact q1
  · exact hb0.trans (grown_below (hrow.alloc _) q2 (Nat.le_trans hB hb0.size))

theorem esc_app : ∀ a b : List Int, esc (a ++ b) = esc a ++ esc b
  | [], _ => rfl
  | x :: r, b => by
    rw [List.cons_append, esc, esc, esc_app r b]
    split <;> rfl
theorem esc_take {ps : List Int} {k : Nat} (h : k < ps.length) : esc (ps.take (k + 1)) = esc (ps.take k) ++ (if ps[k] = 0 then [0, 255] else [ps[k]]) := by
  rw [List.take_add_one, List.getElem?_eq_getElem h, esc_app]
  simp only [Option.toList_some, esc]
theorem xof_at {xs : List Int} (h : Okb xs) {k : Nat} (hk : k < xs.length) : xs[k] = (xof xs k : Int) := by
  have := h xs[k] (List.getElem_mem hk)
  simp [xof, List.getElem?_eq_getElem hk]
  omega

end Go.Proofs.Ytnoackenjfpcmaa

/- The document's own TakePart. -/
namespace Go.Proofs.Ytnoackenjfpcmaa
open Go.RowKit
set_option linter.unusedVariables false
set_option linter.unusedSimpArgs false

theorem tp_err : ∀ (n : Nat) (xs : List Int), xs.length ≤ n → (tp xs).1 ≠ 0 → tp xs = ((tp xs).1, [], 0)
  | 0, xs, h, h0 => by
    have e : xs = [] := List.length_eq_zero_iff.1 (by omega)
    subst e
    simp [tp]
  | n + 1, xs, h, h0 => by
    match xs, h, h0 with
    | [], _, h0 => simp [tp]
    | [x], _, h0 => simp [tp]
    | x :: y :: r, h, h0 =>
      by_cases q : x = 0
      · subst q
        by_cases y1 : y = 1
        · subst y1
          rw [tp_end] at h0
          simp at h0
        · by_cases y2 : y = 255
          · subst y2
            rw [tp_zero] at h0 ⊢
            by_cases t : (tp r).1 = 0
            · rw [if_pos t] at h0
              simp at h0
            · rw [if_neg t]
          · rw [tp_bad y1 y2]
      · rw [tp_plain q] at h0 ⊢
        by_cases t : (tp (y :: r)).1 = 0
        · rw [if_pos t] at h0
          simp at h0
        · rw [if_neg t]
theorem okb_tp : ∀ (n : Nat) (xs : List Int), xs.length ≤ n → Okb xs → Okb (tp xs).2.1
  | 0, xs, h, _ => by
    have e : xs = [] := List.length_eq_zero_iff.1 (by omega)
    subst e
    exact fun x hx => by simp [tp] at hx
  | n + 1, xs, h, hk => by
    match xs, h, hk with
    | [], _, _ => exact fun x hx => by simp [tp] at hx
    | [y], _, _ => exact fun x hx => by simp [tp] at hx
    | x :: y :: r, h, hk =>
      simp at h
      by_cases q : x = 0
      · subst q
        by_cases y1 : y = 1
        · subst y1
          rw [tp_end]
          exact fun x hx => by cases hx
        · by_cases y2 : y = 255
          · subst y2
            rw [tp_zero]
            by_cases t : (tp r).1 = 0
            · rw [if_pos t]
              intro z hz
              rcases List.mem_cons.1 hz with e | e
              · omega
              · exact okb_tp n r (by omega) hk.tail.tail z e
            · rw [if_neg t]
              exact fun x hx => by cases hx
          · rw [tp_bad y1 y2]
            exact fun x hx => by cases hx
      · rw [tp_plain q]
        by_cases t : (tp (y :: r)).1 = 0
        · rw [if_pos t]
          intro z hz
          rcases List.mem_cons.1 hz with e | e
          · rw [e]; exact hk.head
          · exact okb_tp n (y :: r) (by simp; omega) hk.tail z e
        · rw [if_neg t]
          exact fun x hx => by cases hx
/-- What was found so far, and what is still to be read. -/
def J (xs out : List Int) (i : Nat) : Prop := tp xs = if (tp (xs.drop i)).1 = 0 then (0, out ++ (tp (xs.drop i)).2.1, i + (tp (xs.drop i)).2.2) else ((tp (xs.drop i)).1, [], 0)
theorem J.zero (xs : List Int) : J xs [] 0 := by
  unfold J
  rw [List.drop_zero]
  by_cases t : (tp xs).1 = 0
  · rw [if_pos t, List.nil_append, Nat.zero_add, ← t]
  · rw [if_neg t]
    exact tp_err _ xs (Nat.le_refl _) t
theorem J.plain {xs out : List Int} {i : Nat} (h : J xs out i) (hi : i < xs.length) (hc : xs[i] ≠ 0) : J xs (out ++ [xs[i]]) (i + 1) := by
  unfold J at h ⊢
  rw [List.drop_eq_getElem_cons hi, tp_plain hc] at h
  by_cases t : (tp (xs.drop (i + 1))).1 = 0
  · rw [if_pos t] at h ⊢
    rw [h]
    simp
    omega
  · rw [if_neg t] at h ⊢
    rw [h]
    simp [t]
theorem J.esc {xs out : List Int} {i : Nat} (h : J xs out i) (hi : i + 1 < xs.length) (h0 : xs[i] = 0) (hc : xs[i + 1] = 255) : J xs (out ++ [0]) (i + 1 + 1) := by
  unfold J at h ⊢
  rw [List.drop_eq_getElem_cons (by omega), List.drop_eq_getElem_cons hi, h0, hc, tp_zero] at h
  by_cases t : (tp (xs.drop (i + 1 + 1))).1 = 0
  · rw [if_pos t] at h ⊢
    rw [h]
    simp
    omega
  · rw [if_neg t] at h ⊢
    rw [h]
    simp [t]
theorem J.end {xs out : List Int} {i : Nat} (h : J xs out i) (hi : i + 1 < xs.length) (h0 : xs[i] = 0) (hc : xs[i + 1] = 1) : tp xs = (0, out, i + 1 + 1) := by
  unfold J at h
  rw [List.drop_eq_getElem_cons (by omega), List.drop_eq_getElem_cons hi, h0, hc, tp_end] at h
  rw [h]
  simp
theorem J.bad {xs out : List Int} {i : Nat} (h : J xs out i) (hi : i + 1 < xs.length) (h0 : xs[i] = 0) (h1 : xs[i + 1] ≠ 1) (h2 : xs[i + 1] ≠ 255) : tp xs = (3, [], 0) := by
  unfold J at h
  rw [List.drop_eq_getElem_cons (by omega), List.drop_eq_getElem_cons hi, h0, tp_bad h1 h2] at h
  rw [h]
  simp
theorem J.lone {xs out : List Int} {i : Nat} (h : J xs out i) (hi : i + 1 = xs.length) (h0 : xs[i] = 0) : tp xs = (5, [], 0) := by
  unfold J at h
  rw [List.drop_eq_getElem_cons (by omega), h0, List.drop_of_length_le (by omega), tp_lone] at h
  rw [h]
  simp
theorem J.out {xs out : List Int} {i : Nat} (h : J xs out i) (hi : xs.length ≤ i) : tp xs = (5, [], 0) := by
  unfold J at h
  rw [List.drop_of_length_le hi, tp_nil] at h
  rw [h]
  simp

/-- What is told of a part. -/
def Tp (xs : List Int) (B : Nat) (e : Ending) (w' : World) : Prop := ∃ v, e = .returned (.tuple #[v, .int .i64 ((tp xs).2.2 : Int), .int .i64 ((tp xs).1 : Int)]) ∧ Row B w' v (tp xs).2.1

end Go.Proofs.Ytnoackenjfpcmaa
