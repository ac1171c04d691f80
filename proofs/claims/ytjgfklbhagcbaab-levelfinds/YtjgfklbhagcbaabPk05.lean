import Derived.Test.YtjgfklbhagcbaabPk04
/- Keys, on lists of bytes: parts, numbers, their order, what begins so; what follows. -/
namespace Go.Proofs.Ytjgfklbhagcbaab
set_option linter.unusedVariables false
theorem Okb.head {x : Int} {r : List Int} (h : Okb (x :: r)) : 0 ≤ x ∧ x < 256 := h x (List.mem_cons_self ..)

/-- A part's bytes: each 0 as 0 and 255; then 0 and 1. -/
def esc : List Int → List Int
  | [] => []
  | x :: r => if x = 0 then 0 :: 255 :: esc r else x :: esc r
def pt (xs : List Int) : List Int := esc xs ++ [0, 1]
theorem pt_nil : pt [] = [0, 1] := rfl
theorem pt_zero (r : List Int) : pt (0 :: r) = 0 :: 255 :: pt r := by simp [pt, esc]
theorem pt_cons {x : Int} (h : x ≠ 0) (r : List Int) : pt (x :: r) = x :: pt r := by simp [pt, esc, h]
theorem okb_pt : ∀ {xs : List Int}, Okb xs → Okb (pt xs)
  | [], _ => fun x hx => by simp [pt_nil] at hx; omega
  | x :: r, h => by
    have ih := okb_pt h.tail
    by_cases q : x = 0
    · subst q
      rw [pt_zero]
      intro y hy
      simp only [List.mem_cons] at hy
      rcases hy with e | e | e
      · omega
      · omega
      · exact ih y e
    · rw [pt_cons q]
      intro y hy
      rcases List.mem_cons.1 hy with e | e
      · rw [e]; exact h.head
      · exact ih y e
theorem pt_pos (xs : List Int) : 2 ≤ (pt xs).length := by simp [pt]
theorem esc_len : ∀ xs : List Int, (esc xs).length ≤ 2 * xs.length
  | [] => Nat.le_refl _
  | x :: r => by
    have := esc_len r
    unfold esc
    split
    · simp; omega
    · simp; omega
theorem pt_len (xs : List Int) : (pt xs).length ≤ 2 * xs.length + 2 := by
  have := esc_len xs
  simp [pt]
  omega

/-- The part at the beginning: an error (0: none), the part, how many bytes it has. -/
def tp : List Int → Nat × List Int × Nat
  | [] => (5, [], 0)
  | [x] => if x = 0 then (5, [], 0) else (5, [], 0)
  | x :: y :: r =>
    if x ≠ 0 then (if (tp (y :: r)).1 = 0 then (0, x :: (tp (y :: r)).2.1, (tp (y :: r)).2.2 + 1) else ((tp (y :: r)).1, [], 0))
    else if y = 1 then (0, [], 2)
    else if y = 255 then (if (tp r).1 = 0 then (0, 0 :: (tp r).2.1, (tp r).2.2 + 2) else ((tp r).1, [], 0))
    else (3, [], 0)
theorem tp_nil : tp [] = (5, [], 0) := by simp [tp]
theorem tp_lone : tp [0] = (5, [], 0) := by simp [tp]
theorem tp_plain {x : Int} (h : x ≠ 0) (r : List Int) : tp (x :: r) = if (tp r).1 = 0 then (0, x :: (tp r).2.1, (tp r).2.2 + 1) else ((tp r).1, [], 0) := by
  cases r with
  | nil => simp [tp]
  | cons y r => rw [tp, if_pos h]
theorem tp_end (r : List Int) : tp (0 :: 1 :: r) = (0, [], 2) := by simp [tp]
theorem tp_zero (r : List Int) : tp (0 :: 255 :: r) = if (tp r).1 = 0 then (0, 0 :: (tp r).2.1, (tp r).2.2 + 2) else ((tp r).1, [], 0) := by simp [tp]
theorem tp_bad {y : Int} (h1 : y ≠ 1) (h2 : y ≠ 255) (r : List Int) : tp (0 :: y :: r) = (3, [], 0) := by simp [tp, h1, h2]
/-- What was written is taken, whatever stands behind it. -/
theorem tp_pt : ∀ (xs t : List Int), tp (pt xs ++ t) = (0, xs, (pt xs).length)
  | [], t => by rw [pt_nil]; exact tp_end t
  | x :: r, t => by
    have ih := tp_pt r t
    by_cases q : x = 0
    · subst q
      rw [pt_zero, List.cons_append, List.cons_append, tp_zero, ih]
      simp
    · rw [pt_cons q, List.cons_append, tp_plain q, ih]
      simp
/-- Cut off it is no part. -/
theorem tp_cut : ∀ (xs : List Int) (k : Nat), k < (pt xs).length → tp ((pt xs).take k) = (5, [], 0)
  | [], k, h => by
    rw [pt_nil] at h ⊢
    simp at h
    have : k = 0 ∨ k = 1 := by omega
    rcases this with e | e <;> subst e
    · exact tp_nil
    · exact tp_lone
  | x :: r, k, h => by
    by_cases q : x = 0
    · subst q
      rw [pt_zero] at h ⊢
      simp at h
      match k, h with
      | 0, _ => exact tp_nil
      | 1, _ => exact tp_lone
      | k + 2, h =>
        have ih := tp_cut r k (by omega)
        rw [List.take_succ_cons, List.take_succ_cons, tp_zero, ih]
        simp
    · rw [pt_cons q] at h ⊢
      simp at h
      match k, h with
      | 0, _ => exact tp_nil
      | k + 1, h =>
        have ih := tp_cut r k (by omega)
        rw [List.take_succ_cons, tp_plain q, ih]
        simp
theorem tp_used : ∀ (n : Nat) (xs : List Int), xs.length ≤ n → (tp xs).1 = 0 → 2 ≤ (tp xs).2.2 ∧ (tp xs).2.2 ≤ xs.length ∧ (tp xs).2.1.length + 2 ≤ (tp xs).2.2
  | 0, xs, h, h0 => by
    have e : xs = [] := List.length_eq_zero_iff.1 (by omega)
    subst e
    simp [tp] at h0
  | n + 1, xs, h, h0 => by
    match xs, h, h0 with
    | [], _, h0 => simp [tp] at h0
    | [x], _, h0 => simp [tp] at h0
    | x :: y :: r, h, h0 =>
      simp at h
      by_cases q : x = 0
      · subst q
        by_cases y1 : y = 1
        · subst y1
          rw [tp_end]
          simp
        · by_cases y2 : y = 255
          · subst y2
            rw [tp_zero] at h0 ⊢
            by_cases t : (tp r).1 = 0
            · rw [if_pos t]
              have := tp_used n r (by omega) t
              simp
              omega
            · rw [if_neg t] at h0
              exact absurd h0 t
          · rw [tp_bad y1 y2] at h0
            simp at h0
      · rw [tp_plain q] at h0 ⊢
        by_cases t : (tp (y :: r)).1 = 0
        · rw [if_pos t]
          have := tp_used n (y :: r) (by simp; omega) t
          simp at this ⊢
          omega
        · rw [if_neg t] at h0
          exact absurd h0 t

/-- Which of two stands ahead. -/
def cmp : List Int → List Int → Int
  | [], [] => 0
  | [], _ :: _ => -1
  | _ :: _, [] => 1
  | x :: r, y :: q => if x < y then -1 else if y < x then 1 else cmp r q
theorem cmp_nil : ∀ b : List Int, 0 ≤ cmp b []
  | [] => by decide
  | _ :: _ => by simp [cmp]
theorem cmp_same (x : Int) (r q : List Int) : cmp (x :: r) (x :: q) = cmp r q := by simp [cmp]
theorem cmp_less {x y : Int} (h : x < y) (r q : List Int) : cmp (x :: r) (y :: q) = -1 := by simp [cmp, h]
theorem cmp_more {x y : Int} (h : y < x) (r q : List Int) : cmp (x :: r) (y :: q) = 1 := by
  have : ¬ x < y := by omega
  simp [cmp, h, this]
theorem cmp_neg : ∀ a b : List Int, cmp b a = - cmp a b
  | [], [] => rfl
  | [], _ :: _ => rfl
  | _ :: _, [] => rfl
  | x :: r, y :: q => by
    rcases Int.lt_trichotomy x y with h | h | h
    · rw [cmp_less h, cmp_more h]; rfl
    · subst h
      rw [cmp_same, cmp_same, cmp_neg r q]
    · rw [cmp_less h, cmp_more h]
theorem cmp_zero : ∀ {a b : List Int}, cmp a b = 0 ↔ a = b
  | [], [] => by simp [cmp]
  | [], _ :: _ => by simp [cmp]
  | _ :: _, [] => by simp [cmp]
  | x :: r, y :: q => by
    rcases Int.lt_trichotomy x y with h | h | h
    · rw [cmp_less h]
      simp
      omega
    · subst h
      rw [cmp_same, cmp_zero]
      simp
    · rw [cmp_more h]
      simp
      omega
theorem cmp_vals (a b : List Int) : cmp a b = -1 ∨ cmp a b = 0 ∨ cmp a b = 1 := by
  induction a generalizing b with
  | nil => cases b <;> simp [cmp]
  | cons x r ih =>
    cases b with
    | nil => simp [cmp]
    | cons y q =>
      rcases Int.lt_trichotomy x y with h | h | h
      · rw [cmp_less h]; simp
      · subst h; rw [cmp_same]; exact ih q
      · rw [cmp_more h]; simp
theorem cmp_pt : ∀ (x y s t : List Int), Okb x → Okb y → cmp (pt x ++ s) (pt y ++ t) = if cmp x y = 0 then cmp s t else cmp x y
  | [], [], s, t, _, _ => by
    rw [pt_nil]
    show cmp (0 :: 1 :: s) (0 :: 1 :: t) = _
    rw [cmp_same, cmp_same]
    simp [cmp]
  | [], y :: q, s, t, _, hy => by
    have h := hy.head
    have e : cmp [] (y :: q) = -1 := rfl
    rw [e, if_neg (by decide), pt_nil]
    by_cases z : y = 0
    · subst z
      rw [pt_zero]
      show cmp (0 :: 1 :: s) (0 :: 255 :: (pt q ++ t)) = _
      rw [cmp_same, cmp_less (by decide)]
    · rw [pt_cons z]
      exact cmp_less (by omega) _ _
  | x :: r, [], s, t, hx, _ => by
    have h := hx.head
    have e : cmp (x :: r) [] = 1 := rfl
    rw [e, if_neg (by decide), pt_nil]
    by_cases z : x = 0
    · subst z
      rw [pt_zero]
      show cmp (0 :: 255 :: (pt r ++ s)) (0 :: 1 :: t) = _
      rw [cmp_same, cmp_more (by decide)]
    · rw [pt_cons z]
      exact cmp_more (by omega) _ _
  | x :: r, y :: q, s, t, hx, hy => by
    have h1 := hx.head
    have h2 := hy.head
    have ih := cmp_pt r q s t hx.tail hy.tail
    have go : ∀ x y : Int, x ≠ y → 0 ≤ x → 0 ≤ y → ∃ s' t', pt (x :: r) ++ s = x :: s' ∧ pt (y :: q) ++ t = y :: t' := fun x y _ _ _ => by
      by_cases z : x = 0
      · by_cases z' : y = 0
        · subst z z'; exact ⟨_, _, by rw [pt_zero]; rfl, by rw [pt_zero]; rfl⟩
        · subst z; exact ⟨_, _, by rw [pt_zero]; rfl, by rw [pt_cons z']; rfl⟩
      · by_cases z' : y = 0
        · subst z'; exact ⟨_, _, by rw [pt_cons z]; rfl, by rw [pt_zero]; rfl⟩
        · exact ⟨_, _, by rw [pt_cons z]; rfl, by rw [pt_cons z']; rfl⟩
    rcases Int.lt_trichotomy x y with h | h | h
    · obtain ⟨s', t', e1, e2⟩ := go x y (by omega) h1.1 h2.1
      rw [e1, e2, cmp_less h, cmp_less h, if_neg (by decide)]
    · subst h
      rw [cmp_same]
      by_cases z : x = 0
      · subst z
        rw [pt_zero, pt_zero]
        show cmp (0 :: 255 :: (pt r ++ s)) (0 :: 255 :: (pt q ++ t)) = _
        rw [cmp_same, cmp_same, ih]
      · rw [pt_cons z, pt_cons z]
        show cmp (x :: (pt r ++ s)) (x :: (pt q ++ t)) = _
        rw [cmp_same, ih]
    · obtain ⟨s', t', e1, e2⟩ := go x y (by omega) h1.1 h2.1
      rw [e1, e2, cmp_more h, cmp_more h, if_neg (by decide)]

/-- Rows of parts, one behind the other. -/
def pts : List (List Int) → List Int
  | [] => []
  | x :: l => pt x ++ pts l
def cmpR : List (List Int) → List (List Int) → Int
  | [], [] => 0
  | [], _ :: _ => -1
  | _ :: _, [] => 1
  | x :: a, y :: b => if cmp x y = 0 then cmpR a b else cmp x y
theorem pts_cons (x : List Int) (l : List (List Int)) : ∃ c r, pts (x :: l) = c :: r := by
  have h := pt_pos x
  cases hp : pt x with
  | nil => rw [hp] at h; simp at h
  | cons c r => exact ⟨c, r ++ pts l, by rw [pts, hp]; rfl⟩
theorem cmp_pts : ∀ (a b : List (List Int)), (∀ x ∈ a, Okb x) → (∀ x ∈ b, Okb x) → cmp (pts a) (pts b) = cmpR a b
  | [], [], _, _ => rfl
  | [], y :: b, _, _ => by
    obtain ⟨c, r, e⟩ := pts_cons y b
    rw [e]
    rfl
  | x :: a, [], _, _ => by
    obtain ⟨c, r, e⟩ := pts_cons x a
    rw [e]
    rfl
  | x :: a, y :: b, ha, hb => by
    have ih := cmp_pts a b (fun z hz => ha z (List.mem_cons_of_mem _ hz)) (fun z hz => hb z (List.mem_cons_of_mem _ hz))
    rw [pts, pts, cmp_pt x y _ _ (ha x (List.mem_cons_self ..)) (hb y (List.mem_cons_self ..)), ih]
    rfl
theorem pts_app : ∀ a b : List (List Int), pts (a ++ b) = pts a ++ pts b
  | [], _ => rfl
  | x :: a, b => by rw [List.cons_append, pts, pts_app a b, pts, List.append_assoc]
/-- No part's bytes are the beginning of another one's. -/
theorem pt_begins {p q t : List Int} (h : pt q = pt p ++ t) : p = q := by
  have h1 := tp_pt q []
  rw [List.append_nil, h, tp_pt p t] at h1
  simp at h1
  exact h1.1

/-- Numbers, the highest byte first, keep the order. -/
theorem fx_low (a b : Nat) : ∀ k, a % 256 ^ k = b % 256 ^ k → fx a k = fx b k
  | 0, _ => rfl
  | k + 1, h => by
    have hp : 0 < 256 ^ k := Nat.pow_pos (by decide)
    have d1 : a % 256 ^ (k + 1) / 256 ^ k = a / 256 ^ k % 256 := by rw [Nat.pow_succ]; exact Nat.mod_mul_right_div_self ..
    have d2 : b % 256 ^ (k + 1) / 256 ^ k = b / 256 ^ k % 256 := by rw [Nat.pow_succ]; exact Nat.mod_mul_right_div_self ..
    have m1 : a % 256 ^ (k + 1) % 256 ^ k = a % 256 ^ k := Nat.mod_mod_of_dvd _ (Nat.pow_dvd_pow _ (by omega))
    have m2 : b % 256 ^ (k + 1) % 256 ^ k = b % 256 ^ k := Nat.mod_mod_of_dvd _ (Nat.pow_dvd_pow _ (by omega))
    rw [fx, fx, fx_low a b k (by rw [← m1, ← m2, h]), ← d1, ← d2, h]
theorem cmp_fx (a b : Nat) : ∀ k, cmp (fx a k) (fx b k) = if a % 256 ^ k < b % 256 ^ k then -1 else if b % 256 ^ k < a % 256 ^ k then 1 else 0
  | 0 => by simp [fx, cmp, Nat.mod_one]
  | k + 1 => by
    have hp : 0 < 256 ^ k := Nat.pow_pos (by decide)
    have e1 : a % 256 ^ (k + 1) = a / 256 ^ k % 256 * 256 ^ k + a % 256 ^ k := by
      rw [Nat.pow_succ, Nat.mod_mul]
      rw [Nat.mul_comm (256 ^ k)]
      omega
    have e2 : b % 256 ^ (k + 1) = b / 256 ^ k % 256 * 256 ^ k + b % 256 ^ k := by
      rw [Nat.pow_succ, Nat.mod_mul]
      rw [Nat.mul_comm (256 ^ k)]
      omega
    have l1 := Nat.mod_lt a hp
    have l2 := Nat.mod_lt b hp
    have ih := cmp_fx a b k
    rw [e1, e2, fx, fx]
    generalize a / 256 ^ k % 256 = x
    generalize b / 256 ^ k % 256 = y
    generalize a % 256 ^ k = s at *
    generalize b % 256 ^ k = t at *
    generalize 256 ^ k = M at *
    rcases Nat.lt_trichotomy x y with h | h | h
    · have : x * M + M ≤ y * M := by
        have := Nat.mul_le_mul_right M (show x + 1 ≤ y by omega)
        rw [Nat.add_mul, Nat.one_mul] at this
        exact this
      rw [cmp_less (by omega), if_pos (by omega)]
    · subst h
      rw [cmp_same, ih]
      simp only [Nat.add_lt_add_iff_left]
    · have : y * M + M ≤ x * M := by
        have := Nat.mul_le_mul_right M (show y + 1 ≤ x by omega)
        rw [Nat.add_mul, Nat.one_mul] at this
        exact this
      rw [cmp_more (by omega), if_neg (by omega), if_pos (by omega)]

/-- Where what begins so ends. -/
def aft : List Int → Option (List Int)
  | [] => none
  | x :: r => match aft r with
    | some s => some (x :: s)
    | none => if x = 255 then none else some [x + 1]
theorem okb_aft : ∀ {p e : List Int}, Okb p → aft p = some e → Okb e
  | [], e, _, h => by simp [aft] at h
  | x :: r, e, hp, h => by
    have hx := hp.head
    unfold aft at h
    cases hr : aft r with
    | some s =>
      rw [hr] at h
      simp at h
      subst h
      intro y hy
      rcases List.mem_cons.1 hy with q | q
      · rw [q]; exact hx
      · exact okb_aft hp.tail hr y q
    | none =>
      rw [hr] at h
      by_cases q : x = 255
      · simp [q] at h
      · simp [q] at h
        subst h
        intro y hy
        simp at hy
        omega
theorem between : ∀ (p b : List Int), Okb p → Okb b → (p <+: b ↔ 0 ≤ cmp b p ∧ ∀ e, aft p = some e → cmp b e < 0)
  | [], b, _, _ => by
    have := cmp_nil b
    simp [aft, this]
  | x :: r, [], _, _ => by simp [cmp]
  | x :: r, y :: q, hp, hb => by
    have hx := hp.head
    have hy := hb.head
    have ih := between r q hp.tail hb.tail
    rw [List.cons_prefix_cons]
    rcases Int.lt_trichotomy y x with h | h | h
    · rw [cmp_less h]
      constructor
      · rintro ⟨e, _⟩; omega
      · rintro ⟨e, _⟩; omega
    · subst h
      rw [cmp_same]
      unfold aft
      cases hr : aft r with
      | some s =>
        rw [hr] at ih
        simp only [true_and, ih, Option.some.injEq]
        constructor
        · rintro ⟨h1, h2⟩
          refine ⟨h1, fun e he => ?_⟩
          subst he
          rw [cmp_same]
          exact h2 s rfl
        · rintro ⟨h1, h2⟩
          refine ⟨h1, fun e he => ?_⟩
          subst he
          have := h2 _ rfl
          rw [cmp_same] at this
          exact this
      | none =>
        rw [hr] at ih
        simp only [true_and, ih]
        constructor
        · rintro ⟨h1, _⟩
          refine ⟨h1, fun e he => ?_⟩
          by_cases z : y = 255
          · simp [z] at he
          · simp [z] at he
            subst he
            rw [cmp_less (by omega)]
            decide
        · rintro ⟨h1, _⟩
          exact ⟨h1, fun e he => by cases he⟩
    · rw [cmp_more h]
      constructor
      · rintro ⟨e, _⟩; omega
      · rintro ⟨_, h2⟩
        exfalso
        cases hr : aft r with
        | some s =>
          have := h2 (x :: s) (by simp [aft, hr])
          rw [cmp_more h] at this
          omega
        | none =>
          have := h2 [x + 1] (by
            have : x ≠ 255 := by omega
            simp [aft, hr, this])
          rcases Int.lt_trichotomy y (x + 1) with g | g | g
          · omega
          · subst g
            rw [cmp_same] at this
            have := cmp_nil q
            omega
          · rw [cmp_more g] at this
            omega
end Go.Proofs.Ytjgfklbhagcbaab

/- Slices of bytes as lists, beside the keys' theory. -/
namespace Go.Proofs.Ytjgfklbhagcbaab
end Go.Proofs.Ytjgfklbhagcbaab

/- The document's own parts of keys: Part, TakePart. -/
namespace Go.Proofs.Ytjgfklbhagcbaab
open Go.RowKit
set_option linter.unusedVariables false
set_option linter.unusedSimpArgs false

/-- One byte appended to a row of one's own. -/
theorem wpList_app1 {w : World} {ops : Array Oper} {rest : List Oper} {o : Oper} {a : Act} {Q : Exit → Act → World → Prop} {s x : Operand} {B : Nat} {v : Value} {xs : List Int} {c : Nat} (hgd : o.guard = none)
    (ho : o.op = .call { callee := .builtin .append, args := #[s, x], argTypes := #[23, 23] }) (hs : a.eval s = v) (hx : a.eval x = .slice (some ⟨w.heap.size, 0, none⟩) 1 1) (hrow : Row B w v xs) (hc : c < 256) (hb : xs.length + 1 ≤ 140737488355328) (hB : B ≤ w.heap.size)
    (h : ∀ v' w', Row B w' v' (xs ++ [(c : Int)]) → Below B w w' → (∀ {W0 : World} {v0 : Value}, W0.grownBy w v0.ownBlock → Moved W0 v0 v → W0.grownBy w' v0.ownBlock ∧ Moved W0 v0 v') → wpList Try.prog ops Q rest (a.put o.dst v') w') : wpList Try.prog ops Q (o :: rest) a (w.alloc (.cells #[.int .u8 (c : Int)] 5)) := by
  have hb0 : Below B w (w.alloc (.cells #[.int .u8 (c : Int)] 5)) := (Below.refl _ _).alloc hB _
  refine wpList_app hgd s x ho B v xs hs (hrow.alloc _) (some ⟨w.heap.size, 0, none⟩) 1 1 (fun _ => c) hx (fun e => by cases e) (byt_one w c hc) hb (Nat.le_trans hB hb0.size) fun v' w' q1 q2 q3 => h v' w' ?_ ?_ (fun g1 g2 => app_step g1 g2 q2 q3)
  · have e : bs (fun _ => c) 1 = [(c : Int)] := rfl
    rw [e] at q1
    exact q1
  · exact hb0.trans (grown_below (hrow.alloc _) q2 (Nat.le_trans hB hb0.size))
/-- Two bytes appended. -/
theorem wpList_app2 {w : World} {ops : Array Oper} {rest : List Oper} {o : Oper} {a : Act} {Q : Exit → Act → World → Prop} {s x : Operand} {B : Nat} {v : Value} {xs : List Int} {c d : Nat} (hgd : o.guard = none)
    (ho : o.op = .call { callee := .builtin .append, args := #[s, x], argTypes := #[23, 23] }) (hs : a.eval s = v) (hx : a.eval x = .slice (some ⟨w.heap.size, 0, none⟩) 2 2) (hrow : Row B w v xs) (hc : c < 256) (hd : d < 256) (hb : xs.length + 2 ≤ 140737488355328) (hB : B ≤ w.heap.size)
    (h : ∀ v' w', Row B w' v' (xs ++ [(c : Int), (d : Int)]) → Below B w w' → (∀ {W0 : World} {v0 : Value}, W0.grownBy w v0.ownBlock → Moved W0 v0 v → W0.grownBy w' v0.ownBlock ∧ Moved W0 v0 v') → wpList Try.prog ops Q rest (a.put o.dst v') w') : wpList Try.prog ops Q (o :: rest) a (w.alloc (.cells #[.int .u8 (c : Int), .int .u8 (d : Int)] 5)) := by
  have hb0 : Below B w (w.alloc (.cells #[.int .u8 (c : Int), .int .u8 (d : Int)] 5)) := (Below.refl _ _).alloc hB _
  refine wpList_app hgd s x ho B v xs hs (hrow.alloc _) (some ⟨w.heap.size, 0, none⟩) 2 2 (fun k => if k = 0 then c else d) hx (fun e => by cases e) (fun k hk => ?_) hb (Nat.le_trans hB hb0.size) fun v' w' q1 q2 q3 => h v' w' ?_ ?_ (fun g1 g2 => app_step g1 g2 q2 q3)
  · have : k = 0 ∨ k = 1 := by omega
    rcases this with e | e <;> subst e
    · exact ⟨hc, w.heap.size, 0, rfl, by simp⟩
    · exact ⟨hd, w.heap.size, 0, rfl, by simp⟩
  · have e : bs (fun k => if k = 0 then c else d) 2 = [(c : Int), (d : Int)] := rfl
    rw [e] at q1
    exact q1
  · exact hb0.trans (grown_below (hrow.alloc _) q2 (Nat.le_trans hB hb0.size))

theorem esc_app : ∀ a b : List Int, esc (a ++ b) = esc a ++ esc b
  | [], _ => rfl
  | x :: r, b => by
    rw [List.cons_append, esc, esc, esc_app r b]
    split <;> rfl
theorem esc_take {ps : List Int} {k : Nat} (h : k < ps.length) : esc (ps.take (k + 1)) = esc (ps.take k) ++ (if ps[k] = 0 then [0, 255] else [ps[k]]) := by
  rw [List.take_add_one, List.getElem?_eq_getElem h, esc_app]
  simp only [Option.toList_some, esc]
theorem xof_at {xs : List Int} (h : Okb xs) {k : Nat} (hk : k < xs.length) : xs[k] = (xof xs k : Int) := by
  have := h xs[k] (List.getElem_mem hk)
  simp [xof, List.getElem?_eq_getElem hk]
  omega

end Go.Proofs.Ytjgfklbhagcbaab
