/- Texts, levels, filters: on lists of bytes. What meets, what covers, and what follows. -/
import Derived.WalkKit
namespace Go.Proofs.YtlbbaniehkghdabDoor
set_option linter.unusedVariables false

/-- What stands between the strokes. -/
def lv : List UInt8 → List (List UInt8)
  | [] => [[]]
  | c :: s => if c = 47 then [] :: lv s else match lv s with
    | [] => [[c]]
    | x :: r => (c :: x) :: r
theorem lv_ne : ∀ s, lv s ≠ []
  | [] => by simp [lv]
  | c :: s => by
    simp only [lv]
    split
    · simp
    · split <;> simp
theorem lv_stroke (s : List UInt8) : lv (47 :: s) = [] :: lv s := by simp [lv]
theorem lv_other {c : UInt8} (h : c ≠ 47) (s : List UInt8) : ∃ x r, lv s = x :: r ∧ lv (c :: s) = (c :: x) :: r := by
  cases e : lv s with
  | nil => exact absurd e (lv_ne s)
  | cons x r => exact ⟨x, r, rfl, by simp [lv, h, e]⟩
def jn : List (List UInt8) → List UInt8
  | [] => []
  | [x] => x
  | x :: y :: r => x ++ 47 :: jn (y :: r)
theorem jn_cons (x : List UInt8) {l : List (List UInt8)} (h : l ≠ []) : jn (x :: l) = x ++ 47 :: jn l := by
  cases l with
  | nil => exact absurd rfl h
  | cons y r => rfl
theorem jn_push (c : UInt8) (x : List UInt8) (r : List (List UInt8)) : jn ((c :: x) :: r) = c :: jn (x :: r) := by
  cases r <;> rfl
theorem jn_lv : ∀ s, jn (lv s) = s
  | [] => rfl
  | c :: s => by
    by_cases h : c = 47
    · subst h
      rw [lv_stroke, jn_cons _ (lv_ne s), jn_lv s]
      rfl
    · obtain ⟨x, r, e1, e2⟩ := lv_other h s
      rw [e2, jn_push, ← e1, jn_lv s]
theorem lv_inj {s t : List UInt8} (h : lv s = lv t) : s = t := by rw [← jn_lv s, h, jn_lv t]
theorem lv_free : ∀ s, ∀ x ∈ lv s, (47 : UInt8) ∉ x
  | [], x, hx => by simp [lv] at hx; subst hx; simp
  | c :: s, x, hx => by
    by_cases h : c = 47
    · subst h
      rw [lv_stroke] at hx
      rcases List.mem_cons.1 hx with q | q
      · subst q; simp
      · exact lv_free s x q
    · obtain ⟨y, r, e1, e2⟩ := lv_other h s
      rw [e2] at hx
      rcases List.mem_cons.1 hx with q | q
      · subst q
        have := lv_free s y (by rw [e1]; simp)
        simp [this, Ne.symm h]
      · exact lv_free s x (by rw [e1]; simp [q])
/-- A level ahead of a stroke. -/
theorem lv_app (x : List UInt8) (h : (47 : UInt8) ∉ x) (t : List UInt8) : lv (x ++ 47 :: t) = x :: lv t := by
  induction x with
  | nil => exact lv_stroke t
  | cons c x ih =>
    have hc : c ≠ 47 := fun e => h (by simp [e])
    obtain ⟨y, r, e1, e2⟩ := lv_other hc (x ++ 47 :: t)
    rw [ih (fun q => h (by simp [q]))] at e1
    cases e1
    exact e2
theorem lv_one (x : List UInt8) (h : (47 : UInt8) ∉ x) : lv x = [x] := by
  induction x with
  | nil => rfl
  | cons c x ih =>
    have hc : c ≠ 47 := fun e => h (by simp [e])
    obtain ⟨y, r, e1, e2⟩ := lv_other hc x
    rw [ih (fun q => h (by simp [q]))] at e1
    cases e1
    exact e2
theorem lv_jn : ∀ (l : List (List UInt8)), l ≠ [] → (∀ x ∈ l, (47 : UInt8) ∉ x) → lv (jn l) = l
  | [], h, _ => absurd rfl h
  | [x], _, h => lv_one x (h x (by simp))
  | x :: y :: r, _, h => by
    rw [jn_cons _ (by simp), lv_app x (h x (by simp)), lv_jn (y :: r) (by simp) fun z hz => h z (by simp [hz])]
/-- A text, a stroke, a text. -/
theorem lv_two (s t : List UInt8) : lv (s ++ 47 :: t) = lv s ++ lv t := by
  induction s with
  | nil => rw [List.nil_append, lv_stroke]; rfl
  | cons c s ih =>
    by_cases h : c = 47
    · subst h
      rw [List.cons_append, lv_stroke, lv_stroke, ih]
      rfl
    · obtain ⟨x, r, e1, e2⟩ := lv_other h s
      obtain ⟨y, q, f1, f2⟩ := lv_other h (s ++ 47 :: t)
      rw [ih, e1] at f1
      cases f1
      rw [List.cons_append, f2, e2]
      rfl
theorem lv_length : ∀ s, (lv s).length = s.count 47 + 1
  | [] => rfl
  | c :: s => by
    by_cases h : c = 47
    · subst h
      rw [lv_stroke, List.length_cons, lv_length s, List.count_cons_self]
    · obtain ⟨x, r, e1, e2⟩ := lv_other h s
      have := lv_length s
      rw [e1] at this
      rw [e2, List.count_cons_of_ne h]
      simpa using this

/-- Signs, and which levels a filter may have. -/
def sgn (x : List UInt8) : Bool := x.any fun c => c == 43 || c == 35
def okF : List (List UInt8) → Bool
  | [] => true
  | x :: r => (!sgn x || x == [43] || (x == [35] && r.isEmpty)) && okF r
theorem sgn_lv (s : List UInt8) (h : sgn s = false) : ∀ x ∈ lv s, sgn x = false := by
  induction s with
  | nil => intro x hx; simp [lv] at hx; subst hx; rfl
  | cons c s ih =>
    have hc : (c == 43 || c == 35) = false ∧ sgn s = false := by simpa [sgn] using h
    intro x hx
    by_cases e : c = 47
    · subst e
      rw [lv_stroke] at hx
      rcases List.mem_cons.1 hx with q | q
      · subst q; rfl
      · exact ih hc.2 x q
    · obtain ⟨y, r, e1, e2⟩ := lv_other e s
      rw [e2] at hx
      rcases List.mem_cons.1 hx with q | q
      · subst q
        have := ih hc.2 y (by rw [e1]; simp)
        unfold sgn at this ⊢
        rw [List.any_cons, this, hc.1]
        rfl
      · exact ih hc.2 x (by rw [e1]; simp [q])
theorem okF_plain : ∀ l : List (List UInt8), (∀ x ∈ l, sgn x = false) → okF l = true
  | [], _ => rfl
  | x :: r, h => by simp [okF, h x (by simp), okF_plain r fun y hy => h y (by simp [hy])]
theorem okF_wild : ∀ l : List (List UInt8), (∀ x ∈ l, sgn x = false) → okF (l ++ [[35]]) = true
  | [], _ => by decide
  | x :: r, h => by simp [okF, h x (by simp), okF_wild r fun y hy => h y (by simp [hy])]
theorem okF_set : ∀ (l : List (List UInt8)) (i : Nat), okF l = true → l[i]? ≠ some [35] → okF (l.set i [43]) = true
  | [], _, _, _ => rfl
  | x :: r, 0, h, _ => by
    simp only [okF, Bool.and_eq_true] at h
    simp [okF, List.set, h.2]
  | x :: r, i + 1, h, hi => by
    simp only [okF, Bool.and_eq_true] at h
    have ih := okF_set r i h.2 (by simpa using hi)
    simp only [okF, List.set, Bool.and_eq_true]
    refine ⟨?_, ih⟩
    have := h.1
    cases r with
    | nil => simpa using this
    | cons y r => cases i <;> simpa using this

/-- What meets, and what covers. -/
def mts : List (List UInt8) → List (List UInt8) → Bool
  | [], n => n.isEmpty
  | x :: f, n => x == [35] || match n with
    | [] => false
    | y :: n => (x == [43] || x == y) && mts f n
def cvs : List (List UInt8) → List (List UInt8) → Bool
  | [], n => n.isEmpty
  | x :: f, n => x == [35] || match n with
    | [] => false
    | y :: n => ((x == [43] && y != [35]) || x == y) && cvs f n
theorem mts_self : ∀ l, mts l l = true
  | [] => rfl
  | x :: l => by simp [mts, mts_self l]
theorem cvs_self : ∀ l, cvs l l = true
  | [] => rfl
  | x :: l => by simp [cvs, cvs_self l]
theorem mts_plain : ∀ (f n : List (List UInt8)), (∀ x ∈ f, sgn x = false) → (mts f n = true ↔ f = n)
  | [], n, _ => by cases n <;> simp [mts]
  | x :: f, n, h => by
    have h35 : (x == [35]) = false := by
      have := h x (by simp)
      cases e : (x == [35]) with
      | false => rfl
      | true => rw [beq_iff_eq] at e; subst e; cases this
    have h43 : (x == [43]) = false := by
      have := h x (by simp)
      cases e : (x == [43]) with
      | false => rfl
      | true => rw [beq_iff_eq] at e; subst e; cases this
    cases n with
    | nil => simp [mts, h35]
    | cons y n =>
      have := mts_plain f n fun z hz => h z (by simp [hz])
      simp [mts, h35, h43, this]
theorem mts_cvs : ∀ (a b n : List (List UInt8)), (∀ y ∈ n, y ≠ [35]) → cvs a b = true → mts b n = true → mts a n = true
  | [], b, n, _, h1, h2 => by
    simp [cvs] at h1
    subst h1
    exact h2
  | x :: a, b, n, hn, h1, h2 => by
    simp only [cvs, Bool.or_eq_true, beq_iff_eq] at h1
    simp only [mts, Bool.or_eq_true, beq_iff_eq]
    rcases h1 with h1 | h1
    · exact .inl h1
    · by_cases e : x = [35]
      · exact .inl e
      right
      cases b with
      | nil => cases h1
      | cons y b =>
        simp only [Bool.and_eq_true, Bool.or_eq_true, beq_iff_eq, bne_iff_ne] at h1
        have hy : y ≠ [35] := by
          rcases h1.1 with q | q
          · exact q.2
          · exact fun q' => e (q.trans q')
        simp only [mts, Bool.or_eq_true, beq_iff_eq] at h2
        rcases h2 with h2 | h2
        · exact absurd h2 hy
        · cases n with
          | nil => cases h2
          | cons z n =>
            simp only [Bool.and_eq_true, Bool.or_eq_true, beq_iff_eq] at h2 ⊢
            refine ⟨?_, mts_cvs a b n (fun w hw => hn w (by simp [hw])) h1.2 h2.2⟩
            rcases h1.1 with q | q
            · exact .inl q.1
            · rcases h2.1 with r | r
              · exact .inl (q.trans r)
              · exact .inr (q.trans r)
theorem cvs_cvs : ∀ (a b c : List (List UInt8)), cvs a b = true → cvs b c = true → cvs a c = true
  | [], b, c, h1, h2 => by
    simp [cvs] at h1
    subst h1
    exact h2
  | x :: a, b, c, h1, h2 => by
    simp only [cvs, Bool.or_eq_true, beq_iff_eq] at h1
    simp only [cvs, Bool.or_eq_true, beq_iff_eq]
    rcases h1 with h1 | h1
    · exact .inl h1
    · by_cases e : x = [35]
      · exact .inl e
      right
      cases b with
      | nil => cases h1
      | cons y b =>
        simp only [Bool.and_eq_true, Bool.or_eq_true, beq_iff_eq, bne_iff_ne] at h1
        have hy : y ≠ [35] := by
          rcases h1.1 with q | q
          · exact q.2
          · exact fun q' => e (q.trans q')
        simp only [cvs, Bool.or_eq_true, beq_iff_eq] at h2
        rcases h2 with h2 | h2
        · exact absurd h2 hy
        · cases c with
          | nil => cases h2
          | cons z c =>
            simp only [Bool.and_eq_true, Bool.or_eq_true, beq_iff_eq, bne_iff_ne] at h2 ⊢
            refine ⟨?_, cvs_cvs a b c h1.2 h2.2⟩
            rcases h1.1 with q | q
            · rcases h2.1 with r | r
              · exact .inl ⟨q.1, r.2⟩
              · exact .inl ⟨q.1, fun s => hy (r.trans s)⟩
            · rcases h2.1 with r | r
              · exact .inl ⟨q.trans r.1, r.2⟩
              · exact .inr (q.trans r)
theorem mts_wider : ∀ (f n : List (List UInt8)) (i : Nat), f[i]? ≠ some [35] → mts f n = true → mts (f.set i [43]) n = true
  | [], _, _, _, h => h
  | x :: f, n, 0, hi, h => by
    have hx : x ≠ [35] := fun e => hi (by simp [e])
    simp only [mts, Bool.or_eq_true, beq_iff_eq] at h
    rcases h with h | h
    · exact absurd h hx
    · cases n with
      | nil => cases h
      | cons y n =>
        simp only [Bool.and_eq_true] at h
        simp [List.set, mts, h.2]
  | x :: f, n, i + 1, hi, h => by
    simp only [mts, Bool.or_eq_true, beq_iff_eq] at h
    simp only [List.set, mts, Bool.or_eq_true, beq_iff_eq]
    rcases h with h | h
    · exact .inl h
    · right
      cases n with
      | nil => cases h
      | cons y n =>
        simp only [Bool.and_eq_true] at h ⊢
        exact ⟨h.1, mts_wider f n i (by simpa using hi) h.2⟩
/-- All below: a row of levels and # behind it. -/
theorem mts_below : ∀ (p n : List (List UInt8)), (∀ x ∈ p, sgn x = false) → (mts (p ++ [[35]]) n = true ↔ ∃ r, n = p ++ r)
  | [], n, _ => by simp [mts]
  | x :: p, n, h => by
    have h35 : (x == [35]) = false := by
      have := h x (by simp)
      cases e : (x == [35]) with
      | false => rfl
      | true => rw [beq_iff_eq] at e; subst e; cases this
    have h43 : (x == [43]) = false := by
      have := h x (by simp)
      cases e : (x == [43]) with
      | false => rfl
      | true => rw [beq_iff_eq] at e; subst e; cases this
    cases n with
    | nil => simp [mts, h35]
    | cons y n =>
      have := mts_below p n fun z hz => h z (by simp [hz])
      simp only [List.cons_append, mts, h35, h43, Bool.false_or, Bool.and_eq_true, beq_iff_eq, this]
      constructor
      · rintro ⟨rfl, r, rfl⟩
        exact ⟨r, rfl⟩
      · rintro ⟨r, e⟩
        cases e
        exact ⟨rfl, r, rfl⟩
theorem cvs_below : ∀ (p r : List (List UInt8)), cvs (p ++ [[35]]) (p ++ r) = true
  | [], r => by simp [cvs]
  | x :: p, r => by simp [cvs, cvs_below p r]
end Go.Proofs.YtlbbaniehkghdabDoor
