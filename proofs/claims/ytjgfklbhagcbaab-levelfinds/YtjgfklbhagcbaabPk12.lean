import Derived.Test.YtjgfklbhagcbaabPk01
import Derived.Test.YtjgfklbhagcbaabPk05
import Derived.Test.YtjgfklbhagcbaabPk10
import Derived.Test.YtjgfklbhagcbaabPk11
/- Entries in order, on lists: what a mem tells. -/
namespace Go.Proofs.Ytjgfklbhagcbaab
set_option linter.unusedVariables false
set_option linter.unusedSimpArgs false

open Go.RowKit in
theorem hid {p : Prop} (h : p) : Hid p := h
/-- May an entry be? -/
def mayE (e : EntV) : Bool := decide (1 ≤ e.key.length ∧ e.key.length ≤ 512 ∧ 1 ≤ e.seq ∧ e.seq ≤ 4611686018427387904 ∧ 0 ≤ e.till ∧ e.till ≤ 4611686018427387904 ∧ e.val.length ≤ 2048 ∧ (e.gone = true → e.till = 0 ∧ e.val.length = 0))
def wtE (e : EntV) : Nat := e.key.length + e.val.length + 16
def wts : List EntV → Nat
  | [] => 0
  | e :: r => wtE e + wts r
theorem wts_app : ∀ a b : List EntV, wts (a ++ b) = wts a + wts b
  | [], b => by simp [wts]
  | e :: r, b => by rw [List.cons_append, wts, wts, wts_app r b, Nat.add_assoc]
/-- By key, newer first. -/
def ahead (a b : EntV) : Int := if cmp a.key b.key ≠ 0 then cmp a.key b.key else if b.seq < a.seq then -1 else if a.seq < b.seq then 1 else 0
theorem cmp_refl (a : List Int) : cmp a a = 0 := cmp_zero.2 rfl
theorem cmp_lt_iff : ∀ a b : List Int, cmp a b < 0 ↔ cmp a b = -1 := fun a b => by
  have := cmp_vals a b
  omega
theorem cmp_trans : ∀ {a b c : List Int}, cmp a b < 0 → cmp b c < 0 → cmp a c < 0
  | [], [], _, h, _ => by simp [cmp] at h
  | [], y :: b, [], _, h => by
    have := cmp_nil (y :: b)
    omega
  | [], y :: b, z :: c, _, _ => by simp [cmp]
  | x :: a, [], _, h, _ => by
    have := cmp_nil (x :: a)
    omega
  | x :: a, y :: b, [], _, h => by
    have := cmp_nil (y :: b)
    omega
  | x :: a, y :: b, z :: c, h1, h2 => by
    rcases Int.lt_trichotomy x y with p | p | p
    · rcases Int.lt_trichotomy y z with q | q | q
      · rw [cmp_less (by omega)]; omega
      · subst q; rw [cmp_less p]; omega
      · rw [cmp_more q] at h2; omega
    · subst p
      rw [cmp_same] at h1
      rcases Int.lt_trichotomy x z with q | q | q
      · rw [cmp_less q]; omega
      · subst q
        rw [cmp_same] at h2 ⊢
        exact cmp_trans h1 h2
      · rw [cmp_more q] at h2; omega
    · rw [cmp_more p] at h1; omega
theorem ahead_vals (a b : EntV) : ahead a b = -1 ∨ ahead a b = 0 ∨ ahead a b = 1 := by
  have := cmp_vals a.key b.key
  unfold ahead
  split
  · exact this
  · split
    · exact .inl rfl
    · split
      · exact .inr (.inr rfl)
      · exact .inr (.inl rfl)
theorem ahead_zero {a b : EntV} : ahead a b = 0 ↔ a.key = b.key ∧ a.seq = b.seq := by
  unfold ahead
  by_cases q : cmp a.key b.key = 0
  · have e := cmp_zero.1 q
    rw [if_neg (by omega)]
    constructor
    · intro h
      refine ⟨e, ?_⟩
      by_cases p : b.seq < a.seq
      · rw [if_pos p] at h; omega
      · rw [if_neg p] at h
        by_cases r : a.seq < b.seq
        · rw [if_pos r] at h; omega
        · omega
    · rintro ⟨_, h⟩
      rw [if_neg (by omega), if_neg (by omega)]
  · rw [if_pos q]
    exact ⟨fun h => absurd h q, fun h => absurd (cmp_zero.2 h.1) q⟩
theorem ahead_neg (a b : EntV) : ahead b a = - ahead a b := by
  have h := cmp_neg a.key b.key
  unfold ahead
  by_cases q : cmp a.key b.key = 0
  · have q' : cmp b.key a.key = 0 := by omega
    simp only [ne_eq, q, q', not_true_eq_false, if_false]
    repeat' split
    all_goals omega
  · rw [if_pos q, if_pos (by omega)]
    exact h
theorem ahead_trans {a b c : EntV} (h1 : ahead a b < 0) (h2 : ahead b c < 0) : ahead a c < 0 := by
  unfold ahead at h1 h2 ⊢
  by_cases p : cmp a.key b.key = 0
  · have e := cmp_zero.1 p
    rw [if_neg (by omega)] at h1
    by_cases q : cmp b.key c.key = 0
    · rw [if_neg (by omega)] at h2
      rw [e, if_neg (by omega)]
      by_cases s1 : b.seq < a.seq
      · by_cases s2 : c.seq < b.seq
        · rw [if_pos (by omega)]; omega
        · rw [if_neg s2] at h2
          split at h2 <;> omega
      · rw [if_neg s1] at h1
        split at h1 <;> omega
    · rw [if_pos (by omega)] at h2
      rw [e, if_pos q]
      exact h2
  · rw [if_pos p] at h1
    by_cases q : cmp b.key c.key = 0
    · have e := cmp_zero.1 q
      rw [← e, if_pos p]
      exact h1
    · rw [if_pos q] at h2
      have := cmp_trans h1 h2
      rw [if_pos (by omega)]
      exact this
/-- In order, none twice. -/
def ordE (l : List EntV) : Prop := l.Pairwise fun a b => ahead a b < 0
/-- How many stand ahead of an entry. -/
def atE (l : List EntV) (e : EntV) : Nat := (l.takeWhile fun x => ahead x e < 0).length
def hasE (l : List EntV) (e : EntV) : Bool := l.any fun x => ahead x e = 0
def putE (l : List EntV) (e : EntV) : List EntV := l.take (atE l e) ++ e :: l.drop (atE l e)
/-- What Add answers, and what is there then. -/
def addE (l : List EntV) (e : EntV) : Nat × List EntV := if mayE e = false then (1, l) else if hasE l e = true then (6, l) else (0, putE l e)
theorem atE_nil (e : EntV) : atE [] e = 0 := rfl
theorem atE_cons_lt {x : EntV} {r : List EntV} {e : EntV} (h : ahead x e < 0) : atE (x :: r) e = atE r e + 1 := by simp [atE, h]
theorem atE_cons_ge {x : EntV} {r : List EntV} {e : EntV} (h : ¬ ahead x e < 0) : atE (x :: r) e = 0 := by simp [atE, h]
theorem atE_le (l : List EntV) (e : EntV) : atE l e ≤ l.length := by
  induction l with
  | nil => exact Nat.le_refl _
  | cons x r ih =>
    by_cases q : ahead x e < 0
    · rw [atE_cons_lt q, List.length_cons]; omega
    · rw [atE_cons_ge q]; omega
theorem atE_at {l : List EntV} {e : EntV} (h : atE l e < l.length) : ¬ ahead l[atE l e] e < 0 := by
  induction l with
  | nil => cases h
  | cons x r ih =>
    by_cases q : ahead x e < 0
    · have h' : atE r e < r.length := by rw [atE_cons_lt q, List.length_cons] at h; omega
      simp only [atE_cons_lt q, List.getElem_cons_succ]
      exact ih h'
    · simp only [atE_cons_ge q, List.getElem_cons_zero]
      exact q
theorem atE_before {l : List EntV} {e : EntV} {k : Nat} (h : k < atE l e) (hk : k < l.length) : ahead l[k] e < 0 := by
  induction l generalizing k with
  | nil => cases hk
  | cons x r ih =>
    by_cases q : ahead x e < 0
    · rw [atE_cons_lt q] at h
      cases k with
      | zero => simpa using q
      | succ k =>
        rw [List.getElem_cons_succ]
        exact ih (by omega) (by simp at hk; omega)
    · rw [atE_cons_ge q] at h
      cases h
theorem putE_nil (e : EntV) : putE [] e = [e] := rfl
theorem putE_lt {x : EntV} {r : List EntV} {e : EntV} (h : ahead x e < 0) : putE (x :: r) e = x :: putE r e := by simp [putE, atE_cons_lt h]
theorem putE_ge {x : EntV} {r : List EntV} {e : EntV} (h : ¬ ahead x e < 0) : putE (x :: r) e = e :: x :: r := by simp [putE, atE_cons_ge h]
theorem putE_len (l : List EntV) (e : EntV) : (putE l e).length = l.length + 1 := by
  have := atE_le l e
  simp [putE]
  omega
theorem putE_perm (l : List EntV) (e : EntV) : (putE l e).Perm (e :: l) := by
  unfold putE
  refine List.perm_middle.trans ?_
  rw [List.take_append_drop]
/-- In an ordered row one that is like an entry stands where the entry would. -/
theorem hasE_at {l : List EntV} (ho : ordE l) (e : EntV) : hasE l e = true ↔ ∃ h : atE l e < l.length, ahead l[atE l e] e = 0 := by
  constructor
  · intro h
    obtain ⟨x, hx, hz⟩ := List.any_eq_true.1 h
    have hz : ahead x e = 0 := by simpa using hz
    obtain ⟨i, hi, rfl⟩ := List.getElem_of_mem hx
    have h1 : atE l e ≤ i := by
      rcases Nat.lt_or_ge i (atE l e) with q | q
      · have := atE_before q hi
        omega
      · exact q
    have h2 : atE l e < l.length := by omega
    refine ⟨h2, ?_⟩
    rcases Nat.lt_or_ge (atE l e) i with q | q
    · have h3 := List.pairwise_iff_getElem.1 ho _ _ h2 hi q
      have h4 := atE_at h2
      have h5 := ahead_zero.1 hz
      exfalso
      apply h4
      have : ahead l[atE l e] l[i] = ahead l[atE l e] e := by unfold ahead; rw [h5.1, h5.2]
      omega
    · have e' : atE l e = i := by omega
      simp only [e']
      exact hz
  · rintro ⟨h, hz⟩
    exact List.any_eq_true.2 ⟨_, List.getElem_mem h, by simpa using hz⟩
theorem putE_ord {l : List EntV} {e : EntV} (ho : ordE l) (hh : hasE l e = false) : ordE (putE l e) := by
  unfold ordE putE
  have hn : ∀ x ∈ l, ahead x e ≠ 0 := fun x hx hz => by
    have : hasE l e = true := List.any_eq_true.2 ⟨x, hx, by simpa using hz⟩
    rw [hh] at this
    cases this
  have hsplit : l.take (atE l e) ++ l.drop (atE l e) = l := List.take_append_drop _ _
  have ho' : (l.take (atE l e) ++ l.drop (atE l e)).Pairwise fun a b => ahead a b < 0 := by rw [hsplit]; exact ho
  obtain ⟨h1, h2, h3⟩ := List.pairwise_append.1 ho'
  have hbe : ∀ a ∈ l.take (atE l e), ahead a e < 0 := fun a ha => by
    obtain ⟨i, hi, rfl⟩ := List.getElem_of_mem ha
    rw [List.length_take] at hi
    rw [List.getElem_take]
    exact atE_before (by omega) (by omega)
  have haf : ∀ b ∈ l.drop (atE l e), ahead e b < 0 := fun b hb => by
    obtain ⟨i, hi, rfl⟩ := List.getElem_of_mem hb
    rw [List.length_drop] at hi
    rw [List.getElem_drop]
    have hat : atE l e < l.length := by omega
    have h0 : ahead e l[atE l e] < 0 := by
      have a1 := atE_at hat
      have a2 := hn _ (List.getElem_mem hat)
      have a3 := ahead_neg l[atE l e] e
      omega
    rcases Nat.eq_zero_or_pos i with q | q
    · subst q
      simpa using h0
    · exact ahead_trans h0 (List.pairwise_iff_getElem.1 ho _ _ hat (by omega) (by omega))
  refine List.pairwise_append.2 ⟨h1, List.pairwise_cons.2 ⟨haf, h2⟩, fun a ha b hb => ?_⟩
  rcases List.mem_cons.1 hb with q | q
  · subst q; exact hbe a ha
  · exact h3 a ha b q
theorem addE_ord {l : List EntV} (ho : ordE l) (e : EntV) : ordE (addE l e).2 := by
  unfold addE
  split
  · exact ho
  · split
    · exact ho
    · rename_i h
      exact putE_ord ho (by simpa using h)
/-- All that a mem holds may be. -/
def okE (l : List EntV) : Prop := ∀ e ∈ l, mayE e = true
theorem addE_ok {l : List EntV} (h : okE l) (e : EntV) : okE (addE l e).2 := by
  unfold addE
  split
  · exact h
  · split
    · exact h
    · rename_i h1 h2
      intro x hx
      rcases List.mem_cons.1 ((putE_perm l e).mem_iff.1 hx) with q | q
      · subst q; simpa using h1
      · exact h x q
theorem addE_len (l : List EntV) (e : EntV) : (addE l e).2.length ≤ l.length + 1 := by
  unfold addE
  split
  · simp
  · split
    · simp
    · simp [putE_len]
/-- The entry of a key with the greatest number of at most seq. -/
def getE (l : List EntV) (key : List Int) (seq : Int) : Option EntV := l.find? fun e => decide (cmp e.key key = 0 ∧ e.seq ≤ seq)
def inE (fr ub : List Int) (e : EntV) : Bool := decide (0 ≤ cmp e.key fr ∧ (ub.length = 0 ∨ cmp e.key ub < 0))
def listE (l : List EntV) (fr ub : List Int) : List EntV := l.filter (inE fr ub)
/-- One more, if it is not newer than seq and the first of its key. -/
def seen1 (s : Int) (out : List EntV) (e : EntV) : List EntV := if e.seq ≤ s ∧ (out = [] ∨ ∃ x, out.getLast? = some x ∧ cmp x.key e.key ≠ 0) then out ++ [e] else out
def seenE (l : List EntV) (s : Int) : List EntV := l.foldl (seen1 s) []
def latestE (l : List EntV) (fr ub : List Int) (s : Int) : List EntV := (seenE (listE l fr ub) s).filter fun e => !e.gone
theorem listE_take {l : List EntV} {fr ub : List Int} {k : Nat} (h : k < l.length) : listE (l.take (k + 1)) fr ub = listE (l.take k) fr ub ++ (if inE fr ub l[k] then [l[k]] else []) := by
  unfold listE
  rw [List.take_add_one, List.getElem?_eq_getElem h, List.filter_append]
  simp only [Option.toList]
  congr 1
  by_cases q : inE fr ub l[k] = true
  · rw [if_pos q]; simp [q]
  · rw [if_neg q]; simp [q]
theorem seenE_take {l : List EntV} {s : Int} {k : Nat} (h : k < l.length) : seenE (l.take (k + 1)) s = seen1 s (seenE (l.take k) s) l[k] := by
  unfold seenE
  rw [List.take_add_one, List.getElem?_eq_getElem h, List.foldl_append]
  rfl
theorem seen1_len (s : Int) (out : List EntV) (e : EntV) : (seen1 s out e).length ≤ out.length + 1 := by
  unfold seen1
  split <;> simp
theorem seenE_len (l : List EntV) (s : Int) : (seenE l s).length ≤ l.length := by
  have : ∀ (l out : List EntV), (l.foldl (seen1 s) out).length ≤ out.length + l.length := fun l => by
    induction l with
    | nil => intro out; simp
    | cons x r ih =>
      intro out
      have h1 := ih (seen1 s out x)
      have h2 := seen1_len s out x
      rw [List.foldl_cons, List.length_cons]
      omega
  have := this l []
  simpa [seenE] using this
theorem listE_len (l : List EntV) (fr ub : List Int) : (listE l fr ub).length ≤ l.length := List.length_filter_le _ _
theorem latestE_len (l : List EntV) (fr ub : List Int) (s : Int) : (latestE l fr ub s).length ≤ l.length :=
  Nat.le_trans (List.length_filter_le _ _) (Nat.le_trans (seenE_len _ _) (listE_len _ _ _))
theorem listE_all (l : List EntV) : listE l [] [] = l := by
  unfold listE
  refine List.filter_eq_self.2 fun e _ => ?_
  unfold inE
  have := cmp_nil e.key
  simp [this]
theorem getE_take {l : List EntV} {key : List Int} {seq : Int} {k : Nat} (h : getE (l.take k) key seq = none) (hk : k < l.length) : getE (l.take (k + 1)) key seq = if cmp l[k].key key = 0 ∧ l[k].seq ≤ seq then some l[k] else none := by
  unfold getE at h ⊢
  rw [List.take_add_one, List.getElem?_eq_getElem hk, List.find?_append, h]
  simp only [Option.toList, Option.none_or, List.find?_cons, List.find?_nil]
  by_cases q : cmp l[k].key key = 0 ∧ l[k].seq ≤ seq
  · rw [if_pos q]; simp [q]
  · rw [if_neg q]
    have : decide (cmp l[k].key key = 0 ∧ l[k].seq ≤ seq) = false := by simpa using q
    rw [this]
theorem getE_some {l : List EntV} {key : List Int} {seq : Int} {k : Nat} (h : getE (l.take k) key seq = none) (hk : k < l.length) (h1 : cmp l[k].key key = 0) (h2 : l[k].seq ≤ seq) : getE l key seq = some l[k] := by
  have e := getE_take h hk
  rw [if_pos ⟨h1, h2⟩] at e
  unfold getE at e ⊢
  conv => lhs; rw [← List.take_append_drop (k + 1) l]
  rw [List.find?_append, e]
  rfl
end Go.Proofs.Ytjgfklbhagcbaab

/- What follows of entries in order: cuts, what is got, in which order they come. -/
namespace Go.Proofs.Ytjgfklbhagcbaab
set_option linter.unusedVariables false
set_option linter.unusedSimpArgs false

theorem ahead_key {a b : EntV} (h : ahead a b < 0) : cmp a.key b.key ≤ 0 := by
  unfold ahead at h
  by_cases q : cmp a.key b.key = 0
  · omega
  · rw [if_pos q] at h; omega
theorem cmp_le_trans {a b c : List Int} (h1 : cmp a b ≤ 0) (h2 : cmp b c < 0) : cmp a c < 0 := by
  by_cases q : cmp a b = 0
  · rw [cmp_zero.1 q]; exact h2
  · exact cmp_trans (by omega) h2
theorem inE_ahead {key : List Int} (hk : key.length ≠ 0) (e : EntV) : inE [] key e = decide (cmp e.key key < 0) := by
  unfold inE
  have := cmp_nil e.key
  simp [this, hk]
theorem inE_behind (key : List Int) (e : EntV) : inE key [] e = decide (0 ≤ cmp e.key key) := by
  unfold inE
  simp
/-- What lies ahead of a key and what lies from it on are all. -/
theorem cut_all {key : List Int} (hk : key.length ≠ 0) : ∀ {L : List EntV}, ordE L → listE L [] key ++ listE L key [] = L
  | [], _ => rfl
  | x :: r, ho => by
    obtain ⟨h1, h2⟩ := List.pairwise_cons.1 ho
    by_cases q : cmp x.key key < 0
    · have ih := cut_all hk h2
      have e1 : listE (x :: r) [] key = x :: listE r [] key := by
        unfold listE
        rw [List.filter_cons_of_pos (by rw [inE_ahead hk]; simpa using q)]
      have e2 : listE (x :: r) key [] = listE r key [] := by
        unfold listE
        rw [List.filter_cons_of_neg (by rw [inE_behind]; simp; omega)]
      rw [e1, e2, List.cons_append, ih]
    · have hall : ∀ y ∈ x :: r, ¬ cmp y.key key < 0 := fun y hy hlt => by
        rcases List.mem_cons.1 hy with e | e
        · subst e; exact q hlt
        · exact q (cmp_le_trans (ahead_key (h1 y e)) hlt)
      have e1 : listE (x :: r) [] key = [] := by
        unfold listE
        refine List.filter_eq_nil_iff.2 fun y hy => ?_
        rw [inE_ahead hk]
        simpa using hall y hy
      have e2 : listE (x :: r) key [] = x :: r := by
        unfold listE
        refine List.filter_eq_self.2 fun y hy => ?_
        rw [inE_behind]
        have := hall y hy
        simp
        omega
      rw [e1, e2, List.nil_append]
/-- Get is the first of a key's that is not newer. -/
theorem get_behind (L : List EntV) (key : List Int) (s : Int) : getE (listE L key []) key s = getE L key s := by
  unfold getE listE
  rw [List.find?_filter]
  congr 1
  funext e
  rw [inE_behind]
  by_cases q : cmp e.key key = 0
  · simp [q]
  · simp [q]
/-- Each is got at its own number. -/
theorem get_own : ∀ {L : List EntV}, ordE L → ∀ {e : EntV}, e ∈ L → getE L e.key e.seq = some e
  | x :: r, ho, e, he => by
    obtain ⟨h1, h2⟩ := List.pairwise_cons.1 ho
    rcases List.mem_cons.1 he with q | q
    · subst q
      unfold getE
      rw [List.find?_cons_of_pos (by simp [cmp_refl])]
    · have hx := h1 e q
      have hn : ¬ (cmp x.key e.key = 0 ∧ x.seq ≤ e.seq) := fun ⟨p1, p2⟩ => by
        unfold ahead at hx
        rw [if_neg (by omega)] at hx
        rw [if_neg (by omega)] at hx
        split at hx <;> omega
      unfold getE
      rw [List.find?_cons_of_neg (by simpa using hn)]
      exact get_own h2 q
/-- Entries added one behind the other. -/
def addAll (xs : List EntV) (L : List EntV) : List EntV := xs.foldl (fun L e => (addE L e).2) L
theorem addAll_ord : ∀ (xs : List EntV) {L : List EntV}, ordE L → ordE (addAll xs L)
  | [], _, h => h
  | x :: r, L, h => addAll_ord r (addE_ord h x)
theorem addAll_ok : ∀ (xs : List EntV) {L : List EntV}, okE L → okE (addAll xs L)
  | [], _, h => h
  | x :: r, L, h => addAll_ok r (addE_ok h x)
theorem addAll_len : ∀ (xs L : List EntV), (addAll xs L).length ≤ L.length + xs.length
  | [], L => Nat.le_refl _
  | x :: r, L => by
    have h1 := addAll_len r (addE L x).2
    have h2 := addE_len L x
    show (addAll r (addE L x).2).length ≤ _
    rw [List.length_cons]
    omega
theorem addAll_app (xs ys L : List EntV) : addAll (xs ++ ys) L = addAll ys (addAll xs L) := List.foldl_append
/-- No two alike. -/
def unlike (xs : List EntV) : Prop := xs.Pairwise fun a b => ¬ (a.key = b.key ∧ a.seq = b.seq)
theorem addAll_perm : ∀ (xs L : List EntV), unlike xs → (∀ a ∈ L, ∀ b ∈ xs, ¬ (a.key = b.key ∧ a.seq = b.seq)) → (addAll xs L).Perm (xs.filter mayE ++ L)
  | [], L, _, _ => List.Perm.refl _
  | x :: r, L, hu, hd => by
    obtain ⟨h1, h2⟩ := List.pairwise_cons.1 hu
    show (addAll r (addE L x).2).Perm _
    cases hm : mayE x with
    | false =>
      rw [List.filter_cons_of_neg (by simp [hm])]
      have e : (addE L x).2 = L := by unfold addE; rw [if_pos hm]
      rw [e]
      exact addAll_perm r L h2 fun a ha b hb => hd a ha b (List.mem_cons_of_mem _ hb)
    | true =>
      rw [List.filter_cons_of_pos (by simp [hm])]
      have hh : hasE L x = false := by
        rw [Bool.eq_false_iff]
        intro hh
        obtain ⟨a, ha, hz⟩ := List.any_eq_true.1 hh
        exact hd a ha x (List.mem_cons_self ..) (ahead_zero.1 (by simpa using hz))
      have e : (addE L x).2 = putE L x := by unfold addE; rw [if_neg (by rw [hm]; decide), if_neg (by rw [hh]; decide)]
      rw [e]
      have ih := addAll_perm r (putE L x) h2 fun a ha b hb => by
        rcases List.mem_cons.1 ((putE_perm L x).mem_iff.1 ha) with q | q
        · subst q; exact h1 b hb
        · exact hd a q b (List.mem_cons_of_mem _ hb)
      refine ih.trans ?_
      refine ((List.Perm.refl _).append (putE_perm L x)).trans ?_
      exact List.perm_middle
/-- Rows in order that hold the same are the same. -/
theorem ord_eq : ∀ {a b : List EntV}, ordE a → ordE b → a.Perm b → a = b
  | [], b, _, _, hp => by rw [hp.nil_eq]
  | x :: r, [], _, _, hp => by
    have := hp.length_eq
    simp at this
  | x :: r, y :: q, ha, hb, hp => by
    obtain ⟨h1, h2⟩ := List.pairwise_cons.1 ha
    obtain ⟨g1, g2⟩ := List.pairwise_cons.1 hb
    have hxy : x = y := by
      rcases List.mem_cons.1 (hp.mem_iff.1 (List.mem_cons_self ..)) with e | e
      · exact e
      · rcases List.mem_cons.1 (hp.mem_iff.2 (List.mem_cons_self ..)) with e' | e'
        · exact e'.symm
        · have k1 := g1 x e
          have k2 := h1 y e'
          have k3 := ahead_neg x y
          omega
    subst hxy
    rw [ord_eq h2 g2 (List.perm_cons x |>.1 hp)]
/-- In which order they come makes no difference. -/
theorem addAll_turned {xs : List EntV} (hu : unlike xs) : addAll xs.reverse [] = addAll xs [] := by
  have ho : ordE ([] : List EntV) := List.Pairwise.nil
  have hr : unlike xs.reverse := by
    unfold unlike
    rw [List.pairwise_reverse]
    refine List.Pairwise.imp (fun h => ?_) hu
    rintro ⟨h1, h2⟩
    exact h ⟨h1.symm, h2.symm⟩
  have p1 := addAll_perm xs [] hu (fun a ha => by cases ha)
  have p2 := addAll_perm xs.reverse [] hr (fun a ha => by cases ha)
  refine ord_eq (addAll_ord _ ho) (addAll_ord _ ho) ?_
  refine p2.trans (List.Perm.trans ?_ p1.symm)
  exact ((List.reverse_perm xs).filter _).append (List.Perm.refl _)
end Go.Proofs.Ytjgfklbhagcbaab

/- Versions, on lists: the order of lines, may a version be, what an edit makes of one; what follows. -/
namespace Go.Proofs.Ytjgfklbhagcbaab
set_option linter.unusedVariables false
set_option linter.unusedSimpArgs false

structure VrV where
  log : Int
  next : Int
  seq : Int
  tabs : List LnV
def cmI (a b : Int) : Int := if a < b then -1 else if b < a then 1 else 0
theorem cmI_neg (a b : Int) : cmI b a = - cmI a b := by unfold cmI; split <;> split <;> first | omega | (split <;> omega)
/-- How the program compares two lines. -/
def ordC (a b : LnV) : Int := if a.lvl ≠ b.lvl then cmI a.lvl b.lvl else if a.lvl = 0 then cmI b.num a.num else cmp a.least b.least
def aheadL (a b : LnV) : Bool := decide (ordC a b < 0)
theorem cmp_le3 {a b c : List Int} (h1 : cmp a b ≤ 0) (h2 : cmp b c ≤ 0) : cmp a c ≤ 0 := by
  by_cases q : cmp b c = 0
  · rw [← cmp_zero.1 q]; exact h1
  · have := cmp_le_trans h1 (show cmp b c < 0 by omega)
    omega
theorem ordC_neg (a b : LnV) : ordC b a = - ordC a b := by
  unfold ordC
  by_cases q : a.lvl = b.lvl
  · rw [if_neg (show ¬ b.lvl ≠ a.lvl from fun h => h q.symm), if_neg (show ¬ a.lvl ≠ b.lvl from fun h => h q)]
    by_cases q2 : a.lvl = 0
    · rw [if_pos (show b.lvl = 0 by omega), if_pos q2]; exact cmI_neg _ _
    · rw [if_neg (show ¬ b.lvl = 0 by omega), if_neg q2]; exact cmp_neg _ _
  · rw [if_pos (show b.lvl ≠ a.lvl from fun e => q e.symm), if_pos (show a.lvl ≠ b.lvl from q)]; exact cmI_neg _ _
theorem ordC_le {a b c : LnV} (h1 : ordC a b ≤ 0) (h2 : ordC b c ≤ 0) : ordC a c ≤ 0 := by
  unfold ordC at *
  by_cases q1 : a.lvl = b.lvl
  · rw [if_neg (show ¬ a.lvl ≠ b.lvl from fun h => h q1)] at h1
    by_cases q2 : b.lvl = c.lvl
    · rw [if_neg (show ¬ b.lvl ≠ c.lvl from fun h => h q2)] at h2
      rw [if_neg (show ¬ a.lvl ≠ c.lvl from fun h => h (q1.trans q2))]
      by_cases q3 : a.lvl = 0
      · rw [if_pos q3] at h1 ⊢
        rw [if_pos (show b.lvl = 0 by omega)] at h2
        unfold cmI at *
        split at h1 <;> split at h2 <;> split <;> first | omega | (split <;> first | omega | (split at h1 <;> first | omega | (split at h2 <;> omega)))
      · rw [if_neg q3] at h1 ⊢
        rw [if_neg (show ¬ b.lvl = 0 by omega)] at h2
        exact cmp_le3 h1 h2
    · rw [if_pos (show b.lvl ≠ c.lvl from q2)] at h2
      rw [if_pos (show a.lvl ≠ c.lvl by omega)]
      rw [q1]; exact h2
  · rw [if_pos (show a.lvl ≠ b.lvl from q1)] at h1
    by_cases q2 : b.lvl = c.lvl
    · rw [if_pos (show a.lvl ≠ c.lvl by omega)]
      rw [← q2]; exact h1
    · rw [if_pos (show b.lvl ≠ c.lvl from q2)] at h2
      have k1 : a.lvl < b.lvl := by unfold cmI at h1; split at h1 <;> first | assumption | (split at h1 <;> omega)
      have k2 : b.lvl < c.lvl := by unfold cmI at h2; split at h2 <;> first | assumption | (split at h2 <;> omega)
      rw [if_pos (show a.lvl ≠ c.lvl by omega)]
      unfold cmI; rw [if_pos (show a.lvl < c.lvl by omega)]; omega
theorem ordC_swo {α : Type} (f : α → LnV) : Go.Sort.SWO (fun x y : α => decide (ordC (f x) (f y) < 0)) where
  irrefl x := by have := ordC_neg (f x) (f x); exact decide_eq_false (by omega)
  trans x y z h1 h2 := by
    have h1 := of_decide_eq_true h1
    have h2 := of_decide_eq_true h2
    refine decide_eq_true ?_
    have k1 := ordC_le (a := f x) (b := f y) (c := f z) (by omega) (by omega)
    by_cases q : ordC (f x) (f z) = 0
    · have k2 := ordC_neg (f x) (f z)
      have k3 := ordC_le (a := f z) (b := f x) (c := f y) (by omega) (by omega)
      have k4 := ordC_neg (f y) (f z)
      omega
    · omega
  ntrans x y z h1 h2 := by
    have h1 := of_decide_eq_false h1
    have h2 := of_decide_eq_false h2
    refine decide_eq_false ?_
    have k1 := ordC_neg (f x) (f y)
    have k2 := ordC_neg (f y) (f z)
    have k3 := ordC_neg (f x) (f z)
    have := ordC_le (a := f z) (b := f y) (c := f x) (by omega) (by omega)
    omega
/-- Weakly and strictly in order. -/
def Wk (l : List LnV) : Prop := l.Pairwise fun a b => ordC a b ≤ 0
def Stt (l : List LnV) : Prop := l.Pairwise fun a b => ordC a b < 0
theorem st_wk {l : List LnV} (h : Stt l) : Wk l := h.imp fun h => by omega
/-- One row that is strictly in order, and one weakly so, of the same lines: one and the same. -/
theorem st_uniq : ∀ {l l' : List LnV}, Stt l → Wk l' → l.Perm l' → l = l'
  | [], l', _, _, p => (List.nil_perm.1 p).symm
  | x :: r, [], _, _, p => by have := p.length_eq; simp at this
  | x :: r, y :: q, h, h', p => by
    unfold Stt at h
    unfold Wk at h'
    rw [List.pairwise_cons] at h h'
    have e : x = y := by
      rcases List.mem_cons.1 (p.mem_iff.1 (List.mem_cons_self (a := x) (l := r))) with e | e
      · exact e
      · rcases List.mem_cons.1 (p.mem_iff.2 (List.mem_cons_self (a := y) (l := q))) with e2 | e2
        · exact e2.symm
        · have k1 := h.1 y e2
          have k2 := h'.1 x e
          have := ordC_neg x y
          omega
    subst e
    rw [st_uniq h.2 h'.2 (List.Perm.cons_inv p)]
/-- May one stand right behind the other, as the document asks it and as the program does. -/
def nxR (p t : LnV) : Bool := aheadL p t && !(decide (p.lvl = t.lvl ∧ 0 < t.lvl) && decide (0 ≤ cmp p.most t.least))
def nxP (p t : LnV) : Bool := if p.lvl < t.lvl then true else if t.lvl < p.lvl then false else if t.lvl = 0 then decide (t.num < p.num) else decide (0 < cmp t.least p.most)
def chn (f : LnV → LnV → Bool) : List LnV → Bool
  | [] => true
  | [_] => true
  | a :: b :: r => f a b && chn f (b :: r)
theorem nx_eq {p t : LnV} (hp : mayLn p = true) (ht : mayLn t = true) : nxP p t = nxR p t := by
  have h1 := mayLn_ok hp
  have h2 := mayLn_ok ht
  unfold nxP nxR aheadL ordC
  by_cases q : p.lvl = t.lvl
  · rw [if_neg (show ¬ p.lvl < t.lvl by omega), if_neg (show ¬ t.lvl < p.lvl by omega), if_neg (show ¬ p.lvl ≠ t.lvl from fun h => h q)]
    by_cases q0 : t.lvl = 0
    · rw [if_pos q0, if_pos (show p.lvl = 0 by omega), show decide (p.lvl = t.lvl ∧ 0 < t.lvl) = false from decide_eq_false (by omega)]
      simp only [Bool.false_and, Bool.not_false, Bool.and_true, decide_eq_decide]
      unfold cmI; split <;> first | omega | (split <;> omega)
    · rw [if_neg q0, if_neg (show ¬ p.lvl = 0 by omega), show decide (p.lvl = t.lvl ∧ 0 < t.lvl) = true from decide_eq_true (by omega)]
      simp only [Bool.true_and]
      have e := cmp_neg p.most t.least
      by_cases z : 0 < cmp t.least p.most
      · have k : cmp p.least t.least < 0 := cmp_le_trans h1.2.2.2.2.2 (by omega)
        rw [decide_eq_true z, decide_eq_true k, decide_eq_false (by omega)]; rfl
      · rw [decide_eq_false z, decide_eq_true (show 0 ≤ cmp p.most t.least by omega)]; simp
  · rw [if_pos (show p.lvl ≠ t.lvl from q), show decide (p.lvl = t.lvl ∧ 0 < t.lvl) = false from decide_eq_false (by omega)]
    simp only [Bool.false_and, Bool.not_false, Bool.and_true]
    unfold cmI
    by_cases z : p.lvl < t.lvl
    · rw [if_pos z, if_pos z]; decide
    · rw [if_neg z, if_pos (show t.lvl < p.lvl by omega), if_neg z, if_pos (show t.lvl < p.lvl by omega)]; decide
theorem chn_eq : ∀ {l : List LnV}, (∀ t ∈ l, mayLn t = true) → chn nxP l = chn nxR l
  | [], _ => rfl
  | [_], _ => rfl
  | a :: b :: r, h => by
    rw [chn, chn, nx_eq (h a (by simp)) (h b (by simp)), chn_eq fun t ht => h t (List.mem_cons_of_mem _ ht)]
/-- May a version be? -/
def bel (l : List LnV) (next : Int) : Bool := l.all fun t => decide (t.num < next)
def mayVr (v : VrV) : Bool := (mayMk v.log && (mayMk v.next && mayMk v.seq)) && (mayAd v.tabs && (bel v.tabs v.next && chn nxR v.tabs))
theorem mayVr_p (v : VrV) : (mayEd ⟨v.log, v.next, v.seq, v.tabs, []⟩ && bel v.tabs v.next && chn nxP v.tabs) = mayVr v := by
  unfold mayEd mayVr
  have e : mayRm [] = true := by decide
  simp only [e, Bool.and_true]
  cases h : mayAd v.tabs with
  | false => simp
  | true =>
    rw [chn_eq (mayAd_ok h).2.1]
    simp only [Bool.true_and, Bool.and_true, Bool.and_assoc]
theorem mayVr_ok {v : VrV} (h : mayVr v = true) : ((0 ≤ v.log ∧ v.log ≤ 4611686018427387904) ∧ (0 ≤ v.next ∧ v.next ≤ 4611686018427387904) ∧ (0 ≤ v.seq ∧ v.seq ≤ 4611686018427387904)) ∧ mayAd v.tabs = true ∧ (∀ t ∈ v.tabs, t.num < v.next) ∧ chn nxR v.tabs = true := by
  unfold mayVr bel at h
  simp only [Bool.and_eq_true, List.all_eq_true, decide_eq_true_eq] at h
  exact ⟨⟨mayMk_ok h.1.1, mayMk_ok h.1.2.1, mayMk_ok h.1.2.2⟩, h.2.1, h.2.2.1, h.2.2.2⟩
theorem nxR_lt {p t : LnV} (h : nxR p t = true) : ordC p t < 0 := by
  unfold nxR aheadL at h
  simp only [Bool.and_eq_true, decide_eq_true_eq] at h
  exact h.1
theorem chn_st : ∀ {l : List LnV}, chn nxR l = true → Stt l
  | [], _ => List.Pairwise.nil
  | [x], _ => by simp [Stt]
  | a :: b :: r, h => by
    rw [chn, Bool.and_eq_true] at h
    have ih := chn_st h.2
    unfold Stt at ih ⊢
    rw [List.pairwise_cons]
    refine ⟨fun c hc => ?_, ih⟩
    have h1 := nxR_lt h.1
    rcases List.mem_cons.1 hc with rfl | hc
    · exact h1
    · have := of_decide_eq_true ((ordC_swo (id : LnV → LnV)).trans a b c (decide_eq_true h1) (decide_eq_true ((List.pairwise_cons.1 ih).1 c hc)))
      exact this
theorem mayVr_st {v : VrV} (h : mayVr v = true) : Stt v.tabs := chn_st (mayVr_ok h).2.2.2
/-- Of two rows of the same lines, each weakly in order: both may be, and are one, or neither may. -/
theorem mayVr_same {log next seq : Int} {l l' : List LnV} (h : Wk l) (h' : Wk l') (p : l.Perm l') : mayVr ⟨log, next, seq, l⟩ = mayVr ⟨log, next, seq, l'⟩ ∧ (mayVr ⟨log, next, seq, l⟩ = true → l = l') := by
  have k : mayVr ⟨log, next, seq, l⟩ = true → l = l' := fun q => st_uniq (mayVr_st q) h' p
  have k' : mayVr ⟨log, next, seq, l'⟩ = true → l' = l := fun q => st_uniq (mayVr_st q) h p.symm
  refine ⟨?_, k⟩
  cases q : mayVr ⟨log, next, seq, l⟩ with
  | true => rw [← k q, q]
  | false =>
    cases q' : mayVr ⟨log, next, seq, l'⟩ with
    | false => rfl
    | true => rw [k' q', q] at q'; exact q'
end Go.Proofs.Ytjgfklbhagcbaab
