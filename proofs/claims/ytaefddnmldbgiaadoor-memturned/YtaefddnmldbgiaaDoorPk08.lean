import Derived.Test.YtaefddnmldbgiaaDoorPk06
import Derived.Test.YtaefddnmldbgiaaDoorPk07
/- Entries in order, on lists: what a mem tells. -/
namespace Go.Proofs.YtaefddnmldbgiaaDoor
set_option linter.unusedVariables false
set_option linter.unusedSimpArgs false

open Go.RowKit in
theorem hid {p : Prop} (h : p) : Hid p := h
/-- May an entry be? -/
def mayE (e : EntV) : Bool := decide (1 ≤ e.key.length ∧ e.key.length ≤ 512 ∧ 1 ≤ e.seq ∧ e.seq ≤ 4611686018427387904 ∧ 0 ≤ e.till ∧ e.till ≤ 4611686018427387904 ∧ e.val.length ≤ 2048 ∧ (e.gone = true → e.till = 0 ∧ e.val.length = 0))
def wtE (e : EntV) : Nat := e.key.length + e.val.length + 16
def wts : List EntV → Nat
  | [] => 0
  | e :: r => wtE e + wts r
theorem wts_app : ∀ a b : List EntV, wts (a ++ b) = wts a + wts b
  | [], b => by simp [wts]
  | e :: r, b => by rw [List.cons_append, wts, wts, wts_app r b, Nat.add_assoc]
/-- By key, newer first. -/
def ahead (a b : EntV) : Int := if cmp a.key b.key ≠ 0 then cmp a.key b.key else if b.seq < a.seq then -1 else if a.seq < b.seq then 1 else 0
theorem cmp_refl (a : List Int) : cmp a a = 0 := cmp_zero.2 rfl
theorem cmp_lt_iff : ∀ a b : List Int, cmp a b < 0 ↔ cmp a b = -1 := fun a b => by
  have := cmp_vals a b
  omega
theorem cmp_trans : ∀ {a b c : List Int}, cmp a b < 0 → cmp b c < 0 → cmp a c < 0
  | [], [], _, h, _ => by simp [cmp] at h
  | [], y :: b, [], _, h => by
    have := cmp_nil (y :: b)
    omega
  | [], y :: b, z :: c, _, _ => by simp [cmp]
  | x :: a, [], _, h, _ => by
    have := cmp_nil (x :: a)
    omega
  | x :: a, y :: b, [], _, h => by
    have := cmp_nil (y :: b)
    omega
  | x :: a, y :: b, z :: c, h1, h2 => by
    rcases Int.lt_trichotomy x y with p | p | p
    · rcases Int.lt_trichotomy y z with q | q | q
      · rw [cmp_less (by omega)]; omega
      · subst q; rw [cmp_less p]; omega
      · rw [cmp_more q] at h2; omega
    · subst p
      rw [cmp_same] at h1
      rcases Int.lt_trichotomy x z with q | q | q
      · rw [cmp_less q]; omega
      · subst q
        rw [cmp_same] at h2 ⊢
        exact cmp_trans h1 h2
      · rw [cmp_more q] at h2; omega
    · rw [cmp_more p] at h1; omega
theorem ahead_vals (a b : EntV) : ahead a b = -1 ∨ ahead a b = 0 ∨ ahead a b = 1 := by
  have := cmp_vals a.key b.key
  unfold ahead
  split
  · exact this
  · split
    · exact .inl rfl
    · split
      · exact .inr (.inr rfl)
      · exact .inr (.inl rfl)
theorem ahead_zero {a b : EntV} : ahead a b = 0 ↔ a.key = b.key ∧ a.seq = b.seq := by
  unfold ahead
  by_cases q : cmp a.key b.key = 0
  · have e := cmp_zero.1 q
    rw [if_neg (by omega)]
    constructor
    · intro h
      refine ⟨e, ?_⟩
      by_cases p : b.seq < a.seq
      · rw [if_pos p] at h; omega
      · rw [if_neg p] at h
        by_cases r : a.seq < b.seq
        · rw [if_pos r] at h; omega
        · omega
    · rintro ⟨_, h⟩
      rw [if_neg (by omega), if_neg (by omega)]
  · rw [if_pos q]
    exact ⟨fun h => absurd h q, fun h => absurd (cmp_zero.2 h.1) q⟩
theorem ahead_neg (a b : EntV) : ahead b a = - ahead a b := by
  have h := cmp_neg a.key b.key
  unfold ahead
  by_cases q : cmp a.key b.key = 0
  · have q' : cmp b.key a.key = 0 := by omega
    simp only [ne_eq, q, q', not_true_eq_false, if_false]
    repeat' split
    all_goals omega
  · rw [if_pos q, if_pos (by omega)]
    exact h
theorem ahead_trans {a b c : EntV} (h1 : ahead a b < 0) (h2 : ahead b c < 0) : ahead a c < 0 := by
  unfold ahead at h1 h2 ⊢
  by_cases p : cmp a.key b.key = 0
  · have e := cmp_zero.1 p
    rw [if_neg (by omega)] at h1
    by_cases q : cmp b.key c.key = 0
    · rw [if_neg (by omega)] at h2
      rw [e, if_neg (by omega)]
      by_cases s1 : b.seq < a.seq
      · by_cases s2 : c.seq < b.seq
        · rw [if_pos (by omega)]; omega
        · rw [if_neg s2] at h2
          split at h2 <;> omega
      · rw [if_neg s1] at h1
        split at h1 <;> omega
    · rw [if_pos (by omega)] at h2
      rw [e, if_pos q]
      exact h2
  · rw [if_pos p] at h1
    by_cases q : cmp b.key c.key = 0
    · have e := cmp_zero.1 q
      rw [← e, if_pos p]
      exact h1
    · rw [if_pos q] at h2
      have := cmp_trans h1 h2
      rw [if_pos (by omega)]
      exact this
/-- In order, none twice. -/
def ordE (l : List EntV) : Prop := l.Pairwise fun a b => ahead a b < 0
/-- How many stand ahead of an entry. -/
def atE (l : List EntV) (e : EntV) : Nat := (l.takeWhile fun x => ahead x e < 0).length
def hasE (l : List EntV) (e : EntV) : Bool := l.any fun x => ahead x e = 0
def putE (l : List EntV) (e : EntV) : List EntV := l.take (atE l e) ++ e :: l.drop (atE l e)
/-- What Add answers, and what is there then. -/
def addE (l : List EntV) (e : EntV) : Nat × List EntV := if mayE e = false then (1, l) else if hasE l e = true then (6, l) else (0, putE l e)
theorem atE_nil (e : EntV) : atE [] e = 0 := rfl
theorem atE_cons_lt {x : EntV} {r : List EntV} {e : EntV} (h : ahead x e < 0) : atE (x :: r) e = atE r e + 1 := by simp [atE, h]
theorem atE_cons_ge {x : EntV} {r : List EntV} {e : EntV} (h : ¬ ahead x e < 0) : atE (x :: r) e = 0 := by simp [atE, h]
theorem atE_le (l : List EntV) (e : EntV) : atE l e ≤ l.length := by
  induction l with
  | nil => exact Nat.le_refl _
  | cons x r ih =>
    by_cases q : ahead x e < 0
    · rw [atE_cons_lt q, List.length_cons]; omega
    · rw [atE_cons_ge q]; omega
theorem atE_at {l : List EntV} {e : EntV} (h : atE l e < l.length) : ¬ ahead l[atE l e] e < 0 := by
  induction l with
  | nil => cases h
  | cons x r ih =>
    by_cases q : ahead x e < 0
    · have h' : atE r e < r.length := by rw [atE_cons_lt q, List.length_cons] at h; omega
      simp only [atE_cons_lt q, List.getElem_cons_succ]
      exact ih h'
    · simp only [atE_cons_ge q, List.getElem_cons_zero]
      exact q
theorem atE_before {l : List EntV} {e : EntV} {k : Nat} (h : k < atE l e) (hk : k < l.length) : ahead l[k] e < 0 := by
  induction l generalizing k with
  | nil => cases hk
  | cons x r ih =>
    by_cases q : ahead x e < 0
    · rw [atE_cons_lt q] at h
      cases k with
      | zero => simpa using q
      | succ k =>
        rw [List.getElem_cons_succ]
        exact ih (by omega) (by simp at hk; omega)
    · rw [atE_cons_ge q] at h
      cases h
theorem putE_nil (e : EntV) : putE [] e = [e] := rfl
theorem putE_lt {x : EntV} {r : List EntV} {e : EntV} (h : ahead x e < 0) : putE (x :: r) e = x :: putE r e := by simp [putE, atE_cons_lt h]
theorem putE_ge {x : EntV} {r : List EntV} {e : EntV} (h : ¬ ahead x e < 0) : putE (x :: r) e = e :: x :: r := by simp [putE, atE_cons_ge h]
theorem putE_len (l : List EntV) (e : EntV) : (putE l e).length = l.length + 1 := by
  have := atE_le l e
  simp [putE]
  omega
theorem putE_perm (l : List EntV) (e : EntV) : (putE l e).Perm (e :: l) := by
  unfold putE
  refine List.perm_middle.trans ?_
  rw [List.take_append_drop]
/-- In an ordered row one that is like an entry stands where the entry would. -/
theorem hasE_at {l : List EntV} (ho : ordE l) (e : EntV) : hasE l e = true ↔ ∃ h : atE l e < l.length, ahead l[atE l e] e = 0 := by
  constructor
  · intro h
    obtain ⟨x, hx, hz⟩ := List.any_eq_true.1 h
    have hz : ahead x e = 0 := by simpa using hz
    obtain ⟨i, hi, rfl⟩ := List.getElem_of_mem hx
    have h1 : atE l e ≤ i := by
      rcases Nat.lt_or_ge i (atE l e) with q | q
      · have := atE_before q hi
        omega
      · exact q
    have h2 : atE l e < l.length := by omega
    refine ⟨h2, ?_⟩
    rcases Nat.lt_or_ge (atE l e) i with q | q
    · have h3 := List.pairwise_iff_getElem.1 ho _ _ h2 hi q
      have h4 := atE_at h2
      have h5 := ahead_zero.1 hz
      exfalso
      apply h4
      have : ahead l[atE l e] l[i] = ahead l[atE l e] e := by unfold ahead; rw [h5.1, h5.2]
      omega
    · have e' : atE l e = i := by omega
      simp only [e']
      exact hz
  · rintro ⟨h, hz⟩
    exact List.any_eq_true.2 ⟨_, List.getElem_mem h, by simpa using hz⟩
theorem putE_ord {l : List EntV} {e : EntV} (ho : ordE l) (hh : hasE l e = false) : ordE (putE l e) := by
  unfold ordE putE
  have hn : ∀ x ∈ l, ahead x e ≠ 0 := fun x hx hz => by
    have : hasE l e = true := List.any_eq_true.2 ⟨x, hx, by simpa using hz⟩
    rw [hh] at this
    cases this
  have hsplit : l.take (atE l e) ++ l.drop (atE l e) = l := List.take_append_drop _ _
  have ho' : (l.take (atE l e) ++ l.drop (atE l e)).Pairwise fun a b => ahead a b < 0 := by rw [hsplit]; exact ho
  obtain ⟨h1, h2, h3⟩ := List.pairwise_append.1 ho'
  have hbe : ∀ a ∈ l.take (atE l e), ahead a e < 0 := fun a ha => by
    obtain ⟨i, hi, rfl⟩ := List.getElem_of_mem ha
    rw [List.length_take] at hi
    rw [List.getElem_take]
    exact atE_before (by omega) (by omega)
  have haf : ∀ b ∈ l.drop (atE l e), ahead e b < 0 := fun b hb => by
    obtain ⟨i, hi, rfl⟩ := List.getElem_of_mem hb
    rw [List.length_drop] at hi
    rw [List.getElem_drop]
    have hat : atE l e < l.length := by omega
    have h0 : ahead e l[atE l e] < 0 := by
      have a1 := atE_at hat
      have a2 := hn _ (List.getElem_mem hat)
      have a3 := ahead_neg l[atE l e] e
      omega
    rcases Nat.eq_zero_or_pos i with q | q
    · subst q
      simpa using h0
    · exact ahead_trans h0 (List.pairwise_iff_getElem.1 ho _ _ hat (by omega) (by omega))
  refine List.pairwise_append.2 ⟨h1, List.pairwise_cons.2 ⟨haf, h2⟩, fun a ha b hb => ?_⟩
  rcases List.mem_cons.1 hb with q | q
  · subst q; exact hbe a ha
  · exact h3 a ha b q
theorem addE_ord {l : List EntV} (ho : ordE l) (e : EntV) : ordE (addE l e).2 := by
  unfold addE
  split
  · exact ho
  · split
    · exact ho
    · rename_i h
      exact putE_ord ho (by simpa using h)
/-- All that a mem holds may be. -/
def okE (l : List EntV) : Prop := ∀ e ∈ l, mayE e = true
theorem addE_ok {l : List EntV} (h : okE l) (e : EntV) : okE (addE l e).2 := by
  unfold addE
  split
  · exact h
  · split
    · exact h
    · rename_i h1 h2
      intro x hx
      rcases List.mem_cons.1 ((putE_perm l e).mem_iff.1 hx) with q | q
      · subst q; simpa using h1
      · exact h x q
theorem addE_len (l : List EntV) (e : EntV) : (addE l e).2.length ≤ l.length + 1 := by
  unfold addE
  split
  · simp
  · split
    · simp
    · simp [putE_len]
/-- The entry of a key with the greatest number of at most seq. -/
def getE (l : List EntV) (key : List Int) (seq : Int) : Option EntV := l.find? fun e => decide (cmp e.key key = 0 ∧ e.seq ≤ seq)
def inE (fr ub : List Int) (e : EntV) : Bool := decide (0 ≤ cmp e.key fr ∧ (ub.length = 0 ∨ cmp e.key ub < 0))
def listE (l : List EntV) (fr ub : List Int) : List EntV := l.filter (inE fr ub)
/-- One more, if it is not newer than seq and the first of its key. -/
def seen1 (s : Int) (out : List EntV) (e : EntV) : List EntV := if e.seq ≤ s ∧ (out = [] ∨ ∃ x, out.getLast? = some x ∧ cmp x.key e.key ≠ 0) then out ++ [e] else out
def seenE (l : List EntV) (s : Int) : List EntV := l.foldl (seen1 s) []
def latestE (l : List EntV) (fr ub : List Int) (s : Int) : List EntV := (seenE (listE l fr ub) s).filter fun e => !e.gone
theorem listE_take {l : List EntV} {fr ub : List Int} {k : Nat} (h : k < l.length) : listE (l.take (k + 1)) fr ub = listE (l.take k) fr ub ++ (if inE fr ub l[k] then [l[k]] else []) := by
  unfold listE
  rw [List.take_add_one, List.getElem?_eq_getElem h, List.filter_append]
  simp only [Option.toList]
  congr 1
  by_cases q : inE fr ub l[k] = true
  · rw [if_pos q]; simp [q]
  · rw [if_neg q]; simp [q]
theorem seenE_take {l : List EntV} {s : Int} {k : Nat} (h : k < l.length) : seenE (l.take (k + 1)) s = seen1 s (seenE (l.take k) s) l[k] := by
  unfold seenE
  rw [List.take_add_one, List.getElem?_eq_getElem h, List.foldl_append]
  rfl
theorem seen1_len (s : Int) (out : List EntV) (e : EntV) : (seen1 s out e).length ≤ out.length + 1 := by
  unfold seen1
  split <;> simp
theorem seenE_len (l : List EntV) (s : Int) : (seenE l s).length ≤ l.length := by
  have : ∀ (l out : List EntV), (l.foldl (seen1 s) out).length ≤ out.length + l.length := fun l => by
    induction l with
    | nil => intro out; simp
    | cons x r ih =>
      intro out
      have h1 := ih (seen1 s out x)
      have h2 := seen1_len s out x
      rw [List.foldl_cons, List.length_cons]
      omega
  have := this l []
  simpa [seenE] using this
theorem listE_len (l : List EntV) (fr ub : List Int) : (listE l fr ub).length ≤ l.length := List.length_filter_le _ _
theorem latestE_len (l : List EntV) (fr ub : List Int) (s : Int) : (latestE l fr ub s).length ≤ l.length :=
  Nat.le_trans (List.length_filter_le _ _) (Nat.le_trans (seenE_len _ _) (listE_len _ _ _))
theorem listE_all (l : List EntV) : listE l [] [] = l := by
  unfold listE
  refine List.filter_eq_self.2 fun e _ => ?_
  unfold inE
  have := cmp_nil e.key
  simp [this]
theorem getE_take {l : List EntV} {key : List Int} {seq : Int} {k : Nat} (h : getE (l.take k) key seq = none) (hk : k < l.length) : getE (l.take (k + 1)) key seq = if cmp l[k].key key = 0 ∧ l[k].seq ≤ seq then some l[k] else none := by
  unfold getE at h ⊢
  rw [List.take_add_one, List.getElem?_eq_getElem hk, List.find?_append, h]
  simp only [Option.toList, Option.none_or, List.find?_cons, List.find?_nil]
  by_cases q : cmp l[k].key key = 0 ∧ l[k].seq ≤ seq
  · rw [if_pos q]; simp [q]
  · rw [if_neg q]
    have : decide (cmp l[k].key key = 0 ∧ l[k].seq ≤ seq) = false := by simpa using q
    rw [this]
theorem getE_some {l : List EntV} {key : List Int} {seq : Int} {k : Nat} (h : getE (l.take k) key seq = none) (hk : k < l.length) (h1 : cmp l[k].key key = 0) (h2 : l[k].seq ≤ seq) : getE l key seq = some l[k] := by
  have e := getE_take h hk
  rw [if_pos ⟨h1, h2⟩] at e
  unfold getE at e ⊢
  conv => lhs; rw [← List.take_append_drop (k + 1) l]
  rw [List.find?_append, e]
  rfl
end Go.Proofs.YtaefddnmldbgiaaDoor

/- Rows of structs that lean on some blocks alone; pieces of them. -/
namespace Go.Proofs.YtaefddnmldbgiaaDoor
open Go.RowKit
set_option linter.unusedVariables false
set_option linter.unusedSimpArgs false

/-- A row that is read; its elements lean on blocks of G alone. -/
def RSG {α : Type} (E : El α) (G : Nat → Prop) (w : World) (ao : Option Addr) (len cap : Nat) (xs : List α) : Prop := ∃ us, RSu E w ao len cap us xs ∧ ∀ u ∈ us, ∀ b, Refs u b → G b
theorem RSG.rs {α : Type} {E : El α} {G : Nat → Prop} {w : World} {ao : Option Addr} {len cap : Nat} {xs : List α} (h : RSG E G w ao len cap xs) : RS E w ao len cap xs := by
  obtain ⟨us, h, _⟩ := h
  exact ⟨us, h⟩
theorem RSG.later {α : Type} {E : El α} {G : Nat → Prop} {w w' : World} {ao : Option Addr} {len cap : Nat} {xs : List α} (h : RSG E G w ao len cap xs) (hb : Below w.heap.size w w') : RSG E G w' ao len cap xs := by
  obtain ⟨us, h, hg⟩ := h
  exact ⟨us, h.later hb, hg⟩
theorem RSG.any {α : Type} {E : El α} {w : World} {ao : Option Addr} {len cap : Nat} {xs : List α} (h : RS E w ao len cap xs) : RSG E (fun b => b < w.heap.size) w ao len cap xs := by
  obtain ⟨us, h⟩ := h
  exact ⟨us, h, fun u hu b hr => h.2.2.2.2.1.lt u hu b hr⟩
theorem RowF.rsg {α : Type} {E : El α} {B : Nat} {F : Nat → Prop} {w : World} {v : Value} {xs : List α} (h : RowF E B F w v xs) : ∃ ao cap, v = .slice ao xs.length cap ∧ RSG E F w ao xs.length cap xs := by
  obtain ⟨us, hown, h2, h3, h4⟩ := h
  have hcells : ∀ g, v.ownBlock = some g → _ := fun g hg => World.ownsRow.cells hown (g := g) hg
  rcases hown.2 with ⟨rfl, h0⟩ | ⟨g, cap, cur, rfl, hbg, hg, hnc, hcm, hcs, htake⟩
  · have hx : xs = [] := List.eq_nil_of_length_eq_zero h0
    subst hx
    have hu : us = [] := h2
    subst hu
    exact ⟨none, 0, rfl, [], ⟨rfl, fun _ => ⟨rfl, rfl⟩, Nat.le_refl _, Nat.zero_le _, rfl, fun j u hu => by simp at hu⟩, fun u hu => by cases hu⟩
  · refine ⟨some ⟨g, 0, none⟩, cap, rfl, us, ⟨rfl, (fun q => by cases q), hnc, hcm, h2, fun j u hu => ⟨g, 0, rfl, ?_⟩⟩, h4⟩
    have := hcells g rfl j u hu
    rw [Addr.add_lit] at this
    exact this
theorem Lay.split' {α : Type} {E : El α} {w : World} : ∀ {us : List Value} {xs ys : List α}, Lay E w us (xs ++ ys) → ∃ u1 u2, us = u1 ++ u2 ∧ Lay E w u1 xs ∧ Lay E w u2 ys
  | us, [], ys, h => ⟨[], us, rfl, rfl, h⟩
  | us, x :: xs, ys, h => by
    obtain ⟨vs, us', rfl, h1, h2⟩ := h
    obtain ⟨u1, u2, rfl, g1, g2⟩ := Lay.split' h2
    exact ⟨vs ++ u1, u2, by rw [List.append_assoc], ⟨vs, u1, rfl, h1, g1⟩, g2⟩
/-- A piece of a row that is read. -/
theorem RSG.cut {α : Type} {E : El α} {G : Nat → Prop} {w : World} {ao : Option Addr} {len cap : Nat} {xs : List α} (h : RSG E G w ao len cap xs) (hp : 0 < E.size) (i j : Nat) (h1 : i ≤ j) (h2 : j ≤ len) :
    RSG E G w (if cap - i = 0 then ao else ao.map (fun a => a.add (i * E.size))) (j - i) (cap - i) ((xs.drop i).take (j - i)) := by
  obtain ⟨us, ⟨e1, e2, e3, e4, e5, e6⟩, hg⟩ := h
  have hus : us = (us.take (i * E.size)) ++ ((us.drop (i * E.size)).take ((j - i) * E.size) ++ (us.drop (i * E.size)).drop ((j - i) * E.size)) := by rw [List.take_append_drop, List.take_append_drop]
  have hxs : xs = xs.take i ++ ((xs.drop i).take (j - i) ++ (xs.drop i).drop (j - i)) := by rw [List.take_append_drop, List.take_append_drop]
  have hl := e5
  rw [hxs] at hl
  obtain ⟨u1, u2, q1, l1, l2⟩ := Lay.split' hl
  obtain ⟨u3, u4, q2, l3, l4⟩ := Lay.split' l2
  have n1 := l1.len
  have n3 := l3.len
  have x1 : (xs.take i).length = i := by rw [List.length_take]; omega
  have x3 : ((xs.drop i).take (j - i)).length = j - i := by rw [List.length_take, List.length_drop]; omega
  rw [x1] at n1
  rw [x3] at n3
  refine ⟨u3, ⟨x3, fun hn => ?_, by omega, by omega, l3, fun k u hk => ?_⟩, fun u hu b hr => hg u (by rw [q1, q2]; exact List.mem_append.2 (.inr (List.mem_append.2 (.inl hu)))) b hr⟩
  · by_cases q : cap - i = 0
    · rw [if_pos q] at hn
      have := e2 hn
      omega
    · rw [if_neg q] at hn
      have := e2 (by simpa using hn)
      omega
  · have hkl : k < u3.length := (List.getElem?_eq_some_iff.1 hk).1
    have hku : us[i * E.size + k]? = some u := by
      rw [q1, q2, List.getElem?_append_right (by omega), n1, Nat.add_sub_cancel_left, List.getElem?_append_left hkl]
      exact hk
    obtain ⟨b, off, rfl, hc⟩ := e6 _ _ hku
    have hji : 0 < j - i := by
      rcases Nat.eq_zero_or_pos (j - i) with q | q
      · rw [q, Nat.zero_mul] at n3
        omega
      · exact q
    refine ⟨b, off + i * E.size, ?_, by rw [Nat.add_assoc]; exact hc⟩
    rw [if_neg (by omega)]
    show some ((⟨b, off, none⟩ : Addr).add (i * E.size)) = _
    rw [Addr.add_lit]
end Go.Proofs.YtaefddnmldbgiaaDoor

/- What is asked of a program's mem: how it lies in memory is its own. -/
namespace Go.Proofs.YtaefddnmldbgiaaDoor
open Go.RowKit
set_option linter.unusedVariables false
set_option linter.unusedSimpArgs false

/-- All that is not of F stands. -/
structure Kept (F : Nat → Prop) (w w' : World) : Prop where
  os : w'.os = w.os
  tape : w'.tape = w.tape
  output : w'.output = w.output
  size : w.heap.size ≤ w'.heap.size
  block : ∀ k, k < w.heap.size → ¬ F k → w'.heap[k]? = w.heap[k]?
theorem Kept.below {F : Nat → Prop} {w w' : World} {B : Nat} (h : Kept F w w') (hB : B ≤ w.heap.size) (hF : ∀ k, F k → B ≤ k) : Below B w w' :=
  ⟨h.os, h.tape, h.output, h.size, fun k hk => h.block k (by omega) (fun q => by have := hF k q; omega)⟩
theorem Kept.refl (F : Nat → Prop) (w : World) : Kept F w w := ⟨rfl, rfl, rfl, Nat.le_refl _, fun _ _ _ => rfl⟩
/-- An entry as a value. -/
def entA (ka : Option Addr) (kc : Nat) (va : Option Addr) (vc : Nat) (e : EntV) : Value := .agg #[.slice ka e.key.length kc, .int .i64 e.seq, .bool e.gone, .int .i64 e.till, .slice va e.val.length vc]
def entL (ka : Option Addr) (kc : Nat) (va : Option Addr) (vc : Nat) (e : EntV) : List Value := [.slice ka e.key.length kc, .int .i64 e.seq, .bool e.gone, .int .i64 e.till, .slice va e.val.length vc]
/-- No entry. -/
def ent0 : Value := .agg #[.slice none 0 0, .int .i64 0, .bool false, .int .i64 0, .slice none 0 0]
/-- What a call that tells an entry tells: memory of the caller's own. -/
def GotE (B : Nat) (g : Option EntV) (r : Ending) (w' : World) : Prop :=
  (g = none ∧ r = .returned (.tuple #[ent0, .bool false])) ∨ ∃ x ka kc va vc, g = some x ∧ r = .returned (.tuple #[entA ka kc va vc x, .bool true]) ∧ EntM w' (entL ka kc va vc x) x ∧ ∀ u ∈ entL ka kc va vc x, ∀ b, Refs u b → B ≤ b
/-- The mem's pointer. -/
def pm (p : Nat) : Value := .pointer (some ⟨p, 0, none⟩)
/-- -/
structure PM where
  R : World → Nat → List EntV → (Nat → Prop) → Prop
  G : World → Prop
  N : Nat
  gk : ∀ {w w'}, G w → Below w.heap.size w w' → G w'
  gn : ∀ {w}, G w → N ≤ w.heap.size
  rn : ∀ {w p l F}, R w p l F → N ≤ w.heap.size
  lt : ∀ {w p l F}, R w p l F → ∀ k, F k → k < w.heap.size
  same : ∀ {w w' p l F}, R w p l F → (∀ k, F k → w'.heap[k]? = w.heap[k]?) → (∀ k, k < N → w'.heap[k]? = w.heap[k]?) → R w' p l F
  new : ∀ {w : World}, G w → Calls Tryd.prog 24 #[] w fun e w' => ∃ p F, e = .returned (pm p) ∧ R w' p [] F ∧ (∀ k, F k → w.heap.size ≤ k) ∧ Below w.heap.size w w'
  may : ∀ {w ka kc va vc e}, EntM w (entL ka kc va vc e) e → Calls Tryd.prog 29 #[entA ka kc va vc e] w fun r w' => r = .returned (.bool (mayE e)) ∧ Below w.heap.size w w'
  add : ∀ {w p l F ka kc va vc e}, R w p l F → ordE l → okE l → l.length ≤ 100 → EntM w (entL ka kc va vc e) e → (∀ u ∈ entL ka kc va vc e, ∀ b, Refs u b → ¬ F b) → e.key.length ≤ 3000 → e.val.length ≤ 3000 → Calls Tryd.prog 23 #[pm p, entA ka kc va vc e] w fun r w' => r = .returned (.int .i64 ((addE l e).1 : Nat)) ∧ ∃ F', R w' p (addE l e).2 F' ∧ Kept F w w' ∧ ∀ k, F' k → F k ∨ w.heap.size ≤ k
  len : ∀ {w p l F}, R w p l F → ordE l → okE l → l.length ≤ 100 → Calls Tryd.prog 11 #[pm p] w fun r w' => r = .returned (.int .i64 (l.length : Nat)) ∧ Below w.heap.size w w'
  weight : ∀ {w p l F}, R w p l F → ordE l → okE l → l.length ≤ 100 → Calls Tryd.prog 12 #[pm p] w fun r w' => r = .returned (.int .i64 (wts l : Nat)) ∧ Below w.heap.size w w'
  get : ∀ {w p l F ka kl kc key s}, R w p l F → ordE l → okE l → l.length ≤ 100 → Sl w ka kl kc key → In64 s → Calls Tryd.prog 16 #[pm p, .slice ka kl kc, .int .i64 s] w fun r w' => GotE w.heap.size (getE l key s) r w' ∧ Below w.heap.size w w'
  latest : ∀ {w p l F fa fl fc fr ta tl tc ub s}, R w p l F → ordE l → okE l → l.length ≤ 100 → Sl w fa fl fc fr → Sl w ta tl tc ub → In64 s → Calls Tryd.prog 21 #[pm p, .slice fa fl fc, .slice ta tl tc, .int .i64 s] w fun r w' => ∃ v, r = .returned v ∧ RowF entE w.heap.size (fun b => w.heap.size ≤ b) w' v (latestE l fr ub s) ∧ Below w.heap.size w w'
/-- What List and All tell. -/
structure PML (D : PM) : Prop where
  list : ∀ {w p l F fa fl fc fr ta tl tc ub}, D.R w p l F → ordE l → okE l → l.length ≤ 100 → Sl w fa fl fc fr → Sl w ta tl tc ub → Calls Tryd.prog 19 #[pm p, .slice fa fl fc, .slice ta tl tc] w fun r w' => ∃ v, r = .returned v ∧ RowF entE w.heap.size (fun b => w.heap.size ≤ b) w' v (listE l fr ub) ∧ Below w.heap.size w w'
  all : ∀ {w p l F}, D.R w p l F → ordE l → okE l → l.length ≤ 100 → Calls Tryd.prog 14 #[pm p] w fun r w' => ∃ v, r = .returned v ∧ RowF entE w.heap.size (fun b => w.heap.size ≤ b) w' v l ∧ Below w.heap.size w w'
theorem PM.later {D : PM} {w w' : World} {p : Nat} {l : List EntV} {F : Nat → Prop} (h : D.R w p l F) (hb : Below w.heap.size w w') : D.R w' p l F := D.same h (fun k hk => hb.block k (D.lt h k hk)) (fun k hk => hb.block k (by have := D.rn h; omega))
end Go.Proofs.YtaefddnmldbgiaaDoor
