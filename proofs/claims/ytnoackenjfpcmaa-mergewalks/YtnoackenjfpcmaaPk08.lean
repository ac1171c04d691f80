import Derived.Test.YtnoackenjfpcmaaPk07
/- What follows of entries in order: cuts, what is got, in which order they come. -/
namespace Go.Proofs.Ytnoackenjfpcmaa
set_option linter.unusedVariables false
set_option linter.unusedSimpArgs false

theorem ahead_key {a b : EntV} (h : ahead a b < 0) : cmp a.key b.key ≤ 0 := by
  unfold ahead at h
  by_cases q : cmp a.key b.key = 0
  · omega
  · rw [if_pos q] at h; omega
theorem cmp_le_trans {a b c : List Int} (h1 : cmp a b ≤ 0) (h2 : cmp b c < 0) : cmp a c < 0 := by
  by_cases q : cmp a b = 0
  · rw [cmp_zero.1 q]; exact h2
  · exact cmp_trans (by omega) h2
theorem inE_ahead {key : List Int} (hk : key.length ≠ 0) (e : EntV) : inE [] key e = decide (cmp e.key key < 0) := by
  unfold inE
  have := cmp_nil e.key
  simp [this, hk]
theorem inE_behind (key : List Int) (e : EntV) : inE key [] e = decide (0 ≤ cmp e.key key) := by
  unfold inE
  simp
/-- What lies ahead of a key and what lies from it on are all. -/
theorem cut_all {key : List Int} (hk : key.length ≠ 0) : ∀ {L : List EntV}, ordE L → listE L [] key ++ listE L key [] = L
  | [], _ => rfl
  | x :: r, ho => by
    obtain ⟨h1, h2⟩ := List.pairwise_cons.1 ho
    by_cases q : cmp x.key key < 0
    · have ih := cut_all hk h2
      have e1 : listE (x :: r) [] key = x :: listE r [] key := by
        unfold listE
        rw [List.filter_cons_of_pos (by rw [inE_ahead hk]; simpa using q)]
      have e2 : listE (x :: r) key [] = listE r key [] := by
        unfold listE
        rw [List.filter_cons_of_neg (by rw [inE_behind]; simp; omega)]
      rw [e1, e2, List.cons_append, ih]
    · have hall : ∀ y ∈ x :: r, ¬ cmp y.key key < 0 := fun y hy hlt => by
        rcases List.mem_cons.1 hy with e | e
        · subst e; exact q hlt
        · exact q (cmp_le_trans (ahead_key (h1 y e)) hlt)
      have e1 : listE (x :: r) [] key = [] := by
        unfold listE
        refine List.filter_eq_nil_iff.2 fun y hy => ?_
        rw [inE_ahead hk]
        simpa using hall y hy
      have e2 : listE (x :: r) key [] = x :: r := by
        unfold listE
        refine List.filter_eq_self.2 fun y hy => ?_
        rw [inE_behind]
        have := hall y hy
        simp
        omega
      rw [e1, e2, List.nil_append]
/-- Get is the first of a key's that is not newer. -/
theorem get_behind (L : List EntV) (key : List Int) (s : Int) : getE (listE L key []) key s = getE L key s := by
  unfold getE listE
  rw [List.find?_filter]
  congr 1
  funext e
  rw [inE_behind]
  by_cases q : cmp e.key key = 0
  · simp [q]
  · simp [q]
/-- Each is got at its own number. -/
theorem get_own : ∀ {L : List EntV}, ordE L → ∀ {e : EntV}, e ∈ L → getE L e.key e.seq = some e
  | x :: r, ho, e, he => by
    obtain ⟨h1, h2⟩ := List.pairwise_cons.1 ho
    rcases List.mem_cons.1 he with q | q
    · subst q
      unfold getE
      rw [List.find?_cons_of_pos (by simp [cmp_refl])]
    · have hx := h1 e q
      have hn : ¬ (cmp x.key e.key = 0 ∧ x.seq ≤ e.seq) := fun ⟨p1, p2⟩ => by
        unfold ahead at hx
        rw [if_neg (by omega)] at hx
        rw [if_neg (by omega)] at hx
        split at hx <;> omega
      unfold getE
      rw [List.find?_cons_of_neg (by simpa using hn)]
      exact get_own h2 q
/-- Entries added one behind the other. -/
def addAll (xs : List EntV) (L : List EntV) : List EntV := xs.foldl (fun L e => (addE L e).2) L
theorem addAll_ord : ∀ (xs : List EntV) {L : List EntV}, ordE L → ordE (addAll xs L)
  | [], _, h => h
  | x :: r, L, h => addAll_ord r (addE_ord h x)
theorem addAll_ok : ∀ (xs : List EntV) {L : List EntV}, okE L → okE (addAll xs L)
  | [], _, h => h
  | x :: r, L, h => addAll_ok r (addE_ok h x)
theorem addAll_len : ∀ (xs L : List EntV), (addAll xs L).length ≤ L.length + xs.length
  | [], L => Nat.le_refl _
  | x :: r, L => by
    have h1 := addAll_len r (addE L x).2
    have h2 := addE_len L x
    show (addAll r (addE L x).2).length ≤ _
    rw [List.length_cons]
    omega
theorem addAll_app (xs ys L : List EntV) : addAll (xs ++ ys) L = addAll ys (addAll xs L) := List.foldl_append
/-- No two alike. -/
def unlike (xs : List EntV) : Prop := xs.Pairwise fun a b => ¬ (a.key = b.key ∧ a.seq = b.seq)
theorem addAll_perm : ∀ (xs L : List EntV), unlike xs → (∀ a ∈ L, ∀ b ∈ xs, ¬ (a.key = b.key ∧ a.seq = b.seq)) → (addAll xs L).Perm (xs.filter mayE ++ L)
  | [], L, _, _ => List.Perm.refl _
  | x :: r, L, hu, hd => by
    obtain ⟨h1, h2⟩ := List.pairwise_cons.1 hu
    show (addAll r (addE L x).2).Perm _
    cases hm : mayE x with
    | false =>
      rw [List.filter_cons_of_neg (by simp [hm])]
      have e : (addE L x).2 = L := by unfold addE; rw [if_pos hm]
      rw [e]
      exact addAll_perm r L h2 fun a ha b hb => hd a ha b (List.mem_cons_of_mem _ hb)
    | true =>
      rw [List.filter_cons_of_pos (by simp [hm])]
      have hh : hasE L x = false := by
        rw [Bool.eq_false_iff]
        intro hh
        obtain ⟨a, ha, hz⟩ := List.any_eq_true.1 hh
        exact hd a ha x (List.mem_cons_self ..) (ahead_zero.1 (by simpa using hz))
      have e : (addE L x).2 = putE L x := by unfold addE; rw [if_neg (by rw [hm]; decide), if_neg (by rw [hh]; decide)]
      rw [e]
      have ih := addAll_perm r (putE L x) h2 fun a ha b hb => by
        rcases List.mem_cons.1 ((putE_perm L x).mem_iff.1 ha) with q | q
        · subst q; exact h1 b hb
        · exact hd a q b (List.mem_cons_of_mem _ hb)
      refine ih.trans ?_
      refine ((List.Perm.refl _).append (putE_perm L x)).trans ?_
      exact List.perm_middle
/-- Rows in order that hold the same are the same. -/
theorem ord_eq : ∀ {a b : List EntV}, ordE a → ordE b → a.Perm b → a = b
  | [], b, _, _, hp => by rw [hp.nil_eq]
  | x :: r, [], _, _, hp => by
    have := hp.length_eq
    simp at this
  | x :: r, y :: q, ha, hb, hp => by
    obtain ⟨h1, h2⟩ := List.pairwise_cons.1 ha
    obtain ⟨g1, g2⟩ := List.pairwise_cons.1 hb
    have hxy : x = y := by
      rcases List.mem_cons.1 (hp.mem_iff.1 (List.mem_cons_self ..)) with e | e
      · exact e
      · rcases List.mem_cons.1 (hp.mem_iff.2 (List.mem_cons_self ..)) with e' | e'
        · exact e'.symm
        · have k1 := g1 x e
          have k2 := h1 y e'
          have k3 := ahead_neg x y
          omega
    subst hxy
    rw [ord_eq h2 g2 (List.perm_cons x |>.1 hp)]
/-- In which order they come makes no difference. -/
theorem addAll_turned {xs : List EntV} (hu : unlike xs) : addAll xs.reverse [] = addAll xs [] := by
  have ho : ordE ([] : List EntV) := List.Pairwise.nil
  have hr : unlike xs.reverse := by
    unfold unlike
    rw [List.pairwise_reverse]
    refine List.Pairwise.imp (fun h => ?_) hu
    rintro ⟨h1, h2⟩
    exact h ⟨h1.symm, h2.symm⟩
  have p1 := addAll_perm xs [] hu (fun a ha => by cases ha)
  have p2 := addAll_perm xs.reverse [] hr (fun a ha => by cases ha)
  refine ord_eq (addAll_ord _ ho) (addAll_ord _ ho) ?_
  refine p2.trans (List.Perm.trans ?_ p1.symm)
  exact ((List.reverse_perm xs).filter _).append (List.Perm.refl _)
end Go.Proofs.Ytnoackenjfpcmaa

/- Rows of entries as one, on lists: each with its row's number, in the one order that they can have. -/
namespace Go.Proofs.Ytnoackenjfpcmaa
set_option linter.unusedVariables false
set_option linter.unusedSimpArgs false

/-- Which of two entries of rows comes first: by the entries' order; of like ones that of the earlier row. -/
def tlt (x y : EntV × Nat) : Prop := ahead x.1 y.1 < 0 ∨ (ahead x.1 y.1 = 0 ∧ x.2 < y.2)
def tltB (x y : EntV × Nat) : Bool := decide (ahead x.1 y.1 < 0 ∨ (ahead x.1 y.1 = 0 ∧ x.2 < y.2))
theorem tltB_iff {x y : EntV × Nat} : tltB x y = true ↔ tlt x y := by unfold tltB tlt; rw [decide_eq_true_iff]
theorem ahead_eq_lt {a b c : EntV} (h1 : ahead a b = 0) (h2 : ahead b c < 0) : ahead a c < 0 := by
  obtain ⟨k1, k2⟩ := ahead_zero.1 h1
  unfold ahead at h2 ⊢
  rw [k1, k2]; exact h2
theorem ahead_lt_eq {a b c : EntV} (h1 : ahead a b < 0) (h2 : ahead b c = 0) : ahead a c < 0 := by
  obtain ⟨k1, k2⟩ := ahead_zero.1 h2
  unfold ahead at h1 ⊢
  rw [← k1, ← k2]; exact h1
theorem ahead_eq_eq {a b c : EntV} (h1 : ahead a b = 0) (h2 : ahead b c = 0) : ahead a c = 0 := by
  obtain ⟨k1, k2⟩ := ahead_zero.1 h1
  obtain ⟨k3, k4⟩ := ahead_zero.1 h2
  exact ahead_zero.2 ⟨k1.trans k3, k2.trans k4⟩
theorem tlt_trans {x y z : EntV × Nat} (h1 : tlt x y) (h2 : tlt y z) : tlt x z := by
  unfold tlt at *
  rcases h1 with h1 | ⟨h1, i1⟩
  · rcases h2 with h2 | ⟨h2, i2⟩
    · exact .inl (ahead_trans h1 h2)
    · exact .inl (ahead_lt_eq h1 h2)
  · rcases h2 with h2 | ⟨h2, i2⟩
    · exact .inl (ahead_eq_lt h1 h2)
    · exact .inr ⟨ahead_eq_eq h1 h2, by omega⟩
theorem tlt_irrefl (x : EntV × Nat) : ¬ tlt x x := by
  unfold tlt
  have : ahead x.1 x.1 = 0 := ahead_zero.2 ⟨rfl, rfl⟩
  omega
theorem tlt_asymm {x y : EntV × Nat} (h : tlt x y) : ¬ tlt y x := fun h2 => tlt_irrefl x (tlt_trans h h2)
/-- Two rows of the same things, each in order: one and the same. -/
theorem tlt_uniq : ∀ {l l' : List (EntV × Nat)}, l.Pairwise tlt → l'.Pairwise tlt → l.Perm l' → l = l'
  | [], l', _, _, p => (List.nil_perm.1 p).symm
  | x :: r, [], _, _, p => by have := p.length_eq; simp at this
  | x :: r, y :: q, h, h', p => by
    have h2 := List.pairwise_cons.1 h
    have h2' := List.pairwise_cons.1 h'
    have e : x = y := by
      rcases List.mem_cons.1 (p.mem_iff.1 (List.mem_cons_self (a := x) (l := r))) with e | e
      · exact e
      · rcases List.mem_cons.1 (p.mem_iff.2 (List.mem_cons_self (a := y) (l := q))) with e2 | e2
        · exact e2.symm
        · exact (tlt_asymm (h2.1 y e2) (h2'.1 x e)).elim
    subst e
    rw [tlt_uniq h2.2 h2'.2 (List.Perm.cons_inv p)]
/-- All entries of rows, each with its row's number, from n on. -/
def tagR : Nat → List (List EntV) → List (EntV × Nat)
  | _, [] => []
  | n, l :: rs => l.map (fun e => (e, n)) ++ tagR (n + 1) rs
theorem tagR_num : ∀ {n : Nat} {rs : List (List EntV)} {x : EntV × Nat}, x ∈ tagR n rs → n ≤ x.2 ∧ ∃ l, rs[x.2 - n]? = some l ∧ x.1 ∈ l
  | n, [], x, h => by simp [tagR] at h
  | n, l :: rs, x, h => by
    unfold tagR at h
    rcases List.mem_append.1 h with h | h
    · obtain ⟨e, he, rfl⟩ := List.mem_map.1 h
      exact ⟨Nat.le_refl _, l, by simp, he⟩
    · obtain ⟨h1, l', h2, h3⟩ := tagR_num h
      refine ⟨by omega, l', ?_, h3⟩
      rw [show x.2 - n = (x.2 - (n + 1)) + 1 by omega, List.getElem?_cons_succ]
      exact h2
theorem num_tagR : ∀ {n i : Nat} {rs : List (List EntV)} {l : List EntV} {e : EntV}, rs[i]? = some l → e ∈ l → (e, n + i) ∈ tagR n rs
  | n, 0, l' :: rs, l, e, h, he => by
    obtain rfl : l' = l := by simpa using h
    unfold tagR
    exact List.mem_append.2 (.inl (List.mem_map.2 ⟨e, he, rfl⟩))
  | n, i + 1, l' :: rs, l, e, h, he => by
    unfold tagR
    refine List.mem_append.2 (.inr ?_)
    have := num_tagR (n := n + 1) (i := i) (rs := rs) (by simpa using h) he
    rwa [show n + 1 + i = n + (i + 1) by omega] at this
theorem tagR_len : ∀ (n : Nat) (rs : List (List EntV)), (tagR n rs).length = (rs.map List.length).sum
  | _, [] => rfl
  | n, l :: rs => by simp [tagR, tagR_len (n + 1) rs]
theorem tagR_all : ∀ (n : Nat) (rs : List (List EntV)), (tagR n rs).map (·.1) = rs.flatten
  | _, [] => rfl
  | n, l :: rs => by
    unfold tagR
    rw [List.map_append, List.map_map, tagR_all (n + 1) rs]
    simp [Function.comp_def]
/-- Of any two of them, of rows in order, one comes first. -/
theorem tagR_tot : ∀ (n : Nat) (rs : List (List EntV)), (∀ l ∈ rs, ordE l) → (tagR n rs).Pairwise fun x y => tlt x y ∨ tlt y x
  | _, [], _ => List.Pairwise.nil
  | n, l :: rs, h => by
    unfold tagR
    rw [List.pairwise_append]
    refine ⟨?_, tagR_tot (n + 1) rs fun l' hl => h l' (List.mem_cons_of_mem _ hl), fun x hx y hy => ?_⟩
    · rw [List.pairwise_map]
      exact (h l (List.mem_cons_self ..)).imp fun h => .inl (.inl h)
    · obtain ⟨e, _, rfl⟩ := List.mem_map.1 hx
      have hn := (tagR_num hy).1
      unfold tlt
      have k := ahead_neg e y.1
      rcases ahead_vals e y.1 with q | q | q
      · exact .inl (.inl (by show ahead e y.1 < 0; omega))
      · exact .inl (.inr ⟨q, by show n < y.2; omega⟩)
      · exact .inr (.inl (by show ahead y.1 e < 0; omega))
/-- The rows as one. -/
def mrgT (rs : List (List EntV)) : List (EntV × Nat) := (tagR 0 rs).mergeSort fun x y => !tltB y x
def mrgE (rs : List (List EntV)) : List EntV := (mrgT rs).map (·.1)
theorem mrgT_perm (rs : List (List EntV)) : (mrgT rs).Perm (tagR 0 rs) := List.mergeSort_perm _ _
theorem mrgT_len (rs : List (List EntV)) : (mrgT rs).length = (rs.map List.length).sum := by rw [(mrgT_perm rs).length_eq, tagR_len]
theorem mrgE_perm (rs : List (List EntV)) : (mrgE rs).Perm rs.flatten := by
  unfold mrgE
  rw [← tagR_all 0 rs]
  exact (mrgT_perm rs).map _
theorem tlt_or (x y : EntV × Nat) : tlt x y ∨ tlt y x ∨ (ahead x.1 y.1 = 0 ∧ x.2 = y.2) := by
  unfold tlt
  have k := ahead_neg x.1 y.1
  rcases ahead_vals x.1 y.1 with q | q | q
  · exact .inl (.inl (by omega))
  · rcases Nat.lt_trichotomy x.2 y.2 with z | z | z
    · exact .inl (.inr ⟨q, z⟩)
    · exact .inr (.inr ⟨q, z⟩)
    · exact .inr (.inl (.inr ⟨by omega, z⟩))
  · exact .inr (.inl (.inl (by omega)))
theorem mrgT_srt {rs : List (List EntV)} (h : ∀ l ∈ rs, ordE l) : (mrgT rs).Pairwise tlt := by
  have h1 := List.pairwise_mergeSort (le := fun x y : EntV × Nat => !tltB y x) (fun a b c k1 k2 => by
      simp only [Bool.not_eq_true', ← Bool.not_eq_true, tltB_iff] at k1 k2 ⊢
      intro k
      rcases tlt_or a b with q | q | ⟨q, q2⟩
      · exact k2 (tlt_trans k q)
      · exact k1 q
      · refine k2 ?_
        unfold tlt at k ⊢
        rcases k with k | ⟨k, k3⟩
        · exact .inl (ahead_lt_eq k q)
        · exact .inr ⟨ahead_eq_eq k q, by omega⟩) (fun a b => by
      rcases tlt_or a b with q | q | ⟨q, q2⟩
      · have := tlt_asymm q
        simp [← Bool.not_eq_true, tltB_iff, this]
      · have := tlt_asymm q
        simp [← Bool.not_eq_true, tltB_iff, this]
      · have hb : ¬ tlt b a := by
          unfold tlt
          have k := ahead_neg a.1 b.1
          omega
        simp [← Bool.not_eq_true, tltB_iff, hb]) (tagR 0 rs)
  have h2 : (mrgT rs).Pairwise fun x y => tlt x y ∨ tlt y x := (mrgT_perm rs).symm.pairwise (tagR_tot 0 rs h) (fun {x y} hh => hh.symm)
  exact (h1.and h2).imp fun {x y} hh => by
    rcases hh.2 with q | q
    · exact q
    · have := hh.1
      simp only [Bool.not_eq_true', ← Bool.not_eq_true, tltB_iff] at this
      exact (this q).elim
theorem tagR_set : ∀ {n i : Nat} {rs : List (List EntV)} {x : EntV} {r : List EntV}, rs[i]? = some (x :: r) → (tagR n rs).Perm ((x, n + i) :: tagR n (rs.set i r))
  | n, 0, l :: rs, x, r, h => by
    obtain rfl : l = x :: r := by simpa using h
    simp [tagR]
  | n, i + 1, l :: rs, x, r, h => by
    have ih := tagR_set (n := n + 1) (i := i) (rs := rs) (x := x) (r := r) (by simpa using h)
    rw [List.set_cons_succ]
    unfold tagR
    rw [show n + (i + 1) = n + 1 + i by omega]
    exact (ih.append_left _).trans List.perm_middle
/-- One step: the least head is the first. -/
theorem mrgT_step {rs : List (List EntV)} {i : Nat} {x : EntV} {r : List EntV} (h : ∀ l ∈ rs, ordE l) (hi : rs[i]? = some (x :: r)) (hm : ∀ (j : Nat) (y : EntV) (q : List EntV), j ≠ i → rs[j]? = some (y :: q) → tlt (x, i) (y, j)) :
    mrgT rs = (x, i) :: mrgT (rs.set i r) := by
  have hr : ∀ l ∈ rs.set i r, ordE l := fun l hl => by
    rcases List.mem_or_eq_of_mem_set hl with q | q
    · exact h l q
    · rw [q]; exact (List.pairwise_cons.1 (h _ (List.mem_of_getElem? hi))).2
  refine tlt_uniq (mrgT_srt h) ?_ ?_
  · rw [List.pairwise_cons]
    refine ⟨fun z hz => ?_, mrgT_srt hr⟩
    have hz := (mrgT_perm _).mem_iff.1 hz
    obtain ⟨-, l, hl, he⟩ := tagR_num hz
    rw [Nat.sub_zero] at hl
    by_cases q : z.2 = i
    · rw [q, List.getElem?_set_self (by exact (List.getElem?_eq_some_iff.1 hi).1)] at hl
      obtain rfl : r = l := by simpa using hl
      exact .inl ((List.pairwise_cons.1 (h _ (List.mem_of_getElem? hi))).1 _ he)
    · rw [List.getElem?_set_ne (fun e => q e.symm)] at hl
      cases l with
      | nil => cases he
      | cons y q2 =>
        have k := hm z.2 y q2 q hl
        rcases List.mem_cons.1 he with e | he
        · rw [show z = (y, z.2) from by rw [← e]]; exact k
        · exact tlt_trans k (.inl ((List.pairwise_cons.1 (h _ (List.mem_of_getElem? hl))).1 _ he))
  · have p1 := (mrgT_perm rs).trans (tagR_set (n := 0) hi)
    rw [Nat.zero_add] at p1
    exact p1.trans ((mrgT_perm (rs.set i r)).symm.cons _)
theorem sum_nil : ∀ {rs : List (List EntV)}, (∀ l ∈ rs, l = []) → (rs.map List.length).sum = 0
  | [], _ => rfl
  | l :: r, h => by
    rw [List.map_cons, List.sum_cons, h l (List.mem_cons_self ..), sum_nil fun l' hl => h l' (List.mem_cons_of_mem _ hl)]; rfl
theorem mrgT_end {rs : List (List EntV)} (h : ∀ l ∈ rs, l = []) : mrgT rs = [] := by
  refine List.eq_nil_of_length_eq_zero ?_
  rw [mrgT_len, sum_nil h]
/-- The rows as one stand in order, each not ahead of the one before it. -/
theorem mrgE_wk {rs : List (List EntV)} (h : ∀ l ∈ rs, ordE l) : (mrgE rs).Pairwise fun x y => ahead x y ≤ 0 := by
  unfold mrgE
  rw [List.pairwise_map]
  exact (mrgT_srt h).imp fun {x y} hh => by unfold tlt at hh; omega
theorem mrgE_len (rs : List (List EntV)) : (mrgE rs).length = (rs.map List.length).sum := by unfold mrgE; rw [List.length_map, mrgT_len]
end Go.Proofs.Ytnoackenjfpcmaa

/- What follows of rows as one: turned rows, parts of them. -/
namespace Go.Proofs.Ytnoackenjfpcmaa
set_option linter.unusedVariables false
set_option linter.unusedSimpArgs false

theorem ordE_uniq : ∀ {l l' : List EntV}, ordE l → (l'.Pairwise fun x y => ahead x y ≤ 0) → l.Perm l' → l = l'
  | [], l', _, _, p => (List.nil_perm.1 p).symm
  | x :: r, [], _, _, p => by have := p.length_eq; simp at this
  | x :: r, y :: q, h, h', p => by
    have h2 := List.pairwise_cons.1 h
    have h2' := List.pairwise_cons.1 h'
    have e : x = y := by
      rcases List.mem_cons.1 (p.mem_iff.1 (List.mem_cons_self (a := x) (l := r))) with e | e
      · exact e
      · rcases List.mem_cons.1 (p.mem_iff.2 (List.mem_cons_self (a := y) (l := q))) with e2 | e2
        · exact e2.symm
        · have k1 := h2.1 y e2
          have k2 := h2'.1 x e
          have := ahead_neg x y
          omega
    subst e
    rw [ordE_uniq h2.2 h2'.2 (List.Perm.cons_inv p)]
/-- An entry's place: its key and number. -/
def plcE (e : EntV) : List Int × Int := (e.key, e.seq)
def ahP (a b : List Int × Int) : Int := if cmp a.1 b.1 ≠ 0 then cmp a.1 b.1 else if b.2 < a.2 then -1 else if a.2 < b.2 then 1 else 0
theorem ahead_plc (a b : EntV) : ahead a b = ahP (plcE a) (plcE b) := rfl
theorem ahP_zero {a b : List Int × Int} : ahP a b = 0 ↔ a = b := by
  have := ahead_zero (a := ⟨a.1, a.2, false, 0, []⟩) (b := ⟨b.1, b.2, false, 0, []⟩)
  rw [ahead_plc] at this
  unfold plcE at this
  simp only at this
  rw [show ahP a b = ahP (a.1, a.2) (b.1, b.2) from rfl, this]
  constructor
  · rintro ⟨h1, h2⟩; exact Prod.ext h1 h2
  · rintro rfl; exact ⟨rfl, rfl⟩
theorem ahP_neg (a b : List Int × Int) : ahP b a = - ahP a b := by
  have := ahead_neg ⟨a.1, a.2, false, 0, []⟩ ⟨b.1, b.2, false, 0, []⟩
  rwa [ahead_plc, ahead_plc] at this
theorem plc_uniq : ∀ {l l' : List (List Int × Int)}, (l.Pairwise fun x y => ahP x y ≤ 0) → (l'.Pairwise fun x y => ahP x y ≤ 0) → l.Perm l' → l = l'
  | [], l', _, _, p => (List.nil_perm.1 p).symm
  | x :: r, [], _, _, p => by have := p.length_eq; simp at this
  | x :: r, y :: q, h, h', p => by
    have h2 := List.pairwise_cons.1 h
    have h2' := List.pairwise_cons.1 h'
    have e : x = y := by
      rcases List.mem_cons.1 (p.mem_iff.1 (List.mem_cons_self (a := x) (l := r))) with e | e
      · exact e
      · rcases List.mem_cons.1 (p.mem_iff.2 (List.mem_cons_self (a := y) (l := q))) with e2 | e2
        · exact e2.symm
        · have k1 := h2.1 y e2
          have k2 := h2'.1 x e
          have := ahP_neg x y
          exact ahP_zero.1 (by omega)
    subst e
    rw [plc_uniq h2.2 h2'.2 (List.Perm.cons_inv p)]
/-- Two rows of the same entries, each in order: place by place the same key and number. -/
theorem wk_plc {l l' : List EntV} (h : l.Pairwise fun x y => ahead x y ≤ 0) (h' : l'.Pairwise fun x y => ahead x y ≤ 0) (p : l.Perm l') : l.map plcE = l'.map plcE :=
  plc_uniq (by rw [List.pairwise_map]; exact h) (by rw [List.pairwise_map]; exact h') (p.map _)
theorem flat_turn (rs : List (List EntV)) : rs.reverse.flatten.Perm rs.flatten := by
  induction rs with
  | nil => exact List.Perm.nil
  | cons l r ih =>
    rw [List.reverse_cons, List.flatten_append, List.flatten_cons, List.flatten_cons, List.flatten_nil, List.append_nil]
    exact (ih.append_right l).trans List.perm_append_comm
/-- In which order rows come: place by place the same; where none is there twice, the same. -/
theorem mrg_turn {rs : List (List EntV)} (h : ∀ l ∈ rs, ordE l) : (mrgE rs).map plcE = (mrgE rs.reverse).map plcE ∧ (ordE (mrgE rs) → mrgE rs = mrgE rs.reverse) := by
  have h' : ∀ l ∈ rs.reverse, ordE l := fun l hl => h l (List.mem_reverse.1 hl)
  have p : (mrgE rs).Perm (mrgE rs.reverse) := (mrgE_perm rs).trans ((flat_turn rs).symm.trans (mrgE_perm rs.reverse).symm)
  exact ⟨wk_plc (mrgE_wk h) (mrgE_wk h') p, fun ho => ordE_uniq ho (mrgE_wk h') p⟩
/-- Parts merged, and then the parts, with a row of nothing between. -/
theorem mrg_twice {r1 r2 : List (List EntV)} (h1 : ∀ l ∈ r1, ordE l) (h2 : ∀ l ∈ r2, ordE l) (ho : ordE (mrgE (r1 ++ r2))) : ordE (mrgE r1) ∧ ordE (mrgE r2) ∧ mrgE [mrgE r1, [], mrgE r2] = mrgE (r1 ++ r2) := by
  have pa : (mrgE (r1 ++ r2)).Perm (mrgE r1 ++ mrgE r2) := by
    refine (mrgE_perm _).trans ?_
    rw [List.flatten_append]
    exact ((mrgE_perm r1).symm.append (mrgE_perm r2).symm)
  have hd : (mrgE r1 ++ mrgE r2).Pairwise fun x y => ahead x y ≠ 0 := pa.pairwise (ho.imp fun h => by omega) (fun {x y} hh => by have := ahead_neg x y; omega)
  rw [List.pairwise_append] at hd
  have o1 : ordE (mrgE r1) := ((mrgE_wk h1).and hd.1).imp fun hh => by omega
  have o2 : ordE (mrgE r2) := ((mrgE_wk h2).and hd.2.1).imp fun hh => by omega
  have h3 : ∀ l ∈ [mrgE r1, [], mrgE r2], ordE l := fun l hl => by
    simp only [List.mem_cons, List.not_mem_nil, or_false] at hl
    rcases hl with rfl | rfl | rfl
    · exact o1
    · exact List.Pairwise.nil
    · exact o2
  refine ⟨o1, o2, (ordE_uniq ho (mrgE_wk h3) (pa.trans ?_)).symm⟩
  refine List.Perm.trans (List.Perm.of_eq ?_) (mrgE_perm _).symm
  simp
/-- A row by itself. -/
theorem mrg_one {l : List EntV} (h : ordE l) : mrgE [l] = l := (ordE_uniq h (mrgE_wk fun l' hl => by rw [List.mem_singleton.1 hl]; exact h) (by have := mrgE_perm [l]; rw [List.flatten_cons, List.flatten_nil, List.append_nil] at this; exact this.symm)).symm
end Go.Proofs.Ytnoackenjfpcmaa
