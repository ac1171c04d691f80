import Derived.Test.YtfecopldepnicaaPk07
import Derived.Test.YtfecopldepnicaaPk22
/- The laws on a mem beside the document's own row, of any mem. -/
namespace Go.Proofs.Ytfecopldepnicaa
open Go.RowKit
set_option linter.unusedVariables false
set_option linter.unusedSimpArgs false

theorem wts_take {l : List EntV} {k : Nat} (h : k < l.length) : wts (l.take (k + 1)) = wts (l.take k) + wtE l[k] := by
  rw [List.take_add_one, List.getElem?_eq_getElem h, wts_app]
  simp [wts]
theorem wts_le : ∀ {l : List EntV}, okE l → wts l ≤ 3000 * l.length
  | [], _ => Nat.le_refl _
  | e :: r, h => by
    have h1 := wts_le (l := r) fun x hx => h x (List.mem_cons_of_mem _ hx)
    have h2 := h e (List.mem_cons_self ..)
    unfold mayE at h2
    simp at h2
    rw [wts, List.length_cons]
    unfold wtE
    omega
theorem ok_take {l : List EntV} (h : okE l) (k : Nat) : okE (l.take k) := fun e he => h e (List.mem_of_mem_take he)
theorem mayE_len {e : EntV} (h : mayE e = true) : e.key.length ≤ 512 ∧ e.val.length ≤ 2048 := by
  unfold mayE at h
  simp at h
  omega

end Go.Proofs.Ytfecopldepnicaa

/- The laws on what a mem gets, and on a mem that there isn't, of any mem. -/
namespace Go.Proofs.Ytfecopldepnicaa
open Go.RowKit
set_option linter.unusedVariables false
set_option linter.unusedSimpArgs false

end Go.Proofs.Ytfecopldepnicaa

/- What follows of entries in order: cuts, what is got, in which order they come. -/
namespace Go.Proofs.Ytfecopldepnicaa
set_option linter.unusedVariables false
set_option linter.unusedSimpArgs false

theorem ahead_key {a b : EntV} (h : ahead a b < 0) : cmp a.key b.key ≤ 0 := by
  unfold ahead at h
  by_cases q : cmp a.key b.key = 0
  · omega
  · rw [if_pos q] at h; omega
theorem cmp_le_trans {a b c : List Int} (h1 : cmp a b ≤ 0) (h2 : cmp b c < 0) : cmp a c < 0 := by
  by_cases q : cmp a b = 0
  · rw [cmp_zero.1 q]; exact h2
  · exact cmp_trans (by omega) h2
theorem inE_ahead {key : List Int} (hk : key.length ≠ 0) (e : EntV) : inE [] key e = decide (cmp e.key key < 0) := by
  unfold inE
  have := cmp_nil e.key
  simp [this, hk]
theorem inE_behind (key : List Int) (e : EntV) : inE key [] e = decide (0 ≤ cmp e.key key) := by
  unfold inE
  simp
/-- What lies ahead of a key and what lies from it on are all. -/
theorem cut_all {key : List Int} (hk : key.length ≠ 0) : ∀ {L : List EntV}, ordE L → listE L [] key ++ listE L key [] = L
  | [], _ => rfl
  | x :: r, ho => by
    obtain ⟨h1, h2⟩ := List.pairwise_cons.1 ho
    by_cases q : cmp x.key key < 0
    · have ih := cut_all hk h2
      have e1 : listE (x :: r) [] key = x :: listE r [] key := by
        unfold listE
        rw [List.filter_cons_of_pos (by rw [inE_ahead hk]; simpa using q)]
      have e2 : listE (x :: r) key [] = listE r key [] := by
        unfold listE
        rw [List.filter_cons_of_neg (by rw [inE_behind]; simp; omega)]
      rw [e1, e2, List.cons_append, ih]
    · have hall : ∀ y ∈ x :: r, ¬ cmp y.key key < 0 := fun y hy hlt => by
        rcases List.mem_cons.1 hy with e | e
        · subst e; exact q hlt
        · exact q (cmp_le_trans (ahead_key (h1 y e)) hlt)
      have e1 : listE (x :: r) [] key = [] := by
        unfold listE
        refine List.filter_eq_nil_iff.2 fun y hy => ?_
        rw [inE_ahead hk]
        simpa using hall y hy
      have e2 : listE (x :: r) key [] = x :: r := by
        unfold listE
        refine List.filter_eq_self.2 fun y hy => ?_
        rw [inE_behind]
        have := hall y hy
        simp
        omega
      rw [e1, e2, List.nil_append]
/-- Get is the first of a key's that is not newer. -/
theorem get_behind (L : List EntV) (key : List Int) (s : Int) : getE (listE L key []) key s = getE L key s := by
  unfold getE listE
  rw [List.find?_filter]
  congr 1
  funext e
  rw [inE_behind]
  by_cases q : cmp e.key key = 0
  · simp [q]
  · simp [q]
/-- Each is got at its own number. -/
theorem get_own : ∀ {L : List EntV}, ordE L → ∀ {e : EntV}, e ∈ L → getE L e.key e.seq = some e
  | x :: r, ho, e, he => by
    obtain ⟨h1, h2⟩ := List.pairwise_cons.1 ho
    rcases List.mem_cons.1 he with q | q
    · subst q
      unfold getE
      rw [List.find?_cons_of_pos (by simp [cmp_refl])]
    · have hx := h1 e q
      have hn : ¬ (cmp x.key e.key = 0 ∧ x.seq ≤ e.seq) := fun ⟨p1, p2⟩ => by
        unfold ahead at hx
        rw [if_neg (by omega)] at hx
        rw [if_neg (by omega)] at hx
        split at hx <;> omega
      unfold getE
      rw [List.find?_cons_of_neg (by simpa using hn)]
      exact get_own h2 q
/-- Entries added one behind the other. -/
def addAll (xs : List EntV) (L : List EntV) : List EntV := xs.foldl (fun L e => (addE L e).2) L
theorem addAll_ord : ∀ (xs : List EntV) {L : List EntV}, ordE L → ordE (addAll xs L)
  | [], _, h => h
  | x :: r, L, h => addAll_ord r (addE_ord h x)
theorem addAll_ok : ∀ (xs : List EntV) {L : List EntV}, okE L → okE (addAll xs L)
  | [], _, h => h
  | x :: r, L, h => addAll_ok r (addE_ok h x)
theorem addAll_len : ∀ (xs L : List EntV), (addAll xs L).length ≤ L.length + xs.length
  | [], L => Nat.le_refl _
  | x :: r, L => by
    have h1 := addAll_len r (addE L x).2
    have h2 := addE_len L x
    show (addAll r (addE L x).2).length ≤ _
    rw [List.length_cons]
    omega
theorem addAll_app (xs ys L : List EntV) : addAll (xs ++ ys) L = addAll ys (addAll xs L) := List.foldl_append
/-- No two alike. -/
def unlike (xs : List EntV) : Prop := xs.Pairwise fun a b => ¬ (a.key = b.key ∧ a.seq = b.seq)
theorem addAll_perm : ∀ (xs L : List EntV), unlike xs → (∀ a ∈ L, ∀ b ∈ xs, ¬ (a.key = b.key ∧ a.seq = b.seq)) → (addAll xs L).Perm (xs.filter mayE ++ L)
  | [], L, _, _ => List.Perm.refl _
  | x :: r, L, hu, hd => by
    obtain ⟨h1, h2⟩ := List.pairwise_cons.1 hu
    show (addAll r (addE L x).2).Perm _
    cases hm : mayE x with
    | false =>
      rw [List.filter_cons_of_neg (by simp [hm])]
      have e : (addE L x).2 = L := by unfold addE; rw [if_pos hm]
      rw [e]
      exact addAll_perm r L h2 fun a ha b hb => hd a ha b (List.mem_cons_of_mem _ hb)
    | true =>
      rw [List.filter_cons_of_pos (by simp [hm])]
      have hh : hasE L x = false := by
        rw [Bool.eq_false_iff]
        intro hh
        obtain ⟨a, ha, hz⟩ := List.any_eq_true.1 hh
        exact hd a ha x (List.mem_cons_self ..) (ahead_zero.1 (by simpa using hz))
      have e : (addE L x).2 = putE L x := by unfold addE; rw [if_neg (by rw [hm]; decide), if_neg (by rw [hh]; decide)]
      rw [e]
      have ih := addAll_perm r (putE L x) h2 fun a ha b hb => by
        rcases List.mem_cons.1 ((putE_perm L x).mem_iff.1 ha) with q | q
        · subst q; exact h1 b hb
        · exact hd a q b (List.mem_cons_of_mem _ hb)
      refine ih.trans ?_
      refine ((List.Perm.refl _).append (putE_perm L x)).trans ?_
      exact List.perm_middle
/-- Rows in order that hold the same are the same. -/
theorem ord_eq : ∀ {a b : List EntV}, ordE a → ordE b → a.Perm b → a = b
  | [], b, _, _, hp => by rw [hp.nil_eq]
  | x :: r, [], _, _, hp => by
    have := hp.length_eq
    simp at this
  | x :: r, y :: q, ha, hb, hp => by
    obtain ⟨h1, h2⟩ := List.pairwise_cons.1 ha
    obtain ⟨g1, g2⟩ := List.pairwise_cons.1 hb
    have hxy : x = y := by
      rcases List.mem_cons.1 (hp.mem_iff.1 (List.mem_cons_self ..)) with e | e
      · exact e
      · rcases List.mem_cons.1 (hp.mem_iff.2 (List.mem_cons_self ..)) with e' | e'
        · exact e'.symm
        · have k1 := g1 x e
          have k2 := h1 y e'
          have k3 := ahead_neg x y
          omega
    subst hxy
    rw [ord_eq h2 g2 (List.perm_cons x |>.1 hp)]
/-- In which order they come makes no difference. -/
theorem addAll_turned {xs : List EntV} (hu : unlike xs) : addAll xs.reverse [] = addAll xs [] := by
  have ho : ordE ([] : List EntV) := List.Pairwise.nil
  have hr : unlike xs.reverse := by
    unfold unlike
    rw [List.pairwise_reverse]
    refine List.Pairwise.imp (fun h => ?_) hu
    rintro ⟨h1, h2⟩
    exact h ⟨h1.symm, h2.symm⟩
  have p1 := addAll_perm xs [] hu (fun a ha => by cases ha)
  have p2 := addAll_perm xs.reverse [] hr (fun a ha => by cases ha)
  refine ord_eq (addAll_ord _ ho) (addAll_ord _ ho) ?_
  refine p2.trans (List.Perm.trans ?_ p1.symm)
  exact ((List.reverse_perm xs).filter _).append (List.Perm.refl _)
end Go.Proofs.Ytfecopldepnicaa
