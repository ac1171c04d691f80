import Derived.BigQuiet
import Derived.Test.YtfecopldepnicaaPk04
import Derived.Test.YtfecopldepnicaaPk05
import Derived.Test.YtfecopldepnicaaPk06
import Derived.Test.YtfecopldepnicaaPk12
import Derived.Test.YtfecopldepnicaaPk18
import Derived.Test.YtfecopldepnicaaPk21
import Derived.Test.YtfecopldepnicaaPk25
import Derived.Test.YtfecopldepnicaaPk39
import Derived.Test.YtfecopldepnicaaPk42
/- Tables, on lists: how the program finds entries in blocks. -/
namespace Go.Proofs.Ytfecopldepnicaa
set_option linter.unusedVariables false
set_option linter.unusedSimpArgs false

theorem skE_app (a b : List EntV) (key : List Int) (s : Int) : skE (a ++ b) key s = (skE a key s).or (skE b key s) := by
  unfold skE
  rw [List.find?_append]
/-- The blocks from the first one on that has an entry which is not ahead. -/
def frB (bs : List (List EntV)) (key : List Int) (s : Int) : List (List EntV) := bs.dropWhile fun c => (skE c key s).isNone
theorem skE_flat : ∀ (bs : List (List EntV)) (key : List Int) (s : Int), skE bs.flatten key s = (frB bs key s).head?.bind fun c => skE c key s
  | [], key, s => rfl
  | c :: r, key, s => by
    rw [List.flatten_cons, skE_app]
    unfold frB
    rw [List.dropWhile_cons]
    cases h : skE c key s with
    | none =>
      simp only [Option.isNone_none, if_true]
      rw [skE_flat r key s]
      rfl
    | some e =>
      simp [h]
theorem cmp_le_lt {a b c : List Int} (h1 : ¬ 0 < cmp a b) (h2 : cmp b c < 0) : cmp a c < 0 := by
  have hv := cmp_vals a b
  by_cases q : cmp a b = 0
  · rw [cmp_zero.1 q]; exact h2
  · exact cmp_trans (by omega) h2
theorem ahead_keyT {a b : EntV} (h : ahead a b < 0) : ¬ 0 < cmp a.key b.key := by
  unfold ahead at h
  split at h
  · omega
  · rename_i q; simp only [ne_eq, Classical.not_not] at q; omega
theorem last_ge : ∀ {l : List EntV} {prev : List Int}, ordE l → ∀ {e : EntV}, e ∈ l → ¬ 0 < cmp e.key (lastK prev l)
  | [], prev, h, e, he => by cases he
  | [a], prev, h, e, he => by
    rw [List.mem_singleton.1 he]
    show ¬ 0 < cmp a.key a.key
    rw [cmp_refl]
    omega
  | a :: b :: r, prev, h, e, he => by
    show ¬ 0 < cmp e.key (lastK a.key (b :: r))
    rcases List.mem_cons.1 he with q | q
    · obtain ⟨x, hx, hk⟩ := lastK_mem (c := b :: r) (prev := a.key) (by simp)
      rw [hk, q]
      exact ahead_keyT ((List.pairwise_cons.1 h).1 x hx)
    · exact last_ge (List.pairwise_cons.1 h).2 q
/-- What the search asks of a block. -/
def fndK (c : List EntV) (key : List Int) (s : Int) : Bool := if cmp (lastK [] c) key ≠ 0 then decide (0 < cmp (lastK [] c) key) else (skE c key s).isSome
theorem fndK_is {c : List EntV} {key : List Int} {s : Int} (hc : c ≠ []) (ho : ordE c) : fndK c key s = (skE c key s).isSome := by
  unfold fndK
  split
  · rename_i q
    obtain ⟨e, he, hk⟩ := lastK_mem (prev := []) hc
    by_cases z : 0 < cmp (lastK [] c) key
    · rw [decide_eq_true z]
      symm
      unfold skE
      rw [List.find?_isSome]
      exact ⟨e, he, by rw [decide_eq_true_eq, ← hk]; exact .inl z⟩
    · rw [decide_eq_false z]
      symm
      unfold skE
      rw [← Bool.not_eq_true, List.find?_isSome]
      rintro ⟨x, hx, hp⟩
      rw [decide_eq_true_eq] at hp
      have := cmp_le_lt (last_ge ho hx) (show cmp (lastK [] c) key < 0 by have := cmp_vals (lastK [] c) key; omega)
      omega
  · rfl
/-- Behind a block that has one, all have. -/
theorem fnd_mono : ∀ {bs : List (List EntV)} {key : List Int} {s : Int}, (∀ c ∈ bs, c ≠ []) → ordE bs.flatten → ∀ {i j : Nat} {c d : List EntV}, i ≤ j → bs[i]? = some c → bs[j]? = some d → (skE c key s).isSome = true → (skE d key s).isSome = true := fun {bs key s} hne ho i j c d hij hc hd hs => by
  rcases Nat.lt_or_ge i j with q | q
  · unfold skE at hs ⊢
    rw [List.find?_isSome] at hs ⊢
    obtain ⟨e, he, hp⟩ := hs
    obtain ⟨hj, hdj⟩ := List.getElem?_eq_some_iff.1 hd
    obtain ⟨hi, hci⟩ := List.getElem?_eq_some_iff.1 hc
    have hdne := hne d (by rw [← hdj]; exact List.getElem_mem hj)
    obtain ⟨x, hx⟩ := List.exists_mem_of_ne_nil d hdne
    refine ⟨x, hx, ?_⟩
    have hah : ahead e x < 0 := by
      have hw : ordE bs.flatten := ho
      unfold ordE at hw
      rw [List.pairwise_flatten] at hw
      have := List.pairwise_iff_getElem.1 hw.2 i j hi hj q
      exact this e (by rw [hci]; exact he) x (by rw [hdj]; exact hx)
    rw [decide_eq_true_eq] at hp ⊢
    rcases Classical.em (ahK x key s = true) with z | z
    · have := ahK_before hah z
      unfold ahK at this
      rw [decide_eq_true_eq] at this
      omega
    · unfold ahK at z
      rw [decide_eq_true_eq] at z
      have := cmp_vals x.key key
      omega
  · have : i = j := by omega
    subst this
    rw [hc] at hd
    cases hd
    exact hs
theorem frB_drop : ∀ {bs : List (List EntV)} {key : List Int} {s : Int} {n : Nat}, n ≤ bs.length → (∀ i c, i < n → bs[i]? = some c → (skE c key s).isSome = false) → (∀ c, bs[n]? = some c → (skE c key s).isSome = true) → frB bs key s = bs.drop n
  | [], key, s, 0, _, _, _ => rfl
  | [], key, s, n + 1, h, _, _ => by simp at h
  | c :: r, key, s, 0, _, _, h2 => by
    have := h2 c rfl
    unfold frB
    rw [List.dropWhile_cons, if_neg (by cases q : skE c key s <;> simp_all)]
    rfl
  | c :: r, key, s, n + 1, h, h1, h2 => by
    have := h1 0 c (by omega) rfl
    have ih := frB_drop (bs := r) (key := key) (s := s) (n := n) (by simp at h; omega) (fun i d hi hd => h1 (i + 1) d (by omega) (by simpa using hd)) (fun d hd => h2 d (by simpa using hd))
    unfold frB at ih ⊢
    rw [List.dropWhile_cons, if_pos (by cases q : skE c key s <;> simp_all), ih]
    rfl
theorem listE_app (a b : List EntV) (fr ub : List Int) : listE (a ++ b) fr ub = listE a fr ub ++ listE b fr ub := List.filter_append ..
theorem listE_fr {fr ub : List Int} {s : Int} : ∀ {bs : List (List EntV)}, (∀ c ∈ bs, ∀ e ∈ c, e.seq ≤ s) → listE (frB bs fr s).flatten fr ub = listE bs.flatten fr ub
  | [], _ => rfl
  | c :: r, h => by
    unfold frB
    rw [List.dropWhile_cons]
    split
    · rename_i q
      have ih := listE_fr (fr := fr) (ub := ub) (bs := r) (fun x hx => h x (by simp [hx]))
      unfold frB at ih
      rw [ih, List.flatten_cons, listE_app]
      have : listE c fr ub = [] := by
        unfold listE
        rw [List.filter_eq_nil_iff]
        intro e he hi
        unfold inE at hi
        rw [decide_eq_true_eq] at hi
        have hn : skE c fr s = none := by cases z : skE c fr s <;> simp_all
        unfold skE at hn
        rw [List.find?_eq_none] at hn
        have h1 := hn e he
        rw [decide_eq_true_eq] at h1
        have h2 := h c (by simp) e he
        omega
      rw [this]
      rfl
    · rfl
/-- From one that is not ahead of the upper bound on none is listed. -/
theorem listE_stop {d r : List EntV} {e : EntV} {fr ub : List Int} (ho : ordE (d ++ e :: r)) (hu : ub.length ≠ 0) (h : 0 ≤ cmp e.key ub) : listE (d ++ e :: r) fr ub = listE d fr ub := by
  rw [listE_app]
  have : listE (e :: r) fr ub = [] := by
    unfold listE
    rw [List.filter_eq_nil_iff]
    intro x hx hi
    unfold inE at hi
    rw [decide_eq_true_eq] at hi
    have hlt : cmp x.key ub < 0 := by rcases hi.2 with q | q; exact absurd q hu; exact q
    rcases List.mem_cons.1 hx with q | q
    · rw [q] at hlt; omega
    · have h1 : ordE (e :: r) := (List.pairwise_append.1 ho).2.1
      have h2 := ahead_keyT ((List.pairwise_cons.1 h1).1 x q)
      have := cmp_le_lt h2 hlt
      omega
  rw [this, List.append_nil]
theorem skE_least {l : List EntV} {s : Int} (h : ∀ e ∈ l, e.seq ≤ s) : skE l [] s = l.head? := by
  cases l with
  | nil => rfl
  | cons e r =>
    unfold skE
    rw [List.find?_cons_of_pos]
    · rfl
    · rw [decide_eq_true_eq]
      have h1 := cmp_nil e.key
      have h2 := h e (by simp)
      have := cmp_vals e.key []
      omega
theorem getE_sk {l : List EntV} {key : List Int} {s : Int} (ho : ordE l) : getE l key s = (skE l key s).filter fun e => decide (e.key = key) := by
  induction l with
  | nil => rfl
  | cons e r ih =>
    have ho' : ordE r := (List.pairwise_cons.1 ho).2
    unfold getE skE
    rw [List.find?_cons, List.find?_cons]
    have hv := cmp_vals e.key key
    have hz : cmp e.key key = 0 ↔ e.key = key := cmp_zero
    by_cases q : cmp e.key key = 0 ∧ e.seq ≤ s
    · rw [decide_eq_true q, decide_eq_true (.inr q)]
      simp [Option.filter, hz.1 q.1]
    · rw [decide_eq_false q]
      by_cases p : 0 < cmp e.key key
      · rw [decide_eq_true (.inl p)]
        have hne : ¬ e.key = key := fun z => by have := hz.2 z; omega
        simp only [Option.filter, hne, decide_false]
        rw [List.find?_eq_none.2]
        · rfl
        · intro x hx hp
          rw [decide_eq_true_eq] at hp
          have h1 := ahead_keyT ((List.pairwise_cons.1 ho).1 x hx)
          rw [cmp_zero.1 hp.1] at h1
          exact h1 p
      · rw [decide_eq_false (fun z => by rcases z with z | z; exact p z; exact q z)]
        exact ih ho'
theorem lastK_app : ∀ (a : List EntV) (p : List Int) (b : List EntV), lastK p (a ++ b) = lastK (lastK p a) b
  | [], p, b => rfl
  | e :: r, p, b => lastK_app r e.key b
theorem lastK_ne {b : List EntV} {p q : List Int} (h : b ≠ []) : lastK p b = lastK q b := by
  cases b with
  | nil => exact absurd rfl h
  | cons e r => rfl
theorem rowsB_last : ∀ {bs : List (List EntV)} {pos : Nat} {r : RowV}, (∀ c ∈ bs, c ≠ []) → (rowsB pos bs).getLast? = some r → r.last = lastK [] bs.flatten
  | [], pos, r, _, h => by cases h
  | [c], pos, r, _, h => by
    simp [rowsB] at h
    rw [← h]
    simp
  | c :: d :: t, pos, r, hn, h => by
    have h' : (rowsB (pos + (blkB c).length + 4) (d :: t)).getLast? = some r := by
      rw [← h]
      show _ = (_ :: rowsB _ (d :: t)).getLast?
      rw [List.getLast?_cons_of_ne_nil]
      show _ :: _ ≠ []
      simp
    rw [rowsB_last (fun x hx => hn x (by simp at hx ⊢; exact .inr hx)) h', show (c :: d :: t).flatten = c ++ (d :: t).flatten from rfl, lastK_app c]
    refine lastK_ne ?_
    have := hn d (by simp)
    simp [this]
theorem rowsB_at : ∀ {bs : List (List EntV)} {pos i : Nat} {c : List EntV}, bs[i]? = some c → ∃ q, (rowsB pos bs)[i]? = some ⟨(q, (blkB c).length), lastK [] c⟩ ∧ q + (blkB c).length + 4 ≤ pos + (bodT bs).length
  | [], pos, i, c, h => by simp at h
  | d :: t, pos, 0, c, h => by
    simp at h
    subst h
    exact ⟨pos, rfl, by rw [bodT_cons, List.length_append, sm_len]; omega⟩
  | d :: t, pos, i + 1, c, h => by
    obtain ⟨q, h1, h2⟩ := rowsB_at (bs := t) (pos := pos + (blkB d).length + 4) (i := i) (c := c) (by simpa using h)
    exact ⟨q, by simpa [rowsB] using h1, by rw [bodT_cons, List.length_append, sm_len]; omega⟩
/-- A block of a table: its row, its bytes, what Decode takes of them. -/
theorem tbl_block {l : List EntV} (h : tblE l = 0) (ho : ∀ e ∈ l, OkE e) {i : Nat} {c : List EntV} (hc : (cutT l)[i]? = some c) :
    ∃ q, (rowsT l)[i]? = some ⟨(q, (blkB c).length), lastK [] c⟩ ∧ q + (blkB c).length + 4 ≤ (tblB l).length ∧ ((tblB l).drop q).take (blkB c).length = blkB c ∧ tkEL (blkB c) = 0 ∧ tkBL (blkB c) = c ∧ tkB (blkB c) = c ∧ c ≠ [] ∧ ordE c ∧ Okb (lastK [] c) ∧ (∀ e ∈ c, e ∈ l) := by
  obtain ⟨h1, h2, h3, h4, h5⟩ := tblE_ok h
  have hcm : c ∈ cutT l := List.mem_of_getElem? hc
  have hblk := cutT_blk h3 h4 c hcm
  have hcne := cutB_ne l 0 [] c hcm
  obtain ⟨q, q1, q2⟩ := rowsB_at (pos := 0) hc
  obtain ⟨r1, r2, r3, r4, r5⟩ := read_tbl h ho
  have hlen := tbl_len l
  obtain ⟨t1, t2⟩ := tk_of_blk hblk.1 (fun e he => ho e (hblk.2 e he))
  obtain ⟨u1, u2⟩ := tkL (blkB c)
  refine ⟨q, q1, by omega, ?_, u1.2 t1, by rw [u2, t2], t2, hcne, (blkE_ok hblk.1).2.2.2, ?_, hblk.2⟩
  · have e : (((rowsT l).map (·.sp)).map (ofS (tblB l)))[i]? = ((cutT l).map blkB)[i]? := by rw [r4]
    rw [List.getElem?_map, List.getElem?_map, List.getElem?_map, hc, show (rowsT l)[i]? = _ from q1] at e
    simpa [ofS] using e
  · obtain ⟨e, he, hk⟩ := lastK_mem (prev := []) hcne
    rw [hk]
    exact (ho e (hblk.2 e he)).1
end Go.Proofs.Ytfecopldepnicaa

/- What the landed batch takes from bytes: a number, bytes, a kind. -/
namespace Go.Proofs.Ytfecopldepnicaa
open Go.RowKit
set_option linter.unusedVariables false
set_option linter.unusedSimpArgs false

end Go.Proofs.Ytfecopldepnicaa

/- What the landed batch takes from bytes: a change. -/
namespace Go.Proofs.Ytfecopldepnicaa
open Go.RowKit
set_option linter.unusedVariables false
set_option linter.unusedSimpArgs false

/-- The answer is laid. -/
def lay4 (w wx : World) (x0 x1 x2 x3 : Value) : World := (((wx.setCell ⟨w.heap.size, 0, none⟩ x0).setCell ⟨w.heap.size, 1, none⟩ x1).setCell ⟨w.heap.size, 2, none⟩ x2).setCell ⟨w.heap.size, 3, none⟩ x3
theorem lay4_grown (w wx : World) (x0 x1 x2 x3 : Value) : wx.grownBy (lay4 w wx x0 x1 x2 x3) (some w.heap.size) :=
  grown_trans (grown_trans (grown_trans (grown_set _ _ _ _) (grown_set _ _ _ _)) (grown_set _ _ _ _)) (grown_set _ _ _ _)
theorem Sb.later {ob : Nat} {w w' : World} {a : Option Addr} {c : Nat} {xs : List Int} (h : Sb ob w a c xs) (hb : Below w.heap.size w w') : Sb ob w' a c xs := ⟨h.1.later hb, h.2⟩
theorem tb_ok {d : List Int} {most : Nat} (h : Okb d) : Okb (tb d most).2.1 := by
  unfold tb
  split
  · exact fun x hx => by cases hx
  · split
    · exact fun x hx => by cases hx
    · split
      · exact fun x hx => by cases hx
      · exact fun x hx => h x (List.mem_of_mem_drop (List.mem_of_mem_take hx))
theorem rdB_ok {most : Nat} {d key : List Int} {st : Rd} (h : rdB most (d, 0) = (key, st)) (hd : Okb d) : Okb key := by
  have e : (rdB most (d, 0)).1 = key := by rw [h]
  rw [← e]
  unfold rdB
  simp only [ne_eq, not_true_eq_false, if_false]
  split
  · exact fun x hx => by cases hx
  · exact tb_ok hd
theorem rdB_okr {most : Nat} {d key l : List Int} {er : Nat} (h : rdB most (d, 0) = (key, l, er)) (hd : Okb d) : Okb l := by
  have e : (rdB most (d, 0)).2.1 = l := by rw [h]
  rw [← e]
  unfold rdB
  simp only [ne_eq, not_true_eq_false, if_false]
  split
  · exact hd
  · exact fun x hx => hd x (List.mem_of_mem_drop hx)
/-- A change, taken; none where something is wrong. -/
def noOp : OpV := ⟨[], false, 0, []⟩
def tkO (d : List Int) : OpV := if (deO (d, 0)).2.2 ≠ 0 then noOp else (deO (d, 0)).1

end Go.Proofs.Ytfecopldepnicaa
