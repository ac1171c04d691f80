import Derived.BigQuiet
import Derived.Test.YtimpaindbbjieaaPk04
import Derived.Test.YtimpaindbbjieaaPk05
import Derived.Test.YtimpaindbbjieaaPk06
import Derived.Test.YtimpaindbbjieaaPk12
import Derived.Test.YtimpaindbbjieaaPk18
import Derived.Test.YtimpaindbbjieaaPk19
import Derived.Test.YtimpaindbbjieaaPk33
import Derived.Test.YtimpaindbbjieaaPk37
import Derived.Test.YtimpaindbbjieaaPk39
/- The landed block, on lists: restarts, and the search from one on. -/
namespace Go.Proofs.Ytimpaindbbjieaa
set_option linter.unusedVariables false
set_option linter.unusedSimpArgs false

theorem eig_eq : ∀ (l : List EntV) (j : Nat), eig j l = (j + l.length + 7) / 8 - (j + 7) / 8
  | [], j => by simp [eig]
  | e :: r, j => by
    unfold eig
    rw [eig_eq r (j + 1), List.length_cons]
    split <;> omega
theorem enEs_app : ∀ (a : List EntV) (i : Nat) (prev : List Int) (b : List EntV), enEs i prev (a ++ b) = enEs i prev a ++ enEs (i + a.length) (lastK prev a) b
  | [], i, prev, b => by simp [enEs, lastK]
  | x :: r, i, prev, b => by
    show enE _ x ++ enEs (i + 1) x.key (r ++ b) = (enE _ x ++ enEs (i + 1) x.key r) ++ _
    rw [enEs_app r (i + 1) x.key b, List.append_assoc, List.length_cons, show i + 1 + r.length = i + (r.length + 1) by omega]
    rfl
theorem enTl_app : ∀ (a : List EntV) (i pos : Nat) (prev : List Int) (b : List EntV), enTl i pos prev (a ++ b) = enTl i pos prev a ++ enTl (i + a.length) (pos + (enEs i prev a).length) (lastK prev a) b
  | [], i, pos, prev, b => by simp [enTl, enEs, lastK]
  | x :: r, i, pos, prev, b => by
    show _ ++ enTl (i + 1) (pos + (enE (shI i x.key prev) x).length) x.key (r ++ b) = (_ ++ enTl (i + 1) (pos + (enE (shI i x.key prev) x).length) x.key r) ++ _
    rw [enTl_app r (i + 1) _ x.key b, List.append_assoc, List.length_cons, show i + 1 + r.length = i + (r.length + 1) by omega]
    show _ = _ ++ (_ ++ enTl _ (pos + (enE (shI i x.key prev) x ++ enEs (i + 1) x.key r).length) _ b)
    rw [List.length_append, ← Nat.add_assoc pos]
    rfl
/-- A block's parts. -/
theorem blk_parts {l : List EntV} (h1 : 1 ≤ l.length) (h4 : l.length ≤ 400) : lastN (blkB l) = eig 0 l ∧ bodyN (blkB l) = enEs 0 [] l ∧ plcN (blkB l) = enTl 0 0 [] l := by
  have hT := enTl_len l 0 0 []
  have he1 := eig_le l 0
  have he2 := eig_pos h1
  have hlen : (blkB l).length = (enEs 0 [] l).length + 4 * eig 0 l + 4 := by
    unfold blkB
    rw [List.length_append, List.length_append, fx_length, hT]
    omega
  have hlast : lastN (blkB l) = eig 0 l := by
    unfold lastN
    have e1 : (blkB l).drop ((blkB l).length - 4) = fx (eig 0 l) 4 := by
      rw [hlen]
      unfold blkB
      rw [hT, show 4 * eig 0 l / 4 = eig 0 l by omega, ← List.append_assoc]
      exact List.drop_left' (by rw [List.length_append, hT]; omega)
    rw [e1]
    have := fv_four (n := eig 0 l) (by omega) [] (fun x hx => by cases hx)
    simpa using this
  refine ⟨hlast, ?_, ?_⟩
  · unfold bodyN
    rw [hlast, hlen, show (enEs 0 [] l).length + 4 * eig 0 l + 4 - 4 - 4 * eig 0 l = (enEs 0 [] l).length by omega]
    unfold blkB
    exact List.take_left' rfl
  · unfold plcN
    rw [hlast, hlen, show (enEs 0 [] l).length + 4 * eig 0 l + 4 - 4 - 4 * eig 0 l = (enEs 0 [] l).length by omega]
    unfold blkB
    rw [List.drop_left' rfl]
    exact List.take_left' hT
/-- Where a restart begins. -/
def offK (l : List EntV) (i : Nat) : Nat := (enEs 0 [] (l.take (8 * i))).length
theorem plc_at {l : List EntV} {i : Nat} (hi : 8 * i < l.length) : ∃ t, Okb t ∧ (enTl 0 0 [] l).drop (4 * i) = fx (offK l i) 4 ++ t := by
  have e := enTl_app (l.take (8 * i)) 0 0 [] (l.drop (8 * i))
  rw [List.take_append_drop, List.length_take, Nat.min_eq_left (by omega), Nat.zero_add, Nat.zero_add] at e
  have hl : (enTl 0 0 [] (l.take (8 * i))).length = 4 * i := by
    rw [enTl_len, eig_eq, List.length_take]
    omega
  obtain ⟨x, r, hx⟩ : ∃ x r, l.drop (8 * i) = x :: r := by
    cases h : l.drop (8 * i) with
    | nil =>
      have := congrArg List.length h
      rw [List.length_drop] at this
      simp at this
      omega
    | cons x r => exact ⟨x, r, rfl⟩
  refine ⟨_, okb_enTl (l := r) (i := 8 * i + 1) (pos := offK l i + (enE (shI (8 * i) x.key (lastK [] (l.take (8 * i)))) x).length) (prev := x.key), ?_⟩
  rw [e, List.drop_left' hl, hx]
  show (if 8 * i % 8 = 0 then fx (offK l i) 4 else []) ++ enTl (8 * i + 1) (offK l i + (enE (shI (8 * i) x.key (lastK [] (l.take (8 * i)))) x).length) x.key r = _
  rw [if_pos (by omega)]
theorem body_at {l : List EntV} {i : Nat} (hi : 8 * i ≤ l.length) : (enEs 0 [] l).drop (offK l i) = enEs (8 * i) (lastK [] (l.take (8 * i))) (l.drop (8 * i)) := by
  have e := enEs_app (l.take (8 * i)) 0 [] (l.drop (8 * i))
  rw [List.take_append_drop, List.length_take, Nat.min_eq_left (by omega), Nat.zero_add] at e
  rw [e]
  exact List.drop_left' rfl
theorem off_le {l : List EntV} {i : Nat} : offK l i ≤ (enEs 0 [] l).length := by
  have e := enEs_app (l.take (8 * i)) 0 [] (l.drop (8 * i))
  rw [List.take_append_drop] at e
  rw [e, List.length_append]
  unfold offK
  omega
/-- An entry is taken as it was put. -/
theorem tE_en {prev : List Int} {e : EntV} {n : Nat} {t : List Int} (hn : n ≤ prev.length) (hk : n ≤ e.key.length) (hp : prev.length ≤ 512) (hsh : prev.take n = e.key.take n) (h : mayE e = true) (ho : OkE e) (ht : Okb t) : tE prev (enE n e ++ t) = (0, e, t) := by
  obtain ⟨h1, h2⟩ := deE1_en hn hk hp hsh h ho ht
  obtain ⟨a1, a2⟩ := tE_de hp h1
  rw [h2] at a1 a2
  have h0 := a1.2 rfl
  obtain ⟨b1, b2⟩ := a2 h0
  simp only [Prod.mk.injEq] at b2
  refine Prod.ext h0 (Prod.ext b1 b2.1.symm)
theorem tE_next {o : List Int} {p : List Int} {j : Nat} {e : EntV} {r : List EntV} (hj : j % 8 = 0 ∨ o = p) (hp : o.length ≤ 512) (h : mayE e = true) (ho : OkE e) (hr : ∀ x ∈ r, OkE x) : tE o (enEs j p (e :: r)) = (0, e, enEs (j + 1) e.key r) := by
  show tE o (enE (shI j e.key p) e ++ enEs (j + 1) e.key r) = _
  have ht := okb_enEs (i := j + 1) (prev := e.key) hr
  rcases hj with q | q
  · have hz : shI j e.key p = 0 := by unfold shI; rw [if_pos q]
    rw [hz]
    exact tE_en (Nat.zero_le _) (Nat.zero_le _) hp (by simp) h ho ht
  · subst q
    have hs := shI_ok j e.key o
    exact tE_en hs.1 hs.2.1 hp hs.2.2 h ho ht
theorem skE_ahK (l : List EntV) (key : List Int) (s : Int) : skE l key s = l.find? fun e => !ahK e key s := by
  unfold skE
  congr 1
  funext e
  unfold ahK
  have := cmp_vals e.key key
  rw [Bool.eq_iff_iff]
  simp only [decide_eq_true_eq, Bool.not_eq_true', decide_eq_false_iff_not]
  omega
theorem ahK_before {a b : EntV} {key : List Int} {s : Int} (h : ahead a b < 0) (hb : ahK b key s = true) : ahK a key s = true := by
  have h1 := ahK_ahead b ⟨key, s, false, 0, []⟩
  have h2 := ahK_ahead a ⟨key, s, false, 0, []⟩
  exact h2.2 (ahead_trans h (h1.1 hb))
theorem skE_from {l : List EntV} {key : List Int} {s : Int} {k : Nat} (ho : ordE l) (hk : k < l.length) (h : ahK l[k] key s = true) : skE l key s = skE (l.drop k) key s := by
  rw [skE_ahK, skE_ahK]
  have e : l = l.take k ++ l.drop k := (List.take_append_drop k l).symm
  conv => lhs; rw [e]
  rw [List.find?_append]
  have hn : (l.take k).find? (fun e => !ahK e key s) = none := by
    rw [List.find?_eq_none]
    intro x hx
    obtain ⟨j, hj, rfl⟩ := List.getElem_of_mem hx
    rw [List.getElem_take]
    have hjk : j < k := by rw [List.length_take] at hj; omega
    have hp : ahead l[j] l[k] < 0 := List.pairwise_iff_getElem.1 ho j k (by omega) hk hjk
    rw [ahK_before hp h]
    decide
  rw [hn]
  rfl
end Go.Proofs.Ytimpaindbbjieaa

/- Tables, on lists: how the program finds entries in blocks. -/
namespace Go.Proofs.Ytimpaindbbjieaa
set_option linter.unusedVariables false
set_option linter.unusedSimpArgs false

theorem skE_app (a b : List EntV) (key : List Int) (s : Int) : skE (a ++ b) key s = (skE a key s).or (skE b key s) := by
  unfold skE
  rw [List.find?_append]
/-- The blocks from the first one on that has an entry which is not ahead. -/
def frB (bs : List (List EntV)) (key : List Int) (s : Int) : List (List EntV) := bs.dropWhile fun c => (skE c key s).isNone
theorem skE_flat : ∀ (bs : List (List EntV)) (key : List Int) (s : Int), skE bs.flatten key s = (frB bs key s).head?.bind fun c => skE c key s
  | [], key, s => rfl
  | c :: r, key, s => by
    rw [List.flatten_cons, skE_app]
    unfold frB
    rw [List.dropWhile_cons]
    cases h : skE c key s with
    | none =>
      simp only [Option.isNone_none, if_true]
      rw [skE_flat r key s]
      rfl
    | some e =>
      simp [h]
theorem cmp_le_lt {a b c : List Int} (h1 : ¬ 0 < cmp a b) (h2 : cmp b c < 0) : cmp a c < 0 := by
  have hv := cmp_vals a b
  by_cases q : cmp a b = 0
  · rw [cmp_zero.1 q]; exact h2
  · exact cmp_trans (by omega) h2
theorem ahead_keyT {a b : EntV} (h : ahead a b < 0) : ¬ 0 < cmp a.key b.key := by
  unfold ahead at h
  split at h
  · omega
  · rename_i q; simp only [ne_eq, Classical.not_not] at q; omega
theorem last_ge : ∀ {l : List EntV} {prev : List Int}, ordE l → ∀ {e : EntV}, e ∈ l → ¬ 0 < cmp e.key (lastK prev l)
  | [], prev, h, e, he => by cases he
  | [a], prev, h, e, he => by
    rw [List.mem_singleton.1 he]
    show ¬ 0 < cmp a.key a.key
    rw [cmp_refl]
    omega
  | a :: b :: r, prev, h, e, he => by
    show ¬ 0 < cmp e.key (lastK a.key (b :: r))
    rcases List.mem_cons.1 he with q | q
    · obtain ⟨x, hx, hk⟩ := lastK_mem (c := b :: r) (prev := a.key) (by simp)
      rw [hk, q]
      exact ahead_keyT ((List.pairwise_cons.1 h).1 x hx)
    · exact last_ge (List.pairwise_cons.1 h).2 q
/-- What the search asks of a block. -/
def fndK (c : List EntV) (key : List Int) (s : Int) : Bool := if cmp (lastK [] c) key ≠ 0 then decide (0 < cmp (lastK [] c) key) else (skE c key s).isSome
theorem fndK_is {c : List EntV} {key : List Int} {s : Int} (hc : c ≠ []) (ho : ordE c) : fndK c key s = (skE c key s).isSome := by
  unfold fndK
  split
  · rename_i q
    obtain ⟨e, he, hk⟩ := lastK_mem (prev := []) hc
    by_cases z : 0 < cmp (lastK [] c) key
    · rw [decide_eq_true z]
      symm
      unfold skE
      rw [List.find?_isSome]
      exact ⟨e, he, by rw [decide_eq_true_eq, ← hk]; exact .inl z⟩
    · rw [decide_eq_false z]
      symm
      unfold skE
      rw [← Bool.not_eq_true, List.find?_isSome]
      rintro ⟨x, hx, hp⟩
      rw [decide_eq_true_eq] at hp
      have := cmp_le_lt (last_ge ho hx) (show cmp (lastK [] c) key < 0 by have := cmp_vals (lastK [] c) key; omega)
      omega
  · rfl
/-- Behind a block that has one, all have. -/
theorem fnd_mono : ∀ {bs : List (List EntV)} {key : List Int} {s : Int}, (∀ c ∈ bs, c ≠ []) → ordE bs.flatten → ∀ {i j : Nat} {c d : List EntV}, i ≤ j → bs[i]? = some c → bs[j]? = some d → (skE c key s).isSome = true → (skE d key s).isSome = true := fun {bs key s} hne ho i j c d hij hc hd hs => by
  rcases Nat.lt_or_ge i j with q | q
  · unfold skE at hs ⊢
    rw [List.find?_isSome] at hs ⊢
    obtain ⟨e, he, hp⟩ := hs
    obtain ⟨hj, hdj⟩ := List.getElem?_eq_some_iff.1 hd
    obtain ⟨hi, hci⟩ := List.getElem?_eq_some_iff.1 hc
    have hdne := hne d (by rw [← hdj]; exact List.getElem_mem hj)
    obtain ⟨x, hx⟩ := List.exists_mem_of_ne_nil d hdne
    refine ⟨x, hx, ?_⟩
    have hah : ahead e x < 0 := by
      have hw : ordE bs.flatten := ho
      unfold ordE at hw
      rw [List.pairwise_flatten] at hw
      have := List.pairwise_iff_getElem.1 hw.2 i j hi hj q
      exact this e (by rw [hci]; exact he) x (by rw [hdj]; exact hx)
    rw [decide_eq_true_eq] at hp ⊢
    rcases Classical.em (ahK x key s = true) with z | z
    · have := ahK_before hah z
      unfold ahK at this
      rw [decide_eq_true_eq] at this
      omega
    · unfold ahK at z
      rw [decide_eq_true_eq] at z
      have := cmp_vals x.key key
      omega
  · have : i = j := by omega
    subst this
    rw [hc] at hd
    cases hd
    exact hs
theorem frB_drop : ∀ {bs : List (List EntV)} {key : List Int} {s : Int} {n : Nat}, n ≤ bs.length → (∀ i c, i < n → bs[i]? = some c → (skE c key s).isSome = false) → (∀ c, bs[n]? = some c → (skE c key s).isSome = true) → frB bs key s = bs.drop n
  | [], key, s, 0, _, _, _ => rfl
  | [], key, s, n + 1, h, _, _ => by simp at h
  | c :: r, key, s, 0, _, _, h2 => by
    have := h2 c rfl
    unfold frB
    rw [List.dropWhile_cons, if_neg (by cases q : skE c key s <;> simp_all)]
    rfl
  | c :: r, key, s, n + 1, h, h1, h2 => by
    have := h1 0 c (by omega) rfl
    have ih := frB_drop (bs := r) (key := key) (s := s) (n := n) (by simp at h; omega) (fun i d hi hd => h1 (i + 1) d (by omega) (by simpa using hd)) (fun d hd => h2 d (by simpa using hd))
    unfold frB at ih ⊢
    rw [List.dropWhile_cons, if_pos (by cases q : skE c key s <;> simp_all), ih]
    rfl
theorem listE_app (a b : List EntV) (fr ub : List Int) : listE (a ++ b) fr ub = listE a fr ub ++ listE b fr ub := List.filter_append ..
theorem listE_fr {fr ub : List Int} {s : Int} : ∀ {bs : List (List EntV)}, (∀ c ∈ bs, ∀ e ∈ c, e.seq ≤ s) → listE (frB bs fr s).flatten fr ub = listE bs.flatten fr ub
  | [], _ => rfl
  | c :: r, h => by
    unfold frB
    rw [List.dropWhile_cons]
    split
    · rename_i q
      have ih := listE_fr (fr := fr) (ub := ub) (bs := r) (fun x hx => h x (by simp [hx]))
      unfold frB at ih
      rw [ih, List.flatten_cons, listE_app]
      have : listE c fr ub = [] := by
        unfold listE
        rw [List.filter_eq_nil_iff]
        intro e he hi
        unfold inE at hi
        rw [decide_eq_true_eq] at hi
        have hn : skE c fr s = none := by cases z : skE c fr s <;> simp_all
        unfold skE at hn
        rw [List.find?_eq_none] at hn
        have h1 := hn e he
        rw [decide_eq_true_eq] at h1
        have h2 := h c (by simp) e he
        omega
      rw [this]
      rfl
    · rfl
/-- From one that is not ahead of the upper bound on none is listed. -/
theorem listE_stop {d r : List EntV} {e : EntV} {fr ub : List Int} (ho : ordE (d ++ e :: r)) (hu : ub.length ≠ 0) (h : 0 ≤ cmp e.key ub) : listE (d ++ e :: r) fr ub = listE d fr ub := by
  rw [listE_app]
  have : listE (e :: r) fr ub = [] := by
    unfold listE
    rw [List.filter_eq_nil_iff]
    intro x hx hi
    unfold inE at hi
    rw [decide_eq_true_eq] at hi
    have hlt : cmp x.key ub < 0 := by rcases hi.2 with q | q; exact absurd q hu; exact q
    rcases List.mem_cons.1 hx with q | q
    · rw [q] at hlt; omega
    · have h1 : ordE (e :: r) := (List.pairwise_append.1 ho).2.1
      have h2 := ahead_keyT ((List.pairwise_cons.1 h1).1 x q)
      have := cmp_le_lt h2 hlt
      omega
  rw [this, List.append_nil]
theorem skE_least {l : List EntV} {s : Int} (h : ∀ e ∈ l, e.seq ≤ s) : skE l [] s = l.head? := by
  cases l with
  | nil => rfl
  | cons e r =>
    unfold skE
    rw [List.find?_cons_of_pos]
    · rfl
    · rw [decide_eq_true_eq]
      have h1 := cmp_nil e.key
      have h2 := h e (by simp)
      have := cmp_vals e.key []
      omega
theorem getE_sk {l : List EntV} {key : List Int} {s : Int} (ho : ordE l) : getE l key s = (skE l key s).filter fun e => decide (e.key = key) := by
  induction l with
  | nil => rfl
  | cons e r ih =>
    have ho' : ordE r := (List.pairwise_cons.1 ho).2
    unfold getE skE
    rw [List.find?_cons, List.find?_cons]
    have hv := cmp_vals e.key key
    have hz : cmp e.key key = 0 ↔ e.key = key := cmp_zero
    by_cases q : cmp e.key key = 0 ∧ e.seq ≤ s
    · rw [decide_eq_true q, decide_eq_true (.inr q)]
      simp [Option.filter, hz.1 q.1]
    · rw [decide_eq_false q]
      by_cases p : 0 < cmp e.key key
      · rw [decide_eq_true (.inl p)]
        have hne : ¬ e.key = key := fun z => by have := hz.2 z; omega
        simp only [Option.filter, hne, decide_false]
        rw [List.find?_eq_none.2]
        · rfl
        · intro x hx hp
          rw [decide_eq_true_eq] at hp
          have h1 := ahead_keyT ((List.pairwise_cons.1 ho).1 x hx)
          rw [cmp_zero.1 hp.1] at h1
          exact h1 p
      · rw [decide_eq_false (fun z => by rcases z with z | z; exact p z; exact q z)]
        exact ih ho'
theorem lastK_app : ∀ (a : List EntV) (p : List Int) (b : List EntV), lastK p (a ++ b) = lastK (lastK p a) b
  | [], p, b => rfl
  | e :: r, p, b => lastK_app r e.key b
theorem lastK_ne {b : List EntV} {p q : List Int} (h : b ≠ []) : lastK p b = lastK q b := by
  cases b with
  | nil => exact absurd rfl h
  | cons e r => rfl
theorem rowsB_last : ∀ {bs : List (List EntV)} {pos : Nat} {r : RowV}, (∀ c ∈ bs, c ≠ []) → (rowsB pos bs).getLast? = some r → r.last = lastK [] bs.flatten
  | [], pos, r, _, h => by cases h
  | [c], pos, r, _, h => by
    simp [rowsB] at h
    rw [← h]
    simp
  | c :: d :: t, pos, r, hn, h => by
    have h' : (rowsB (pos + (blkB c).length + 4) (d :: t)).getLast? = some r := by
      rw [← h]
      show _ = (_ :: rowsB _ (d :: t)).getLast?
      rw [List.getLast?_cons_of_ne_nil]
      show _ :: _ ≠ []
      simp
    rw [rowsB_last (fun x hx => hn x (by simp at hx ⊢; exact .inr hx)) h', show (c :: d :: t).flatten = c ++ (d :: t).flatten from rfl, lastK_app c]
    refine lastK_ne ?_
    have := hn d (by simp)
    simp [this]
theorem rowsB_at : ∀ {bs : List (List EntV)} {pos i : Nat} {c : List EntV}, bs[i]? = some c → ∃ q, (rowsB pos bs)[i]? = some ⟨(q, (blkB c).length), lastK [] c⟩ ∧ q + (blkB c).length + 4 ≤ pos + (bodT bs).length
  | [], pos, i, c, h => by simp at h
  | d :: t, pos, 0, c, h => by
    simp at h
    subst h
    exact ⟨pos, rfl, by rw [bodT_cons, List.length_append, sm_len]; omega⟩
  | d :: t, pos, i + 1, c, h => by
    obtain ⟨q, h1, h2⟩ := rowsB_at (bs := t) (pos := pos + (blkB d).length + 4) (i := i) (c := c) (by simpa using h)
    exact ⟨q, by simpa [rowsB] using h1, by rw [bodT_cons, List.length_append, sm_len]; omega⟩
/-- A block of a table: its row, its bytes, what Decode takes of them. -/
theorem tbl_block {l : List EntV} (h : tblE l = 0) (ho : ∀ e ∈ l, OkE e) {i : Nat} {c : List EntV} (hc : (cutT l)[i]? = some c) :
    ∃ q, (rowsT l)[i]? = some ⟨(q, (blkB c).length), lastK [] c⟩ ∧ q + (blkB c).length + 4 ≤ (tblB l).length ∧ ((tblB l).drop q).take (blkB c).length = blkB c ∧ tkEL (blkB c) = 0 ∧ tkBL (blkB c) = c ∧ tkB (blkB c) = c ∧ c ≠ [] ∧ ordE c ∧ Okb (lastK [] c) ∧ (∀ e ∈ c, e ∈ l) := by
  obtain ⟨h1, h2, h3, h4, h5⟩ := tblE_ok h
  have hcm : c ∈ cutT l := List.mem_of_getElem? hc
  have hblk := cutT_blk h3 h4 c hcm
  have hcne := cutB_ne l 0 [] c hcm
  obtain ⟨q, q1, q2⟩ := rowsB_at (pos := 0) hc
  obtain ⟨r1, r2, r3, r4, r5⟩ := read_tbl h ho
  have hlen := tbl_len l
  obtain ⟨t1, t2⟩ := tk_of_blk hblk.1 (fun e he => ho e (hblk.2 e he))
  obtain ⟨u1, u2⟩ := tkL (blkB c)
  refine ⟨q, q1, by omega, ?_, u1.2 t1, by rw [u2, t2], t2, hcne, (blkE_ok hblk.1).2.2.2, ?_, hblk.2⟩
  · have e : (((rowsT l).map (·.sp)).map (ofS (tblB l)))[i]? = ((cutT l).map blkB)[i]? := by rw [r4]
    rw [List.getElem?_map, List.getElem?_map, List.getElem?_map, hc, show (rowsT l)[i]? = _ from q1] at e
    simpa [ofS] using e
  · obtain ⟨e, he, hk⟩ := lastK_mem (prev := []) hcne
    rw [hk]
    exact (ho e (hblk.2 e he)).1
end Go.Proofs.Ytimpaindbbjieaa

/- What the landed batch takes from bytes: a number, bytes, a kind. -/
namespace Go.Proofs.Ytimpaindbbjieaa
open Go.RowKit
set_option linter.unusedVariables false
set_option linter.unusedSimpArgs false

end Go.Proofs.Ytimpaindbbjieaa
