/- Keys in order, each with its entries: what a skip list holds, told purely. -/
import Derived.Test.YtaefddnmldbgiabDoorMpur
namespace Go.Proofs.YtaefddnmldbgiabDoor
set_option linter.unusedVariables false
set_option linter.unusedSimpArgs false

/-- An entry of a key: its block, what it holds. -/
structure Vr where
  b : Nat
  seq : Int
  gone : Bool
  till : Int
  vv : Value
  val : List Int
/-- A key: its block, its bytes, its height, its entries by number. -/
structure Nd where
  b : Nat
  key : List Int
  kv : Value
  h : Nat
  vs : List Vr
  rv : Value
def Vr.ent (k : List Int) (v : Vr) : EntV := ⟨k, v.seq, v.gone, v.till, v.val⟩
def Nd.ents (n : Nd) : List EntV := (n.vs.map (Vr.ent n.key)).reverse
def flat (ns : List Nd) : List EntV := ns.flatMap Nd.ents
theorem flat_app (a b : List Nd) : flat (a ++ b) = flat a ++ flat b := by simp [flat]
theorem flat_cons (n : Nd) (b : List Nd) : flat (n :: b) = n.ents ++ flat b := by simp [flat]
theorem flat_nil : flat [] = [] := rfl
theorem ents_key {n : Nd} {e : EntV} (h : e ∈ n.ents) : e.key = n.key ∧ ∃ v ∈ n.vs, e = v.ent n.key := by
  unfold Nd.ents at h
  rw [List.mem_reverse, List.mem_map] at h
  obtain ⟨v, hv, rfl⟩ := h
  exact ⟨rfl, v, hv, rfl⟩
theorem flat_key {ns : List Nd} {e : EntV} (h : e ∈ flat ns) : ∃ n ∈ ns, e ∈ n.ents ∧ e.key = n.key := by
  unfold flat at h
  rw [List.mem_flatMap] at h
  obtain ⟨n, hn, he⟩ := h
  exact ⟨n, hn, he, (ents_key he).1⟩
/-- Keys rise, and the numbers of each. -/
def ordN (ns : List Nd) : Prop := ns.Pairwise (fun a b => cmp a.key b.key < 0) ∧ ∀ n ∈ ns, n.vs.Pairwise fun a b => a.seq < b.seq
/-- Where an entry stands between others. -/
theorem put_split {X Y : List EntV} {e : EntV} (h1 : ∀ x ∈ X, ahead x e < 0) (h2 : ∀ y ∈ Y, 0 < ahead y e) : putE (X ++ Y) e = X ++ e :: Y ∧ hasE (X ++ Y) e = false := by
  have ha : atE (X ++ Y) e = X.length := by
    induction X with
    | nil =>
      cases Y with
      | nil => rfl
      | cons y Y => exact atE_cons_ge (by have := h2 y (by simp); omega)
    | cons x X ih =>
      rw [List.cons_append, atE_cons_lt (h1 x (by simp)), ih (fun x hx => h1 x (by simp [hx]))]
      rfl
  refine ⟨?_, ?_⟩
  · unfold putE
    rw [ha]
    simp
  · unfold hasE
    rw [List.any_eq_false]
    intro x hx
    rcases List.mem_append.1 hx with q | q
    · have := h1 x q; simp; omega
    · have := h2 x q; simp; omega
theorem ahead_keylt {a b : EntV} (h : cmp a.key b.key < 0) : ahead a b < 0 := by
  unfold ahead
  rw [if_pos (by omega)]
  exact h
theorem ahead_keygt {a b : EntV} (h : 0 < cmp a.key b.key) : 0 < ahead a b := by
  unfold ahead
  rw [if_pos (by omega)]
  exact h
theorem ahead_samekey {a b : EntV} (h : a.key = b.key) : (b.seq < a.seq → ahead a b < 0) ∧ (a.seq < b.seq → 0 < ahead a b) := by
  unfold ahead
  rw [h, if_neg (by rw [cmp_refl]; omega)]
  constructor
  · intro q; rw [if_pos q]; omega
  · intro q; rw [if_neg (by omega), if_pos q]; omega
/-- A new key. -/
theorem flat_new {A B : List Nd} {n : Nd} {v : Vr} (hA : ∀ a ∈ A, cmp a.key n.key < 0) (hB : ∀ b ∈ B, 0 < cmp b.key n.key) (hn : n.vs = [v]) : flat (A ++ n :: B) = putE (flat (A ++ B)) (v.ent n.key) ∧ hasE (flat (A ++ B)) (v.ent n.key) = false := by
  have := put_split (X := flat A) (Y := flat B) (e := v.ent n.key) (fun x hx => by
      obtain ⟨a, ha, he, hk⟩ := flat_key hx
      exact ahead_keylt (by rw [hk]; exact hA a ha)) (fun x hx => by
      obtain ⟨a, ha, he, hk⟩ := flat_key hx
      exact ahead_keygt (by rw [hk]; exact hB a ha))
  rw [flat_app A B, this.1, flat_app, flat_cons]
  refine ⟨?_, this.2⟩
  simp [Nd.ents, hn]
/-- One more of a key that is there. -/
theorem flat_more {A B : List Nd} {n n' : Nd} {P S : List Vr} {v : Vr} (hA : ∀ a ∈ A, cmp a.key n.key < 0) (hB : ∀ b ∈ B, 0 < cmp b.key n.key) (hn : n.vs = P ++ S) (hk' : n'.key = n.key) (hn' : n'.vs = P ++ v :: S) (hP : ∀ p ∈ P, p.seq < v.seq) (hS : ∀ p ∈ S, v.seq < p.seq) :
    flat (A ++ n' :: B) = putE (flat (A ++ n :: B)) (v.ent n.key) ∧ hasE (flat (A ++ n :: B)) (v.ent n.key) = false := by
  have e1 : flat (A ++ n :: B) = (flat A ++ (S.map (Vr.ent n.key)).reverse) ++ ((P.map (Vr.ent n.key)).reverse ++ flat B) := by
    rw [flat_app, flat_cons]
    simp [Nd.ents, hn]
  have e2 : flat (A ++ n' :: B) = (flat A ++ (S.map (Vr.ent n.key)).reverse) ++ v.ent n.key :: ((P.map (Vr.ent n.key)).reverse ++ flat B) := by
    rw [flat_app, flat_cons]
    simp [Nd.ents, hn', hk']
  rw [e1, e2]
  have := put_split (X := flat A ++ (S.map (Vr.ent n.key)).reverse) (Y := (P.map (Vr.ent n.key)).reverse ++ flat B) (e := v.ent n.key) (fun x hx => by
      rcases List.mem_append.1 hx with q | q
      · obtain ⟨a, ha, he, hk⟩ := flat_key q
        exact ahead_keylt (by rw [hk]; exact hA a ha)
      · rw [List.mem_reverse, List.mem_map] at q
        obtain ⟨p, hp, rfl⟩ := q
        exact (ahead_samekey (a := p.ent n.key) (b := v.ent n.key) rfl).1 (hS p hp)) (fun x hx => by
      rcases List.mem_append.1 hx with q | q
      · rw [List.mem_reverse, List.mem_map] at q
        obtain ⟨p, hp, rfl⟩ := q
        exact (ahead_samekey (a := p.ent n.key) (b := v.ent n.key) rfl).2 (hP p hp)
      · obtain ⟨a, ha, he, hk⟩ := flat_key q
        exact ahead_keygt (by rw [hk]; exact hB a ha))
  exact ⟨this.1.symm, this.2⟩
theorem flat_has {A B : List Nd} {n : Nd} {v : Vr} {e : EntV} (hv : v ∈ n.vs) (hk : e.key = n.key) (hs : e.seq = v.seq) : hasE (flat (A ++ n :: B)) e = true := by
  unfold hasE
  rw [List.any_eq_true]
  refine ⟨v.ent n.key, ?_, ?_⟩
  · rw [flat_app, flat_cons]
    exact List.mem_append.2 (.inr (List.mem_append.2 (.inl (by unfold Nd.ents; rw [List.mem_reverse]; exact List.mem_map.2 ⟨v, hv, rfl⟩))))
  · simp only [decide_eq_true_eq]
    exact ahead_zero.2 ⟨hk.symm, hs.symm⟩
theorem wts_flat_put (l : List EntV) (e : EntV) : wts (putE l e) = wts l + wtE e := by
  have : ∀ a b : List EntV, wts (a ++ e :: b) = wts (a ++ b) + wtE e := fun a b => by
    rw [wts_app, wts_app, wts]
    omega
  unfold putE
  rw [this, List.take_append_drop]
/-- Where a number stands among a key's. -/
def plc (vs : List Vr) (s : Int) : Nat := (vs.takeWhile fun v => v.seq < s).length
def the (vs : List Vr) (s : Int) : Bool := match vs[plc vs s]? with
  | some v => decide (v.seq = s)
  | none => false
/-- The newest that is not newer. -/
def atO (vs : List Vr) (s : Int) : Option Vr := if the vs s = true then vs[plc vs s]? else if plc vs s = 0 then none else vs[plc vs s - 1]?
theorem plc_le (vs : List Vr) (s : Int) : plc vs s ≤ vs.length := (List.takeWhile_prefix _).length_le
theorem plc_take (vs : List Vr) (s : Int) : vs.take (plc vs s) = vs.takeWhile fun v => v.seq < s := by
  unfold plc
  conv => lhs; arg 2; rw [← List.takeWhile_append_dropWhile (p := fun v : Vr => decide (v.seq < s)) (l := vs)]
  rw [List.take_left']
  rfl
theorem mem_tw {p : Vr → Bool} : ∀ {l : List Vr} {v : Vr}, v ∈ l.takeWhile p → p v = true
  | [], v, h => by simp at h
  | x :: r, v, h => by
    rw [List.takeWhile_cons] at h
    split at h
    · rcases List.mem_cons.1 h with e | e
      · subst e; assumption
      · exact mem_tw e
    · simp at h
theorem plc_before {vs : List Vr} {s : Int} : ∀ v ∈ vs.take (plc vs s), v.seq < s := fun v hv => by
  rw [plc_take] at hv
  have := mem_tw hv
  simpa using this
theorem plc_at {vs : List Vr} {s : Int} {v : Vr} (h : vs[plc vs s]? = some v) : s ≤ v.seq := by
  have hi := (List.getElem?_eq_some_iff.1 h).1
  have e : vs.takeWhile (fun v => v.seq < s) ++ vs.dropWhile (fun v => v.seq < s) = vs := List.takeWhile_append_dropWhile
  have h2 : (vs.dropWhile fun v => v.seq < s)[0]? = some v := by
    have := h
    rw [← e] at this
    rw [List.getElem?_append_right (by unfold plc; rw [e]; exact Nat.le_refl _)] at this
    rw [e] at this
    unfold plc at this
    simpa using this
  cases hd : vs.dropWhile (fun v => v.seq < s) with
  | nil => rw [hd] at h2; simp at h2
  | cons y ys =>
    rw [hd] at h2
    obtain rfl : y = v := by simpa using h2
    have := List.head_dropWhile_not (p := fun v : Vr => decide (v.seq < s)) (l := vs) (by rw [hd]; simp)
    simp only [hd, List.head_cons, decide_eq_false_iff_not] at this
    omega
theorem plc_after {vs : List Vr} (ho : vs.Pairwise fun a b => a.seq < b.seq) {s : Int} : ∀ v ∈ vs.drop (plc vs s), s ≤ v.seq := fun v hv => by
  obtain ⟨j, hj, rfl⟩ := List.getElem_of_mem hv
  rw [List.length_drop] at hj
  rw [List.getElem_drop]
  have h0 : plc vs s < vs.length := by omega
  have h1 := plc_at (s := s) (List.getElem?_eq_getElem h0)
  rcases Nat.eq_zero_or_pos j with q | q
  · subst q; simpa using h1
  · have := List.pairwise_iff_getElem.1 ho _ _ h0 (by omega : plc vs s + j < vs.length) (by omega)
    omega
/-- Found by the place alone. -/
theorem plc_eq {vs : List Vr} (ho : vs.Pairwise fun a b => a.seq < b.seq) {s : Int} {i : Nat} (hi : i ≤ vs.length) (h1 : ∀ j (hj : j < vs.length), j < i → vs[j].seq < s) (h2 : ∀ j (hj : j < vs.length), i ≤ j → s ≤ vs[j].seq) : plc vs s = i := by
  have hl := plc_le vs s
  rcases Nat.lt_trichotomy (plc vs s) i with q | q | q
  · have a := h1 (plc vs s) (by omega) q
    have b := plc_at (s := s) (List.getElem?_eq_getElem (by omega : plc vs s < vs.length))
    omega
  · exact q
  · have a := h2 i (by omega) (Nat.le_refl _)
    have b := plc_before (vs := vs) (s := s) vs[i] (List.mem_take_iff_getElem.2 ⟨i, by omega, rfl⟩)
    omega
theorem the_false {vs : List Vr} (ho : vs.Pairwise fun a b => a.seq < b.seq) {s : Int} (h : the vs s = false) : ∀ v ∈ vs.drop (plc vs s), s < v.seq := fun v hv => by
  obtain ⟨j, hj, rfl⟩ := List.getElem_of_mem hv
  rw [List.length_drop] at hj
  rw [List.getElem_drop]
  have h0 : plc vs s < vs.length := by omega
  have h1 := plc_at (s := s) (List.getElem?_eq_getElem h0)
  unfold the at h
  rw [List.getElem?_eq_getElem h0] at h
  have h2 : vs[plc vs s].seq ≠ s := by simpa using h
  rcases Nat.eq_zero_or_pos j with q | q
  · subst q; simp only [Nat.add_zero]; omega
  · have := List.pairwise_iff_getElem.1 ho _ _ h0 (by omega : plc vs s + j < vs.length) (by omega)
    omega
theorem the_true {vs : List Vr} {s : Int} (h : the vs s = true) : ∃ v, vs[plc vs s]? = some v ∧ v.seq = s := by
  unfold the at h
  split at h
  · exact ⟨_, by assumption, by simpa using h⟩
  · cases h
theorem find_split {P S : List Vr} {s : Int} {k : List Int} (h1 : ∀ p ∈ P, p.seq ≤ s) (h2 : ∀ p ∈ S, s < p.seq) : (((P ++ S).map (Vr.ent k)).reverse.find? fun e => decide (e.seq ≤ s)) = P.getLast?.map (Vr.ent k) := by
  rw [List.map_append, List.reverse_append, List.find?_append]
  have : (S.map (Vr.ent k)).reverse.find? (fun e => decide (e.seq ≤ s)) = none := by
    rw [List.find?_eq_none]
    intro x hx
    rw [List.mem_reverse, List.mem_map] at hx
    obtain ⟨p, hp, rfl⟩ := hx
    have hq : ¬ p.seq ≤ s := by have := h2 p hp; omega
    first | exact (fun e => hq (of_decide_eq_true e)) | exact decide_eq_false hq
  rw [this, Option.none_or, ← List.map_reverse]
  rcases List.eq_nil_or_concat P with rfl | ⟨P', p, rfl⟩
  · simp
  · have := h1 p (by simp)
    simp [Vr.ent, this]
theorem find_at {vs : List Vr} (ho : vs.Pairwise fun a b => a.seq < b.seq) (s : Int) (k : List Int) : (((vs.map (Vr.ent k)).reverse).find? fun e => decide (e.seq ≤ s)) = (atO vs s).map (Vr.ent k) := by
  unfold atO
  by_cases q : the vs s = true
  · rw [if_pos q]
    obtain ⟨v, hv, hs⟩ := the_true q
    have hl := (List.getElem?_eq_some_iff.1 hv).1
    have e : vs = vs.take (plc vs s + 1) ++ vs.drop (plc vs s + 1) := (List.take_append_drop _ _).symm
    conv => lhs; rw [e]
    rw [find_split (fun p hp => ?_) (fun p hp => ?_)]
    · rw [List.take_add_one, hv]
      simp
    · rw [List.take_add_one, hv] at hp
      rcases List.mem_append.1 hp with a | a
      · have := plc_before p a; omega
      · obtain rfl : p = v := by simpa using a
        omega
    · obtain ⟨j, hj, rfl⟩ := List.getElem_of_mem hp
      rw [List.length_drop] at hj
      rw [List.getElem_drop]
      have := List.pairwise_iff_getElem.1 ho (plc vs s) (plc vs s + 1 + j) hl (by omega) (by omega)
      have e2 : vs[plc vs s] = v := (List.getElem?_eq_some_iff.1 hv).2
      rw [e2] at this
      omega
  · rw [if_neg q]
    have q' : the vs s = false := by simpa using q
    have e : vs = vs.take (plc vs s) ++ vs.drop (plc vs s) := (List.take_append_drop _ _).symm
    conv => lhs; rw [e]
    rw [find_split (fun p hp => by have := plc_before p hp; omega) (the_false ho q')]
    have hl := plc_le vs s
    by_cases z : plc vs s = 0
    · rw [if_pos z, z]; simp
    · rw [if_neg z, List.getLast?_eq_getElem?, List.length_take, List.getElem?_take, if_pos (by omega), Nat.min_eq_left hl]
theorem atO_mem {vs : List Vr} {s : Int} {v : Vr} (h : atO vs s = some v) : v ∈ vs := by
  unfold atO at h
  split at h
  · exact List.mem_of_getElem? h
  · split at h
    · cases h
    · exact List.mem_of_getElem? h
end Go.Proofs.YtaefddnmldbgiabDoor
