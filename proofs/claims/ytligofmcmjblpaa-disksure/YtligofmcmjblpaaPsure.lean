/- What is made sure is there behind every crash: the theory. -/
import Derived.Test.YtligofmcmjblpaaPreads
namespace Go.Proofs.Ytligofmcmjblpaa
open Go.RowKit
set_option linter.unusedVariables false
set_option linter.unusedSimpArgs false

/-- All that stands in the directory is sure, and so is the directory. -/
structure AllSure (σ : DS) : Prop where
  was : σ.was = [σ.dir]
  sure : ∀ e ∈ σ.dir, (σ.fl e.2).2 = (σ.fl e.2).1.length
theorem kept_sure {σ : DS} (h : AllSure σ) (ps : List Int) : σ.kept ps = σ.dir := by
  unfold DS.kept
  have := pick_le ps 0 0
  rw [h.was]
  simp only [List.length_singleton, Nat.sub_self]
  rw [show pick ps 0 0 = 0 by omega]
  rfl
theorem fileQ_sure {fl : Nat → List Int × Nat} {ps : List Int} {e : Ent} {k : Nat} (h : (fl e.2).2 = (fl e.2).1.length) : fileQ fl ps e k = ((fl e.2).1, (fl e.2).1.length) := by
  have hp := pick_le ps (k + 1) ((fl e.2).1.length - (fl e.2).2)
  unfold fileQ
  rw [show (fl e.2).2 + pick ps (k + 1) ((fl e.2).1.length - (fl e.2).2) = (fl e.2).1.length by omega, List.take_length]
theorem renK_names (nx : Nat) : ∀ (l : List Ent) (j : Nat), (renK nx j l).map (·.1) = l.map (·.1)
  | [], _ => rfl
  | e :: r, j => by simp only [renK, List.map_cons, renK_names nx r]
theorem crash_dir (σ : DS) (ps : List Int) : (σ.crash ps).dir = renK σ.nx 0 (σ.kept ps) := keeps_fst _ _ _ _ _ _
theorem crash_was (σ : DS) (ps : List Int) : (σ.crash ps).was = [renK σ.nx 0 (σ.kept ps)] := by
  show [(keeps σ.fl ps σ.nx 0 (σ.kept ps) σ.fl).1] = _
  rw [keeps_fst]
theorem crash_fl (σ : DS) (ps : List Int) (j : Nat) (e : Ent) (h : (σ.kept ps)[j]? = some e) : (σ.crash ps).fl (σ.nx + j) = fileQ σ.fl ps e j := by
  have := keeps_at σ.fl ps σ.nx (σ.kept ps) 0 σ.fl j e h
  rw [Nat.zero_add] at this
  exact this
theorem renK_get (nx : Nat) (l : List Ent) {e : Ent} (h : e ∈ renK nx 0 l) : ∃ (j : Nat) (x : Ent), l[j]? = some x ∧ e = (x.1, nx + j) := by
  obtain ⟨j, hj, he⟩ := List.getElem_of_mem h
  rw [renK_len] at hj
  have h1 := renK_at nx l 0 j l[j] (List.getElem?_eq_getElem hj)
  rw [List.getElem?_eq_getElem (by rw [renK_len]; exact hj), he, Nat.zero_add] at h1
  exact ⟨j, l[j], List.getElem?_eq_getElem hj, by simpa using h1⟩
/-- Behind every crash all is sure. -/
theorem crash_sure {σ : DS} (hi : Inv σ) (ps : List Int) : AllSure (σ.crash ps) := by
  refine ⟨by rw [crash_was, crash_dir], fun e he => ?_⟩
  rw [crash_dir] at he
  obtain ⟨j, x, hx, rfl⟩ := renK_get _ _ he
  simp only
  rw [crash_fl σ ps j x hx]
  have h1 := hi.fl x.2
  have hp := pick_le ps (j + 1) ((σ.fl x.2).1.length - (σ.fl x.2).2)
  unfold fileQ
  simp only [List.length_take]
  omega
theorem crash_list {σ : DS} (h : AllSure σ) (ho : σ.c.off = false) (ps : List Int) : (σ.crash ps).list = σ.list := by
  have h1 : (σ.crash ps).c.off = false := rfl
  unfold DS.list
  rw [h1, ho, crash_dir, kept_sure h, renK_names]
theorem used_renK {fl g : Nat → List Int × Nat} {nx : Nat} : ∀ (l : List Ent) (k : Nat), (∀ (j : Nat) (e : Ent), l[j]? = some e → (g (nx + (k + j))).1.length = (fl e.2).1.length) → used g (renK nx k l) = used fl l
  | [], _, _ => rfl
  | e :: r, k, h => by
    have h0 := h 0 e rfl
    have h1 := used_renK (fl := fl) (g := g) (nx := nx) r (k + 1) fun j x hx => by
      have := h (j + 1) x (by simpa using hx)
      rw [show k + (j + 1) = k + 1 + j by omega] at this
      exact this
    simp only [renK, used, h1]
    rw [Nat.add_zero] at h0
    rw [h0]
theorem crash_used {σ : DS} (h : AllSure σ) (ps : List Int) : (σ.crash ps).used = σ.used := by
  show used (σ.crash ps).fl (σ.crash ps).dir = used σ.fl σ.dir
  rw [crash_dir, kept_sure h]
  refine used_renK σ.dir 0 fun j e he => ?_
  rw [Nat.zero_add, crash_fl σ ps j e (by rw [kept_sure h]; exact he), fileQ_sure (h.sure e (List.mem_of_getElem? he))]
theorem fnd_renK (nx : Nat) (s : ByteArray) : ∀ (l : List Ent) (k : Nat), (fnd l s = none ∧ fnd (renK nx k l) s = none) ∨ ∃ (j : Nat) (e : Ent), l[j]? = some e ∧ fnd l s = some e.2 ∧ fnd (renK nx k l) s = some (nx + (k + j))
  | [], k => .inl ⟨rfl, rfl⟩
  | e :: r, k => by
    by_cases q : (e.1.toList == s.toList) = true
    · refine .inr ⟨0, e, rfl, ?_, ?_⟩
      · rw [fnd, if_pos q]
      · rw [renK, fnd, if_pos q, Nat.add_zero]
    · rcases fnd_renK nx s r (k + 1) with ⟨h1, h2⟩ | ⟨j, x, h0, h1, h2⟩
      · refine .inl ⟨?_, ?_⟩
        · rw [fnd, if_neg q, h1]
        · rw [renK, fnd, if_neg q, h2]
      · refine .inr ⟨j + 1, x, by simpa using h0, ?_, ?_⟩
        · rw [fnd, if_neg q, h1]
        · rw [renK, fnd, if_neg q, h2, show k + 1 + j = k + (j + 1) by omega]
theorem crash_read {σ : DS} (h : AllSure σ) (ho : σ.c.off = false) (ps : List Int) (s : ByteArray) : (σ.crash ps).read s = σ.read s := by
  have h1 : (σ.crash ps).c.off = false := rfl
  unfold DS.read
  rw [h1, ho, crash_dir, kept_sure h]
  rcases fnd_renK σ.nx s σ.dir 0 with ⟨h2, h3⟩ | ⟨j, e, h0, h2, h3⟩
  · rw [h2, h3]
  · rw [h2, h3, Nat.zero_add]
    simp only
    rw [crash_fl σ ps j e (by rw [kept_sure h]; exact h0), fileQ_sure (h.sure e (List.mem_of_getElem? h0))]

/-- A directory with a name more is, in some order, that name and the others. -/
theorem pt_perm (s : ByteArray) (i : Nat) : ∀ l : List Ent, (pt l s i).Perm ((s, i) :: drp l s)
  | [] => List.Perm.refl _
  | e :: r => by
    rw [pt]
    split
    · next q =>
      have hd : drp (e :: r) s = e :: drp r s := by
        unfold drp
        rw [List.filter_cons, if_pos (by rw [less_ne q]; rfl)]
      rw [hd]
      exact ((pt_perm s i r).cons e).trans (List.Perm.swap _ _ _)
    · exact List.Perm.refl _
theorem drp_sub (l : List Ent) (s : ByteArray) : (drp l s).Sublist l := List.filter_sublist
theorem drp_none {l : List Ent} {s : ByteArray} (h : fnd l s = none) : drp l s = l := by
  induction l with
  | nil => rfl
  | cons e r ih =>
    rw [fnd] at h
    split at h
    · cases h
    · next q =>
      unfold drp at ih ⊢
      rw [List.filter_cons, if_pos (by simpa using q), ih h]
theorem drp_name {l : List Ent} {s : ByteArray} {e : Ent} (h : e ∈ drp l s) : e.1.toList ≠ s.toList := by
  have := (List.mem_filter.1 h).2
  simpa using this
/-- Ids and names are unlike in a directory. -/
structure Nd (nx : Nat) (l : List Ent) : Prop where
  ids : (l.map (·.2)).Nodup
  names : (l.map (·.1.toList)).Nodup
  lt : ∀ e ∈ l, e.2 < nx
theorem Nd.mono {nx nx' : Nat} {l : List Ent} (h : Nd nx l) (hn : nx ≤ nx') : Nd nx' l := ⟨h.ids, h.names, fun e he => Nat.lt_of_lt_of_le (h.lt e he) hn⟩
theorem Nd.drp {nx : Nat} {l : List Ent} (h : Nd nx l) (s : ByteArray) : Nd nx (drp l s) :=
  ⟨List.Nodup.sublist ((drp_sub l s).map _) h.ids, List.Nodup.sublist ((drp_sub l s).map _) h.names, fun e he => h.lt e (mem_drp he)⟩
theorem Nd.pt {nx : Nat} {l : List Ent} (h : Nd nx l) (s : ByteArray) (i : Nat) (hi : i < nx) (hn : ∀ e ∈ l, e.2 ≠ i) : Nd nx (pt l s i) := by
  have hp := pt_perm s i l
  have hd := h.drp s
  refine ⟨(hp.map _).nodup_iff.2 ?_, (hp.map _).nodup_iff.2 ?_, fun e he => ?_⟩
  · rw [List.map_cons, List.nodup_cons]
    refine ⟨fun hm => ?_, hd.ids⟩
    obtain ⟨e, he, h1⟩ := List.mem_map.1 hm
    exact hn e (mem_drp he) h1
  · rw [List.map_cons, List.nodup_cons]
    refine ⟨fun hm => ?_, hd.names⟩
    obtain ⟨e, he, h1⟩ := List.mem_map.1 hm
    exact drp_name he h1
  · rcases mem_pt he with rfl | he
    · exact hi
    · exact h.lt e he
/-- The sum of the first files' lengths. -/
def tot (fl : Nat → List Int × Nat) : Nat → Nat
  | 0 => 0
  | n + 1 => tot fl n + (fl n).1.length
theorem used_tot {fl : Nat → List Int × Nat} : ∀ (nx : Nat) (l : List Ent), (l.map (·.2)).Nodup → (∀ e ∈ l, e.2 < nx) → used fl l ≤ tot fl nx
  | 0, [], _, _ => Nat.le_refl 0
  | 0, e :: r, _, h => absurd (h e (by simp)) (by omega)
  | n + 1, l, hn, h => by
    have hsplit : used fl l = used fl (l.filter fun e => e.2 == n) + used fl (l.filter fun e => !(e.2 == n)) := by
      clear hn h
      induction l with
      | nil => rfl
      | cons e r ih =>
        rw [List.filter_cons, List.filter_cons]
        by_cases q : (e.2 == n) = true
        · rw [if_pos q, if_neg (by simp [q])]
          simp only [used]
          omega
        · have q' : (e.2 == n) = false := by simpa using q
          rw [if_neg q, if_pos (by simp [q'])]
          simp only [used]
          omega
    have h1 : used fl (l.filter fun e => e.2 == n) ≤ (fl n).1.length := by
      have hs : ((l.filter fun e => e.2 == n).map (·.2)).Nodup := List.Nodup.sublist (List.filter_sublist.map _) hn
      have hm : ∀ e ∈ l.filter (fun e => e.2 == n), e.2 = n := fun e he => by simpa using (List.mem_filter.1 he).2
      generalize l.filter (fun e => e.2 == n) = m at hs hm
      match m, hs, hm with
      | [], _, _ => exact Nat.zero_le _
      | [e], _, hm => simp only [used, hm e (by simp)]; omega
      | e :: f :: r, hs, hm =>
        have e1 := hm e (by simp)
        have e2 := hm f (by simp)
        simp [e1, e2] at hs
    have h2 := used_tot (fl := fl) n (l.filter fun e => !(e.2 == n)) (List.Nodup.sublist (List.filter_sublist.map _) hn) fun e he => by
      have h3 := h e (List.mem_filter.1 he).1
      have h4 := (List.mem_filter.1 he).2
      simp at h4
      omega
    rw [hsplit]
    simp only [tot]
    omega
end Go.Proofs.Ytligofmcmjblpaa
