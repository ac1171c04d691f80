import Derived.Test.YtligofmcmjblpaaPk16
/- What is made sure is there behind every crash: the theory. -/
namespace Go.Proofs.Ytligofmcmjblpaa
open Go.RowKit
set_option linter.unusedVariables false
set_option linter.unusedSimpArgs false

/-- All that stands in the directory is sure, and so is the directory. -/
structure AllSure (σ : DS) : Prop where
  was : σ.was = [σ.dir]
  sure : ∀ e ∈ σ.dir, (σ.fl e.2).2 = (σ.fl e.2).1.length
theorem kept_sure {σ : DS} (h : AllSure σ) (ps : List Int) : σ.kept ps = σ.dir := by
  unfold DS.kept
  have := pick_le ps 0 0
  rw [h.was]
  simp only [List.length_singleton, Nat.sub_self]
  rw [show pick ps 0 0 = 0 by omega]
  rfl
theorem fileQ_sure {fl : Nat → List Int × Nat} {ps : List Int} {e : Ent} {k : Nat} (h : (fl e.2).2 = (fl e.2).1.length) : fileQ fl ps e k = ((fl e.2).1, (fl e.2).1.length) := by
  have hp := pick_le ps (k + 1) ((fl e.2).1.length - (fl e.2).2)
  unfold fileQ
  rw [show (fl e.2).2 + pick ps (k + 1) ((fl e.2).1.length - (fl e.2).2) = (fl e.2).1.length by omega, List.take_length]
theorem renK_names (nx : Nat) : ∀ (l : List Ent) (j : Nat), (renK nx j l).map (·.1) = l.map (·.1)
  | [], _ => rfl
  | e :: r, j => by simp only [renK, List.map_cons, renK_names nx r]
theorem crash_dir (σ : DS) (ps : List Int) : (σ.crash ps).dir = renK σ.nx 0 (σ.kept ps) := keeps_fst _ _ _ _ _ _
theorem crash_was (σ : DS) (ps : List Int) : (σ.crash ps).was = [renK σ.nx 0 (σ.kept ps)] := by
  show [(keeps σ.fl ps σ.nx 0 (σ.kept ps) σ.fl).1] = _
  rw [keeps_fst]
theorem crash_fl (σ : DS) (ps : List Int) (j : Nat) (e : Ent) (h : (σ.kept ps)[j]? = some e) : (σ.crash ps).fl (σ.nx + j) = fileQ σ.fl ps e j := by
  have := keeps_at σ.fl ps σ.nx (σ.kept ps) 0 σ.fl j e h
  rw [Nat.zero_add] at this
  exact this
theorem renK_get (nx : Nat) (l : List Ent) {e : Ent} (h : e ∈ renK nx 0 l) : ∃ (j : Nat) (x : Ent), l[j]? = some x ∧ e = (x.1, nx + j) := by
  obtain ⟨j, hj, he⟩ := List.getElem_of_mem h
  rw [renK_len] at hj
  have h1 := renK_at nx l 0 j l[j] (List.getElem?_eq_getElem hj)
  rw [List.getElem?_eq_getElem (by rw [renK_len]; exact hj), he, Nat.zero_add] at h1
  exact ⟨j, l[j], List.getElem?_eq_getElem hj, by simpa using h1⟩
/-- Behind every crash all is sure. -/
theorem crash_sure {σ : DS} (hi : Inv σ) (ps : List Int) : AllSure (σ.crash ps) := by
  refine ⟨by rw [crash_was, crash_dir], fun e he => ?_⟩
  rw [crash_dir] at he
  obtain ⟨j, x, hx, rfl⟩ := renK_get _ _ he
  simp only
  rw [crash_fl σ ps j x hx]
  have h1 := hi.fl x.2
  have hp := pick_le ps (j + 1) ((σ.fl x.2).1.length - (σ.fl x.2).2)
  unfold fileQ
  simp only [List.length_take]
  omega
theorem crash_list {σ : DS} (h : AllSure σ) (ho : σ.c.off = false) (ps : List Int) : (σ.crash ps).list = σ.list := by
  have h1 : (σ.crash ps).c.off = false := rfl
  unfold DS.list
  rw [h1, ho, crash_dir, kept_sure h, renK_names]
theorem used_renK {fl g : Nat → List Int × Nat} {nx : Nat} : ∀ (l : List Ent) (k : Nat), (∀ (j : Nat) (e : Ent), l[j]? = some e → (g (nx + (k + j))).1.length = (fl e.2).1.length) → used g (renK nx k l) = used fl l
  | [], _, _ => rfl
  | e :: r, k, h => by
    have h0 := h 0 e rfl
    have h1 := used_renK (fl := fl) (g := g) (nx := nx) r (k + 1) fun j x hx => by
      have := h (j + 1) x (by simpa using hx)
      rw [show k + (j + 1) = k + 1 + j by omega] at this
      exact this
    simp only [renK, used, h1]
    rw [Nat.add_zero] at h0
    rw [h0]
theorem crash_used {σ : DS} (h : AllSure σ) (ps : List Int) : (σ.crash ps).used = σ.used := by
  show used (σ.crash ps).fl (σ.crash ps).dir = used σ.fl σ.dir
  rw [crash_dir, kept_sure h]
  refine used_renK σ.dir 0 fun j e he => ?_
  rw [Nat.zero_add, crash_fl σ ps j e (by rw [kept_sure h]; exact he), fileQ_sure (h.sure e (List.mem_of_getElem? he))]
theorem fnd_renK (nx : Nat) (s : ByteArray) : ∀ (l : List Ent) (k : Nat), (fnd l s = none ∧ fnd (renK nx k l) s = none) ∨ ∃ (j : Nat) (e : Ent), l[j]? = some e ∧ fnd l s = some e.2 ∧ fnd (renK nx k l) s = some (nx + (k + j))
  | [], k => .inl ⟨rfl, rfl⟩
  | e :: r, k => by
    by_cases q : (e.1.toList == s.toList) = true
    · refine .inr ⟨0, e, rfl, ?_, ?_⟩
      · rw [fnd, if_pos q]
      · rw [renK, fnd, if_pos q, Nat.add_zero]
    · rcases fnd_renK nx s r (k + 1) with ⟨h1, h2⟩ | ⟨j, x, h0, h1, h2⟩
      · refine .inl ⟨?_, ?_⟩
        · rw [fnd, if_neg q, h1]
        · rw [renK, fnd, if_neg q, h2]
      · refine .inr ⟨j + 1, x, by simpa using h0, ?_, ?_⟩
        · rw [fnd, if_neg q, h1]
        · rw [renK, fnd, if_neg q, h2, show k + 1 + j = k + (j + 1) by omega]
theorem crash_read {σ : DS} (h : AllSure σ) (ho : σ.c.off = false) (ps : List Int) (s : ByteArray) : (σ.crash ps).read s = σ.read s := by
  have h1 : (σ.crash ps).c.off = false := rfl
  unfold DS.read
  rw [h1, ho, crash_dir, kept_sure h]
  rcases fnd_renK σ.nx s σ.dir 0 with ⟨h2, h3⟩ | ⟨j, e, h0, h2, h3⟩
  · rw [h2, h3]
  · rw [h2, h3, Nat.zero_add]
    simp only
    rw [crash_fl σ ps j e (by rw [kept_sure h]; exact h0), fileQ_sure (h.sure e (List.mem_of_getElem? h0))]

/-- A directory with a name more is, in some order, that name and the others. -/
theorem pt_perm (s : ByteArray) (i : Nat) : ∀ l : List Ent, (pt l s i).Perm ((s, i) :: drp l s)
  | [] => List.Perm.refl _
  | e :: r => by
    rw [pt]
    split
    · next q =>
      have hd : drp (e :: r) s = e :: drp r s := by
        unfold drp
        rw [List.filter_cons, if_pos (by rw [less_ne q]; rfl)]
      rw [hd]
      exact ((pt_perm s i r).cons e).trans (List.Perm.swap _ _ _)
    · exact List.Perm.refl _
theorem drp_sub (l : List Ent) (s : ByteArray) : (drp l s).Sublist l := List.filter_sublist
theorem drp_none {l : List Ent} {s : ByteArray} (h : fnd l s = none) : drp l s = l := by
  induction l with
  | nil => rfl
  | cons e r ih =>
    rw [fnd] at h
    split at h
    · cases h
    · next q =>
      unfold drp at ih ⊢
      rw [List.filter_cons, if_pos (by simpa using q), ih h]
theorem drp_name {l : List Ent} {s : ByteArray} {e : Ent} (h : e ∈ drp l s) : e.1.toList ≠ s.toList := by
  have := (List.mem_filter.1 h).2
  simpa using this
/-- Ids and names are unlike in a directory. -/
structure Nd (nx : Nat) (l : List Ent) : Prop where
  ids : (l.map (·.2)).Nodup
  names : (l.map (·.1.toList)).Nodup
  lt : ∀ e ∈ l, e.2 < nx
theorem Nd.mono {nx nx' : Nat} {l : List Ent} (h : Nd nx l) (hn : nx ≤ nx') : Nd nx' l := ⟨h.ids, h.names, fun e he => Nat.lt_of_lt_of_le (h.lt e he) hn⟩
theorem Nd.drp {nx : Nat} {l : List Ent} (h : Nd nx l) (s : ByteArray) : Nd nx (drp l s) :=
  ⟨List.Nodup.sublist ((drp_sub l s).map _) h.ids, List.Nodup.sublist ((drp_sub l s).map _) h.names, fun e he => h.lt e (mem_drp he)⟩
theorem Nd.pt {nx : Nat} {l : List Ent} (h : Nd nx l) (s : ByteArray) (i : Nat) (hi : i < nx) (hn : ∀ e ∈ l, e.2 ≠ i) : Nd nx (pt l s i) := by
  have hp := pt_perm s i l
  have hd := h.drp s
  refine ⟨(hp.map _).nodup_iff.2 ?_, (hp.map _).nodup_iff.2 ?_, fun e he => ?_⟩
  · rw [List.map_cons, List.nodup_cons]
    refine ⟨fun hm => ?_, hd.ids⟩
    obtain ⟨e, he, h1⟩ := List.mem_map.1 hm
    exact hn e (mem_drp he) h1
  · rw [List.map_cons, List.nodup_cons]
    refine ⟨fun hm => ?_, hd.names⟩
    obtain ⟨e, he, h1⟩ := List.mem_map.1 hm
    exact drp_name he h1
  · rcases mem_pt he with rfl | he
    · exact hi
    · exact h.lt e he
/-- The sum of the first files' lengths. -/
def tot (fl : Nat → List Int × Nat) : Nat → Nat
  | 0 => 0
  | n + 1 => tot fl n + (fl n).1.length
theorem used_tot {fl : Nat → List Int × Nat} : ∀ (nx : Nat) (l : List Ent), (l.map (·.2)).Nodup → (∀ e ∈ l, e.2 < nx) → used fl l ≤ tot fl nx
  | 0, [], _, _ => Nat.le_refl 0
  | 0, e :: r, _, h => absurd (h e (by simp)) (by omega)
  | n + 1, l, hn, h => by
    have hsplit : used fl l = used fl (l.filter fun e => e.2 == n) + used fl (l.filter fun e => !(e.2 == n)) := by
      clear hn h
      induction l with
      | nil => rfl
      | cons e r ih =>
        rw [List.filter_cons, List.filter_cons]
        by_cases q : (e.2 == n) = true
        · rw [if_pos q, if_neg (by simp [q])]
          simp only [used]
          omega
        · have q' : (e.2 == n) = false := by simpa using q
          rw [if_neg q, if_pos (by simp [q'])]
          simp only [used]
          omega
    have h1 : used fl (l.filter fun e => e.2 == n) ≤ (fl n).1.length := by
      have hs : ((l.filter fun e => e.2 == n).map (·.2)).Nodup := List.Nodup.sublist (List.filter_sublist.map _) hn
      have hm : ∀ e ∈ l.filter (fun e => e.2 == n), e.2 = n := fun e he => by simpa using (List.mem_filter.1 he).2
      generalize l.filter (fun e => e.2 == n) = m at hs hm
      match m, hs, hm with
      | [], _, _ => exact Nat.zero_le _
      | [e], _, hm => simp only [used, hm e (by simp)]; omega
      | e :: f :: r, hs, hm =>
        have e1 := hm e (by simp)
        have e2 := hm f (by simp)
        simp [e1, e2] at hs
    have h2 := used_tot (fl := fl) n (l.filter fun e => !(e.2 == n)) (List.Nodup.sublist (List.filter_sublist.map _) hn) fun e he => by
      have h3 := h e (List.mem_filter.1 he).1
      have h4 := (List.mem_filter.1 he).2
      simp at h4
      omega
    rw [hsplit]
    simp only [tot]
    omega
end Go.Proofs.Ytligofmcmjblpaa

/- What is made sure: the calls 0 to 5, and a Sync of each name. -/
namespace Go.Proofs.Ytligofmcmjblpaa
open Go.RowKit
set_option linter.unusedVariables false
set_option linter.unusedSimpArgs false

theorem tot_ge {fl : Nat → List Int × Nat} {x : List Int × Nat} {i : Nat} : ∀ n, n ≤ i → tot (upd fl i x) n = tot fl n
  | 0, _ => rfl
  | n + 1, h => by
    have h1 : (upd fl i x) n = fl n := by unfold upd; rw [if_neg (by omega)]
    have h2 := tot_ge (fl := fl) (x := x) (i := i) n (by omega)
    simp only [tot, h2, h1]
theorem tot_lt {fl : Nat → List Int × Nat} {x : List Int × Nat} {i : Nat} : ∀ n, i < n → tot (upd fl i x) n + (fl i).1.length = tot fl n + x.1.length
  | 0, h => by omega
  | n + 1, h => by
    by_cases q : i = n
    · subst q
      have h1 : (upd fl i x) i = x := by unfold upd; rw [if_pos rfl]
      simp only [tot, tot_ge i (Nat.le_refl _), h1]
      omega
    · have h1 : (upd fl i x) n = fl n := by unfold upd; rw [if_neg (by omega)]
      have h2 := tot_lt (fl := fl) (x := x) n (show i < n by omega)
      simp only [tot, h1]
      omega
structure J (T : Nat) (σ : DS) : Prop where
  c : ∃ n, σ.c = ⟨n, 0, 0, 0, false⟩
  nd : Nd σ.nx σ.dir
  nw : ∀ l ∈ σ.was, Nd σ.nx l
  hi : ∀ i, σ.nx ≤ i → (σ.fl i).1 = []
  tot : tot σ.fl σ.nx ≤ T
theorem J.mono {T T' : Nat} {σ : DS} (h : J T σ) (ht : T ≤ T') : J T' σ := ⟨h.c, h.nd, h.nw, h.hi, Nat.le_trans h.tot ht⟩
theorem J.qe {T : Nat} {σ : DS} (h : J T σ) : σ.c.ce = 0 ∧ σ.c.cl = false ∧ σ.c.off = false ∧ ∃ n, σ.c.cc = ⟨n, 0, 0, 0, false⟩ := by
  obtain ⟨n, e⟩ := h.c
  rw [e]
  exact ⟨rfl, rfl, rfl, n + 1, rfl⟩
theorem J.cnt {T : Nat} {σ : DS} (h : J T σ) : J T σ.cnt := ⟨h.qe.2.2.2, h.nd, h.nw, h.hi, h.tot⟩
theorem J.chg {T : Nat} {σ : DS} (h : J T σ) {d : List Ent} (hd : Nd σ.nx d) : J T (σ.cnt.chg d) := ⟨h.qe.2.2.2, hd, fun l hl => by
  rcases List.mem_append.1 hl with hl | hl
  · exact h.nw l hl
  · simp at hl
    subst hl
    exact hd, h.hi, h.tot⟩
theorem J.create {T : Nat} {σ : DS} (h : J T σ) (s : ByteArray) : J T (σ.create s).2 := by
  unfold DS.create
  split
  · exact h.cnt
  · split
    · exact h.cnt
    · split
      · exact h.cnt
      · have hd : Nd (σ.nx + 1) (pt σ.dir s σ.nx) := (h.nd.mono (Nat.le_succ _)).pt s σ.nx (Nat.lt_succ_self _) fun e he hx => by have := h.nd.lt e he; omega
        refine ⟨h.qe.2.2.2, hd, fun l hl => ?_, fun i hi => ?_, ?_⟩
        · rcases List.mem_append.1 hl with hl | hl
          · exact (h.nw l hl).mono (Nat.le_succ _)
          · simp at hl
            subst hl
            exact hd
        · show ((upd σ.fl σ.nx ([], 0)) i).1 = []
          have hi' : σ.nx + 1 ≤ i := hi
          unfold upd
          rw [if_neg (by omega)]
          exact h.hi i (by omega)
        · show Ytligofmcmjblpaa.tot (upd σ.fl σ.nx ([], 0)) (σ.nx + 1) ≤ T
          have h1 : (upd σ.fl σ.nx (([] : List Int), 0)) σ.nx = ([], 0) := by unfold upd; rw [if_pos rfl]
          simp only [Ytligofmcmjblpaa.tot, tot_ge _ (Nat.le_refl _), h1, List.length_nil]
          exact h.tot
theorem J.fupd {T : Nat} {σ : DS} (h : J T σ) {i : Nat} (hi : i < σ.nx) (x : List Int × Nat) (T' : Nat) (hT : T + x.1.length ≤ T' + (σ.fl i).1.length) : J T' { σ.cnt with fl := upd σ.fl i x } := by
  refine ⟨h.qe.2.2.2, h.nd, h.nw, fun j hj => ?_, ?_⟩
  · show ((upd σ.fl i x) j).1 = []
    have hj' : σ.nx ≤ j := hj
    unfold upd
    rw [if_neg (by omega)]
    exact h.hi j hj'
  · show Ytligofmcmjblpaa.tot (upd σ.fl i x) σ.nx ≤ T'
    have h1 := tot_lt (fl := σ.fl) (x := x) σ.nx hi
    have h2 := h.tot
    omega
theorem J.id_lt {T : Nat} {σ : DS} (h : J T σ) {s : ByteArray} {i : Nat} (hf : fnd σ.dir s = some i) : i < σ.nx := by
  obtain ⟨a, ha⟩ := fnd_mem hf
  exact h.nd.lt _ ha
theorem J.append {T : Nat} {σ : DS} (h : J T σ) (s : ByteArray) (b : List Int) : J (T + b.length) (σ.append s b).2 := by
  have hm := h.mono (Nat.le_add_right T b.length)
  unfold DS.append
  split
  · exact hm.cnt
  · split
    · exact hm.cnt
    · next i hf =>
      split
      · exact hm.cnt
      · exact h.fupd (h.id_lt hf) _ _ (by simp only [List.length_append]; omega)
theorem J.sync {T : Nat} {σ : DS} (h : J T σ) (s : ByteArray) : J T (σ.sync s).2 := by
  unfold DS.sync
  split
  · exact h.cnt
  · split
    · exact h.cnt
    · next i hf => exact h.fupd (h.id_lt hf) _ _ (Nat.le_refl _)
theorem fnd_name : ∀ {l : List Ent} {s : ByteArray} {i : Nat}, fnd l s = some i → ∃ a, (a, i) ∈ l ∧ a.toList = s.toList
  | e :: r, s, i, h => by
    rw [fnd] at h
    split at h
    · next q =>
      simp only [Option.some.injEq] at h
      subst h
      exact ⟨e.1, by simp, by simpa using q⟩
    · obtain ⟨a, ha, h2⟩ := fnd_name h
      exact ⟨a, by simp [ha], h2⟩
theorem same_id {l : List Ent} (h : (l.map (·.2)).Nodup) {e f : Ent} (he : e ∈ l) (hf : f ∈ l) (h2 : e.2 = f.2) : e = f := by
  induction l with
  | nil => cases he
  | cons x r ih =>
    rw [List.map_cons, List.nodup_cons] at h
    rcases List.mem_cons.1 he with h3 | h3
    · rcases List.mem_cons.1 hf with h4 | h4
      · rw [h3, h4]
      · exact absurd (List.mem_map.2 ⟨f, h4, by rw [← h2, h3]⟩) h.1
    · rcases List.mem_cons.1 hf with h4 | h4
      · exact absurd (List.mem_map.2 ⟨e, h3, by rw [h2, h4]⟩) h.1
      · exact ih h.2 h3 h4
theorem J.rename {T : Nat} {σ : DS} (h : J T σ) (s t : ByteArray) : J T (σ.rename s t).2 := by
  unfold DS.rename
  split
  · exact h.cnt
  · split
    · exact h.cnt
    · next i hf =>
      split
      · exact h.cnt
      · split
        · exact h.cnt
        · refine h.chg ((h.nd.drp s).pt t i (h.id_lt hf) fun e he hx => ?_)
          obtain ⟨a, ha, h2⟩ := fnd_name hf
          have := same_id h.nd.ids (mem_drp he) ha hx
          subst this
          exact drp_name he h2
theorem J.remove {T : Nat} {σ : DS} (h : J T σ) (s : ByteArray) : J T (σ.remove s).2 := by
  unfold DS.remove
  split
  · exact h.cnt
  · split
    · exact h.cnt
    · exact h.chg (h.nd.drp s)
theorem J.syncDir {T : Nat} {σ : DS} (h : J T σ) : J T σ.syncDir.2 := by
  unfold DS.syncDir
  split
  · exact h.cnt
  · exact ⟨h.qe.2.2.2, h.nd, fun l hl => by
      have hl2 : l ∈ [σ.dir] := hl
      simp at hl2
      subst hl2
      exact h.nd, h.hi, h.tot⟩
theorem J.doC {T : Nat} {σ : DS} (h : J T σ) (c : CV) (h0 : 0 ≤ c.op ∧ c.op ≤ 5) (hd : c.dlen ≤ 5000) : J (T + 5000) (σ.doC c).2 := by
  have hm := fun {x : DS} (g : J T x) => g.mono (Nat.le_add_right T 5000)
  unfold DS.doC
  split
  · exact hm (h.create _)
  · split
    · exact (h.append _ _).mono (by rw [bs_length]; omega)
    · split
      · exact hm (h.sync _)
      · split
        · exact hm (h.rename _ _)
        · split
          · exact hm (h.remove _)
          · split
            · exact hm h.syncDir
            · omega
theorem J.new (room : Int) : J 0 (DS.new room) := ⟨⟨0, rfl⟩, ⟨List.nodup_nil, List.nodup_nil, fun e he => by cases he⟩, fun l hl => by
  have hl2 : l ∈ [([] : List Ent)] := hl
  simp at hl2
  subst hl2
  exact ⟨List.nodup_nil, List.nodup_nil, fun e he => by cases he⟩, fun i _ => rfl, Nat.le_refl 0⟩
/-- Used, behind a crash. -/
theorem J.crash_used {T : Nat} {σ : DS} (h : J T σ) (hi : Inv σ) (ps : List Int) : (σ.crash ps).used ≤ T := by
  have hk := h.nw _ (kept_mem hi ps)
  have h1 := used_tot (fl := σ.fl) σ.nx (σ.kept ps) hk.ids hk.lt
  have h2 : (σ.crash ps).used ≤ used σ.fl (σ.kept ps) := by
    show used (σ.crash ps).fl (σ.crash ps).dir ≤ _
    rw [crash_dir]
    have : ∀ (l : List Ent) (k : Nat), (∀ (j : Nat) (e : Ent), l[j]? = some e → ((σ.crash ps).fl (σ.nx + (k + j))).1.length ≤ (σ.fl e.2).1.length) → used (σ.crash ps).fl (renK σ.nx k l) ≤ used σ.fl l := by
      intro l
      induction l with
      | nil => intro k _; exact Nat.le_refl 0
      | cons e r ih =>
        intro k hh
        have h0 := hh 0 e rfl
        have h3 := ih (k + 1) fun j x hx => by
          have := hh (j + 1) x (by simpa using hx)
          rw [show k + (j + 1) = k + 1 + j by omega] at this
          exact this
        simp only [renK, used]
        rw [Nat.add_zero] at h0
        omega
    refine this (σ.kept ps) 0 fun j e he => ?_
    rw [Nat.zero_add, crash_fl σ ps j e he]
    unfold fileQ
    simp only [List.length_take]
    omega
  have h3 := h.tot
  omega
theorem fnd_at : ∀ {l : List Ent} {k : Nat} {e : Ent}, (l.map (·.1.toList)).Nodup → l[k]? = some e → fnd l e.1 = some e.2
  | [], k, e, _, h => by simp at h
  | x :: r, 0, e, _, h => by
    simp at h
    subst h
    rw [fnd, if_pos (by simp)]
  | x :: r, k + 1, e, hn, h => by
    rw [List.map_cons, List.nodup_cons] at hn
    have hr : r[k]? = some e := by simpa using h
    rw [fnd, if_neg (fun q => hn.1 (List.mem_map.2 ⟨e, List.mem_of_getElem? hr, by simpa using (by simpa using q : x.1.toList = e.1.toList).symm⟩))]
    exact fnd_at hn.2 hr
/-- The first k names have been synced. -/
structure Sy (σ : DS) (k : Nat) (σ' : DS) : Prop where
  c : ∃ n, σ'.c = ⟨n, 0, 0, 0, false⟩
  dir : σ'.dir = σ.dir
  dat : ∀ i, (σ'.fl i).1 = (σ.fl i).1
  sure : ∀ (j : Nat) (e : Ent), j < k → σ.dir[j]? = some e → (σ'.fl e.2).2 = (σ'.fl e.2).1.length
theorem Sy.step {T : Nat} {σ σ' : DS} {k : Nat} {e : Ent} (h : Sy σ k σ') (hj : J T σ) (he : σ.dir[k]? = some e) : (σ'.sync e.1).1 = 0 ∧ Sy σ (k + 1) (σ'.sync e.1).2 := by
  obtain ⟨n, hc⟩ := h.c
  have hce : σ'.c.ce = 0 := by rw [hc]; rfl
  have hcl : σ'.c.cl = false := by rw [hc]; rfl
  have hcc : σ'.c.cc = ⟨n + 1, 0, 0, 0, false⟩ := by rw [hc]; rfl
  have hf : fnd σ'.dir e.1 = some e.2 := by rw [h.dir]; exact fnd_at hj.nd.names he
  unfold DS.sync
  rw [hce, hcl, hf]
  simp only [ne_eq, not_true_eq_false, false_or, Bool.false_eq_true, if_false]
  refine ⟨trivial, ⟨⟨n + 1, hcc⟩, h.dir, fun i => ?_, fun j x hjk hx => ?_⟩⟩
  · show ((upd σ'.fl e.2 ((σ'.fl e.2).1, (σ'.fl e.2).1.length)) i).1 = _
    unfold upd
    split
    · next q => subst q; exact h.dat _
    · exact h.dat i
  · show ((upd σ'.fl e.2 ((σ'.fl e.2).1, (σ'.fl e.2).1.length)) x.2).2 = ((upd σ'.fl e.2 ((σ'.fl e.2).1, (σ'.fl e.2).1.length)) x.2).1.length
    unfold upd
    split
    · rfl
    · next q =>
      refine h.sure j x ?_ hx
      have : j ≠ k := fun e' => by
        subst e'
        rw [he] at hx
        simp only [Option.some.injEq] at hx
        subst hx
        exact q rfl
      omega
theorem Sy.done {σ σ' : DS} (h : Sy σ σ.dir.length σ') : σ'.syncDir.1 = 0 ∧ AllSure σ'.syncDir.2 ∧ σ'.syncDir.2.c.off = false ∧ σ'.syncDir.2.dir = σ.dir := by
  obtain ⟨n, hc⟩ := h.c
  have hce : σ'.c.ce = 0 := by rw [hc]; rfl
  have hcl : σ'.c.cl = false := by rw [hc]; rfl
  have hcc : σ'.c.cc = ⟨n + 1, 0, 0, 0, false⟩ := by rw [hc]; rfl
  unfold DS.syncDir
  rw [hce, hcl]
  simp only [ne_eq, not_true_eq_false, false_or, Bool.false_eq_true, if_false]
  refine ⟨trivial, ⟨rfl, fun e he => ?_⟩, by show σ'.c.cc.off = false; rw [hcc], h.dir⟩
  have he2 : e ∈ σ.dir := by rw [← h.dir]; exact he
  obtain ⟨j, hj, hx⟩ := List.getElem_of_mem he2
  exact h.sure j e hj (by rw [List.getElem?_eq_getElem hj, hx])
end Go.Proofs.Ytligofmcmjblpaa
