/- What is made sure: the calls 0 to 5, and a Sync of each name. -/
import Derived.Test.YtligofmcmjblpaaPsure
namespace Go.Proofs.Ytligofmcmjblpaa
open Go.RowKit
set_option linter.unusedVariables false
set_option linter.unusedSimpArgs false

theorem tot_ge {fl : Nat → List Int × Nat} {x : List Int × Nat} {i : Nat} : ∀ n, n ≤ i → tot (upd fl i x) n = tot fl n
  | 0, _ => rfl
  | n + 1, h => by
    have h1 : (upd fl i x) n = fl n := by unfold upd; rw [if_neg (by omega)]
    have h2 := tot_ge (fl := fl) (x := x) (i := i) n (by omega)
    simp only [tot, h2, h1]
theorem tot_lt {fl : Nat → List Int × Nat} {x : List Int × Nat} {i : Nat} : ∀ n, i < n → tot (upd fl i x) n + (fl i).1.length = tot fl n + x.1.length
  | 0, h => by omega
  | n + 1, h => by
    by_cases q : i = n
    · subst q
      have h1 : (upd fl i x) i = x := by unfold upd; rw [if_pos rfl]
      simp only [tot, tot_ge i (Nat.le_refl _), h1]
      omega
    · have h1 : (upd fl i x) n = fl n := by unfold upd; rw [if_neg (by omega)]
      have h2 := tot_lt (fl := fl) (x := x) n (show i < n by omega)
      simp only [tot, h1]
      omega
structure J (T : Nat) (σ : DS) : Prop where
  c : ∃ n, σ.c = ⟨n, 0, 0, 0, false⟩
  nd : Nd σ.nx σ.dir
  nw : ∀ l ∈ σ.was, Nd σ.nx l
  hi : ∀ i, σ.nx ≤ i → (σ.fl i).1 = []
  tot : tot σ.fl σ.nx ≤ T
theorem J.mono {T T' : Nat} {σ : DS} (h : J T σ) (ht : T ≤ T') : J T' σ := ⟨h.c, h.nd, h.nw, h.hi, Nat.le_trans h.tot ht⟩
theorem J.qe {T : Nat} {σ : DS} (h : J T σ) : σ.c.ce = 0 ∧ σ.c.cl = false ∧ σ.c.off = false ∧ ∃ n, σ.c.cc = ⟨n, 0, 0, 0, false⟩ := by
  obtain ⟨n, e⟩ := h.c
  rw [e]
  exact ⟨rfl, rfl, rfl, n + 1, rfl⟩
theorem J.cnt {T : Nat} {σ : DS} (h : J T σ) : J T σ.cnt := ⟨h.qe.2.2.2, h.nd, h.nw, h.hi, h.tot⟩
theorem J.chg {T : Nat} {σ : DS} (h : J T σ) {d : List Ent} (hd : Nd σ.nx d) : J T (σ.cnt.chg d) := ⟨h.qe.2.2.2, hd, fun l hl => by
  rcases List.mem_append.1 hl with hl | hl
  · exact h.nw l hl
  · simp at hl
    subst hl
    exact hd, h.hi, h.tot⟩
theorem J.create {T : Nat} {σ : DS} (h : J T σ) (s : ByteArray) : J T (σ.create s).2 := by
  unfold DS.create
  split
  · exact h.cnt
  · split
    · exact h.cnt
    · split
      · exact h.cnt
      · have hd : Nd (σ.nx + 1) (pt σ.dir s σ.nx) := (h.nd.mono (Nat.le_succ _)).pt s σ.nx (Nat.lt_succ_self _) fun e he hx => by have := h.nd.lt e he; omega
        refine ⟨h.qe.2.2.2, hd, fun l hl => ?_, fun i hi => ?_, ?_⟩
        · rcases List.mem_append.1 hl with hl | hl
          · exact (h.nw l hl).mono (Nat.le_succ _)
          · simp at hl
            subst hl
            exact hd
        · show ((upd σ.fl σ.nx ([], 0)) i).1 = []
          have hi' : σ.nx + 1 ≤ i := hi
          unfold upd
          rw [if_neg (by omega)]
          exact h.hi i (by omega)
        · show Ytligofmcmjblpaa.tot (upd σ.fl σ.nx ([], 0)) (σ.nx + 1) ≤ T
          have h1 : (upd σ.fl σ.nx (([] : List Int), 0)) σ.nx = ([], 0) := by unfold upd; rw [if_pos rfl]
          simp only [Ytligofmcmjblpaa.tot, tot_ge _ (Nat.le_refl _), h1, List.length_nil]
          exact h.tot
theorem J.fupd {T : Nat} {σ : DS} (h : J T σ) {i : Nat} (hi : i < σ.nx) (x : List Int × Nat) (T' : Nat) (hT : T + x.1.length ≤ T' + (σ.fl i).1.length) : J T' { σ.cnt with fl := upd σ.fl i x } := by
  refine ⟨h.qe.2.2.2, h.nd, h.nw, fun j hj => ?_, ?_⟩
  · show ((upd σ.fl i x) j).1 = []
    have hj' : σ.nx ≤ j := hj
    unfold upd
    rw [if_neg (by omega)]
    exact h.hi j hj'
  · show Ytligofmcmjblpaa.tot (upd σ.fl i x) σ.nx ≤ T'
    have h1 := tot_lt (fl := σ.fl) (x := x) σ.nx hi
    have h2 := h.tot
    omega
theorem J.id_lt {T : Nat} {σ : DS} (h : J T σ) {s : ByteArray} {i : Nat} (hf : fnd σ.dir s = some i) : i < σ.nx := by
  obtain ⟨a, ha⟩ := fnd_mem hf
  exact h.nd.lt _ ha
theorem J.append {T : Nat} {σ : DS} (h : J T σ) (s : ByteArray) (b : List Int) : J (T + b.length) (σ.append s b).2 := by
  have hm := h.mono (Nat.le_add_right T b.length)
  unfold DS.append
  split
  · exact hm.cnt
  · split
    · exact hm.cnt
    · next i hf =>
      split
      · exact hm.cnt
      · exact h.fupd (h.id_lt hf) _ _ (by simp only [List.length_append]; omega)
theorem J.sync {T : Nat} {σ : DS} (h : J T σ) (s : ByteArray) : J T (σ.sync s).2 := by
  unfold DS.sync
  split
  · exact h.cnt
  · split
    · exact h.cnt
    · next i hf => exact h.fupd (h.id_lt hf) _ _ (Nat.le_refl _)
theorem fnd_name : ∀ {l : List Ent} {s : ByteArray} {i : Nat}, fnd l s = some i → ∃ a, (a, i) ∈ l ∧ a.toList = s.toList
  | e :: r, s, i, h => by
    rw [fnd] at h
    split at h
    · next q =>
      simp only [Option.some.injEq] at h
      subst h
      exact ⟨e.1, by simp, by simpa using q⟩
    · obtain ⟨a, ha, h2⟩ := fnd_name h
      exact ⟨a, by simp [ha], h2⟩
theorem same_id {l : List Ent} (h : (l.map (·.2)).Nodup) {e f : Ent} (he : e ∈ l) (hf : f ∈ l) (h2 : e.2 = f.2) : e = f := by
  induction l with
  | nil => cases he
  | cons x r ih =>
    rw [List.map_cons, List.nodup_cons] at h
    rcases List.mem_cons.1 he with h3 | h3
    · rcases List.mem_cons.1 hf with h4 | h4
      · rw [h3, h4]
      · exact absurd (List.mem_map.2 ⟨f, h4, by rw [← h2, h3]⟩) h.1
    · rcases List.mem_cons.1 hf with h4 | h4
      · exact absurd (List.mem_map.2 ⟨e, h3, by rw [h2, h4]⟩) h.1
      · exact ih h.2 h3 h4
theorem J.rename {T : Nat} {σ : DS} (h : J T σ) (s t : ByteArray) : J T (σ.rename s t).2 := by
  unfold DS.rename
  split
  · exact h.cnt
  · split
    · exact h.cnt
    · next i hf =>
      split
      · exact h.cnt
      · split
        · exact h.cnt
        · refine h.chg ((h.nd.drp s).pt t i (h.id_lt hf) fun e he hx => ?_)
          obtain ⟨a, ha, h2⟩ := fnd_name hf
          have := same_id h.nd.ids (mem_drp he) ha hx
          subst this
          exact drp_name he h2
theorem J.remove {T : Nat} {σ : DS} (h : J T σ) (s : ByteArray) : J T (σ.remove s).2 := by
  unfold DS.remove
  split
  · exact h.cnt
  · split
    · exact h.cnt
    · exact h.chg (h.nd.drp s)
theorem J.syncDir {T : Nat} {σ : DS} (h : J T σ) : J T σ.syncDir.2 := by
  unfold DS.syncDir
  split
  · exact h.cnt
  · exact ⟨h.qe.2.2.2, h.nd, fun l hl => by
      have hl2 : l ∈ [σ.dir] := hl
      simp at hl2
      subst hl2
      exact h.nd, h.hi, h.tot⟩
theorem J.doC {T : Nat} {σ : DS} (h : J T σ) (c : CV) (h0 : 0 ≤ c.op ∧ c.op ≤ 5) (hd : c.dlen ≤ 5000) : J (T + 5000) (σ.doC c).2 := by
  have hm := fun {x : DS} (g : J T x) => g.mono (Nat.le_add_right T 5000)
  unfold DS.doC
  split
  · exact hm (h.create _)
  · split
    · exact (h.append _ _).mono (by rw [bs_length]; omega)
    · split
      · exact hm (h.sync _)
      · split
        · exact hm (h.rename _ _)
        · split
          · exact hm (h.remove _)
          · split
            · exact hm h.syncDir
            · omega
theorem J.new (room : Int) : J 0 (DS.new room) := ⟨⟨0, rfl⟩, ⟨List.nodup_nil, List.nodup_nil, fun e he => by cases he⟩, fun l hl => by
  have hl2 : l ∈ [([] : List Ent)] := hl
  simp at hl2
  subst hl2
  exact ⟨List.nodup_nil, List.nodup_nil, fun e he => by cases he⟩, fun i _ => rfl, Nat.le_refl 0⟩
/-- Used, behind a crash. -/
theorem J.crash_used {T : Nat} {σ : DS} (h : J T σ) (hi : Inv σ) (ps : List Int) : (σ.crash ps).used ≤ T := by
  have hk := h.nw _ (kept_mem hi ps)
  have h1 := used_tot (fl := σ.fl) σ.nx (σ.kept ps) hk.ids hk.lt
  have h2 : (σ.crash ps).used ≤ used σ.fl (σ.kept ps) := by
    show used (σ.crash ps).fl (σ.crash ps).dir ≤ _
    rw [crash_dir]
    have : ∀ (l : List Ent) (k : Nat), (∀ (j : Nat) (e : Ent), l[j]? = some e → ((σ.crash ps).fl (σ.nx + (k + j))).1.length ≤ (σ.fl e.2).1.length) → used (σ.crash ps).fl (renK σ.nx k l) ≤ used σ.fl l := by
      intro l
      induction l with
      | nil => intro k _; exact Nat.le_refl 0
      | cons e r ih =>
        intro k hh
        have h0 := hh 0 e rfl
        have h3 := ih (k + 1) fun j x hx => by
          have := hh (j + 1) x (by simpa using hx)
          rw [show k + (j + 1) = k + 1 + j by omega] at this
          exact this
        simp only [renK, used]
        rw [Nat.add_zero] at h0
        omega
    refine this (σ.kept ps) 0 fun j e he => ?_
    rw [Nat.zero_add, crash_fl σ ps j e he]
    unfold fileQ
    simp only [List.length_take]
    omega
  have h3 := h.tot
  omega
theorem fnd_at : ∀ {l : List Ent} {k : Nat} {e : Ent}, (l.map (·.1.toList)).Nodup → l[k]? = some e → fnd l e.1 = some e.2
  | [], k, e, _, h => by simp at h
  | x :: r, 0, e, _, h => by
    simp at h
    subst h
    rw [fnd, if_pos (by simp)]
  | x :: r, k + 1, e, hn, h => by
    rw [List.map_cons, List.nodup_cons] at hn
    have hr : r[k]? = some e := by simpa using h
    rw [fnd, if_neg (fun q => hn.1 (List.mem_map.2 ⟨e, List.mem_of_getElem? hr, by simpa using (by simpa using q : x.1.toList = e.1.toList).symm⟩))]
    exact fnd_at hn.2 hr
/-- The first k names have been synced. -/
structure Sy (σ : DS) (k : Nat) (σ' : DS) : Prop where
  c : ∃ n, σ'.c = ⟨n, 0, 0, 0, false⟩
  dir : σ'.dir = σ.dir
  dat : ∀ i, (σ'.fl i).1 = (σ.fl i).1
  sure : ∀ (j : Nat) (e : Ent), j < k → σ.dir[j]? = some e → (σ'.fl e.2).2 = (σ'.fl e.2).1.length
theorem Sy.step {T : Nat} {σ σ' : DS} {k : Nat} {e : Ent} (h : Sy σ k σ') (hj : J T σ) (he : σ.dir[k]? = some e) : (σ'.sync e.1).1 = 0 ∧ Sy σ (k + 1) (σ'.sync e.1).2 := by
  obtain ⟨n, hc⟩ := h.c
  have hce : σ'.c.ce = 0 := by rw [hc]; rfl
  have hcl : σ'.c.cl = false := by rw [hc]; rfl
  have hcc : σ'.c.cc = ⟨n + 1, 0, 0, 0, false⟩ := by rw [hc]; rfl
  have hf : fnd σ'.dir e.1 = some e.2 := by rw [h.dir]; exact fnd_at hj.nd.names he
  unfold DS.sync
  rw [hce, hcl, hf]
  simp only [ne_eq, not_true_eq_false, false_or, Bool.false_eq_true, if_false]
  refine ⟨trivial, ⟨⟨n + 1, hcc⟩, h.dir, fun i => ?_, fun j x hjk hx => ?_⟩⟩
  · show ((upd σ'.fl e.2 ((σ'.fl e.2).1, (σ'.fl e.2).1.length)) i).1 = _
    unfold upd
    split
    · next q => subst q; exact h.dat _
    · exact h.dat i
  · show ((upd σ'.fl e.2 ((σ'.fl e.2).1, (σ'.fl e.2).1.length)) x.2).2 = ((upd σ'.fl e.2 ((σ'.fl e.2).1, (σ'.fl e.2).1.length)) x.2).1.length
    unfold upd
    split
    · rfl
    · next q =>
      refine h.sure j x ?_ hx
      have : j ≠ k := fun e' => by
        subst e'
        rw [he] at hx
        simp only [Option.some.injEq] at hx
        subst hx
        exact q rfl
      omega
theorem Sy.done {σ σ' : DS} (h : Sy σ σ.dir.length σ') : σ'.syncDir.1 = 0 ∧ AllSure σ'.syncDir.2 ∧ σ'.syncDir.2.c.off = false ∧ σ'.syncDir.2.dir = σ.dir := by
  obtain ⟨n, hc⟩ := h.c
  have hce : σ'.c.ce = 0 := by rw [hc]; rfl
  have hcl : σ'.c.cl = false := by rw [hc]; rfl
  have hcc : σ'.c.cc = ⟨n + 1, 0, 0, 0, false⟩ := by rw [hc]; rfl
  unfold DS.syncDir
  rw [hce, hcl]
  simp only [ne_eq, not_true_eq_false, false_or, Bool.false_eq_true, if_false]
  refine ⟨trivial, ⟨rfl, fun e he => ?_⟩, by show σ'.c.cc.off = false; rw [hcc], h.dir⟩
  have he2 : e ∈ σ.dir := by rw [← h.dir]; exact he
  obtain ⟨j, hj, hx⟩ := List.getElem_of_mem he2
  exact h.sure j e hj (by rw [List.getElem?_eq_getElem hj, hx])
end Go.Proofs.Ytligofmcmjblpaa
