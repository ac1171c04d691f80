import Derived.Test.YtligofmcmjblpaaGreatPk32
import Derived.Test.YtligofmcmjblpaaGreatPk33
/- The landed disk: a directory with twins for its files. -/
namespace Go.Proofs.YtligofmcmjblpaaGreat
open Go.RowKit Go.Maps
set_option linter.unusedVariables false
set_option linter.unusedSimpArgs false

/-- Dn: the files that have a twin; loc2: where it lies; dv2: its bytes. -/
structure TW (w0 w : World) (xb tb : Nat) (A : Nat → Prop) (loc : Nat → Nat) (fl : Nat → List Int × Nat) (Dn : Nat → Prop) (loc2 : Nat → Nat) (dv2 : Nat → Value) : Prop where
  bel : Below w0.heap.size w0 w
  xbc : w.heap[xb]? = some (.cells #[.map (some tb)] 103 (0, 0))
  xbl : w0.heap.size ≤ xb
  tbl : w0.heap.size ≤ tb
  tw : ∃ tw, TwM w tb tw ∧ (∀ x ∈ tw, ∃ i, A i ∧ x.1 = loc i) ∧ (∀ i, A i → Dn i → twL tw (loc i) = some (loc2 i)) ∧ ∀ i, A i → ¬ Dn i → twL tw (loc i) = none
  dn : ∀ i, Dn i → A i
  file : ∀ i, Dn i → FileM w (fun k => w0.heap.size ≤ k) (loc2 i) (dv2 i) (fl i)
  inj : ∀ i j, Dn i → Dn j → loc2 i = loc2 j → i = j
  sep : ∀ i j, Dn i → Dn j → i ≠ j → ∀ b, (dv2 i).ownBlock = some b → (dv2 j).ownBlock ≠ some b
theorem TW.tlt {w0 w : World} {xb tb : Nat} {A : Nat → Prop} {loc : Nat → Nat} {fl : Nat → List Int × Nat} {Dn : Nat → Prop} {loc2 : Nat → Nat} {dv2 : Nat → Value} (h : TW w0 w xb tb A loc fl Dn loc2 dv2) : tb < w.heap.size := by
  obtain ⟨tw, ⟨_, _, hh, _⟩, _⟩ := h.tw
  exact (Array.getElem?_eq_some_iff.1 hh).1
/-- What else comes about leaves it. -/
theorem TW.kept {w0 w w' : World} {xb tb : Nat} {A : Nat → Prop} {loc : Nat → Nat} {fl : Nat → List Int × Nat} {Dn : Nat → Prop} {loc2 : Nat → Nat} {dv2 : Nat → Value} (h : TW w0 w xb tb A loc fl Dn loc2 dv2) {r : Option Nat} (hg : w.grownBy w' r) (hr : ∀ k, r = some k → w0.heap.size ≤ k)
    (h1 : r ≠ some xb) (h2 : r ≠ some tb) (h3 : ∀ i, Dn i → r ≠ some (loc2 i)) (h4 : ∀ i, Dn i → ∀ b, (dv2 i).ownBlock = some b → r ≠ some b) : TW w0 w' xb tb A loc fl Dn loc2 dv2 := by
  refine ⟨h.bel.grown hg h.bel.size hr, (hg.block xb (Array.getElem?_eq_some_iff.1 h.xbc).1 fun e => h1 e.symm).trans h.xbc, h.xbl, h.tbl, ?_, h.dn, fun i hi => (h.file i hi).grown hg (h3 i hi) (h4 i hi), h.inj, h.sep⟩
  obtain ⟨tw, a, b⟩ := h.tw
  exact ⟨tw, a.same (hg.block tb h.tlt fun e => h2 e.symm), b⟩
/-- A row's block, or a map's, is none of its blocks. -/
theorem TW.keptMap {w0 w w' : World} {xb tb : Nat} {A : Nat → Prop} {loc : Nat → Nat} {fl : Nat → List Int × Nat} {Dn : Nat → Prop} {loc2 : Nat → Nat} {dv2 : Nat → Value} (h : TW w0 w xb tb A loc fl Dn loc2 dv2) {b : Nat} (hg : w.grownBy w' (some b)) (hb : w0.heap.size ≤ b) (ht : b ≠ tb) (hn : ∀ g t, TyOf w g t → b ≠ g) : TW w0 w' xb tb A loc fl Dn loc2 dv2 :=
  h.kept hg (fun k e => by cases e; exact hb) (fun e => hn xb _ ⟨_, _, h.xbc⟩ (Option.some.inj e)) (fun e => ht (Option.some.inj e)) (fun i hi e => hn _ _ (h.file i hi).ty (Option.some.inj e)) fun i hi k ek e => hn _ _ (owns_ty (h.file i hi).row ek) (Option.some.inj e)
theorem TW.later {w0 w w' : World} {xb tb : Nat} {A : Nat → Prop} {loc : Nat → Nat} {fl : Nat → List Int × Nat} {Dn : Nat → Prop} {loc2 : Nat → Nat} {dv2 : Nat → Value} (h : TW w0 w xb tb A loc fl Dn loc2 dv2) (hb : Below w.heap.size w w') : TW w0 w' xb tb A loc fl Dn loc2 dv2 :=
  h.kept (below_grown hb none) (fun k e => by cases e) (by simp) (by simp) (fun _ _ => by simp) (fun _ _ _ _ => by simp)
theorem TW.dnEq {w0 w : World} {xb tb : Nat} {A : Nat → Prop} {loc : Nat → Nat} {fl : Nat → List Int × Nat} {Dn Dm : Nat → Prop} {loc2 : Nat → Nat} {dv2 : Nat → Value} (h : TW w0 w xb tb A loc fl Dn loc2 dv2) (he : ∀ i, Dn i ↔ Dm i) : TW w0 w xb tb A loc fl Dm loc2 dv2 := by
  have : Dn = Dm := funext fun i => propext (he i)
  rw [← this]
  exact h
theorem copier1_any {w0 w : World} {xb tb : Nat} {F A : Nat → Prop} {loc : Nat → Nat} {dv : Nat → Value} {fl : Nat → List Int × Nat} {Dn : Nat → Prop} {loc2 : Nat → Nat} {dv2 : Nat → Value} (h : TW w0 w xb tb A loc fl Dn loc2 dv2)
    (hF : ∀ i, A i → FileM w0 F (loc i) (dv i) (fl i)) (hinj : ∀ i j, A i → A j → loc i = loc j → i = j) (hok : ∀ i, (fl i).1.length ≤ 4194304 ∧ Okb (fl i).1) (i : Nat) (hA : A i) :
    Calls Tryz.prog 76 #[ptr (loc i), .pointer (some ⟨xb, 0, none⟩)] w fun e w' => ∃ loc3 dv3, e = .returned (ptr (loc3 i)) ∧ TW w0 w' xb tb A loc fl (fun j => Dn j ∨ j = i) loc3 dv3 ∧ (∀ j, Dn j → loc3 j = loc2 j) ∧ w.grownBy w' (some tb) := by
  obtain ⟨tw, t1, t2, t3, t4⟩ := h.tw
  have hx : w.cell? ⟨xb, 0, none⟩ = some (.map (some tb)) := cell_of h.xbc 0
  have hfm : ∀ j, A j → FileM w F (loc j) (dv j) (fl j) := fun j hj => by
    have hj0 := hF j hj
    exact hj0.block (fun _ z => z) (h.bel.block _ hj0.ty.lt) fun b eb => h.bel.block b (owns_ty hj0.row eb).lt
  have hfb : ∀ x ∈ tw, FB w x.1 := fun x hxm => by
    obtain ⟨j, hj, e⟩ := t2 x hxm
    rw [e]
    exact ⟨_, _, (hfm j hj).blk⟩
  by_cases hD : Dn i
  · refine (copier1_old xb tb (loc i) (loc2 i) tw w hx t1 hfb ⟨_, _, (hfm i hA).blk⟩ (t3 i hA hD)).mono ?_
    rintro e w' ⟨rfl, rfl⟩
    refine ⟨loc2, dv2, rfl, h.dnEq fun j => ⟨fun hj => .inl hj, fun hj => ?_⟩, fun _ _ => rfl, ⟨rfl, rfl, rfl, Nat.le_refl _, fun _ _ _ => rfl⟩⟩
    rcases hj with hj | rfl
    · exact hj
    · exact hD
  · refine (copier1_new xb tb (loc i) tw w hx t1 hfb (t4 i hA hD) F (dv i) (fl i) (hfm i hA) (hok i).2 (hok i).1).mono ?_
    rintro e w' ⟨nb, dv', rfl, hnb, ht', hg', hf'⟩
    have hsz := h.bel.size
    have hother : ∀ j, Dn j → j ≠ i := fun j hj e => hD (e ▸ hj)
    have hold : ∀ j, Dn j → FileM w' (fun k => w0.heap.size ≤ k) (loc2 j) (dv2 j) (fl j) := fun j hj => by
      have hj0 := h.file j hj
      exact hj0.grown hg' (fun e => t1.ne hj0.ty (Option.some.inj e)) fun b eb e => t1.ne (owns_ty hj0.row eb) (Option.some.inj e)
    have hltb : ∀ j, Dn j → ∀ b, (dv2 j).ownBlock = some b → b < w.heap.size := fun j hj b eb => (owns_ty (h.file j hj).row eb).lt
    refine ⟨fun j => if j = i then nb else loc2 j, fun j => if j = i then dv' else dv2 j, by simp, ⟨h.bel.grown hg' hsz fun k e => by cases e; exact h.tbl, (hg'.block xb (Array.getElem?_eq_some_iff.1 h.xbc).1 fun e => t1.ne ⟨_, _, h.xbc⟩ (Option.some.inj e).symm).trans h.xbc, h.xbl, h.tbl, ⟨_, ht', fun x hxm => ?_, fun j hj hd => ?_, fun j hj hd => ?_⟩, fun j hj => ?_, fun j hj => ?_, fun j k hj hk e => ?_, fun j k hj hk hne b eb => ?_⟩, fun j hj => if_neg (hother j hj), hg'⟩
    · rcases List.mem_append.1 hxm with hxm | hxm
      · exact t2 x hxm
      · simp only [List.mem_singleton] at hxm
        subst hxm
        exact ⟨i, hA, rfl⟩
    · rw [twL_snoc]
      by_cases q : j = i
      · subst q
        rw [t4 j hA hD]
        simp
      · have hdj : Dn j := hd.resolve_right q
        rw [t3 j hj hdj]
        simp [q]
    · have q : j ≠ i := fun e => hd (.inr e)
      rw [twL_snoc, t4 j hj fun x => hd (.inl x)]
      simp only
      rw [if_neg fun e => q (hinj j i hj hA e)]
    · rcases hj with hj | rfl
      · exact h.dn j hj
      · exact hA
    · by_cases q : j = i
      · subst q
        simp only [if_true]
        exact hf'.mono fun k hk => Nat.le_trans hsz hk
      · simp only [if_neg q]
        exact hold j (hj.resolve_right q)
    · by_cases q : j = i
      · by_cases r : k = i
        · rw [q, r]
        · simp only [if_pos q, if_neg r] at e
          have := (h.file k (hk.resolve_right r)).ty.lt
          omega
      · by_cases r : k = i
        · simp only [if_neg q, if_pos r] at e
          have := (h.file j (hj.resolve_right q)).ty.lt
          omega
        · simp only [if_neg q, if_neg r] at e
          exact h.inj j k (hj.resolve_right q) (hk.resolve_right r) e
    · by_cases q : j = i
      · by_cases r : k = i
        · exact absurd (q.trans r.symm) hne
        · simp only [if_pos q] at eb
          simp only [if_neg r]
          intro e2
          have h1 : w.heap.size ≤ b := hf'.own b eb
          have h2 := hltb k (hk.resolve_right r) b e2
          omega
      · simp only [if_neg q] at eb
        by_cases r : k = i
        · simp only [if_pos r]
          intro e2
          have h1 : w.heap.size ≤ b := hf'.own b e2
          have h2 := hltb j (hj.resolve_right q) b eb
          omega
        · simp only [if_neg r]
          exact h.sep j k (hj.resolve_right q) (hk.resolve_right r) hne b eb
/-- Those that have come. -/
def come (left : Lit → Bool) (l : List Ent) : List Ent := l.filter fun e => !left (nm e.1)
theorem come_all {left : Lit → Bool} {l : List Ent} (h : ∀ e ∈ l, left (nm e.1) = true) : come left l = [] := by
  unfold come
  rw [List.filter_eq_nil_iff]
  intro e he
  simp [h e he]
theorem come_none {left : Lit → Bool} (h : ∀ k, left k = false) (l : List Ent) : come left l = l := by
  unfold come
  rw [List.filter_eq_self]
  intro e he
  simp [h]
theorem come_same {left left' : Lit → Bool} {l : List Ent} (h : ∀ e ∈ l, left' (nm e.1) = left (nm e.1)) : come left' l = come left l := by
  unfold come
  exact List.filter_congr fun e he => by rw [h e he]
theorem bytes_eq {s t : ByteArray} (h : s.toList = t.toList) : s = t := by
  rw [ByteArray.toList_eq, ByteArray.toList_eq] at h
  exact ByteArray.ext (Array.toList_inj.1 h)
theorem come_step {left : Lit → Bool} {l : List Ent} (hl : Srt l) {s : ByteArray} {i : Nat} (hf : fnd l s = some i) (hk : left (nm s) = true) : pt (come left l) s i = come (fun z => left z && !z.sameKey (nm s)) l := by
  induction l with
  | nil => cases hf
  | cons e r ih =>
    rw [fnd] at hf
    by_cases q : (e.1.toList == s.toList) = true
    · rw [if_pos q] at hf
      simp only [Option.some.injEq] at hf
      have hs : e.1 = s := bytes_eq (eq_of_beq q)
      have hee : e = (s, i) := by rw [← hs, ← hf]
      have hr : come (fun z => left z && !z.sameKey (nm s)) r = come left r := come_same fun x hx => by
        simp only [nm_same]
        have hlt := hl.head x hx
        rw [eq_of_beq q] at hlt
        have : (x.1.toList == s.toList) = false := by
          cases hq : (x.1.toList == s.toList)
          · rfl
          · rw [eq_of_beq hq, less_irr] at hlt
            cases hlt
        rw [this]
        simp
      have h1 : come left (e :: r) = come left r := by
        unfold come
        rw [List.filter_cons, if_neg]
        rw [hs, hk]
        decide
      have h2 : come (fun z => left z && !z.sameKey (nm s)) (e :: r) = e :: come (fun z => left z && !z.sameKey (nm s)) r := by
        unfold come
        rw [List.filter_cons, if_pos]
        simp only [nm_same, q]
        simp
      rw [h1, h2, hr, hee]
      have hbig : ∀ x ∈ come left r, Op.bytesLess s.toList x.1.toList = true := fun x hx => by
        have := hl.head x (List.mem_filter.1 hx).1
        rw [hs] at this
        exact this
      cases hc : come left r with
      | nil => rfl
      | cons x t =>
        rw [hc] at hbig
        have hx := hbig x (by simp)
        rw [pt, if_neg, drp_other]
        · intro y hy hq
          have := hbig y hy
          rw [hq, less_irr] at this
          cases this
        · intro hq
          have := less_trans hx hq
          rw [less_irr] at this
          cases this
    · rw [if_neg q] at hf
      have hmem := ih hl.tail hf
      obtain ⟨a, ha, has⟩ := fnd_pair hf
      have hlt := hl.head _ ha
      simp only at hlt
      rw [has] at hlt
      have hq : (nm e.1).sameKey (nm s) = false := by rw [nm_same]; exact eq_false_of_ne_true q
      unfold come at hmem ⊢
      rw [List.filter_cons, List.filter_cons]
      simp only [hq, Bool.not_false, Bool.and_true]
      by_cases hle : (!left (nm e.1)) = true
      · rw [if_pos hle, if_pos hle, pt, if_pos hlt, hmem]
      · rw [if_neg hle, if_neg hle, hmem]
theorem come_mem {left : Lit → Bool} {l : List Ent} {e : Ent} (h : e ∈ come left l) : e ∈ l ∧ left (nm e.1) = false := by
  obtain ⟨h1, h2⟩ := List.mem_filter.1 h
  exact ⟨h1, by simpa using h2⟩
theorem Srt.come {l : List Ent} (h : Srt l) (left : Lit → Bool) : Srt (come left l) := List.Pairwise.filter _ h
end Go.Proofs.YtligofmcmjblpaaGreat

/- The landed disk: a directory with twins for its files: the walk. -/
namespace Go.Proofs.YtligofmcmjblpaaGreat
open Go.RowKit Go.Maps
set_option linter.unusedVariables false
set_option linter.unusedSimpArgs false

theorem fnd_srtW : ∀ {l : List Ent} {k : Nat} {e : Ent}, Srt l → l[k]? = some e → fnd l e.1 = some e.2
  | [], k, e, _, h => by simp at h
  | x :: r, 0, e, hs, h => by
    simp only [List.getElem?_cons_zero, Option.some.injEq] at h
    subst h
    rw [fnd, if_pos (by simp)]
  | x :: r, k + 1, e, hs, h => by
    have hr : r[k]? = some e := by simpa using h
    have hl := hs.head e (List.mem_of_getElem? hr)
    rw [fnd, if_neg, fnd_srtW hs.tail hr]
    intro hq
    rw [eq_of_beq hq, less_irr] at hl
    cases hl
/-- Where the walk stands. -/
structure WR (w0 w wr : World) (xb tb cb : Nat) (A : Nat → Prop) (loc : Nat → Nat) (fl : Nat → List Int × Nat) (Dn : Nat → Prop) (loc2 : Nat → Nat) (l : List Ent) (left : Lit → Bool) : Prop where
  ex : ∃ loc3 dv3, TW w0 wr xb tb A loc fl (fun j => Dn j ∨ ∃ e ∈ l, left (nm e.1) = false ∧ e.2 = j) loc3 dv3 ∧ MapL wr cb loc3 (come left l) ∧ ∀ j, Dn j → loc3 j = loc2 j
  kept : ∀ k, k < w.heap.size → k ≠ tb → wr.heap[k]? = w.heap[k]?
  size : w.heap.size ≤ wr.heap.size
  tlt : tb < w.heap.size

theorem it_cells {w : World} {b r n : Nat} {D : DataW Unit} {left : Lit → Bool} {cnt : Nat} (h : w.ranges Tryz.prog 9 fileE b r n D left cnt) : ∀ g t, TyOf w g t → r ≠ g := fun g t ht e => by
  obtain ⟨es, clock, since, seen, c0, hb, _, _, _, hr, _⟩ := h
  obtain ⟨c, f, hc⟩ := ht
  rw [e, hc] at hr
  cases hr
theorem it_map {w : World} {b r n : Nat} {D : DataW Unit} {left : Lit → Bool} {cnt : Nat} (h : w.ranges Tryz.prog 9 fileE b r n D left cnt) {m : Nat} {es : Array MapEntry} {c : Nat} (hm : w.heap[m]? = some (.map es c)) : r ≠ m := fun e => by
  obtain ⟨es, clock, since, seen, c0, hb, _, _, _, hr, _⟩ := h
  rw [e, hm] at hr
  cases hr
theorem MapL.obj {w : World} {b : Nat} {loc : Nat → Nat} {l : List Ent} (h : MapL w b loc l) : ∃ es c, w.heap[b]? = some (.map es c) := by
  obtain ⟨es, clock, hb, _⟩ := h
  exact ⟨es, clock, hb⟩
section
variable {w0 w wr w1 : World} {xb tb cb : Nat} {F A : Nat → Prop} {loc : Nat → Nat} {dv : Nat → Value} {fl : Nat → List Int × Nat} {Dn : Nat → Prop} {loc2 : Nat → Nat} {dv2 : Nat → Value} {l : List Ent} {left : Lit → Bool}
theorem WR.next (h : WR w0 w wr xb tb cb A loc fl Dn loc2 l left) {b r n : Nat} {D : DataW Unit} {lf : Lit → Bool} {cnt : Nat} (hrg : wr.ranges Tryz.prog 9 fileE b r n D lf cnt) (hg : wr.grownBy w1 (some r)) (h0 : w0.heap.size ≤ r) (h1 : w.heap.size ≤ r) : WR w0 w w1 xb tb cb A loc fl Dn loc2 l left := by
  obtain ⟨loc3, dv3, t, m, a⟩ := h.ex
  obtain ⟨es, c, hm⟩ := m.obj
  obtain ⟨tw, ⟨es2, c2, ht2, _⟩, _⟩ := t.tw
  refine ⟨⟨loc3, dv3, t.keptMap hg h0 (it_map hrg ht2) (it_cells hrg), m.same (hg.block cb m.lt fun e => it_map hrg hm (Option.some.inj e).symm), a⟩, fun k hk hne => ?_, Nat.le_trans h.size hg.size, h.tlt⟩
  rw [hg.block k (Nat.lt_of_lt_of_le hk h.size) fun e => by have := Option.some.inj e; omega]
  exact h.kept k hk hne
theorem WR.call (h : WR w0 w wr xb tb cb A loc fl Dn loc2 l left) (hF : ∀ i, A i → FileM w0 F (loc i) (dv i) (fl i)) (hinj : ∀ i j, A i → A j → loc i = loc j → i = j) (hok : ∀ i, (fl i).1.length ≤ 4194304 ∧ Okb (fl i).1) (hg : Gd l) (hA : ∀ e ∈ l, A e.2) (hcb : w.heap.size ≤ cb) (hw0 : w0.heap.size ≤ cb) {s : ByteArray} {i : Nat} (hf : fnd l s = some i) (hk : left (nm s) = true) :
    Calls Tryz.prog 76 #[.pointer (some ⟨loc i, 0, none⟩), .pointer (some ⟨xb, 0, none⟩)] wr fun e w2 => ∃ loc3, e = .returned (.pointer (some ⟨loc3 i, 0, none⟩)) ∧ MapL w2 cb loc3 (come left l) ∧ wr.grownBy w2 (some tb) ∧ ∀ w3, MapL w3 cb loc3 (pt (come left l) s i) → w2.grownBy w3 (some cb) → WR w0 w w3 xb tb cb A loc fl Dn loc2 l (fun z => left z && !z.sameKey (nm s)) := by
  obtain ⟨loc3, dv3, t, m, a⟩ := h.ex
  obtain ⟨x, hx, hxs⟩ := fnd_pair hf
  refine (copier1_any t hF hinj hok i (hA _ hx)).mono ?_
  rintro e w2 ⟨loc4, dv4, rfl, t4, a4, g4⟩
  obtain ⟨es, c, hm⟩ := m.obj
  obtain ⟨tw, t1, _⟩ := t.tw
  have hcl : cb ≠ tb := fun e => by
    have := h.tlt
    omega
  have m4 : MapL w2 cb loc4 (come left l) := (m.same (g4.block cb m.lt fun e => hcl (Option.some.inj e))).loc fun e he => a4 _ (.inr ⟨e, (come_mem he).1, (come_mem he).2, rfl⟩)
  refine ⟨loc4, rfl, m4, g4, fun w3 m3 g3 => ?_⟩
  obtain ⟨es4, c4, hm4⟩ := m4.obj
  rw [come_step hg.srt hf hk] at m3
  refine ⟨⟨loc4, dv4, (t4.keptMap g3 hw0 hcl (fun g t ht => m4.ne ht)).dnEq fun j => ?_, m3, fun j hj => (a4 j (.inl hj)).trans (a j hj)⟩, fun k hkk hne => ?_, Nat.le_trans h.size (Nat.le_trans g4.size g3.size), h.tlt⟩
  · constructor
    · rintro ((hj | ⟨e, he, h1, h2⟩) | rfl)
      · exact .inl hj
      · exact .inr ⟨e, he, by simp [h1], h2⟩
      · exact .inr ⟨_, hx, by simp only [nm_same]; rw [hxs]; simp, rfl⟩
    · rintro (hj | ⟨e, he, h1, h2⟩)
      · exact .inl (.inl hj)
      · by_cases hle : left (nm e.1) = false
        · exact .inl (.inr ⟨e, he, hle, h2⟩)
        · right
          have hsk : (nm e.1).sameKey (nm s) = true := by
            cases hq : (nm e.1).sameKey (nm s)
            · rw [hq] at h1
              simp only [Bool.not_false, Bool.and_true] at h1
              exact absurd h1 hle
            · rfl
          rw [nm_same] at hsk
          obtain ⟨ke, hke⟩ := List.getElem?_of_mem he
          have h3 := fnd_srtW hg.srt hke
          have : e.1 = s := bytes_eq (eq_of_beq hsk)
          rw [this, hf] at h3
          rw [← h2]
          exact (Option.some.inj h3).symm
  · rw [g3.block k (Nat.lt_of_lt_of_le hkk (Nat.le_trans h.size g4.size)) fun e => by have := Option.some.inj e; omega, g4.block k (Nat.lt_of_lt_of_le hkk h.size) fun e => hne (Option.some.inj e)]
    exact h.kept k hkk hne
end
set_option maxHeartbeats 2000000 in
set_option maxRecDepth 100000 in
theorem with_any {w0 w : World} {xb tb : Nat} {F A : Nat → Prop} {loc : Nat → Nat} {dv : Nat → Value} {fl : Nat → List Int × Nat} {Dn : Nat → Prop} {loc2 : Nat → Nat} {dv2 : Nat → Value} (h : TW w0 w xb tb A loc fl Dn loc2 dv2)
    (hF : ∀ i, A i → FileM w0 F (loc i) (dv i) (fl i)) (hinj : ∀ i j, A i → A j → loc i = loc j → i = j) (hok : ∀ i, (fl i).1.length ≤ 4194304 ∧ Okb (fl i).1) (v : Value) (l : List Ent) (hd : DirM w0 F loc v l) (hg : Gd l) (hA : ∀ e ∈ l, A e.2) (hl : l.length ≤ 1048577) :
    Calls Tryz.prog 49 #[v, .func (.func 76) #[] #[.pointer (some ⟨xb, 0, none⟩)]] w fun e w' => ∃ nb loc3 dv3, e = .returned (.map (some nb)) ∧ w.heap.size ≤ nb ∧ MapL w' nb loc3 l ∧ TW w0 w' xb tb A loc fl (fun j => Dn j ∨ ∃ e ∈ l, e.2 = j) loc3 dv3 ∧ (∀ j, Dn j → loc3 j = loc2 j) ∧ ∀ k, k < w.heap.size → k ≠ tb → w'.heap[k]? = w.heap[k]? := by
  have hmm := @run_makeMap Tryz.prog
  have hts := h.tlt
  have hb0 : Below w.heap.size w (w.alloc (.map #[] 0)) := (Below.refl _ _).alloc (Nat.le_refl _) _
  rcases hd with ⟨rfl, rfl⟩ | ⟨b, rfl, hFb, hM⟩
  · have HN : Hid (∀ o, MapL ((w.alloc (.map #[] 0)).alloc o) w.heap.size loc2 [] ∧ TW w0 ((w.alloc (.map #[] 0)).alloc o) xb tb A loc fl (fun j => Dn j ∨ ∃ e ∈ ([] : List Ent), e.2 = j) loc2 dv2 ∧ (∀ k, k < w.heap.size → k ≠ tb → ((w.alloc (.map #[] 0)).alloc o).heap[k]? = w.heap[k]?)) := fun o => by
      have hb1 : Below w.heap.size w ((w.alloc (.map #[] 0)).alloc o) := hb0.alloc hb0.size _
      refine ⟨(MapL.exact (n := 0) (World.ownsMap_made w Tryz.prog 9 fileE)).same (Below.heap_alloc _ _ _ (by simp)), (h.later hb1).dnEq fun i => by simp, fun k hk _ => hb1.block k hk⟩
    have hrg := run_range_nilMap (P := Tryz.prog) (w.alloc (.map #[] 0)) 46 _ _ Tryz.underlying46
    have hnx : ∀ ty, (Instr.next (.pointer (some ⟨(w.alloc (.map #[] 0)).heap.size, 0, none⟩)) false ty).run Tryz.prog ((w.alloc (.map #[] 0)).alloc (.mapIter none 0 #[] 0)) = _ := fun ty => run_next_nilMap _ ty 0 0 #[]
    clear h hF hinj hok hg hA hl hb0
    simp only [World.size_alloc] at hrg hnx
    go_enter Tryz.func49, Tryz.ntmps49
    go_wp2
    refine wp_loop_rounds 1 ?_
    rw [rounds_succ]
    go_wp2
    go_ret
    obtain ⟨z1, z2, z3⟩ := HN.out (.mapIter none 0 #[] 0)
    exact ⟨_, _, _, rfl, Nat.le_refl _, z1, z2, fun _ _ => rfl, z3⟩
  · have hsrt := hg.srt
    have hMw : MapL w b loc l := hM.same (h.bel.block b hM.lt)
    have hm : (w.alloc (.map #[] 0)).ownsMap Tryz.prog 9 fileE b l.length (dD loc l) := hMw.same (Below.heap_alloc _ _ _ hMw.lt)
    have HD : Hid (∀ e ∈ l, Maps.has (dD loc l) (nm e.1) = true) := fun e he => by
      rw [dD_has]
      obtain ⟨k, hk⟩ := List.getElem?_of_mem he
      rw [fnd_srtW hsrt hk]
      rfl
    have hws := h.bel.size
    have hbl : b < w0.heap.size := hM.lt
    have HS : Hid (∀ wr, (w.alloc (.map #[] 0)).grownBy wr none → WR w0 w wr xb tb w.heap.size A loc fl Dn loc2 l (Maps.has (dD loc l))) := fun wr hg0 => by
      have hb1 : Below w.heap.size w wr := hb0.grown hg0 hb0.size fun k e => by cases e
      have hcm : MapL (w.alloc (.map #[] 0)) w.heap.size loc2 [] := MapL.exact (n := 0) (World.ownsMap_made w Tryz.prog 9 fileE)
      refine ⟨⟨loc2, dv2, (h.later hb1).dnEq fun i => ⟨fun hi => .inl hi, fun hi => ?_⟩, ?_, fun _ _ => rfl⟩, fun k hk _ => hb1.block k hk, hb1.size, hts⟩
      · rcases hi with hi | ⟨e, he, h1, _⟩
        · exact hi
        · rw [HD.out e he] at h1
          cases h1
      · rw [come_all HD.out]
        exact hcm.same (hg0.block _ hcm.lt (by simp))
    have HL : Hid (∀ left, (come left l).length < maxLen) := fun left => by
      show _ < _
      have := List.length_filter_le (fun e : Ent => !left (nm e.1)) l
      unfold come maxLen
      omega
    have HN : Hid (∀ s i, fnd l s = some i → s.size ≤ maxLen) := fun s i hf => by
      obtain ⟨a, ha, has⟩ := fnd_pair hf
      have h1 := (may_size (hg.may _ ha)).2
      have : a = s := bytes_eq has
      rw [← this]
      unfold maxLen
      simp only at h1
      omega
    have HX : Hid (∀ {wr w1 : World} {left : Lit → Bool} {lf : Lit → Bool} {cnt : Nat}, WR w0 w wr xb tb w.heap.size A loc fl Dn loc2 l left → wr.ranges Tryz.prog 9 fileE b (w.heap.size + 1) l.length (dD loc l) lf cnt → wr.grownBy w1 (some (w.heap.size + 1)) → WR w0 w w1 xb tb w.heap.size A loc fl Dn loc2 l left) := fun hh hr hgg => hh.next hr hgg (by omega) (by omega)
    have HC : Hid (∀ {wr : World} {left : Lit → Bool} {s : ByteArray} {i : Nat}, WR w0 w wr xb tb w.heap.size A loc fl Dn loc2 l left → fnd l s = some i → left (nm s) = true → Calls Tryz.prog 76 #[.pointer (some ⟨loc i, 0, none⟩), .pointer (some ⟨xb, 0, none⟩)] wr fun e w2 => ∃ loc3, e = .returned (.pointer (some ⟨loc3 i, 0, none⟩)) ∧ MapL w2 w.heap.size loc3 (come left l) ∧ wr.grownBy w2 (some tb) ∧ ∀ w3, MapL w3 w.heap.size loc3 (pt (come left l) s i) → w2.grownBy w3 (some w.heap.size) → WR w0 w w3 xb tb w.heap.size A loc fl Dn loc2 l (fun z => left z && !z.sameKey (nm s))) := fun hh hf hk => hh.call hF hinj hok hg hA (Nat.le_refl _) hws hf hk
    have HE : Hid (∀ {wr : World} {left : Lit → Bool}, WR w0 w wr xb tb w.heap.size A loc fl Dn loc2 l left → (∀ k, left k = false) → ∃ loc3 dv3, MapL wr w.heap.size loc3 l ∧ TW w0 wr xb tb A loc fl (fun j => Dn j ∨ ∃ e ∈ l, e.2 = j) loc3 dv3 ∧ (∀ j, Dn j → loc3 j = loc2 j) ∧ ∀ k, k < w.heap.size → k ≠ tb → wr.heap[k]? = w.heap[k]?) := fun hh hk => by
      obtain ⟨loc3, dv3, t, m, a⟩ := hh.ex
      rw [come_none hk] at m
      exact ⟨loc3, dv3, m, t.dnEq fun i => by simp [hk], a, hh.kept⟩
    have hne1 : some b ≠ some tb := fun e => by have := h.tbl; have := Option.some.inj e; omega
    have hne2 : some (w.heap.size + 1) ≠ some tb := fun e => by have := Option.some.inj e; omega
    have hne3 : some b ≠ some w.heap.size := fun e => by have := Option.some.inj e; omega
    have hne4 : some (w.heap.size + 1) ≠ some w.heap.size := fun e => by have := Option.some.inj e; omega
    clear h hF hinj hok hg hA hl hb0 hM hMw hFb hts hbl hws
    go_enter Tryz.func49, Tryz.ntmps49
    go_wp2_with (first | (at_range; refine wpList_range_own _ rfl _ 46 rfl 9 68 keyL Tryz.underlying46 fileE b l.length _ rfl hm ?_; intro w1 hrg0 hg0 hs0; simp only [World.size_alloc] at hrg0 ⊢) | go_in)
    go_frame
    go_loopw [] (fun wr => ∃ left cnt, wr.ranges Tryz.prog 9 fileE b (w.heap.size + 1) l.length (dD loc l) left cnt ∧ Hid (WR w0 w wr xb tb w.heap.size A loc fl Dn loc2 l left)) (fun wr => wr.rangeLeft b (w.heap.size + 1))
    case atStart => exact ⟨_, _, hrg0, HS.out _ hg0⟩
    case round =>
      obtain ⟨left, cnt, hrg, HW⟩ := hrel
      go_wp2_with (first | (at_next; refine wpList_next_ranges _ rfl _ rfl 9 keyL fileE Value.string (pv id) (fun key kl hk => (keyOf9_inv hk).imp fun s h => h.1) fileE_shape b (w.heap.size + 1) l.length _ _ _ rfl hrg ?_ ?_) | go_in)
      · intro hc0 hl0
        obtain ⟨loc3, dv3, z1, z2, z3, z4⟩ := HE.out HW.out hl0
        go_wp2
        go_ret
        exact ⟨_, _, _, rfl, Nat.le_refl _, z1, z2, z3, z4⟩
      · intro s c kl yd yp w1 cnt1 hkey hlx hv hat hrg1 hlt hg1 hs1 hen
        obtain ⟨s', es, rfl⟩ := keyOf9_inv hkey
        obtain rfl : s = s' := by cases es; rfl
        obtain ⟨i, hf, rfl⟩ := entry_of hv hat
        have kc := HC.out (HX.out HW.out hrg hg1) hf hlx
        have hss := HN.out s i hf
        have hlen := HL.out left
        have hsc := hsrt.come left
        have HM : Hid (∀ w3 : World, w3.rangeLeft b (w.heap.size + 1) = cnt1 → w3.rangeLeft b (w.heap.size + 1) < wr.rangeLeft b (w.heap.size + 1)) := fun w3 he => by
          rw [he, hrg.left_eq]
          exact hlt
        have HR : Hid (w1.ranges Tryz.prog 9 fileE b (w.heap.size + 1) l.length (dD loc l) (fun z => left z && !z.sameKey (nm s)) cnt1) := hrg1
        simp only [pv, ptr, id] at hen ⊢
        clear hrg hrg1 hkey hlx hv hat es hlt hg1 hs1 hs0 hg0 hrg0 hm HW
        go_wp2_with (first | (go_at_call 76; refine kc.mono ?_; rintro e w2 ⟨loc3, rfl, m2, g2, n2⟩) | (at_mapUpdate; refine wpList_putL rfl _ _ _ rfl w.heap.size loc3 (come left l) rfl m2 hsc hlen s hss rfl i rfl ?_; intro w3 m3 g3) | go_in)
        go_roundw
        case rel => exact ⟨_, _, _, _, _, _, _, _, _, _, _, _, ⟨_, _, ((HR.out.kept g2 hne1 hne2).kept g3 hne3 hne4), n2 _ m3 g3⟩, rfl⟩
        case measure => exact HM.out _ ((HR.out.kept g2 hne1 hne2).kept g3 hne3 hne4).left_eq
end Go.Proofs.YtligofmcmjblpaaGreat
