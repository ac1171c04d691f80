/- The landed disk: a directory with twins for its files. -/
import Derived.Test.YtligofmcmjblpaaGreatLcopier
import Derived.Test.YtligofmcmjblpaaGreatLused
namespace Go.Proofs.YtligofmcmjblpaaGreat
open Go.RowKit Go.Maps
set_option linter.unusedVariables false
set_option linter.unusedSimpArgs false

/-- Dn: the files that have a twin; loc2: where it lies; dv2: its bytes. -/
structure TW (w0 w : World) (xb tb : Nat) (A : Nat → Prop) (loc : Nat → Nat) (fl : Nat → List Int × Nat) (Dn : Nat → Prop) (loc2 : Nat → Nat) (dv2 : Nat → Value) : Prop where
  bel : Below w0.heap.size w0 w
  xbc : w.heap[xb]? = some (.cells #[.map (some tb)] 103 (0, 0))
  xbl : w0.heap.size ≤ xb
  tbl : w0.heap.size ≤ tb
  tw : ∃ tw, TwM w tb tw ∧ (∀ x ∈ tw, ∃ i, A i ∧ x.1 = loc i) ∧ (∀ i, A i → Dn i → twL tw (loc i) = some (loc2 i)) ∧ ∀ i, A i → ¬ Dn i → twL tw (loc i) = none
  dn : ∀ i, Dn i → A i
  file : ∀ i, Dn i → FileM w (fun k => w0.heap.size ≤ k) (loc2 i) (dv2 i) (fl i)
  inj : ∀ i j, Dn i → Dn j → loc2 i = loc2 j → i = j
  sep : ∀ i j, Dn i → Dn j → i ≠ j → ∀ b, (dv2 i).ownBlock = some b → (dv2 j).ownBlock ≠ some b
theorem TW.tlt {w0 w : World} {xb tb : Nat} {A : Nat → Prop} {loc : Nat → Nat} {fl : Nat → List Int × Nat} {Dn : Nat → Prop} {loc2 : Nat → Nat} {dv2 : Nat → Value} (h : TW w0 w xb tb A loc fl Dn loc2 dv2) : tb < w.heap.size := by
  obtain ⟨tw, ⟨_, _, hh, _⟩, _⟩ := h.tw
  exact (Array.getElem?_eq_some_iff.1 hh).1
/-- What else comes about leaves it. -/
theorem TW.kept {w0 w w' : World} {xb tb : Nat} {A : Nat → Prop} {loc : Nat → Nat} {fl : Nat → List Int × Nat} {Dn : Nat → Prop} {loc2 : Nat → Nat} {dv2 : Nat → Value} (h : TW w0 w xb tb A loc fl Dn loc2 dv2) {r : Option Nat} (hg : w.grownBy w' r) (hr : ∀ k, r = some k → w0.heap.size ≤ k)
    (h1 : r ≠ some xb) (h2 : r ≠ some tb) (h3 : ∀ i, Dn i → r ≠ some (loc2 i)) (h4 : ∀ i, Dn i → ∀ b, (dv2 i).ownBlock = some b → r ≠ some b) : TW w0 w' xb tb A loc fl Dn loc2 dv2 := by
  refine ⟨h.bel.grown hg h.bel.size hr, (hg.block xb (Array.getElem?_eq_some_iff.1 h.xbc).1 fun e => h1 e.symm).trans h.xbc, h.xbl, h.tbl, ?_, h.dn, fun i hi => (h.file i hi).grown hg (h3 i hi) (h4 i hi), h.inj, h.sep⟩
  obtain ⟨tw, a, b⟩ := h.tw
  exact ⟨tw, a.same (hg.block tb h.tlt fun e => h2 e.symm), b⟩
/-- A row's block, or a map's, is none of its blocks. -/
theorem TW.keptMap {w0 w w' : World} {xb tb : Nat} {A : Nat → Prop} {loc : Nat → Nat} {fl : Nat → List Int × Nat} {Dn : Nat → Prop} {loc2 : Nat → Nat} {dv2 : Nat → Value} (h : TW w0 w xb tb A loc fl Dn loc2 dv2) {b : Nat} (hg : w.grownBy w' (some b)) (hb : w0.heap.size ≤ b) (ht : b ≠ tb) (hn : ∀ g t, TyOf w g t → b ≠ g) : TW w0 w' xb tb A loc fl Dn loc2 dv2 :=
  h.kept hg (fun k e => by cases e; exact hb) (fun e => hn xb _ ⟨_, _, h.xbc⟩ (Option.some.inj e)) (fun e => ht (Option.some.inj e)) (fun i hi e => hn _ _ (h.file i hi).ty (Option.some.inj e)) fun i hi k ek e => hn _ _ (owns_ty (h.file i hi).row ek) (Option.some.inj e)
theorem TW.later {w0 w w' : World} {xb tb : Nat} {A : Nat → Prop} {loc : Nat → Nat} {fl : Nat → List Int × Nat} {Dn : Nat → Prop} {loc2 : Nat → Nat} {dv2 : Nat → Value} (h : TW w0 w xb tb A loc fl Dn loc2 dv2) (hb : Below w.heap.size w w') : TW w0 w' xb tb A loc fl Dn loc2 dv2 :=
  h.kept (below_grown hb none) (fun k e => by cases e) (by simp) (by simp) (fun _ _ => by simp) (fun _ _ _ _ => by simp)
theorem TW.dnEq {w0 w : World} {xb tb : Nat} {A : Nat → Prop} {loc : Nat → Nat} {fl : Nat → List Int × Nat} {Dn Dm : Nat → Prop} {loc2 : Nat → Nat} {dv2 : Nat → Value} (h : TW w0 w xb tb A loc fl Dn loc2 dv2) (he : ∀ i, Dn i ↔ Dm i) : TW w0 w xb tb A loc fl Dm loc2 dv2 := by
  have : Dn = Dm := funext fun i => propext (he i)
  rw [← this]
  exact h
theorem copier1_any {w0 w : World} {xb tb : Nat} {F A : Nat → Prop} {loc : Nat → Nat} {dv : Nat → Value} {fl : Nat → List Int × Nat} {Dn : Nat → Prop} {loc2 : Nat → Nat} {dv2 : Nat → Value} (h : TW w0 w xb tb A loc fl Dn loc2 dv2)
    (hF : ∀ i, A i → FileM w0 F (loc i) (dv i) (fl i)) (hinj : ∀ i j, A i → A j → loc i = loc j → i = j) (hok : ∀ i, (fl i).1.length ≤ 4194304 ∧ Okb (fl i).1) (i : Nat) (hA : A i) :
    Calls Tryz.prog 76 #[ptr (loc i), .pointer (some ⟨xb, 0, none⟩)] w fun e w' => ∃ loc3 dv3, e = .returned (ptr (loc3 i)) ∧ TW w0 w' xb tb A loc fl (fun j => Dn j ∨ j = i) loc3 dv3 ∧ (∀ j, Dn j → loc3 j = loc2 j) ∧ w.grownBy w' (some tb) := by
  obtain ⟨tw, t1, t2, t3, t4⟩ := h.tw
  have hx : w.cell? ⟨xb, 0, none⟩ = some (.map (some tb)) := cell_of h.xbc 0
  have hfm : ∀ j, A j → FileM w F (loc j) (dv j) (fl j) := fun j hj => by
    have hj0 := hF j hj
    exact hj0.block (fun _ z => z) (h.bel.block _ hj0.ty.lt) fun b eb => h.bel.block b (owns_ty hj0.row eb).lt
  have hfb : ∀ x ∈ tw, FB w x.1 := fun x hxm => by
    obtain ⟨j, hj, e⟩ := t2 x hxm
    rw [e]
    exact ⟨_, _, (hfm j hj).blk⟩
  by_cases hD : Dn i
  · refine (copier1_old xb tb (loc i) (loc2 i) tw w hx t1 hfb ⟨_, _, (hfm i hA).blk⟩ (t3 i hA hD)).mono ?_
    rintro e w' ⟨rfl, rfl⟩
    refine ⟨loc2, dv2, rfl, h.dnEq fun j => ⟨fun hj => .inl hj, fun hj => ?_⟩, fun _ _ => rfl, ⟨rfl, rfl, rfl, Nat.le_refl _, fun _ _ _ => rfl⟩⟩
    rcases hj with hj | rfl
    · exact hj
    · exact hD
  · refine (copier1_new xb tb (loc i) tw w hx t1 hfb (t4 i hA hD) F (dv i) (fl i) (hfm i hA) (hok i).2 (hok i).1).mono ?_
    rintro e w' ⟨nb, dv', rfl, hnb, ht', hg', hf'⟩
    have hsz := h.bel.size
    have hother : ∀ j, Dn j → j ≠ i := fun j hj e => hD (e ▸ hj)
    have hold : ∀ j, Dn j → FileM w' (fun k => w0.heap.size ≤ k) (loc2 j) (dv2 j) (fl j) := fun j hj => by
      have hj0 := h.file j hj
      exact hj0.grown hg' (fun e => t1.ne hj0.ty (Option.some.inj e)) fun b eb e => t1.ne (owns_ty hj0.row eb) (Option.some.inj e)
    have hltb : ∀ j, Dn j → ∀ b, (dv2 j).ownBlock = some b → b < w.heap.size := fun j hj b eb => (owns_ty (h.file j hj).row eb).lt
    refine ⟨fun j => if j = i then nb else loc2 j, fun j => if j = i then dv' else dv2 j, by simp, ⟨h.bel.grown hg' hsz fun k e => by cases e; exact h.tbl, (hg'.block xb (Array.getElem?_eq_some_iff.1 h.xbc).1 fun e => t1.ne ⟨_, _, h.xbc⟩ (Option.some.inj e).symm).trans h.xbc, h.xbl, h.tbl, ⟨_, ht', fun x hxm => ?_, fun j hj hd => ?_, fun j hj hd => ?_⟩, fun j hj => ?_, fun j hj => ?_, fun j k hj hk e => ?_, fun j k hj hk hne b eb => ?_⟩, fun j hj => if_neg (hother j hj), hg'⟩
    · rcases List.mem_append.1 hxm with hxm | hxm
      · exact t2 x hxm
      · simp only [List.mem_singleton] at hxm
        subst hxm
        exact ⟨i, hA, rfl⟩
    · rw [twL_snoc]
      by_cases q : j = i
      · subst q
        rw [t4 j hA hD]
        simp
      · have hdj : Dn j := hd.resolve_right q
        rw [t3 j hj hdj]
        simp [q]
    · have q : j ≠ i := fun e => hd (.inr e)
      rw [twL_snoc, t4 j hj fun x => hd (.inl x)]
      simp only
      rw [if_neg fun e => q (hinj j i hj hA e)]
    · rcases hj with hj | rfl
      · exact h.dn j hj
      · exact hA
    · by_cases q : j = i
      · subst q
        simp only [if_true]
        exact hf'.mono fun k hk => Nat.le_trans hsz hk
      · simp only [if_neg q]
        exact hold j (hj.resolve_right q)
    · by_cases q : j = i
      · by_cases r : k = i
        · rw [q, r]
        · simp only [if_pos q, if_neg r] at e
          have := (h.file k (hk.resolve_right r)).ty.lt
          omega
      · by_cases r : k = i
        · simp only [if_neg q, if_pos r] at e
          have := (h.file j (hj.resolve_right q)).ty.lt
          omega
        · simp only [if_neg q, if_neg r] at e
          exact h.inj j k (hj.resolve_right q) (hk.resolve_right r) e
    · by_cases q : j = i
      · by_cases r : k = i
        · exact absurd (q.trans r.symm) hne
        · simp only [if_pos q] at eb
          simp only [if_neg r]
          intro e2
          have h1 : w.heap.size ≤ b := hf'.own b eb
          have h2 := hltb k (hk.resolve_right r) b e2
          omega
      · simp only [if_neg q] at eb
        by_cases r : k = i
        · simp only [if_pos r]
          intro e2
          have h1 : w.heap.size ≤ b := hf'.own b e2
          have h2 := hltb j (hj.resolve_right q) b eb
          omega
        · simp only [if_neg r]
          exact h.sep j k (hj.resolve_right q) (hk.resolve_right r) hne b eb
/-- Those that have come. -/
def come (left : Lit → Bool) (l : List Ent) : List Ent := l.filter fun e => !left (nm e.1)
theorem come_all {left : Lit → Bool} {l : List Ent} (h : ∀ e ∈ l, left (nm e.1) = true) : come left l = [] := by
  unfold come
  rw [List.filter_eq_nil_iff]
  intro e he
  simp [h e he]
theorem come_none {left : Lit → Bool} (h : ∀ k, left k = false) (l : List Ent) : come left l = l := by
  unfold come
  rw [List.filter_eq_self]
  intro e he
  simp [h]
theorem come_same {left left' : Lit → Bool} {l : List Ent} (h : ∀ e ∈ l, left' (nm e.1) = left (nm e.1)) : come left' l = come left l := by
  unfold come
  exact List.filter_congr fun e he => by rw [h e he]
theorem bytes_eq {s t : ByteArray} (h : s.toList = t.toList) : s = t := by
  rw [ByteArray.toList_eq, ByteArray.toList_eq] at h
  exact ByteArray.ext (Array.toList_inj.1 h)
theorem come_step {left : Lit → Bool} {l : List Ent} (hl : Srt l) {s : ByteArray} {i : Nat} (hf : fnd l s = some i) (hk : left (nm s) = true) : pt (come left l) s i = come (fun z => left z && !z.sameKey (nm s)) l := by
  induction l with
  | nil => cases hf
  | cons e r ih =>
    rw [fnd] at hf
    by_cases q : (e.1.toList == s.toList) = true
    · rw [if_pos q] at hf
      simp only [Option.some.injEq] at hf
      have hs : e.1 = s := bytes_eq (eq_of_beq q)
      have hee : e = (s, i) := by rw [← hs, ← hf]
      have hr : come (fun z => left z && !z.sameKey (nm s)) r = come left r := come_same fun x hx => by
        simp only [nm_same]
        have hlt := hl.head x hx
        rw [eq_of_beq q] at hlt
        have : (x.1.toList == s.toList) = false := by
          cases hq : (x.1.toList == s.toList)
          · rfl
          · rw [eq_of_beq hq, less_irr] at hlt
            cases hlt
        rw [this]
        simp
      have h1 : come left (e :: r) = come left r := by
        unfold come
        rw [List.filter_cons, if_neg]
        rw [hs, hk]
        decide
      have h2 : come (fun z => left z && !z.sameKey (nm s)) (e :: r) = e :: come (fun z => left z && !z.sameKey (nm s)) r := by
        unfold come
        rw [List.filter_cons, if_pos]
        simp only [nm_same, q]
        simp
      rw [h1, h2, hr, hee]
      have hbig : ∀ x ∈ come left r, Op.bytesLess s.toList x.1.toList = true := fun x hx => by
        have := hl.head x (List.mem_filter.1 hx).1
        rw [hs] at this
        exact this
      cases hc : come left r with
      | nil => rfl
      | cons x t =>
        rw [hc] at hbig
        have hx := hbig x (by simp)
        rw [pt, if_neg, drp_other]
        · intro y hy hq
          have := hbig y hy
          rw [hq, less_irr] at this
          cases this
        · intro hq
          have := less_trans hx hq
          rw [less_irr] at this
          cases this
    · rw [if_neg q] at hf
      have hmem := ih hl.tail hf
      obtain ⟨a, ha, has⟩ := fnd_pair hf
      have hlt := hl.head _ ha
      simp only at hlt
      rw [has] at hlt
      have hq : (nm e.1).sameKey (nm s) = false := by rw [nm_same]; exact eq_false_of_ne_true q
      unfold come at hmem ⊢
      rw [List.filter_cons, List.filter_cons]
      simp only [hq, Bool.not_false, Bool.and_true]
      by_cases hle : (!left (nm e.1)) = true
      · rw [if_pos hle, if_pos hle, pt, if_pos hlt, hmem]
      · rw [if_neg hle, if_neg hle, hmem]
theorem come_mem {left : Lit → Bool} {l : List Ent} {e : Ent} (h : e ∈ come left l) : e ∈ l ∧ left (nm e.1) = false := by
  obtain ⟨h1, h2⟩ := List.mem_filter.1 h
  exact ⟨h1, by simpa using h2⟩
theorem Srt.come {l : List Ent} (h : Srt l) (left : Lit → Bool) : Srt (come left l) := List.Pairwise.filter _ h
end Go.Proofs.YtligofmcmjblpaaGreat
