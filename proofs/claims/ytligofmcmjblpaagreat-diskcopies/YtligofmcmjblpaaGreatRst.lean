/- The document's own disk: its states, and how one follows another. -/
import Derived.Test.YtligofmcmjblpaaGreatRchg
namespace Go.Proofs.YtligofmcmjblpaaGreat
open Go.RowKit
set_option linter.unusedVariables false
set_option linter.unusedSimpArgs false

theorem DRow.dir {B : Nat} {w : World} {F : Nat → Prop} {loc : Nat → Nat} {v : Value} {l : List Ent} (h : DRow B w loc v l) (hF : ∀ k, B ≤ k → k < w.heap.size → F k) : DirR w F loc v l :=
  ⟨⟨h.1, h.2.imp id fun ⟨g, cap, cur, a, b, c⟩ => ⟨g, cap, cur, a, Nat.zero_le _, c⟩⟩, fun g e => hF g (World.ownsRow.lt h g e).1 (World.ownsRow.lt h g e).2⟩

section
variable {w w' : World} {p : Nat} {σ : DS} {F A : Nat → Prop} {loc : Nat → Nat} {lv wv v : Value}

theorem RefAt.pne (h : RefAt w p σ F A loc lv wv) : ∀ t, t ≠ 55 → ∀ g, some p = some g → ¬ TyOf w g t := fun t ht g e x => by
  simp only [Option.some.injEq] at e
  subst e
  exact absurd rfl (TyOf.ne h.blk.ty x (Ne.symm ht))
/-- A new directory, in memory of its own. -/
theorem RefAt.newdir (h : RefAt w p σ F A loc lv wv) {d : List Ent} (hk : Dk w' p σ.room v wv σ.c) (hr : DRow w.heap.size w' loc v d) (hg : w.grownBy w' (some p)) (ha : ∀ e ∈ d, A e.2) :
    RefAt w' p { σ with dir := d } (fun k => F k ∨ (w.heap.size ≤ k ∧ k < w'.heap.size)) A loc v wv :=
  ⟨.inl h.fp, hk, hr.dir fun k a b => .inr ⟨a, b⟩, (h.was.grown hg fun g e => ⟨h.pne 102 (by decide) g e, h.pne 53 (by decide) g e⟩).mono fun _ x => .inl x, fun i hi => ((h.file i hi).grown hg fun k e => ⟨by
    simp only [Option.some.injEq] at e
    subst e
    exact TyOf.ne h.blk.ty (h.file i hi).ty (by decide), h.pne 5 (by decide) k e⟩).mono fun _ x => .inl x, h.inj, fun k hk => by
      rcases hk with hk | hk
      · exact Nat.lt_of_lt_of_le (h.lt k hk) hg.size
      · exact hk.2, fun i hi => by
      rcases hi with ⟨s, hs⟩ | hi
      · exact ha _ hs
      · exact h.al i (.inr hi), h.nx⟩
/-- A new file, without bytes. -/
theorem RefAt.newfile (h : RefAt w p σ F A loc lv wv) : RefAt (w.alloc (.cells #[.slice none 0 0, .int .i64 0] 77)) p { σ with fl := upd σ.fl σ.nx ([], 0), nx := σ.nx + 1 } (fun k => F k ∨ k = w.heap.size) (fun i => A i ∨ i = σ.nx) (fun i => if i = σ.nx then w.heap.size else loc i) lv wv := by
  have hb : Below w.heap.size w (w.alloc (.cells #[.slice none 0 0, .int .i64 0] 77)) := (Below.refl _ _).alloc (Nat.le_refl _) _
  have h2 := h.later hb
  have hne : ∀ i, A i → ¬ i = σ.nx := fun i hi e => by have := h.nx i hi; omega
  refine ⟨.inl h.fp, h2.blk, (h2.dir.mono fun _ x => .inl x).loc fun e he => if_neg (hne _ (h.al _ (.inl ⟨e.1, he⟩))), (h2.was.mono fun _ x => .inl x).loc fun l hl e he => if_neg (hne _ (h.al _ (.inr ⟨l, hl, e.1, he⟩))), fun i hi => ?_, fun i j hi hj e => ?_, fun k hk => ?_, fun i hi => .inl (h.al i hi), fun i hi => ?_⟩
  · by_cases q : i = σ.nx
    · subst q
      simp only [if_true]
      refine ⟨.inr rfl, .slice none 0 0, ?_, ?_, fun b e => by cases e⟩
      · rw [heap_alloc_new]
        simp [upd]
      · simp only [upd, if_true]
        exact Row.nil _ _
    · have hA : A i := by
        rcases hi with hi | hi
        · exact hi
        · exact absurd hi q
      simp only [if_neg q, upd]
      exact (h2.file i hA).mono fun _ x => .inl x
  · by_cases q : i = σ.nx
    · by_cases q' : j = σ.nx
      · omega
      · simp only [if_pos q, if_neg q'] at e
        have hA : A j := by
          rcases hj with hj | hj
          · exact hj
          · exact absurd hj q'
        have := h.lt _ (h.file j hA).fp
        omega
    · by_cases q' : j = σ.nx
      · simp only [if_neg q, if_pos q'] at e
        have hA : A i := by
          rcases hi with hi | hi
          · exact hi
          · exact absurd hi q
        have := h.lt _ (h.file i hA).fp
        omega
      · simp only [if_neg q, if_neg q'] at e
        refine h.inj i j ?_ ?_ e
        · rcases hi with hi | hi
          · exact hi
          · exact absurd hi q
        · rcases hj with hj | hj
          · exact hj
          · exact absurd hj q'
  · rcases hk with hk | hk
    · exact h2.lt k hk
    · subst hk
      simp
  · rcases hi with hi | hi
    · have := h.nx i hi
      show i < σ.nx + 1
      omega
    · show i < σ.nx + 1
      omega
/-- The directory's state is one more of its changes. -/
theorem RefAt.changed (h : RefAt w p σ F A loc lv wv) {vs : List Value} (hvs : WRow 0 w wv vs ∧ vs.length = σ.was.length ∧ ∀ (k : Nat) (x : Value) (l : List Ent), vs[k]? = some x → σ.was[k]? = some l → DirR w F loc x l) {v' u : Value}
    (hk : Dk w' p σ.room lv v' σ.c) (hw : WRow 0 w' v' (vs ++ [u])) (hu : DRow w.heap.size w' loc u σ.dir) (hkp : Kept (fun k => k = p ∨ wv.ownBlock = some k) w w') (hv : v'.ownBlock = wv.ownBlock ∨ ∃ g, v'.ownBlock = some g ∧ w.heap.size ≤ g) :
    RefAt w' p { σ with was := σ.was ++ [σ.dir] } (fun k => F k ∨ (w.heap.size ≤ k ∧ k < w'.heap.size)) A loc lv v' := by
  have ne : ∀ g, TyOf w g 102 ∨ TyOf w g 77 ∨ TyOf w g 5 → ¬ (g = p ∨ wv.ownBlock = some g) := fun g ht hp => by
    rcases hp with rfl | hp
    · rcases ht with t | t | t
      · exact absurd rfl (TyOf.ne h.blk.ty t (by decide))
      · exact absurd rfl (TyOf.ne h.blk.ty t (by decide))
      · exact absurd rfl (TyOf.ne h.blk.ty t (by decide))
    · rcases ht with t | t | t
      · exact absurd rfl (TyOf.ne (owns_ty hvs.1 hp) t (by decide))
      · exact absurd rfl (TyOf.ne (owns_ty hvs.1 hp) t (by decide))
      · exact absurd rfl (TyOf.ne (owns_ty hvs.1 hp) t (by decide))
  have hdir : ∀ x l, DirR w F loc x l → DirR w' F loc x l := fun x l hx => ⟨owns_same hx.row fun g e => hkp.block g (owns_ty hx.row e).lt (ne g (.inl (owns_ty hx.row e))), hx.own⟩
  have hlt : ∀ k, F k → k < w'.heap.size := fun k hk => Nat.lt_of_lt_of_le (h.lt k hk) hkp.size
  obtain ⟨vs0, a0, b0, _⟩ := h.was.ex
  refine ⟨.inl h.fp, hk, (hdir _ _ h.dir).mono fun _ x => .inl x, ⟨vs ++ [u], hw, fun g e => ?_, by simp [hvs.2.1], fun k x l hx hl => ?_⟩, fun i hi => ?_, h.inj, fun k hk => ?_, fun i hi => ?_, h.nx⟩
  · rcases hv with h1 | ⟨g', h1, h2⟩
    · exact .inl (b0 g (h1 ▸ e))
    · rw [h1] at e
      simp only [Option.some.injEq] at e
      subst e
      exact .inr ⟨h2, (World.ownsRow.lt hw g' h1).2⟩
  · by_cases q : k < vs.length
    · rw [List.getElem?_append_left q] at hx
      rw [List.getElem?_append_left (by omega)] at hl
      exact (hdir _ _ (hvs.2.2 k x l hx hl)).mono fun _ x => .inl x
    · rw [List.getElem?_append_right (by omega)] at hx hl
      rw [hvs.2.1] at hx
      have hk0 : k - σ.was.length = 0 := by
        have := (List.getElem?_eq_some_iff.1 hl).1
        simp at this
        omega
      rw [hk0] at hx hl
      simp at hx hl
      subst hx
      subst hl
      exact hu.dir fun k a b => .inr ⟨a, b⟩
  · obtain ⟨dv, a, b, c⟩ := (h.file i hi).ex
    refine ⟨.inl (h.file i hi).fp, dv, ?_, owns_same b fun g e => hkp.block g (owns_ty b e).lt (ne g (.inr (.inr (owns_ty b e)))), fun b e => .inl (c b e)⟩
    rw [hkp.block _ (h.file i hi).ty.lt (ne _ (.inr (.inl (h.file i hi).ty)))]
    exact a
  · rcases hk with hk | hk
    · exact hlt k hk
    · exact hk.2
  · rcases hi with hi | ⟨l, hl, s, hs⟩
    · exact h.al i (.inl hi)
    · rcases List.mem_append.1 hl with hl | hl
      · exact h.al i (.inr ⟨l, hl, s, hs⟩)
      · simp at hl
        subst hl
        exact h.al i (.inl ⟨s, hs⟩)
end
/-- What a call leaves: the disk in a state, and all that is not its own as it was. -/
def Nxt (w : World) (p : Nat) (σ' : DS) (F : Nat → Prop) (w' : World) : Prop := ∃ F' A' loc lv wv, RefAt w' p σ' F' A' loc lv wv ∧ Kept F w w' ∧ ∀ k, F' k → F k ∨ w.heap.size ≤ k
theorem Nxt.trans {w w1 w2 : World} {p : Nat} {σ2 : DS} {F F1 : Nat → Prop} (hk : Kept F w w1) (hs : ∀ k, F1 k → F k ∨ w.heap.size ≤ k) (h : Nxt w1 p σ2 F1 w2) : Nxt w p σ2 F w2 := by
  obtain ⟨F', A', loc, lv, wv, a, b, c⟩ := h
  refine ⟨F', A', loc, lv, wv, a, hk.trans b hs, fun k hF => ?_⟩
  rcases c k hF with x | x
  · exact hs k x
  · have := hk.size
    exact .inr (by omega)
theorem Nxt.start {w w1 w2 : World} {p : Nat} {σ2 : DS} {F : Nat → Prop} (hb : Below w.heap.size w w1) (h : Nxt w1 p σ2 F w2) : Nxt w p σ2 F w2 := Nxt.trans (below_kept hb) (fun _ x => .inl x) h
theorem Nxt.end {w w1 w2 : World} {p : Nat} {σ : DS} {F : Nat → Prop} (h : Nxt w p σ F w1) (hb : Below w1.heap.size w1 w2) : Nxt w p σ F w2 := by
  obtain ⟨F', A', loc, lv, wv, a, b, c⟩ := h
  exact ⟨F', A', loc, lv, wv, a.later hb, b.trans (below_kept (F := fun _ => False) hb) (fun k hk => hk.elim), c⟩

theorem rchg_nx {w : World} {p : Nat} {σ : DS} {F A : Nat → Prop} {loc : Nat → Nat} {lv wv : Value} (h : RefAt w p σ F A loc lv wv) (hn : σ.dir.length ≤ 2 ^ 40) (hm : σ.was.length ≤ 2 ^ 40) :
    Calls Tryz.prog 72 #[ptr p] w fun e w' => e = .returned (.tuple #[]) ∧ Nxt w p { σ with was := σ.was ++ [σ.dir] } F w' := by
  obtain ⟨vs, a, b, c, d⟩ := h.was.ex
  refine (rchg_any p σ.room lv wv σ.c F loc σ.dir vs w h.blk h.dir a hn (by omega)).mono ?_
  rintro e w' ⟨rfl, v', u, h1, h2, h3, h4, h5⟩
  refine ⟨rfl, _, A, loc, lv, v', h.changed ⟨a, c, d⟩ h1 h2 h3 h4 h5, ⟨h4.os, h4.tape, h4.output, h4.size, fun k hk hF => h4.block k hk fun e => ?_⟩, fun k hk => ?_⟩
  · rcases e with rfl | e
    · exact hF h.fp
    · exact hF (b k e)
  · rcases hk with hk | hk
    · exact .inl hk
    · exact .inr hk.1
theorem nx_dir {w w' : World} {p : Nat} {σ : DS} {F A : Nat → Prop} {loc : Nat → Nat} {lv wv v : Value} (h : RefAt w p σ F A loc lv wv) {d : List Ent} (hk : Dk w' p σ.room v wv σ.c) (hr : DRow w.heap.size w' loc v d) (hg : w.grownBy w' (some p)) (ha : ∀ e ∈ d, A e.2) : Nxt w p { σ with dir := d } F w' := by
  refine ⟨_, A, loc, v, wv, h.newdir hk hr hg ha, Kept.grown hg fun k e => ?_, fun k hk => ?_⟩
  · simp only [Option.some.injEq] at e
    subst e
    exact .inl h.fp
  · rcases hk with hk | hk
    · exact .inl hk
    · exact .inr hk.1
theorem mem_drp {l : List Ent} {s : ByteArray} {e : Ent} (h : e ∈ drp l s) : e ∈ l := (List.mem_filter.1 h).1
theorem mem_pt : ∀ {l : List Ent} {s : ByteArray} {i : Nat} {e : Ent}, e ∈ pt l s i → e = (s, i) ∨ e ∈ l
  | [], s, i, e, h => by simp [pt] at h; exact .inl h
  | x :: r, s, i, e, h => by
    rw [pt] at h
    split at h
    · rcases List.mem_cons.1 h with rfl | h
      · exact .inr (by simp)
      · rcases mem_pt h with h | h
        · exact .inl h
        · exact .inr (by simp [h])
    · rcases List.mem_cons.1 h with rfl | h
      · exact .inl rfl
      · exact .inr (mem_drp h)
theorem rdrop_nx {w : World} {p : Nat} {σ : DS} {F A : Nat → Prop} {loc : Nat → Nat} {lv wv : Value} (h : RefAt w p σ F A loc lv wv) (s : ByteArray) (hn : σ.dir.length ≤ 2 ^ 40) :
    Calls Tryz.prog 73 #[ptr p, .string s] w fun e w' => e = .returned (.tuple #[]) ∧ ∃ F' v, RefAt w' p { σ with dir := drp σ.dir s } F' A loc v wv ∧ Kept F w w' ∧ ∀ k, F' k → F k ∨ w.heap.size ≤ k := by
  refine (rdrop_any p σ.room lv wv σ.c F loc σ.dir s w h.blk h.dir hn).mono ?_
  rintro e w' ⟨rfl, v, h1, h2, h3⟩
  refine ⟨rfl, _, v, h.newdir h1 h2 h3 fun e he => h.al _ (.inl ⟨e.1, mem_drp he⟩), Kept.grown h3 fun k e => ?_, fun k hk => ?_⟩
  · simp only [Option.some.injEq] at e
    subst e
    exact .inl h.fp
  · rcases hk with hk | hk
    · exact .inl hk
    · exact .inr hk.1
theorem rput_nx {w : World} {p : Nat} {σ : DS} {F A : Nat → Prop} {loc : Nat → Nat} {lv wv : Value} (h : RefAt w p σ F A loc lv wv) (s : ByteArray) (f : Nat) (hf : A f) (hn : σ.dir.length ≤ 2 ^ 40) :
    Calls Tryz.prog 71 #[ptr p, .string s, ptr (loc f)] w fun e w' => e = .returned (.tuple #[]) ∧ Nxt w p { σ with dir := pt σ.dir s f } F w' := by
  refine (rput_any p σ.room lv wv σ.c F loc σ.dir s f w h.blk h.dir hn).mono ?_
  rintro e w' ⟨rfl, v, h1, h2, h3⟩
  refine ⟨rfl, nx_dir h h1 h2 h3 fun e he => ?_⟩
  rcases mem_pt he with rfl | he
  · exact hf
  · exact h.al _ (.inl ⟨e.1, he⟩)
/-- A new file under a name. -/
theorem rputn_nx {w : World} {p : Nat} {σ : DS} {F A : Nat → Prop} {loc : Nat → Nat} {lv wv : Value} (h : RefAt w p σ F A loc lv wv) (s : ByteArray) (hn : σ.dir.length ≤ 2 ^ 40) :
    Calls Tryz.prog 71 #[ptr p, .string s, ptr w.heap.size] (w.alloc (.cells #[.slice none 0 0, .int .i64 0] 77)) fun e w' => e = .returned (.tuple #[]) ∧ Nxt w p { σ with fl := upd σ.fl σ.nx ([], 0), nx := σ.nx + 1, dir := pt σ.dir s σ.nx } F w' := by
  have h2 := rput_nx h.newfile s σ.nx (.inr rfl) hn
  simp only [if_true] at h2
  refine h2.mono ?_
  rintro e w' ⟨rfl, h3⟩
  refine ⟨rfl, Nxt.trans (below_kept ((Below.refl _ _).alloc (Nat.le_refl _) _)) (fun k hk => ?_) h3⟩
  rcases hk with hk | hk
  · exact .inl hk
  · exact .inr (by omega)
end Go.Proofs.YtligofmcmjblpaaGreat
