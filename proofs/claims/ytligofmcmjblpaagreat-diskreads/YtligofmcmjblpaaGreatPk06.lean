import Derived.Deep.RegionLaw
import Derived.Deep.AppendLies
import Derived.Test.YtligofmcmjblpaaGreatPk02
import Derived.Test.YtligofmcmjblpaaGreatPk05
/- The document's own disk: the directory has changed. -/
namespace Go.Proofs.YtligofmcmjblpaaGreat
open Go.RowKit
set_option linter.unusedVariables false
set_option linter.unusedSimpArgs false

theorem _root_.Go.Proofs.Tryz.info53 : (Tryz.prog.info? 53).map (fun i => (i.zero, i.size, i.bytes)) = some (some (.slice none 0 0), 1, 24) := by kernel_rfl
/-- A row of directories: its values. -/
def WRow (B : Nat) (w : World) (v : Value) (vs : List Value) : Prop := w.ownsRow B 53 1 v vs.length vs
/-- One directory appended, that was just laid for it. -/
theorem run_dir1 (B : Nat) (w : World) (ty : TypeId) (v : Value) (vs : List Value) (u : Value) (hu : u.oneCell' = true) (hrow : WRow B w v vs) (g : Nat) (hc : w.cell? ⟨g, 0, none⟩ = some u) (hb : vs.length + 1 ≤ 2 ^ 41) (hbase : B ≤ w.heap.size) :
    ∃ v' w', (Builtin.append_ #[52, 52] ty #[v, .slice (some ⟨g, 0, none⟩) 1 1]).run Tryz.prog w = .ok v' w' ∧ WRow B w' v' (vs ++ [u]) ∧ w.grownBy w' v.ownBlock ∧ (v'.ownBlock = v.ownBlock ∨ v'.ownBlock = some w.heap.size) := by
  obtain ⟨i, hi, hz, hsize, hbytes⟩ := info_parts Tryz.info53
  obtain ⟨v', w', hr, h2, h3, _, h5⟩ := run_append_own_at (P := Tryz.prog) w B 52 ty 53 i _ 1 24 Tryz.underlying52 hi hz hsize hbytes rfl (by decide) v vs.length vs hrow ⟨g, 0, none⟩ 1 1 [u] rfl (fun j x hj => by
    have : j = 0 := by
      cases j with
      | zero => rfl
      | succ j => simp at hj
    subst this
    simp at hj
    rw [← hj, Addr.add_lit]
    exact hc) (fun x hx => by simp at hx; rw [hx]; exact hu) (by simp only [maxLen]; omega) (by omega) hbase
  refine ⟨v', w', hr, ?_, h3, h5⟩
  unfold WRow
  rw [List.length_append]
  exact h2
theorem WRow.slice {B : Nat} {w : World} {v : Value} {vs : List Value} (h : WRow B w v vs) : ∃ ao n c, v = .slice ao n c := by
  rcases h.2 with ⟨rfl, _⟩ | ⟨g, cap, cur, rfl, _⟩
  · exact ⟨_, _, _, rfl⟩
  · exact ⟨_, _, _, rfl⟩
/-- A call of a Go function, as one step of a region that draws. -/
theorem step_fn {P : Program} {ops : Array Oper} {w : World} {o : Oper} {a : Act} {K : Act → World → Prop} {Q : Exit → Act → World → Prop} {E : Prop} {R : Ending → World → Prop} (f : FuncId) {xs : Array Operand} {ts : Array TypeId} {args : Array Value} (hgd : o.guard = none)
    (hop : o.op = .call { callee := .value (.func f), args := xs, argTypes := ts }) (hargs : xs.map a.eval = args) (hf : (callFunc f args).run P w = .ok (.enter f args) w) (hc : Calls P f args w R) (h : ∀ e w', R e w' → ∃ v, e = .returned v ∧ K (a.put o.dst v) w') :
    if Region.wanted o (yielded ops a.tmps) = true then Oper.wp P o a w K Q else E := by
  have hw : Region.wanted o (yielded ops a.tmps) = true := by simp [Region.wanted, hgd]
  rw [if_pos hw]
  have hrun : (execOp a.eval o).run P w = .ok (.enter f args) w := by
    unfold execOp
    rw [hop]
    simp [resolve, invoke, Act.eval, go_sem, hargs, hf]
  unfold Oper.wp
  rw [hrun]
  exact hc.mono fun e w' hR => by
    obtain ⟨v, he, hk⟩ := h e w' hR
    subst he
    exact hk
theorem step_dir1 {ops : Array Oper} {w : World} {o : Oper} {a : Act} {K : Act → World → Prop} {Q : Exit → Act → World → Prop} {E : Prop} (hgd : o.guard = none) (s x : Operand)
    (ho : o.op = .call { callee := .builtin .append, args := #[s, x], argTypes := #[52, 52] }) (B : Nat) (v : Value) (vs : List Value) (u : Value) (hu : u.oneCell' = true) (hs : a.eval s = v) (hrow : WRow B w v vs) (g : Nat) (hx : a.eval x = .slice (some ⟨g, 0, none⟩) 1 1) (hc : w.cell? ⟨g, 0, none⟩ = some u)
    (hb : vs.length + 1 ≤ 2 ^ 41) (hbase : B ≤ w.heap.size)
    (h : ∀ ao n c w', WRow B w' (.slice ao n c) (vs ++ [u]) → w.grownBy w' v.ownBlock → ((Value.slice ao n c).ownBlock = v.ownBlock ∨ (Value.slice ao n c).ownBlock = some w.heap.size) → K (a.put o.dst (.slice ao n c)) w') :
    if Region.wanted o (yielded ops a.tmps) = true then Oper.wp Tryz.prog o a w K Q else E := by
  have hw : Region.wanted o (yielded ops a.tmps) = true := by simp [Region.wanted, hgd]
  rw [if_pos hw]
  obtain ⟨v', w', hr, h2, h3, h4⟩ := run_dir1 B w o.type v vs u hu hrow g hc hb hbase
  obtain ⟨ao, n, c, rfl⟩ := WRow.slice h2
  unfold Oper.wp execOp
  simp only [ho, resolve, invoke, builtin, Sem.run_bind, Sem.run_pure, Result.andThen_ok, List.map_toArray, List.map_cons, List.map_nil, hs, hx, hr]
  exact h _ _ _ _ h2 h3 h4

theorem chg_end {p : Nat} {room : Int} {lv wv u x : Value} {c : Cn} {loc : Nat → Nat} {l : List Ent} {vs : List Value} {w w1 w2 : World} {o : Obj} (hd : Dk w p room lv wv c) (hv : WRow 0 w wv vs) (hB : Below w.heap.size w w1) (hr1 : DRow w.heap.size w1 loc u l) (hr2 : WRow 0 w2 x (vs ++ [u]))
    (hg2 : (w1.alloc o).grownBy w2 wv.ownBlock) (hm2 : x.ownBlock = wv.ownBlock ∨ x.ownBlock = some (w1.alloc o).heap.size) :
    ∃ v' u, Dk (w2.setCell ⟨p, 2, none⟩ x) p room lv v' c ∧ WRow 0 (w2.setCell ⟨p, 2, none⟩ x) v' (vs ++ [u]) ∧ DRow w.heap.size (w2.setCell ⟨p, 2, none⟩ x) loc u l ∧ Kept (fun k => k = p ∨ wv.ownBlock = some k) w (w2.setCell ⟨p, 2, none⟩ x) ∧ (v'.ownBlock = wv.ownBlock ∨ ∃ g, v'.ownBlock = some g ∧ w.heap.size ≤ g) := by
  have hp : p < w.heap.size := hd.ty.lt
  have hB2 := hB.alloc hB.size o
  have hsz := hB2.size
  have ne : some p ≠ wv.ownBlock := fun e => absurd rfl (TyOf.ne hd.ty (owns_ty hv e.symm) (by decide))
  have h3 : w2.heap[p]? = w.heap[p]? := (hg2.block p (by omega) ne).trans (hB2.block p hp)
  have hd2 : Dk w2 p room lv wv c := by unfold Dk; rw [h3]; exact hd
  refine ⟨x, u, hd2.set2 _, owns_grown hr2 (grown_set _ _ _ _) (fun g e t => ?_), ownsRow_setCell_below (owns_same (World.ownsRow.alloc hr1 o) fun g e => ?_) hp _, ⟨?_, ?_, ?_, ?_, fun k hk hn => ?_⟩, ?_⟩
  · simp only [Option.some.injEq] at e
    subst e
    exact absurd rfl (TyOf.ne hd2.ty t (by decide))
  · have t1 := owns_ty (World.ownsRow.alloc hr1 o) e
    refine hg2.block g t1.lt fun e2 => ?_
    have h1 := (World.ownsRow.lt hr1 g e).1
    have h2 := (World.ownsRow.lt hv g e2.symm).2
    omega
  · exact hg2.os.trans hB2.os
  · exact hg2.tape.trans hB2.tape
  · exact hg2.output.trans hB2.output
  · have := hg2.size
    simp [World.setCell]
    omega
  · rw [Below.heap_setCell _ _ _ _ (fun e => hn (.inl e))]
    exact (hg2.block k (by omega) (fun e => hn (.inr e.symm))).trans (hB2.block k hk)
  · rcases hm2 with h | h
    · exact .inl h
    · exact .inr ⟨_, h, hsz⟩

set_option maxHeartbeats 1000000 in
set_option maxRecDepth 100000 in
theorem rchg_any (p : Nat) (room : Int) (lv wv : Value) (c : Cn) (F : Nat → Prop) (loc : Nat → Nat) (l : List Ent) (vs : List Value) (w : World) (hd : Dk w p room lv wv c) (hl : DirR w F loc lv l) (hv : WRow 0 w wv vs) (hn : l.length ≤ 2 ^ 40) (hm : vs.length ≤ 2 ^ 40) :
    Calls Tryz.prog 72 #[ptr p] w fun e w' => e = .returned (.tuple #[]) ∧ ∃ v' u, Dk w' p room lv v' c ∧ WRow 0 w' v' (vs ++ [u]) ∧ DRow w.heap.size w' loc u l ∧ Kept (fun k => k = p ∨ wv.ownBlock = some k) w w' ∧ (v'.ownBlock = wv.ownBlock ∨ ∃ g, v'.ownBlock = some g ∧ w.heap.size ≤ g) := by
  have c1 := cell_of hd 1
  have c2 := cell_of hd 2
  have f2 := frozen_of hd 2
  simp only [List.getElem?_toArray, List.getElem?_cons_succ, List.getElem?_cons_zero] at c1 c2
  have HC : Hid (∀ wx, Below w.heap.size w wx → Calls Tryz.prog 74 #[lv] wx fun e w' => ∃ v, e = .returned v ∧ DRow wx.heap.size w' loc v l ∧ Below wx.heap.size wx w') := fun wx hx => rcopied_any F loc lv l wx (hl.grown (below_grown hx none) (fun g e => by cases e)) hn
  have HP : Hid (p < w.heap.size) := hd.ty.lt
  have HE : Hid (∀ {w1 w2 : World} {o : Obj} {u x : Value}, Below w.heap.size w w1 → DRow w.heap.size w1 loc u l → WRow 0 w2 x (vs ++ [u]) → (w1.alloc o).grownBy w2 wv.ownBlock → (x.ownBlock = wv.ownBlock ∨ x.ownBlock = some (w1.alloc o).heap.size) →
      ∃ v' u, Dk (w2.setCell ⟨p, 2, none⟩ x) p room lv v' c ∧ WRow 0 (w2.setCell ⟨p, 2, none⟩ x) v' (vs ++ [u]) ∧ DRow w.heap.size (w2.setCell ⟨p, 2, none⟩ x) loc u l ∧ Kept (fun k => k = p ∨ wv.ownBlock = some k) w (w2.setCell ⟨p, 2, none⟩ x) ∧ (v'.ownBlock = wv.ownBlock ∨ ∃ g, v'.ownBlock = some g ∧ w.heap.size ≤ g)) := fun a b c d e => chg_end hd hv a b c d e
  have HM : Hid (vs.length + 1 ≤ 2 ^ 41) := by show _ + 1 ≤ _; omega
  have HV : Hid (∀ wx, Below w.heap.size w wx → WRow 0 wx wv vs) := fun wx hx => owns_same hv fun g e => hx.block g (owns_ty hv e).lt
  have HF : Hid (∀ (w1 w2 : World), Below w.heap.size w w1 → ∀ {o}, (w1.alloc o).grownBy w2 wv.ownBlock → w2.frozen? ⟨p, 2, none⟩ = false ∧ w2.cell? ⟨p, 2, none⟩ = some wv) := fun w1 w2 h1 o h2 => by
    have ne : some p ≠ wv.ownBlock := fun e => absurd rfl (TyOf.ne hd.ty (owns_ty hv e.symm) (by decide))
    have h3 : w2.heap[p]? = w.heap[p]? := (h2.block p (by have := h1.size; have := hd.ty.lt; simp; omega) ne).trans ((h1.alloc h1.size o).block p hd.ty.lt)
    exact ⟨(World.frozen?_of_block (w := w) h3).trans f2, (World.cell?_of_block (w := w) h3).trans c2⟩
  unfold ptr
  go_enter Tryz.func72, Tryz.ntmps72
  go_region_law
    (first | (refine step_fn 74 (args := #[lv]) rfl rfl (by simp [Act.eval]) (by kernel_rfl) (HC.out _ (Below.refl _ _).drew) ?_; rintro e w1 ⟨v1, rfl, hr1, hb1⟩; have hB : Below w.heap.size w w1 := (Below.refl _ _).drew.trans hb1; have d1 := cell_later hB c1; have d2 := cell_later hB c2; have d3 : ∀ o, (w1.alloc o).cell? ⟨p, 2, none⟩ = some wv := fun o => cell_later (hB.alloc hB.size o) c2; have e2 : w1.frozen? ⟨p, 2, none⟩ = false := (hB.frozen HP.out).trans f2; obtain ⟨o1, o2, o3, rfl⟩ := DRow.slice hr1; refine ⟨_, rfl, ?_⟩) | (refine step_dir1 rfl (.tmp 6) (.tmp 12) rfl 0 wv vs (.slice o1 o2 o3) rfl rfl (HV.out _ (hB.alloc hB.size _)) _ rfl (by simp) HM.out (Nat.zero_le _) ?_; intro ao2 n2 c2 w2 hr2 hg2 hm2; have e3 := HF.out _ _ hB hg2))
  all_goals
    go_end0
    exact ⟨rfl, HE.out hB hr1 hr2 hg2 hm2⟩
end Go.Proofs.YtligofmcmjblpaaGreat

/- The document's own disk: its states, and how one follows another. -/
namespace Go.Proofs.YtligofmcmjblpaaGreat
open Go.RowKit
set_option linter.unusedVariables false
set_option linter.unusedSimpArgs false

theorem DRow.dir {B : Nat} {w : World} {F : Nat → Prop} {loc : Nat → Nat} {v : Value} {l : List Ent} (h : DRow B w loc v l) (hF : ∀ k, B ≤ k → k < w.heap.size → F k) : DirR w F loc v l :=
  ⟨⟨h.1, h.2.imp id fun ⟨g, cap, cur, a, b, c⟩ => ⟨g, cap, cur, a, Nat.zero_le _, c⟩⟩, fun g e => hF g (World.ownsRow.lt h g e).1 (World.ownsRow.lt h g e).2⟩

section
variable {w w' : World} {p : Nat} {σ : DS} {F A : Nat → Prop} {loc : Nat → Nat} {lv wv v : Value}

theorem RefAt.pne (h : RefAt w p σ F A loc lv wv) : ∀ t, t ≠ 55 → ∀ g, some p = some g → ¬ TyOf w g t := fun t ht g e x => by
  simp only [Option.some.injEq] at e
  subst e
  exact absurd rfl (TyOf.ne h.blk.ty x (Ne.symm ht))
/-- A new directory, in memory of its own. -/
theorem RefAt.newdir (h : RefAt w p σ F A loc lv wv) {d : List Ent} (hk : Dk w' p σ.room v wv σ.c) (hr : DRow w.heap.size w' loc v d) (hg : w.grownBy w' (some p)) (ha : ∀ e ∈ d, A e.2) :
    RefAt w' p { σ with dir := d } (fun k => F k ∨ (w.heap.size ≤ k ∧ k < w'.heap.size)) A loc v wv :=
  ⟨.inl h.fp, hk, hr.dir fun k a b => .inr ⟨a, b⟩, (h.was.grown hg fun g e => ⟨h.pne 102 (by decide) g e, h.pne 53 (by decide) g e⟩).mono fun _ x => .inl x, fun i hi => ((h.file i hi).grown hg fun k e => ⟨by
    simp only [Option.some.injEq] at e
    subst e
    exact TyOf.ne h.blk.ty (h.file i hi).ty (by decide), h.pne 5 (by decide) k e⟩).mono fun _ x => .inl x, h.inj, fun k hk => by
      rcases hk with hk | hk
      · exact Nat.lt_of_lt_of_le (h.lt k hk) hg.size
      · exact hk.2, fun i hi => by
      rcases hi with ⟨s, hs⟩ | hi
      · exact ha _ hs
      · exact h.al i (.inr hi), h.nx⟩
/-- A new file, without bytes. -/
theorem RefAt.newfile (h : RefAt w p σ F A loc lv wv) : RefAt (w.alloc (.cells #[.slice none 0 0, .int .i64 0] 77)) p { σ with fl := upd σ.fl σ.nx ([], 0), nx := σ.nx + 1 } (fun k => F k ∨ k = w.heap.size) (fun i => A i ∨ i = σ.nx) (fun i => if i = σ.nx then w.heap.size else loc i) lv wv := by
  have hb : Below w.heap.size w (w.alloc (.cells #[.slice none 0 0, .int .i64 0] 77)) := (Below.refl _ _).alloc (Nat.le_refl _) _
  have h2 := h.later hb
  have hne : ∀ i, A i → ¬ i = σ.nx := fun i hi e => by have := h.nx i hi; omega
  refine ⟨.inl h.fp, h2.blk, (h2.dir.mono fun _ x => .inl x).loc fun e he => if_neg (hne _ (h.al _ (.inl ⟨e.1, he⟩))), (h2.was.mono fun _ x => .inl x).loc fun l hl e he => if_neg (hne _ (h.al _ (.inr ⟨l, hl, e.1, he⟩))), fun i hi => ?_, fun i j hi hj e => ?_, fun k hk => ?_, fun i hi => .inl (h.al i hi), fun i hi => ?_⟩
  · by_cases q : i = σ.nx
    · subst q
      simp only [if_true]
      refine ⟨.inr rfl, .slice none 0 0, ?_, ?_, fun b e => by cases e⟩
      · rw [heap_alloc_new]
        simp [upd]
      · simp only [upd, if_true]
        exact Row.nil _ _
    · have hA : A i := by
        rcases hi with hi | hi
        · exact hi
        · exact absurd hi q
      simp only [if_neg q, upd]
      exact (h2.file i hA).mono fun _ x => .inl x
  · by_cases q : i = σ.nx
    · by_cases q' : j = σ.nx
      · omega
      · simp only [if_pos q, if_neg q'] at e
        have hA : A j := by
          rcases hj with hj | hj
          · exact hj
          · exact absurd hj q'
        have := h.lt _ (h.file j hA).fp
        omega
    · by_cases q' : j = σ.nx
      · simp only [if_neg q, if_pos q'] at e
        have hA : A i := by
          rcases hi with hi | hi
          · exact hi
          · exact absurd hi q
        have := h.lt _ (h.file i hA).fp
        omega
      · simp only [if_neg q, if_neg q'] at e
        refine h.inj i j ?_ ?_ e
        · rcases hi with hi | hi
          · exact hi
          · exact absurd hi q
        · rcases hj with hj | hj
          · exact hj
          · exact absurd hj q'
  · rcases hk with hk | hk
    · exact h2.lt k hk
    · subst hk
      simp
  · rcases hi with hi | hi
    · have := h.nx i hi
      show i < σ.nx + 1
      omega
    · show i < σ.nx + 1
      omega
/-- The directory's state is one more of its changes. -/
theorem RefAt.changed (h : RefAt w p σ F A loc lv wv) {vs : List Value} (hvs : WRow 0 w wv vs ∧ vs.length = σ.was.length ∧ ∀ (k : Nat) (x : Value) (l : List Ent), vs[k]? = some x → σ.was[k]? = some l → DirR w F loc x l) {v' u : Value}
    (hk : Dk w' p σ.room lv v' σ.c) (hw : WRow 0 w' v' (vs ++ [u])) (hu : DRow w.heap.size w' loc u σ.dir) (hkp : Kept (fun k => k = p ∨ wv.ownBlock = some k) w w') (hv : v'.ownBlock = wv.ownBlock ∨ ∃ g, v'.ownBlock = some g ∧ w.heap.size ≤ g) :
    RefAt w' p { σ with was := σ.was ++ [σ.dir] } (fun k => F k ∨ (w.heap.size ≤ k ∧ k < w'.heap.size)) A loc lv v' := by
  have ne : ∀ g, TyOf w g 102 ∨ TyOf w g 77 ∨ TyOf w g 5 → ¬ (g = p ∨ wv.ownBlock = some g) := fun g ht hp => by
    rcases hp with rfl | hp
    · rcases ht with t | t | t
      · exact absurd rfl (TyOf.ne h.blk.ty t (by decide))
      · exact absurd rfl (TyOf.ne h.blk.ty t (by decide))
      · exact absurd rfl (TyOf.ne h.blk.ty t (by decide))
    · rcases ht with t | t | t
      · exact absurd rfl (TyOf.ne (owns_ty hvs.1 hp) t (by decide))
      · exact absurd rfl (TyOf.ne (owns_ty hvs.1 hp) t (by decide))
      · exact absurd rfl (TyOf.ne (owns_ty hvs.1 hp) t (by decide))
  have hdir : ∀ x l, DirR w F loc x l → DirR w' F loc x l := fun x l hx => ⟨owns_same hx.row fun g e => hkp.block g (owns_ty hx.row e).lt (ne g (.inl (owns_ty hx.row e))), hx.own⟩
  have hlt : ∀ k, F k → k < w'.heap.size := fun k hk => Nat.lt_of_lt_of_le (h.lt k hk) hkp.size
  obtain ⟨vs0, a0, b0, _⟩ := h.was.ex
  refine ⟨.inl h.fp, hk, (hdir _ _ h.dir).mono fun _ x => .inl x, ⟨vs ++ [u], hw, fun g e => ?_, by simp [hvs.2.1], fun k x l hx hl => ?_⟩, fun i hi => ?_, h.inj, fun k hk => ?_, fun i hi => ?_, h.nx⟩
  · rcases hv with h1 | ⟨g', h1, h2⟩
    · exact .inl (b0 g (h1 ▸ e))
    · rw [h1] at e
      simp only [Option.some.injEq] at e
      subst e
      exact .inr ⟨h2, (World.ownsRow.lt hw g' h1).2⟩
  · by_cases q : k < vs.length
    · rw [List.getElem?_append_left q] at hx
      rw [List.getElem?_append_left (by omega)] at hl
      exact (hdir _ _ (hvs.2.2 k x l hx hl)).mono fun _ x => .inl x
    · rw [List.getElem?_append_right (by omega)] at hx hl
      rw [hvs.2.1] at hx
      have hk0 : k - σ.was.length = 0 := by
        have := (List.getElem?_eq_some_iff.1 hl).1
        simp at this
        omega
      rw [hk0] at hx hl
      simp at hx hl
      subst hx
      subst hl
      exact hu.dir fun k a b => .inr ⟨a, b⟩
  · obtain ⟨dv, a, b, c⟩ := (h.file i hi).ex
    refine ⟨.inl (h.file i hi).fp, dv, ?_, owns_same b fun g e => hkp.block g (owns_ty b e).lt (ne g (.inr (.inr (owns_ty b e)))), fun b e => .inl (c b e)⟩
    rw [hkp.block _ (h.file i hi).ty.lt (ne _ (.inr (.inl (h.file i hi).ty)))]
    exact a
  · rcases hk with hk | hk
    · exact hlt k hk
    · exact hk.2
  · rcases hi with hi | ⟨l, hl, s, hs⟩
    · exact h.al i (.inl hi)
    · rcases List.mem_append.1 hl with hl | hl
      · exact h.al i (.inr ⟨l, hl, s, hs⟩)
      · simp at hl
        subst hl
        exact h.al i (.inl ⟨s, hs⟩)
end
/-- What a call leaves: the disk in a state, and all that is not its own as it was. -/
def Nxt (w : World) (p : Nat) (σ' : DS) (F : Nat → Prop) (w' : World) : Prop := ∃ F' A' loc lv wv, RefAt w' p σ' F' A' loc lv wv ∧ Kept F w w' ∧ ∀ k, F' k → F k ∨ w.heap.size ≤ k
theorem Nxt.trans {w w1 w2 : World} {p : Nat} {σ2 : DS} {F F1 : Nat → Prop} (hk : Kept F w w1) (hs : ∀ k, F1 k → F k ∨ w.heap.size ≤ k) (h : Nxt w1 p σ2 F1 w2) : Nxt w p σ2 F w2 := by
  obtain ⟨F', A', loc, lv, wv, a, b, c⟩ := h
  refine ⟨F', A', loc, lv, wv, a, hk.trans b hs, fun k hF => ?_⟩
  rcases c k hF with x | x
  · exact hs k x
  · have := hk.size
    exact .inr (by omega)
theorem Nxt.start {w w1 w2 : World} {p : Nat} {σ2 : DS} {F : Nat → Prop} (hb : Below w.heap.size w w1) (h : Nxt w1 p σ2 F w2) : Nxt w p σ2 F w2 := Nxt.trans (below_kept hb) (fun _ x => .inl x) h
theorem Nxt.end {w w1 w2 : World} {p : Nat} {σ : DS} {F : Nat → Prop} (h : Nxt w p σ F w1) (hb : Below w1.heap.size w1 w2) : Nxt w p σ F w2 := by
  obtain ⟨F', A', loc, lv, wv, a, b, c⟩ := h
  exact ⟨F', A', loc, lv, wv, a.later hb, b.trans (below_kept (F := fun _ => False) hb) (fun k hk => hk.elim), c⟩

theorem rchg_nx {w : World} {p : Nat} {σ : DS} {F A : Nat → Prop} {loc : Nat → Nat} {lv wv : Value} (h : RefAt w p σ F A loc lv wv) (hn : σ.dir.length ≤ 2 ^ 40) (hm : σ.was.length ≤ 2 ^ 40) :
    Calls Tryz.prog 72 #[ptr p] w fun e w' => e = .returned (.tuple #[]) ∧ Nxt w p { σ with was := σ.was ++ [σ.dir] } F w' := by
  obtain ⟨vs, a, b, c, d⟩ := h.was.ex
  refine (rchg_any p σ.room lv wv σ.c F loc σ.dir vs w h.blk h.dir a hn (by omega)).mono ?_
  rintro e w' ⟨rfl, v', u, h1, h2, h3, h4, h5⟩
  refine ⟨rfl, _, A, loc, lv, v', h.changed ⟨a, c, d⟩ h1 h2 h3 h4 h5, ⟨h4.os, h4.tape, h4.output, h4.size, fun k hk hF => h4.block k hk fun e => ?_⟩, fun k hk => ?_⟩
  · rcases e with rfl | e
    · exact hF h.fp
    · exact hF (b k e)
  · rcases hk with hk | hk
    · exact .inl hk
    · exact .inr hk.1
theorem nx_dir {w w' : World} {p : Nat} {σ : DS} {F A : Nat → Prop} {loc : Nat → Nat} {lv wv v : Value} (h : RefAt w p σ F A loc lv wv) {d : List Ent} (hk : Dk w' p σ.room v wv σ.c) (hr : DRow w.heap.size w' loc v d) (hg : w.grownBy w' (some p)) (ha : ∀ e ∈ d, A e.2) : Nxt w p { σ with dir := d } F w' := by
  refine ⟨_, A, loc, v, wv, h.newdir hk hr hg ha, Kept.grown hg fun k e => ?_, fun k hk => ?_⟩
  · simp only [Option.some.injEq] at e
    subst e
    exact .inl h.fp
  · rcases hk with hk | hk
    · exact .inl hk
    · exact .inr hk.1
theorem mem_drp {l : List Ent} {s : ByteArray} {e : Ent} (h : e ∈ drp l s) : e ∈ l := (List.mem_filter.1 h).1
theorem mem_pt : ∀ {l : List Ent} {s : ByteArray} {i : Nat} {e : Ent}, e ∈ pt l s i → e = (s, i) ∨ e ∈ l
  | [], s, i, e, h => by simp [pt] at h; exact .inl h
  | x :: r, s, i, e, h => by
    rw [pt] at h
    split at h
    · rcases List.mem_cons.1 h with rfl | h
      · exact .inr (by simp)
      · rcases mem_pt h with h | h
        · exact .inl h
        · exact .inr (by simp [h])
    · rcases List.mem_cons.1 h with rfl | h
      · exact .inl rfl
      · exact .inr (mem_drp h)
theorem rdrop_nx {w : World} {p : Nat} {σ : DS} {F A : Nat → Prop} {loc : Nat → Nat} {lv wv : Value} (h : RefAt w p σ F A loc lv wv) (s : ByteArray) (hn : σ.dir.length ≤ 2 ^ 40) :
    Calls Tryz.prog 73 #[ptr p, .string s] w fun e w' => e = .returned (.tuple #[]) ∧ ∃ F' v, RefAt w' p { σ with dir := drp σ.dir s } F' A loc v wv ∧ Kept F w w' ∧ ∀ k, F' k → F k ∨ w.heap.size ≤ k := by
  refine (rdrop_any p σ.room lv wv σ.c F loc σ.dir s w h.blk h.dir hn).mono ?_
  rintro e w' ⟨rfl, v, h1, h2, h3⟩
  refine ⟨rfl, _, v, h.newdir h1 h2 h3 fun e he => h.al _ (.inl ⟨e.1, mem_drp he⟩), Kept.grown h3 fun k e => ?_, fun k hk => ?_⟩
  · simp only [Option.some.injEq] at e
    subst e
    exact .inl h.fp
  · rcases hk with hk | hk
    · exact .inl hk
    · exact .inr hk.1
theorem rput_nx {w : World} {p : Nat} {σ : DS} {F A : Nat → Prop} {loc : Nat → Nat} {lv wv : Value} (h : RefAt w p σ F A loc lv wv) (s : ByteArray) (f : Nat) (hf : A f) (hn : σ.dir.length ≤ 2 ^ 40) :
    Calls Tryz.prog 71 #[ptr p, .string s, ptr (loc f)] w fun e w' => e = .returned (.tuple #[]) ∧ Nxt w p { σ with dir := pt σ.dir s f } F w' := by
  refine (rput_any p σ.room lv wv σ.c F loc σ.dir s f w h.blk h.dir hn).mono ?_
  rintro e w' ⟨rfl, v, h1, h2, h3⟩
  refine ⟨rfl, nx_dir h h1 h2 h3 fun e he => ?_⟩
  rcases mem_pt he with rfl | he
  · exact hf
  · exact h.al _ (.inl ⟨e.1, he⟩)
/-- A new file under a name. -/
theorem rputn_nx {w : World} {p : Nat} {σ : DS} {F A : Nat → Prop} {loc : Nat → Nat} {lv wv : Value} (h : RefAt w p σ F A loc lv wv) (s : ByteArray) (hn : σ.dir.length ≤ 2 ^ 40) :
    Calls Tryz.prog 71 #[ptr p, .string s, ptr w.heap.size] (w.alloc (.cells #[.slice none 0 0, .int .i64 0] 77)) fun e w' => e = .returned (.tuple #[]) ∧ Nxt w p { σ with fl := upd σ.fl σ.nx ([], 0), nx := σ.nx + 1, dir := pt σ.dir s σ.nx } F w' := by
  have h2 := rput_nx h.newfile s σ.nx (.inr rfl) hn
  simp only [if_true] at h2
  refine h2.mono ?_
  rintro e w' ⟨rfl, h3⟩
  refine ⟨rfl, Nxt.trans (below_kept ((Below.refl _ _).alloc (Nat.le_refl _) _)) (fun k hk => ?_) h3⟩
  rcases hk with hk | hk
  · exact .inl hk
  · exact .inr (by omega)
end Go.Proofs.YtligofmcmjblpaaGreat

/- The document's own disk: Create, Remove. -/
namespace Go.Proofs.YtligofmcmjblpaaGreat
open Go.RowKit
set_option linter.unusedVariables false
set_option linter.unusedSimpArgs false

theorem nxt_call {w w1 w2 : World} {p : Nat} {σ : DS} {F A : Nat → Prop} {loc : Nat → Nat} {lv wv : Value} (h : RefAt w p σ F A loc lv wv) (hd : Dk w1 p σ.room lv wv σ.c.cc) (hg : w.grownBy w1 (some p)) (hb : Below w1.heap.size w1 w2) : Nxt w p σ.cnt F w2 := by
  refine ⟨F, A, loc, lv, wv, (h.disk hg hd).later hb, ?_, fun k hk => .inl hk⟩
  exact (Kept.grown hg fun k e => by simp only [Option.some.injEq] at e; subst e; exact .inl h.fp).trans (below_kept (F := fun _ => False) hb) (fun k hk => hk.elim)
set_option maxHeartbeats 1000000 in
set_option maxRecDepth 100000 in
theorem rcreate_any (p : Nat) (σ : DS) (F A : Nat → Prop) (loc : Nat → Nat) (lv wv : Value) (s : ByteArray) (w : World) (h : RefAt w p σ F A loc lv wv) (hi : Inv σ) (hs : s.size ≤ 2 ^ 63 - 1) :
    Calls Tryz.prog 27 #[ptr p, .string s] w fun e w' => e = .returned (.int .i64 (σ.create s).1) ∧ Nxt w p (σ.create s).2 F w' := by
  have k1 := rcall_any p σ.room lv wv σ.c w h.blk hi.ok
  have HC : Hid (∀ {w1 w2 : World}, Dk w1 p σ.room lv wv σ.c.cc → w.grownBy w1 (some p) → Below w1.heap.size w1 w2 → Nxt w p σ.cnt F w2) := fun a b c => nxt_call h a b c
  have HN : Hid (σ.dir.length ≤ 2 ^ 40) := by have h1 := hi.dl; have h2 := hi.ok.2.1; show _ ≤ _; omega
  have HR : Hid (∀ {w1 : World}, Dk w1 p σ.room lv wv σ.c.cc → w.grownBy w1 (some p) → RefAt w1 p σ.cnt F A loc lv wv) := fun a b => h.disk b a
  unfold ptr at *
  rcases ce_cases σ.c with hE | hE | hE
  · have hr : σ.create s = (10, σ.cnt) := by rw [DS.create, hE]; rfl
    rw [hr]
    rw [hE] at k1
    clear hr hE h hi
    go_enter Tryz.func27, Tryz.ntmps27
    go_wp2_with (go_at_call 68; refine k1.mono ?_; rintro e w1 ⟨rfl, hd1, hg1⟩)
    go_ret
    exact ⟨rfl, HC.out hd1 hg1 (Below.refl _ _)⟩
  · have hr : σ.create s = (9, σ.cnt) := by rw [DS.create, hE]; rfl
    rw [hr]
    rw [hE] at k1
    clear hr hE h hi
    go_enter Tryz.func27, Tryz.ntmps27
    go_wp2_with (go_at_call 68; refine k1.mono ?_; rintro e w1 ⟨rfl, hd1, hg1⟩)
    go_ret
    exact ⟨rfl, HC.out hd1 hg1 (Below.refl _ _)⟩
  · have k2 := fun w1 => rmay_any s w1 hs
    have k3 := fun w1 e => rend_any e σ.c.cl w1
    rw [hE] at k1
    cases hm : mayN s with
    | false =>
      have hr : σ.create s = (endE 15 σ.c.cl, σ.cnt) := by rw [DS.create, hE, hm]; rfl
      rw [hr]
      rw [hm] at k2
      generalize σ.c.cl = L at k1 k3 ⊢
      clear hr hE h hi hm
      go_enter Tryz.func27, Tryz.ntmps27
      go_wp2_with (first | (go_at_call 68; refine k1.mono ?_; rintro e w1 ⟨rfl, hd1, hg1⟩) | (go_at_call 69; refine (k2 _).mono ?_; rintro e w2 ⟨rfl, rfl⟩) | (go_at_call 70; refine (k3 _ _).mono ?_; rintro e w3 ⟨rfl, rfl⟩))
      go_ret
      exact ⟨rfl, HC.out hd1 hg1 (Below.refl _ _)⟩
    | true =>
      rw [hm] at k2
      have k4 : ∀ {w1 : World}, Dk w1 p σ.room lv wv σ.c.cc → w.grownBy w1 (some p) → Calls Tryz.prog 47 #[.pointer (some ⟨p, 0, none⟩), .string s] w1 fun e w' => e = .returned (optp loc (fnd σ.dir s)) ∧ Below w1.heap.size w1 w' := fun a b => rfind_any p σ.room lv wv σ.c.cc F loc σ.dir s _ a (h.disk b a).dir HN.out
      cases hf : fnd σ.dir s with
      | some i =>
        have hr : σ.create s = (endE 6 σ.c.cl, σ.cnt) := by rw [DS.create, hE, hm, hf]; rfl
        rw [hr]
        rw [hf] at k4
        simp only [optp, ptr] at k4
        generalize σ.c.cl = L at k1 k3 ⊢
        clear hr hE h hi hm hf
        go_enter Tryz.func27, Tryz.ntmps27
        go_wp2_with (first | (go_at_call 68; refine k1.mono ?_; rintro e w1 ⟨rfl, hd1, hg1⟩) | (go_at_call 69; refine (k2 _).mono ?_; rintro e w2 ⟨rfl, rfl⟩) | (go_at_call 47; refine (k4 hd1 hg1).mono ?_; rintro e w4 ⟨rfl, hb4⟩) | (go_at_call 70; refine (k3 _ _).mono ?_; rintro e w3 ⟨rfl, rfl⟩))
        go_ret
        exact ⟨rfl, HC.out hd1 hg1 hb4⟩
      | none =>
        have hr : σ.create s = (endE 0 σ.c.cl, { σ.cnt.chg (pt σ.dir s σ.nx) with fl := upd σ.fl σ.nx ([], 0), nx := σ.nx + 1 }) := by rw [DS.create, hE, hm, hf]; rfl
        rw [hr]
        rw [hf] at k4
        simp only [optp] at k4
        have hpl := pt_le σ.dir s σ.nx
        have H1 : Hid ((pt σ.dir s σ.nx).length ≤ 2 ^ 40) := by have h1 := hi.dl; have h2 := hi.ok.2.1; show _ ≤ _; omega
        have H2 : Hid (σ.was.length ≤ 2 ^ 40) := by have h1 := hi.wl; have h2 := hi.ok.2.1; show _ ≤ _; omega
        have HF : Hid (∀ {w1 w4 w5 w6 : World} {F5 : Nat → Prop}, Dk w1 p σ.room lv wv σ.c.cc → w.grownBy w1 (some p) → Below w1.heap.size w1 w4 → Kept F w4 w5 → (∀ k, F5 k → F k ∨ w4.heap.size ≤ k) → Nxt w5 p { σ.cnt.chg (pt σ.dir s σ.nx) with fl := upd σ.fl σ.nx ([], 0), nx := σ.nx + 1 } F5 w6 → Nxt w p { σ.cnt.chg (pt σ.dir s σ.nx) with fl := upd σ.fl σ.nx ([], 0), nx := σ.nx + 1 } F w6) := fun a b c d e f => by
          have g : Kept F w _ := Kept.grown b fun k e => by simp only [Option.some.injEq] at e; subst e; exact .inl h.fp
          exact Nxt.trans g (fun _ x => .inl x) (Nxt.start c (Nxt.trans d e f))
        have HP := fun {w4 : World} (h4 : RefAt w4 p σ.cnt F A loc lv wv) => rputn_nx h4 s HN.out
        have HQ := fun {w5 : World} {F5 A5 : Nat → Prop} {loc5 : Nat → Nat} {lv5 wv5 : Value} (h5 : RefAt w5 p { σ.cnt with fl := upd σ.fl σ.nx ([], 0), nx := σ.nx + 1, dir := pt σ.dir s σ.nx } F5 A5 loc5 lv5 wv5) => rchg_nx h5 H1.out H2.out
        unfold ptr at *
        generalize σ.c.cl = L at k1 k3 ⊢
        clear hr hE h hi hm hf hpl
        go_enter Tryz.func27, Tryz.ntmps27
        go_wp2_with (first | (go_at_call 68; refine k1.mono ?_; rintro e w1 ⟨rfl, hd1, hg1⟩) | (go_at_call 69; refine (k2 _).mono ?_; rintro e w2 ⟨rfl, rfl⟩) | (go_at_call 47; refine (k4 hd1 hg1).mono ?_; rintro e w4 ⟨rfl, hb4⟩) | (go_at_call 70; refine (k3 _ _).mono ?_; rintro e w3 ⟨rfl, rfl⟩) | (go_at_call 71; refine (HP ((HR.out hd1 hg1).later hb4)).mono ?_; rintro e w5 ⟨rfl, F5, A5, loc5, lv5, wv5, r5, m5, s5⟩) | (go_at_call 72; refine (HQ r5).mono ?_; rintro e w6 ⟨rfl, n6⟩))
        go_ret
        exact ⟨rfl, HF.out hd1 hg1 hb4 m5 s5 n6⟩
end Go.Proofs.YtligofmcmjblpaaGreat
