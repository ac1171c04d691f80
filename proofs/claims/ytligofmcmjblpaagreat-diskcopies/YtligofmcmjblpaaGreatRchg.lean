/- The document's own disk: the directory has changed. -/
import Derived.Test.YtligofmcmjblpaaGreatRput
import Derived.Deep.RegionLaw
import Derived.Deep.AppendLies
namespace Go.Proofs.YtligofmcmjblpaaGreat
open Go.RowKit
set_option linter.unusedVariables false
set_option linter.unusedSimpArgs false

theorem _root_.Go.Proofs.Tryz.info53 : (Tryz.prog.info? 53).map (fun i => (i.zero, i.size, i.bytes)) = some (some (.slice none 0 0), 1, 24) := by kernel_rfl
/-- A row of directories: its values. -/
def WRow (B : Nat) (w : World) (v : Value) (vs : List Value) : Prop := w.ownsRow B 53 1 v vs.length vs
/-- One directory appended, that was just laid for it. -/
theorem run_dir1 (B : Nat) (w : World) (ty : TypeId) (v : Value) (vs : List Value) (u : Value) (hu : u.oneCell' = true) (hrow : WRow B w v vs) (g : Nat) (hc : w.cell? ⟨g, 0, none⟩ = some u) (hb : vs.length + 1 ≤ 2 ^ 41) (hbase : B ≤ w.heap.size) :
    ∃ v' w', (Builtin.append_ #[52, 52] ty #[v, .slice (some ⟨g, 0, none⟩) 1 1]).run Tryz.prog w = .ok v' w' ∧ WRow B w' v' (vs ++ [u]) ∧ w.grownBy w' v.ownBlock ∧ (v'.ownBlock = v.ownBlock ∨ v'.ownBlock = some w.heap.size) := by
  obtain ⟨i, hi, hz, hsize, hbytes⟩ := info_parts Tryz.info53
  obtain ⟨v', w', hr, h2, h3, _, h5⟩ := run_append_own_at (P := Tryz.prog) w B 52 ty 53 i _ 1 24 Tryz.underlying52 hi hz hsize hbytes rfl (by decide) v vs.length vs hrow ⟨g, 0, none⟩ 1 1 [u] rfl (fun j x hj => by
    have : j = 0 := by
      cases j with
      | zero => rfl
      | succ j => simp at hj
    subst this
    simp at hj
    rw [← hj, Addr.add_lit]
    exact hc) (fun x hx => by simp at hx; rw [hx]; exact hu) (by simp only [maxLen]; omega) (by omega) hbase
  refine ⟨v', w', hr, ?_, h3, h5⟩
  unfold WRow
  rw [List.length_append]
  exact h2
theorem WRow.slice {B : Nat} {w : World} {v : Value} {vs : List Value} (h : WRow B w v vs) : ∃ ao n c, v = .slice ao n c := by
  rcases h.2 with ⟨rfl, _⟩ | ⟨g, cap, cur, rfl, _⟩
  · exact ⟨_, _, _, rfl⟩
  · exact ⟨_, _, _, rfl⟩
/-- A call of a Go function, as one step of a region that draws. -/
theorem step_fn {P : Program} {ops : Array Oper} {w : World} {o : Oper} {a : Act} {K : Act → World → Prop} {Q : Exit → Act → World → Prop} {E : Prop} {R : Ending → World → Prop} (f : FuncId) {xs : Array Operand} {ts : Array TypeId} {args : Array Value} (hgd : o.guard = none)
    (hop : o.op = .call { callee := .value (.func f), args := xs, argTypes := ts }) (hargs : xs.map a.eval = args) (hf : (callFunc f args).run P w = .ok (.enter f args) w) (hc : Calls P f args w R) (h : ∀ e w', R e w' → ∃ v, e = .returned v ∧ K (a.put o.dst v) w') :
    if Region.wanted o (yielded ops a.tmps) = true then Oper.wp P o a w K Q else E := by
  have hw : Region.wanted o (yielded ops a.tmps) = true := by simp [Region.wanted, hgd]
  rw [if_pos hw]
  have hrun : (execOp a.eval o).run P w = .ok (.enter f args) w := by
    unfold execOp
    rw [hop]
    simp [resolve, invoke, Act.eval, go_sem, hargs, hf]
  unfold Oper.wp
  rw [hrun]
  exact hc.mono fun e w' hR => by
    obtain ⟨v, he, hk⟩ := h e w' hR
    subst he
    exact hk
theorem step_dir1 {ops : Array Oper} {w : World} {o : Oper} {a : Act} {K : Act → World → Prop} {Q : Exit → Act → World → Prop} {E : Prop} (hgd : o.guard = none) (s x : Operand)
    (ho : o.op = .call { callee := .builtin .append, args := #[s, x], argTypes := #[52, 52] }) (B : Nat) (v : Value) (vs : List Value) (u : Value) (hu : u.oneCell' = true) (hs : a.eval s = v) (hrow : WRow B w v vs) (g : Nat) (hx : a.eval x = .slice (some ⟨g, 0, none⟩) 1 1) (hc : w.cell? ⟨g, 0, none⟩ = some u)
    (hb : vs.length + 1 ≤ 2 ^ 41) (hbase : B ≤ w.heap.size)
    (h : ∀ ao n c w', WRow B w' (.slice ao n c) (vs ++ [u]) → w.grownBy w' v.ownBlock → ((Value.slice ao n c).ownBlock = v.ownBlock ∨ (Value.slice ao n c).ownBlock = some w.heap.size) → K (a.put o.dst (.slice ao n c)) w') :
    if Region.wanted o (yielded ops a.tmps) = true then Oper.wp Tryz.prog o a w K Q else E := by
  have hw : Region.wanted o (yielded ops a.tmps) = true := by simp [Region.wanted, hgd]
  rw [if_pos hw]
  obtain ⟨v', w', hr, h2, h3, h4⟩ := run_dir1 B w o.type v vs u hu hrow g hc hb hbase
  obtain ⟨ao, n, c, rfl⟩ := WRow.slice h2
  unfold Oper.wp execOp
  simp only [ho, resolve, invoke, builtin, Sem.run_bind, Sem.run_pure, Result.andThen_ok, List.map_toArray, List.map_cons, List.map_nil, hs, hx, hr]
  exact h _ _ _ _ h2 h3 h4

theorem chg_end {p : Nat} {room : Int} {lv wv u x : Value} {c : Cn} {loc : Nat → Nat} {l : List Ent} {vs : List Value} {w w1 w2 : World} {o : Obj} (hd : Dk w p room lv wv c) (hv : WRow 0 w wv vs) (hB : Below w.heap.size w w1) (hr1 : DRow w.heap.size w1 loc u l) (hr2 : WRow 0 w2 x (vs ++ [u]))
    (hg2 : (w1.alloc o).grownBy w2 wv.ownBlock) (hm2 : x.ownBlock = wv.ownBlock ∨ x.ownBlock = some (w1.alloc o).heap.size) :
    ∃ v' u, Dk (w2.setCell ⟨p, 2, none⟩ x) p room lv v' c ∧ WRow 0 (w2.setCell ⟨p, 2, none⟩ x) v' (vs ++ [u]) ∧ DRow w.heap.size (w2.setCell ⟨p, 2, none⟩ x) loc u l ∧ Kept (fun k => k = p ∨ wv.ownBlock = some k) w (w2.setCell ⟨p, 2, none⟩ x) ∧ (v'.ownBlock = wv.ownBlock ∨ ∃ g, v'.ownBlock = some g ∧ w.heap.size ≤ g) := by
  have hp : p < w.heap.size := hd.ty.lt
  have hB2 := hB.alloc hB.size o
  have hsz := hB2.size
  have ne : some p ≠ wv.ownBlock := fun e => absurd rfl (TyOf.ne hd.ty (owns_ty hv e.symm) (by decide))
  have h3 : w2.heap[p]? = w.heap[p]? := (hg2.block p (by omega) ne).trans (hB2.block p hp)
  have hd2 : Dk w2 p room lv wv c := by unfold Dk; rw [h3]; exact hd
  refine ⟨x, u, hd2.set2 _, owns_grown hr2 (grown_set _ _ _ _) (fun g e t => ?_), ownsRow_setCell_below (owns_same (World.ownsRow.alloc hr1 o) fun g e => ?_) hp _, ⟨?_, ?_, ?_, ?_, fun k hk hn => ?_⟩, ?_⟩
  · simp only [Option.some.injEq] at e
    subst e
    exact absurd rfl (TyOf.ne hd2.ty t (by decide))
  · have t1 := owns_ty (World.ownsRow.alloc hr1 o) e
    refine hg2.block g t1.lt fun e2 => ?_
    have h1 := (World.ownsRow.lt hr1 g e).1
    have h2 := (World.ownsRow.lt hv g e2.symm).2
    omega
  · exact hg2.os.trans hB2.os
  · exact hg2.tape.trans hB2.tape
  · exact hg2.output.trans hB2.output
  · have := hg2.size
    simp [World.setCell]
    omega
  · rw [Below.heap_setCell _ _ _ _ (fun e => hn (.inl e))]
    exact (hg2.block k (by omega) (fun e => hn (.inr e.symm))).trans (hB2.block k hk)
  · rcases hm2 with h | h
    · exact .inl h
    · exact .inr ⟨_, h, hsz⟩

set_option maxHeartbeats 1000000 in
set_option maxRecDepth 100000 in
theorem rchg_any (p : Nat) (room : Int) (lv wv : Value) (c : Cn) (F : Nat → Prop) (loc : Nat → Nat) (l : List Ent) (vs : List Value) (w : World) (hd : Dk w p room lv wv c) (hl : DirR w F loc lv l) (hv : WRow 0 w wv vs) (hn : l.length ≤ 2 ^ 40) (hm : vs.length ≤ 2 ^ 40) :
    Calls Tryz.prog 72 #[ptr p] w fun e w' => e = .returned (.tuple #[]) ∧ ∃ v' u, Dk w' p room lv v' c ∧ WRow 0 w' v' (vs ++ [u]) ∧ DRow w.heap.size w' loc u l ∧ Kept (fun k => k = p ∨ wv.ownBlock = some k) w w' ∧ (v'.ownBlock = wv.ownBlock ∨ ∃ g, v'.ownBlock = some g ∧ w.heap.size ≤ g) := by
  have c1 := cell_of hd 1
  have c2 := cell_of hd 2
  have f2 := frozen_of hd 2
  simp only [List.getElem?_toArray, List.getElem?_cons_succ, List.getElem?_cons_zero] at c1 c2
  have HC : Hid (∀ wx, Below w.heap.size w wx → Calls Tryz.prog 74 #[lv] wx fun e w' => ∃ v, e = .returned v ∧ DRow wx.heap.size w' loc v l ∧ Below wx.heap.size wx w') := fun wx hx => rcopied_any F loc lv l wx (hl.grown (below_grown hx none) (fun g e => by cases e)) hn
  have HP : Hid (p < w.heap.size) := hd.ty.lt
  have HE : Hid (∀ {w1 w2 : World} {o : Obj} {u x : Value}, Below w.heap.size w w1 → DRow w.heap.size w1 loc u l → WRow 0 w2 x (vs ++ [u]) → (w1.alloc o).grownBy w2 wv.ownBlock → (x.ownBlock = wv.ownBlock ∨ x.ownBlock = some (w1.alloc o).heap.size) →
      ∃ v' u, Dk (w2.setCell ⟨p, 2, none⟩ x) p room lv v' c ∧ WRow 0 (w2.setCell ⟨p, 2, none⟩ x) v' (vs ++ [u]) ∧ DRow w.heap.size (w2.setCell ⟨p, 2, none⟩ x) loc u l ∧ Kept (fun k => k = p ∨ wv.ownBlock = some k) w (w2.setCell ⟨p, 2, none⟩ x) ∧ (v'.ownBlock = wv.ownBlock ∨ ∃ g, v'.ownBlock = some g ∧ w.heap.size ≤ g)) := fun a b c d e => chg_end hd hv a b c d e
  have HM : Hid (vs.length + 1 ≤ 2 ^ 41) := by show _ + 1 ≤ _; omega
  have HV : Hid (∀ wx, Below w.heap.size w wx → WRow 0 wx wv vs) := fun wx hx => owns_same hv fun g e => hx.block g (owns_ty hv e).lt
  have HF : Hid (∀ (w1 w2 : World), Below w.heap.size w w1 → ∀ {o}, (w1.alloc o).grownBy w2 wv.ownBlock → w2.frozen? ⟨p, 2, none⟩ = false ∧ w2.cell? ⟨p, 2, none⟩ = some wv) := fun w1 w2 h1 o h2 => by
    have ne : some p ≠ wv.ownBlock := fun e => absurd rfl (TyOf.ne hd.ty (owns_ty hv e.symm) (by decide))
    have h3 : w2.heap[p]? = w.heap[p]? := (h2.block p (by have := h1.size; have := hd.ty.lt; simp; omega) ne).trans ((h1.alloc h1.size o).block p hd.ty.lt)
    exact ⟨(World.frozen?_of_block (w := w) h3).trans f2, (World.cell?_of_block (w := w) h3).trans c2⟩
  unfold ptr
  go_enter Tryz.func72, Tryz.ntmps72
  go_region_law
    (first | (refine step_fn 74 (args := #[lv]) rfl rfl (by simp [Act.eval]) (by kernel_rfl) (HC.out _ (Below.refl _ _).drew) ?_; rintro e w1 ⟨v1, rfl, hr1, hb1⟩; have hB : Below w.heap.size w w1 := (Below.refl _ _).drew.trans hb1; have d1 := cell_later hB c1; have d2 := cell_later hB c2; have d3 : ∀ o, (w1.alloc o).cell? ⟨p, 2, none⟩ = some wv := fun o => cell_later (hB.alloc hB.size o) c2; have e2 : w1.frozen? ⟨p, 2, none⟩ = false := (hB.frozen HP.out).trans f2; obtain ⟨o1, o2, o3, rfl⟩ := DRow.slice hr1; refine ⟨_, rfl, ?_⟩) | (refine step_dir1 rfl (.tmp 6) (.tmp 12) rfl 0 wv vs (.slice o1 o2 o3) rfl rfl (HV.out _ (hB.alloc hB.size _)) _ rfl (by simp) HM.out (Nat.zero_le _) ?_; intro ao2 n2 c2 w2 hr2 hg2 hm2; have e3 := HF.out _ _ hB hg2))
  all_goals
    go_end0
    exact ⟨rfl, HE.out hB hr1 hr2 hg2 hm2⟩
end Go.Proofs.YtligofmcmjblpaaGreat
