import Derived.Maps.AppendAt
import Derived.Shelf.Abstract
import Derived.Shelf.SlMaps.Clone
import Derived.Deep.RegionLaw
import Derived.Test.YtligofmcmjblpaaGreatPk26
import Derived.Test.YtligofmcmjblpaaGreatPk27
/- The landed disk: a change of the directory is done and kept. -/
namespace Go.Proofs.YtligofmcmjblpaaGreat
open Go.RowKit Go.Maps
set_option linter.unusedVariables false
set_option linter.unusedSimpArgs false

theorem _root_.Go.Proofs.Tryz.infoCh : (Tryz.prog.info? 83).map (fun i => (i.zero, i.size, i.bytes)) = some (some (.agg #[.string ⟨#[]⟩, .string ⟨#[]⟩, .pointer none]), 3, 40) := by kernel_rfl
/-- Where a change is appended. -/
theorem run_appC (w : World) (ty : TypeId) (v : Value) (loc : Nat → Nat) (ch : List Chg) (c : Chg) (hrow : w.ownsRow 0 83 3 v ch.length (ch.flatMap (chC loc))) (g cp : Nat)
    (h0 : w.cell? ⟨g, 0, none⟩ = some (.string c.gone)) (h1 : w.cell? ⟨g, 1, none⟩ = some (.string c.set)) (h2 : w.cell? ⟨g, 2, none⟩ = some (pv loc c.f)) (hb : ch.length ≤ 1048577) :
    ∃ v' w', (Builtin.append_ #[47, 47] ty #[v, .slice (some ⟨g, 0, none⟩) 1 cp]).run Tryz.prog w = .ok v' w' ∧ w'.ownsRow 0 83 3 v' (ch.length + 1) ((ch ++ [c]).flatMap (chC loc)) ∧ w.grownBy w' v.ownBlock ∧ (v'.ownBlock = v.ownBlock ∨ ∃ g, v'.ownBlock = some g ∧ w.heap.size ≤ g) := by
  obtain ⟨i, hi, hz, hsize, hbytes⟩ := info_parts Tryz.infoCh
  have hnews : ∀ j u, (chC loc c)[j]? = some u → w.cell? ((⟨g, 0, none⟩ : Addr).add j) = some u := by
    intro j u hu
    rw [Addr.add_lit]
    match j, hu with
    | 0, hu => simp only [chC, List.getElem?_cons_zero, Option.some.injEq] at hu; rw [← hu]; exact h0
    | 1, hu => simp only [chC, List.getElem?_cons_succ, List.getElem?_cons_zero, Option.some.injEq] at hu; rw [← hu]; exact h1
    | 2, hu => simp only [chC, List.getElem?_cons_succ, List.getElem?_cons_zero, Option.some.injEq] at hu; rw [← hu]; exact h2
    | (n + 3), hu => simp [chC] at hu
  have hone : ∀ u ∈ chC loc c, u.oneCell' = true := fun u hu => by
    simp only [chC, List.mem_cons, List.not_mem_nil, or_false] at hu
    rcases hu with rfl | rfl | rfl
    · rfl
    · rfl
    · cases c.f <;> rfl
  obtain ⟨v', w', hr, h2, h3, _, h5⟩ := run_append_own_at (P := Tryz.prog) w 0 47 ty 83 i _ 3 40 Tryz.underlying47 hi hz hsize hbytes rfl (by decide) v ch.length _ hrow ⟨g, 0, none⟩ 1 cp (chC loc c) rfl hnews hone (by simp only [maxLen]; omega) (by omega) (Nat.zero_le _)
  refine ⟨v', w', hr, ?_, h3, h5.imp id (fun h => ⟨_, h, Nat.le_refl _⟩)⟩
  rw [List.flatMap_append]
  simpa using h2
/-- A call of a Go function, as one step of a region that draws. -/
theorem step_fnL {P : Program} {ops : Array Oper} {w : World} {o : Oper} {a : Act} {K : Act → World → Prop} {Q : Exit → Act → World → Prop} {E : Prop} {R : Ending → World → Prop} (f : FuncId) {xs : Array Operand} {ts : Array TypeId} {args : Array Value} (hgd : o.guard = none)
    (hop : o.op = .call { callee := .value (.func f), args := xs, argTypes := ts }) (hargs : xs.map a.eval = args) (hf : (callFunc f args).run P w = .ok (.enter f args) w) (hc : Calls P f args w R) (h : ∀ e w', R e w' → ∃ v, e = .returned v ∧ K (a.put o.dst v) w') :
    if Region.wanted o (yielded ops a.tmps) = true then Oper.wp P o a w K Q else E := by
  have hw : Region.wanted o (yielded ops a.tmps) = true := by simp [Region.wanted, hgd]
  rw [if_pos hw]
  have hrun : (execOp a.eval o).run P w = .ok (.enter f args) w := by
    unfold execOp
    rw [hop]
    simp [resolve, invoke, Act.eval, go_sem, hargs, hf]
  unfold Oper.wp
  rw [hrun]
  exact hc.mono fun e w' hR => by
    obtain ⟨v, he, hk⟩ := h e w' hR
    subst he
    exact hk
theorem ChR.slice {w : World} {loc : Nat → Nat} {v : Value} {ch : List Chg} (h : w.ownsRow 0 83 3 v ch.length (ch.flatMap (chC loc))) : ∃ ao c, v = .slice ao ch.length c := by
  rcases h.2 with ⟨rfl, h0⟩ | ⟨g, cap, cur, rfl, _⟩
  · exact ⟨none, 0, by rw [h0]⟩
  · exact ⟨_, _, rfl⟩
theorem step_appC {ops : Array Oper} {w : World} {o : Oper} {a : Act} {K : Act → World → Prop} {Q : Exit → Act → World → Prop} {E : Prop} (hgd : o.guard = none) (s x : Operand)
    (ho : o.op = .call { callee := .builtin .append, args := #[s, x], argTypes := #[47, 47] }) (v : Value) (loc : Nat → Nat) (ch : List Chg) (c : Chg) (hs : a.eval s = v) (hrow : w.ownsRow 0 83 3 v ch.length (ch.flatMap (chC loc))) (g cp : Nat) (hx : a.eval x = .slice (some ⟨g, 0, none⟩) 1 cp)
    (h0 : w.cell? ⟨g, 0, none⟩ = some (.string c.gone)) (h1 : w.cell? ⟨g, 1, none⟩ = some (.string c.set)) (h2 : w.cell? ⟨g, 2, none⟩ = some (pv loc c.f)) (hb : ch.length ≤ 1048577)
    (h : ∀ ao n cc w', w'.ownsRow 0 83 3 (.slice ao n cc) (ch ++ [c]).length ((ch ++ [c]).flatMap (chC loc)) → w.grownBy w' v.ownBlock → ((Value.slice ao n cc).ownBlock = v.ownBlock ∨ ∃ g, (Value.slice ao n cc).ownBlock = some g ∧ w.heap.size ≤ g) → K (a.put o.dst (.slice ao n cc)) w') :
    if Region.wanted o (yielded ops a.tmps) = true then Oper.wp Tryz.prog o a w K Q else E := by
  have hw : Region.wanted o (yielded ops a.tmps) = true := by simp [Region.wanted, hgd]
  rw [if_pos hw]
  obtain ⟨v', w', hr, h2, h3, h4⟩ := run_appC w o.type v loc ch c hrow g cp h0 h1 h2 hb
  have h2' : w'.ownsRow 0 83 3 v' (ch ++ [c]).length ((ch ++ [c]).flatMap (chC loc)) := by rw [List.length_append]; exact h2
  obtain ⟨ao, cc, e⟩ := ChR.slice h2'
  rw [e] at h2' h4 hr
  unfold Oper.wp execOp
  simp only [ho, resolve, invoke, builtin, Sem.run_bind, Sem.run_pure, Result.andThen_ok, List.map_toArray, List.map_cons, List.map_nil, hs, hx, hr]
  exact h _ _ _ _ h2' h3 h4

/-- A change of the directory, done. -/
theorem LAt.turned {w w' : World} {p : Nat} {σ : DS} {F A : Nat → Prop} {loc : Nat → Nat} {dv : Nat → Value} {nv sv cv : Value} {sd : List Ent} {ch : List Chg} (h : LAt w p σ F A loc dv nv sv cv sd ch) (c : Chg) (b : Nat) (cv' : Value)
    (hsz : w.heap.size ≤ w'.heap.size) (hk : ∀ k, k < w.heap.size → k ≠ p → nv ≠ .map (some k) → cv.ownBlock ≠ some k → w'.heap[k]? = w.heap[k]?) (hd : DkL w' p σ.room (.map (some b)) sv cv' σ.c) (hm : MapL w' b loc (c.ap σ.dir)) (hb : nv = .map (some b) ∨ w.heap.size ≤ b)
    (hc : w'.ownsRow 0 83 3 cv' (ch ++ [c]).length ((ch ++ [c]).flatMap (chC loc))) (hc2 : cv'.ownBlock = cv.ownBlock ∨ ∃ g, cv'.ownBlock = some g ∧ w.heap.size ≤ g)
    (h64 : c.gone.size ≤ 64 ∧ c.set.size ≤ 64) (hA : ∀ i, c.f = some i → A i) (hgd : Gd (c.ap σ.dir)) (hal : ∀ e ∈ c.ap σ.dir, A e.2) :
    LAt w' p (σ.chg (c.ap σ.dir)) (fun k => F k ∨ k = b ∨ cv'.ownBlock = some k) A loc dv (.map (some b)) sv cv' sd (ch ++ [c]) := by
  have hcell : ∀ k t, TyOf w k t → t ≠ 51 → t ≠ 83 → w'.heap[k]? = w.heap[k]? := fun k t ht h1 h2 => by
    refine hk k ht.lt (fun e => TyOf.ne ht h.blk.ty h1 e) (fun e => ?_) fun e => TyOf.ne ht (owns_ty h.chs.row e) h2 rfl
    exact h.dir.cell ht k e rfl
  have hw : (σ.chg (c.ap σ.dir)).was = hist sd (ch ++ [c]) := by
    show σ.was ++ [c.ap σ.dir] = _
    rw [hist_snoc, h.was, h.now]
  refine ⟨.inl h.fp, hd, .inr ⟨b, rfl, .inr (.inl rfl), hm⟩, ?_, fun b' e e2 => ?_, ⟨hc, fun g e => .inr (.inr e)⟩, hw, ?_, fun l hl => ?_, fun i hi => ?_, h.inj, h.sep, fun k hk' => ?_, fun l hl e he => ?_, h.nx, fun x hx i e => ?_, fun x hx => ?_⟩
  · refine h.sure.block (fun k hF => .inl hF) fun b' e hF hM => ?_
    refine hk b' hM.lt (hM.ne h.blk.ty) (fun e2 => h.two b' e2 e) fun e2 => hM.ne (owns_ty h.chs.row e2) rfl
  · simp only [Value.map.injEq, Option.some.injEq] at e
    subst e
    rcases hb with hb | hb
    · exact h.two _ hb e2
    · rcases h.sure with ⟨e3, _⟩ | ⟨b2, e3, _, hM⟩
      · rw [e3] at e2; cases e2
      · rw [e3] at e2
        simp only [Value.map.injEq, Option.some.injEq] at e2
        subst e2
        have := hM.lt
        omega
  · show c.ap σ.dir = _
    rw [lastD_snoc, h.now]
  · have hl' : l ∈ σ.was ++ [c.ap σ.dir] := hl
    rcases List.mem_append.1 hl' with hl' | hl'
    · exact h.gd l hl'
    · simp only [List.mem_singleton] at hl'
      subst hl'
      exact hgd
  · have hf := h.file i hi
    exact hf.block (fun k hF => .inl hF) (hcell _ _ hf.ty (by decide) (by decide)) fun b' e => hcell _ _ (h.row5 hi e) (by decide) (by decide)
  · rcases hk' with hk' | rfl | hk'
    · exact Nat.lt_of_lt_of_le (h.lt k hk') hsz
    · exact hm.lt
    · exact (owns_ty hc hk').lt
  · have hl' : l ∈ σ.was ++ [c.ap σ.dir] := hl
    rcases List.mem_append.1 hl' with hl' | hl'
    · exact h.al l hl' e he
    · simp only [List.mem_singleton] at hl'
      subst hl'
      exact hal e he
  · rcases List.mem_append.1 hx with hx | hx
    · exact h.cha x hx i e
    · simp only [List.mem_singleton] at hx
      subst hx
      exact hA i e
  · rcases List.mem_append.1 hx with hx | hx
    · exact h.chm x hx
    · simp only [List.mem_singleton] at hx
      subst hx
      exact h64

theorem undrew {w w2 : World} {r : Option Nat} (h : w.drew.grownBy w2 r) : w.grownBy w2 r := ⟨h.os, h.tape, h.output, h.size, h.block⟩
/-- Ahead of the change: the map is there. -/
structure T1 (w w1 : World) (p b : Nat) (σ : DS) (nv sv cv : Value) (loc : Nat → Nat) : Prop where
  size : w.heap.size ≤ w1.heap.size
  os : w1.os = w.os
  tape : w1.tape = w.tape
  output : w1.output = w.output
  keep : ∀ k, k < w.heap.size → k ≠ p → w1.heap[k]? = w.heap[k]?
  blk : DkL w1 p σ.room (.map (some b)) sv cv σ.c
  map : MapL w1 b loc σ.dir
  here : nv = .map (some b) ∨ w.heap.size ≤ b
section
variable {w w1 wx w2 wy w3 : World} {p b : Nat} {σ : DS} {F A : Nat → Prop} {loc : Nat → Nat} {dv : Nat → Value} {nv sv cv : Value} {sd : List Ent} {ch : List Chg}
theorem T1.chs (t : T1 w w1 p b σ nv sv cv loc) (h : LAt w p σ F A loc dv nv sv cv sd ch) : w1.ownsRow 0 83 3 cv ch.length (ch.flatMap (chC loc)) :=
  owns_same h.chs.row fun g e => t.keep g (owns_ty h.chs.row e).lt fun e2 => TyOf.ne h.blk.ty (owns_ty h.chs.row e) (by decide) e2.symm
/-- Behind it. -/
theorem T1.done (t : T1 w w1 p b σ nv sv cv loc) (h : LAt w p σ F A loc dv nv sv cv sd ch) (hx : Below w1.heap.size w1 wx) (g2 : wx.grownBy w2 (some b)) : DkL w2 p σ.room (.map (some b)) sv cv σ.c ∧ w2.ownsRow 0 83 3 cv ch.length (ch.flatMap (chC loc)) ∧ ∀ k v o, w1.heap.size ≤ k → wx.cell? ⟨k, o, none⟩ = some v → w2.cell? ⟨k, o, none⟩ = some v := by
  have hbp : b ≠ p := t.map.ne t.blk.ty
  have hp1 : p < w1.heap.size := t.blk.ty.lt
  have hsz := hx.size
  refine ⟨?_, ?_, fun k v o hk hc => g2.cell hc ?_⟩
  · unfold DkL
    rw [g2.block p (by omega) (fun e => hbp (Option.some.inj e).symm), hx.block p hp1]
    exact t.blk
  · have hr := t.chs h
    exact owns_same (owns_same hr fun g e => hx.block g (owns_ty hr e).lt) fun g e => g2.block g (Nat.lt_of_lt_of_le (owns_ty hr e).lt hsz) fun e2 => t.map.ne (owns_ty hr e) (Option.some.inj e2).symm
  · intro e
    have := t.map.lt
    simp only [Option.some.injEq] at e
    omega
theorem T1.cells (t : T1 w w1 p b σ nv sv cv loc) (h : LAt w p σ F A loc dv nv sv cv sd ch) (hx : Below w1.heap.size w1 wx) (g2 : wx.grownBy w2 (some b)) (hy : Below w2.heap.size w2 wy) (g3 : wy.grownBy w3 cv.ownBlock) : DkL w3 p σ.room (.map (some b)) sv cv σ.c := by
  obtain ⟨d2, r2, _⟩ := t.done h hx g2
  have hp2 : p < w2.heap.size := d2.ty.lt
  have hsz := hy.size
  unfold DkL
  rw [g3.block p (by omega) (fun e => TyOf.ne d2.ty (owns_ty r2 e.symm) (by decide) rfl), hy.block p hp2]
  exact d2
theorem T1.tail (t : T1 w w1 p b σ nv sv cv loc) (h : LAt w p σ F A loc dv nv sv cv sd ch) (hx : Below w1.heap.size w1 wx) (g2 : wx.grownBy w2 (some b)) (hy : Below w2.heap.size w2 wy) (g3 : wy.grownBy w3 cv.ownBlock) (c : Chg) (cv' : Value)
    (hm : MapL w2 b loc (c.ap σ.dir)) (hc : w3.ownsRow 0 83 3 cv' (ch ++ [c]).length ((ch ++ [c]).flatMap (chC loc))) (hc2 : cv'.ownBlock = cv.ownBlock ∨ ∃ g, cv'.ownBlock = some g ∧ wy.heap.size ≤ g)
    (h64 : c.gone.size ≤ 64 ∧ c.set.size ≤ 64) (hA : ∀ i, c.f = some i → A i) (hgd : Gd (c.ap σ.dir)) (hal : ∀ e ∈ c.ap σ.dir, A e.2) : Nx RL w p (σ.chg (c.ap σ.dir)) F (w3.setCell ⟨p, 3, none⟩ cv') := by
  obtain ⟨d2, r2, _⟩ := t.done h hx g2
  have d3 := t.cells h hx g2 hy g3
  have hg : w3.grownBy (w3.setCell ⟨p, 3, none⟩ cv') (some p) := grown_set _ _ _ _
  have s1 := t.size
  have s2 := hx.size
  have s3 := g2.size
  have s4 := hy.size
  have s5 := g3.size
  have s6 := hg.size
  have hbp : b ≠ p := t.map.ne t.blk.ty
  have m3 : MapL (w3.setCell ⟨p, 3, none⟩ cv') b loc (c.ap σ.dir) := hm.same (by
    have hl := hm.lt
    rw [hg.block b (by omega) (fun e => hbp (Option.some.inj e)), g3.block b (by omega) (fun e => hm.ne (owns_ty r2 e.symm) rfl), hy.block b hl])
  have r4 : (w3.setCell ⟨p, 3, none⟩ cv').ownsRow 0 83 3 cv' (ch ++ [c]).length ((ch ++ [c]).flatMap (chC loc)) := owns_same hc fun g e => hg.block g (owns_ty hc e).lt fun e2 => TyOf.ne d3.ty (owns_ty hc e) (by decide) (Option.some.inj e2).symm
  have hk : ∀ k, k < w.heap.size → k ≠ p → nv ≠ .map (some k) → cv.ownBlock ≠ some k → (w3.setCell ⟨p, 3, none⟩ cv').heap[k]? = w.heap[k]? := fun k hk h1 h2 h3 => by
    have hkb : k ≠ b := fun e => by
      rcases t.here with e2 | e2
      · exact h2 (e ▸ e2)
      · omega
    rw [hg.block k (by omega) (fun e => h1 (Option.some.inj e)), g3.block k (by omega) (fun e => h3 e.symm), hy.block k (by omega), g2.block k (by omega) (fun e => hkb (Option.some.inj e)), hx.block k (by omega)]
    exact t.keep k hk h1
  have hc3 : cv'.ownBlock = cv.ownBlock ∨ ∃ g, cv'.ownBlock = some g ∧ w.heap.size ≤ g := hc2.imp id fun ⟨g, e, hg⟩ => ⟨g, e, by omega⟩
  refine ⟨_, ⟨A, loc, dv, _, sv, cv', sd, _, h.turned c b cv' (by omega) hk (d3.set3 _) m3 t.here r4 hc3 h64 hA hgd hal⟩, ⟨?_, ?_, ?_, by omega, fun k hk' hn => hk k hk' (fun e => hn (e ▸ h.fp)) (fun e => hn ?_) fun e => hn (h.chs.own k e)⟩, fun k hk => ?_⟩
  · exact (hg.os.trans (g3.os.trans (hy.os.trans (g2.os.trans hx.os)))).trans t.os
  · exact (hg.tape.trans (g3.tape.trans (hy.tape.trans (g2.tape.trans hx.tape)))).trans t.tape
  · exact (hg.output.trans (g3.output.trans (hy.output.trans (g2.output.trans hx.output)))).trans t.output
  · rcases h.dir with ⟨e2, _⟩ | ⟨b2, e2, hF, _⟩
    · rw [e2] at e; cases e
    · rw [e2] at e
      simp only [Value.map.injEq, Option.some.injEq] at e
      exact e ▸ hF
  · rcases hk with hk | rfl | hk
    · exact .inl hk
    · rcases t.here with e | e
      · rcases h.dir with ⟨e2, _⟩ | ⟨b2, e2, hF, _⟩
        · rw [e2] at e; cases e
        · rw [e2] at e
          simp only [Value.map.injEq, Option.some.injEq] at e
          exact .inl (e ▸ hF)
      · exact .inr e
    · rcases hc3 with e | ⟨g, e, hg⟩
      · exact .inl (h.chs.own k (e ▸ hk))
      · rw [e] at hk
        simp only [Option.some.injEq] at hk
        exact .inr (hk ▸ hg)
end

set_option maxHeartbeats 2000000 in
set_option maxRecDepth 100000 in
theorem turn_any (p : Nat) (σ : DS) (F A : Nat → Prop) (loc : Nat → Nat) (dv : Nat → Value) (nv sv cv : Value) (sd : List Ent) (ch : List Chg) (c : Chg) (w : World) (h : LAt w p σ F A loc dv nv sv cv sd ch) (hdl : σ.dir.length ≤ 1048576) (hcl : ch.length ≤ 1048577)
    (h64 : c.gone.size ≤ 64 ∧ c.set.size ≤ 64) (hA : ∀ i, c.f = some i → A i) (hgd : Gd (c.ap σ.dir)) (hal : ∀ e ∈ c.ap σ.dir, A e.2) :
    Calls Tryz.prog 54 #[ptr p, chv loc c] w fun e w' => e = .returned (.tuple #[]) ∧ Nx RL w p (σ.chg (c.ap σ.dir)) F w' := by
  obtain ⟨gone, set, f⟩ := c
  have HT : Hid (∀ {w1 wx w2 wy w3 : World} {b : Nat} {cv' : Value}, T1 w w1 p b σ nv sv cv loc → Below w1.heap.size w1 wx → wx.grownBy w2 (some b) → Below w2.heap.size w2 wy → wy.grownBy w3 cv.ownBlock → MapL w2 b loc (Chg.ap ⟨gone, set, f⟩ σ.dir) → w3.ownsRow 0 83 3 cv' (ch ++ [(⟨gone, set, f⟩ : Chg)]).length ((ch ++ [(⟨gone, set, f⟩ : Chg)]).flatMap (chC loc)) →
      (cv'.ownBlock = cv.ownBlock ∨ ∃ g, cv'.ownBlock = some g ∧ wy.heap.size ≤ g) → Nx RL w p (σ.chg (Chg.ap ⟨gone, set, f⟩ σ.dir)) F (w3.setCell ⟨p, 3, none⟩ cv')) := fun t a1 a2 a3 a4 a5 a6 a7 => t.tail h a1 a2 a3 a4 ⟨gone, set, f⟩ _ a5 a6 a7 h64 hA hgd hal
  have HD : Hid (∀ {w1 wx w2 : World} {b : Nat}, T1 w w1 p b σ nv sv cv loc → Below w1.heap.size w1 wx → wx.grownBy w2 (some b) → w2.cell? ⟨p, 3, none⟩ = some cv ∧ w2.frozen? ⟨p, 3, none⟩ = false ∧ p < w2.heap.size ∧ w2.ownsRow 0 83 3 cv ch.length (ch.flatMap (chC loc)) ∧ ∀ k v o, w1.heap.size ≤ k → wx.cell? ⟨k, o, none⟩ = some v → w2.cell? ⟨k, o, none⟩ = some v) := fun t a1 a2 => by
    obtain ⟨d2, r2, k2⟩ := t.done h a1 a2
    exact ⟨cell_of d2 3, frozen_of d2 3, d2.ty.lt, r2, k2⟩
  have HE : Hid (∀ {w1 wx w2 wy w3 : World} {b : Nat}, T1 w w1 p b σ nv sv cv loc → Below w1.heap.size w1 wx → wx.grownBy w2 (some b) → Below w2.heap.size w2 wy → wy.grownBy w3 cv.ownBlock → w3.cell? ⟨p, 3, none⟩ = some cv ∧ w3.frozen? ⟨p, 3, none⟩ = false) := fun t a1 a2 a3 a4 => by
    have d3 := t.cells h a1 a2 a3 a4
    exact ⟨cell_of d3 3, frozen_of d3 3⟩
  have c1 : w.cell? ⟨p, 1, none⟩ = some nv := cell_of h.blk 1
  have c3 : w.cell? ⟨p, 3, none⟩ = some cv := cell_of h.blk 3
  have f1 := frozen_of h.blk 1
  have hp : p < w.heap.size := h.lt p h.fp
  have HB : Hid (DkL w p σ.room nv sv cv σ.c) := h.blk
  have HS := h.gdDir.srt
  obtain ⟨o, ho⟩ : ∃ o, pv loc f = .pointer o := by cases f with | none => exact ⟨_, rfl⟩ | some i => exact ⟨_, rfl⟩
  have HA' : Hid (∀ b wx, MapL wx b loc σ.dir → Calls Tryz.prog 79 #[.agg #[.string gone, .string set, .pointer o], .map (some b)] wx fun e w' => e = .returned (.tuple #[]) ∧ MapL w' b loc (Chg.ap ⟨gone, set, f⟩ σ.dir) ∧ wx.grownBy w' (some b)) := fun b wx hm => by
    have := apply_any ⟨gone, set, f⟩ loc b σ.dir wx hm HS (by unfold maxLen; omega) (by have := h64.1; unfold maxLen; simp only at this ⊢; omega) (by have := h64.2; unfold maxLen; simp only at this ⊢; omega)
    unfold chv at this
    simp only [ho] at this
    exact this
  have HO : Hid (pv loc f = .pointer o) := ho
  unfold ptr chv
  simp only [ho]
  rcases h.dir with ⟨rfl, hd⟩ | ⟨b, rfl, hF, hM⟩
  · have hq := fun w => run_eql_map_nil_sl (P := Tryz.prog) w 46 _ _ none Tryz.underlying46
    have hmm := @run_makeMap Tryz.prog
    obtain ⟨w1, hw1⟩ : ∃ w1, w1 = ((w.setCell ⟨p, 1, none⟩ (.map (some (w.heap.size + 1)))).alloc (.cells #[.string gone, .string set, .pointer o] 83)).alloc (.map #[] 0) := ⟨_, rfl⟩
    have hsz : (w.setCell ⟨p, 1, none⟩ (.map (some (w.heap.size + 1)))).heap.size = w.heap.size := by simp [World.setCell]
    have HT1 : Hid (T1 w w1 p (w.heap.size + 1) σ (.map none) sv cv loc) := by
      have hb2 : ∀ k, k < w.heap.size → w1.heap[k]? = (w.setCell ⟨p, 1, none⟩ (.map (some (w.heap.size + 1)))).heap[k]? := fun k hk => by
        rw [hw1, Below.heap_alloc _ _ _ (by simp; omega), Below.heap_alloc _ _ _ (by omega)]
      refine ⟨by rw [hw1]; simp; omega, by rw [hw1]; rfl, by rw [hw1]; rfl, by rw [hw1]; rfl, fun k hk hn => ?_, ?_, ?_, .inr (by omega)⟩
      · rw [hb2 k hk]
        exact Below.heap_setCell _ _ _ _ (fun e => hn e)
      · unfold DkL
        rw [hb2 p hp]
        exact HB.out.set1 _
      · refine MapL.exact (n := 0) ?_
        rw [hd, hw1]
        have := World.ownsMap_made (H := Unit) ((w.setCell ⟨p, 1, none⟩ (.map (some (w.heap.size + 1)))).alloc (.cells #[.string gone, .string set, .pointer o] 83)) Tryz.prog 9 fileE
        have e : ((w.setCell ⟨p, 1, none⟩ (.map (some (w.heap.size + 1)))).alloc (.cells #[.string gone, .string set, .pointer o] 83)).heap.size = w.heap.size + 1 := by simp [hsz]
        rw [e] at this
        exact this
    have hcb : ∀ k, w1.cell? ⟨w.heap.size, k, none⟩ = (#[Value.string gone, .string set, .pointer o] : Array Value)[k]? := fun k => by
      have hh : w1.heap[w.heap.size]? = some (.cells #[.string gone, .string set, .pointer o] 83 (0, 0)) := by
        rw [hw1, Below.heap_alloc _ _ _ (by simp [hsz])]
        have := heap_alloc_new (w.setCell ⟨p, 1, none⟩ (.map (some (w.heap.size + 1)))) (.cells #[.string gone, .string set, .pointer o] 83)
        rw [hsz] at this
        exact this
      exact cell_of hh k
    have b0 : w1.cell? ⟨w.heap.size, 0, none⟩ = some (.string gone) := hcb 0
    have b1 : w1.cell? ⟨w.heap.size, 1, none⟩ = some (.string set) := hcb 1
    have b2 : w1.cell? ⟨w.heap.size, 2, none⟩ = some (.pointer o) := hcb 2
    have b3 : w1.cell? ⟨p, 1, none⟩ = some (.map (some (w.heap.size + 1))) := cell_of HT1.out.blk 1
    have hne : some w.heap.size ≠ some (w.heap.size + 1) := fun e => by simp at e
    have HW1 : Hid (w.heap.size < w1.heap.size) := by show _ < _; rw [hw1]; simp; omega
    clear hcb hsz h hgd hal hA h64 hdl HS ho hd
    go_enter Tryz.func54, Tryz.ntmps54
    go_wp2_with fail
    rw [← hw1]
    clear hw1
    go_region_law (first | (refine step_fnL 79 (args := #[.agg #[.string gone, .string set, .pointer o], .map (some (w.heap.size + 1))]) rfl rfl (by simp [Act.eval]) (by kernel_rfl) (HA'.out (w.heap.size + 1) _ (by exact HT1.out.map)) ?_; rintro e w2 ⟨rfl, m2, g2⟩; repeat (replace g2 := undrew g2); obtain ⟨e1, e2, e3, e4, e5⟩ := HD.out HT1.out (Below.refl _ _) g2; have x0 := g2.cell b0 hne; have x1 := g2.cell b1 hne; have x2 := g2.cell b2 hne; refine ⟨_, rfl, ?_⟩))
    all_goals
      have hl2 : w.heap.size < w2.heap.size := Nat.lt_of_lt_of_le HW1.out g2.size
      go_wp2_with fail
      go_region_law (first | (refine step_appC rfl (.tmp 23) (.tmp 25) rfl cv loc ch ⟨gone, set, f⟩ rfl (by exact World.ownsRow.alloc e4 _) _ _ rfl (by simp) (by simp) (by simp [HO.out]) hcl ?_; intro ao n cc w3 r3 g3 m3; repeat (replace g3 := undrew g3); obtain ⟨y1, y2⟩ := HE.out HT1.out (Below.refl _ _) g2 (by exact (Below.refl _ _).alloc (Nat.le_refl _) _) g3))
      all_goals
        go_end0
        exact ⟨rfl, HT.out HT1.out (Below.refl _ _) g2 (by exact (Below.refl _ _).alloc (Nat.le_refl _) _) g3 m2 r3 m3⟩
  · have hq := fun w => run_eql_map_nil_sl (P := Tryz.prog) w 46 _ _ (some b) Tryz.underlying46
    have HB1 : Hid (Below w.heap.size w (w.alloc (.cells #[.string gone, .string set, .pointer o] 83))) := (Below.refl _ _).alloc (Nat.le_refl _) _
    have HT1 : Hid (T1 w w p b σ (.map (some b)) sv cv loc) := ⟨Nat.le_refl _, rfl, rfl, rfl, fun _ _ _ => rfl, HB.out, hM, .inl rfl⟩
    have hbl : b < w.heap.size := hM.lt
    have HM : Hid (MapL w b loc σ.dir) := hM
    have HW : Hid (∀ wx, Below w.heap.size w wx → MapL wx b loc σ.dir) := fun wx hx => hM.same (hx.block b hbl)
    clear h hgd hal hA h64 hdl HS ho hF hM
    go_enter Tryz.func54, Tryz.ntmps54
    go_wp2_with fail
    go_region_law (first | (refine step_fnL 79 (args := #[.agg #[.string gone, .string set, .pointer o], .map (some b)]) rfl rfl (by simp [Act.eval]) (by kernel_rfl) (HA'.out b _ (HW.out _ (by repeat (first | exact HB1.out | refine Below.drew ?_)))) ?_; rintro e w2 ⟨rfl, m2, g2⟩; repeat (replace g2 := undrew g2); have hB2 : Below w.heap.size w _ := HB1.out; obtain ⟨e1, e2, e3, e4, e5⟩ := HD.out HT1.out hB2 g2; have x0 := e5 w.heap.size (.string gone) 0 (Nat.le_refl _) (by simp); have x1 := e5 w.heap.size (.string set) 1 (Nat.le_refl _) (by simp); have x2 := e5 w.heap.size (.pointer o) 2 (Nat.le_refl _) (by simp); refine ⟨_, rfl, ?_⟩))
    all_goals
      have hl2 : w.heap.size < w2.heap.size := Nat.lt_of_lt_of_le (by simp) g2.size
      go_wp2_with fail
      go_region_law (first | (refine step_appC rfl (.tmp 23) (.tmp 25) rfl cv loc ch ⟨gone, set, f⟩ rfl (by exact World.ownsRow.alloc e4 _) _ _ rfl (by simp) (by simp) (by simp [HO.out]) hcl ?_; intro ao n cc w3 r3 g3 m3; repeat (replace g3 := undrew g3); obtain ⟨y1, y2⟩ := HE.out HT1.out hB2 g2 (by exact (Below.refl _ _).alloc (Nat.le_refl _) _) g3))
      all_goals
        go_end0
        exact ⟨rfl, HT.out HT1.out hB2 g2 (by exact (Below.refl _ _).alloc (Nat.le_refl _) _) g3 m2 r3 m3⟩
end Go.Proofs.YtligofmcmjblpaaGreat
