import Derived.KernelRfl
import Derived.Test.YtaefddnmldbgiaaDoorPk16
import Derived.Test.YtaefddnmldbgiaaDoorPk21
/- The landed mem's List and All. -/
namespace Go.Proofs.YtaefddnmldbgiaaDoor
open Go.RowKit Go.Shelf
set_option linter.unusedVariables false
set_option linter.unusedSimpArgs false
attribute [local go_sem] Oper.semAt_some

/-- An element behind a row of one's own, inside a fence. -/
theorem wpListIn_appF {α : Type} (E : El α) {t : TypeId} {z : Value} {bytes : Nat} (ht : Tryd.prog.underlying t = some (.slice E.ty)) (hinfo : (Tryd.prog.info? E.ty).map (fun i => (i.zero, i.size, i.bytes)) = some (some z, E.size, bytes)) (hz1 : z.cells.size = E.size) (hp : 0 < E.size)
    {FF : Fence} {nn : Nat} {w : World} {ops : Array Oper} {rest : List Oper} {o : Oper} {a : Act} {Q : Exit → Act → World → Prop} (hgd : o.guard = none) (s x : Operand)
    (ho : o.op = .call { callee := .builtin .append, args := #[s, x], argTypes := #[t, t] }) {B : Nat} {v : Value} {xs ys : List α} (hs : a.eval s = v) {F : Nat → Prop} (hrow : RowF E B F w v xs) {ao : Option Addr} {m c : Nat} {us : List Value} (hx : a.eval x = .slice ao m c)
    (hr : RSu E w ao m c us ys) (hsep : ∀ u ∈ us, ∀ b, Refs u b → v.ownBlock ≠ some b) (hF : ∀ u ∈ us, ∀ b, Refs u b → F b) (h63 : xs.length + m ≤ 140737488355328) (hb : (xs.length + m) * bytes ≤ 140737488355328) (hbase : B ≤ w.heap.size)
    (h : ∀ v' w', RowF E B F w' v' (xs ++ ys) → w.grownBy w' v.ownBlock → Moved w v v' → wpListIn FF nn Tryd.prog ops Q rest (a.put o.dst v') w') : wpListIn FF nn Tryd.prog ops Q (o :: rest) a w := by
  refine wpListIn_plain hgd fun K hK' => ?_
  obtain ⟨v', w', hrun, h2, h3, h4⟩ := run_appF E t z bytes ht hinfo hz1 hp o.type hrow hr hsep hF h63 hb hbase
  unfold Oper.wpIn
  refine ⟨?_, ?_⟩
  · simp [Oper.about, ho, resolve, Target.leads, Sem.run_pure]
  · rw [Oper.semAt_plain FF _ _ (by rw [ho]; intro c hc'; cases hc')]
    simp [execOp, ho, resolve, invoke, builtin, hs, hx, hrun, Result.andThen]
    exact hK' _ _ (h v' w' h2 h3 h4)
/-- A mark that is left behind by a range over a function. -/
def coll (D : Nat) : Deferred := { target := .collected D, args := #[] }
/-- All but the marks. -/
structure ButMarks (Ds : List Nat) (W W' : World) : Prop where
  os : W'.os = W.os
  tape : W'.tape = W.tape
  output : W'.output = W.output
  size : W'.heap.size = W.heap.size
  block : ∀ k, k ∉ Ds → W'.heap[k]? = W.heap[k]?
theorem leaves_marks {F : Fence} {n : Nat} {fn : Func} {tmps : Array Value} {R : Ending → World → Prop} : ∀ (Ds : List Nat) (W : World), Ds.Nodup → (∀ D ∈ Ds, W.heap[D]? = some (.deferred (some []))) → (∀ W', ButMarks Ds W W' → LeavesIn F n Tryd.prog fn tmps R [] .returning W') → LeavesInM F n Tryd.prog fn tmps R (Ds.map coll) .returning W
  | [], W, _, _, h => h W ⟨rfl, rfl, rfl, rfl, fun _ _ => rfl⟩
  | D :: Ds, W, hn, hd, h => by
    obtain ⟨h1, h2⟩ := List.nodup_cons.1 hn
    refine ⟨by simp, .inl ⟨D, _, rfl, run_takeDeferred (hd D (by simp)), leaves_marks Ds _ h2 (fun D' hD' => ?_) fun W' hW' => h W' ⟨hW'.os, hW'.tape, hW'.output, ?_, fun k hk => ?_⟩⟩⟩
    · have hne : D' ≠ D := fun e => h1 (e ▸ hD')
      have := hd D' (by simp [hD'])
      rw [← this]
      exact (grownBy_putObj' W D (.deferred none)).block D' (Array.getElem?_eq_some_iff.1 this).1 (by simpa using hne)
    · rw [hW'.size]
      simp [World.putObj]
    · simp only [List.mem_cons, not_or] at hk
      rw [hW'.block k hk.2]
      by_cases hkl : k < W.heap.size
      · exact (grownBy_putObj' W D (.deferred none)).block k hkl (by simpa using hk.1)
      · rw [Array.getElem?_eq_none (by simp [World.putObj]; omega), Array.getElem?_eq_none (by omega)]
/-- What an entry's slices lie in is cells. -/
theorem ent_cells {w : World} {vs : List Value} {x : EntV} (h : EntM w vs x) : ∀ u ∈ vs, ∀ b, Refs u b → ∃ C t f, w.heap[b]? = some (.cells C t f) := fun u hu b hr => by
  obtain ⟨ka, kc, va, vc, rfl, sk, sv, _, _⟩ := h
  have main : ∀ {a : Option Addr} {n c : Nat} {xs : List Int}, Sl w a n c xs → Refs (.slice a n c) b → ∃ C t f, w.heap[b]? = some (.cells C t f) := fun {a n c xs} hs ⟨off, l, cc, e, h0⟩ => by
    simp only [Value.slice.injEq] at e
    obtain ⟨rfl, rfl, rfl⟩ := e
    obtain ⟨_, b', off', e', hc⟩ := hs.2.2.2.2.2 0 h0
    simp only [Option.some.injEq, Addr.mk.injEq, and_true] at e'
    obtain ⟨rfl, rfl⟩ := e'
    obtain ⟨C, t, f, h1, _⟩ := cell_heap hc
    exact ⟨C, t, f, h1⟩
  simp only [List.mem_cons, List.not_mem_nil, or_false] at hu
  rcases hu with rfl | rfl | rfl | rfl | rfl
  · exact main sk hr
  · exact (refs_int hr).elim
  · exact (refs_bool hr).elim
  · exact (refs_int hr).elim
  · exact main sv hr
theorem lay_cells {w : World} : ∀ {us : List Value} {xs : List EntV}, Lay entW w us xs → ∀ u ∈ us, ∀ b, Refs u b → ∃ C t f, w.heap[b]? = some (.cells C t f)
  | us, [], h, u, hu, b, hr => by rw [show us = [] from h] at hu; cases hu
  | us, x :: xs, h, u, hu, b, hr => by
    obtain ⟨vs, us', rfl, h1, h2⟩ := h
    rcases List.mem_append.1 hu with q | q
    · exact ent_cells h1.1 u q b hr
    · exact lay_cells h2 u q b hr
/-- A row stays where cells stay. -/
theorem rowW_cells {B : Nat} {F : Nat → Prop} {w w' : World} {v : Value} {xs : List EntV} (h : RowF entW B F w v xs) (hk : ∀ (k : Nat) (C : Array Value) (t : TypeId) (f : Nat × Nat), w.heap[k]? = some (Obj.cells C t f) → w'.heap[k]? = w.heap[k]?) : RowF entW B F w' v xs := by
  obtain ⟨us, h1, h2, h3, h4⟩ := h
  refine ⟨us, ownsRow_keep h1 fun k q => ?_, h2.keep fun u hu b hr => ?_, h3, h4⟩
  · obtain ⟨C, hC⟩ := ownsRow_ty h1 q
    exact hk k C _ _ hC
  · obtain ⟨C, t, f, hC⟩ := lay_cells h2 u hu b hr
    exact hk b C t f hC
theorem grown_cells {W W' : World} {row : Option Nat} (hg : W.grownBy W' row) (hr : ∀ r, row = some r → ∃ o : Obj, W.heap[r]? = some o ∧ o.isCells = false) : ∀ (k : Nat) (C : Array Value) (t : TypeId) (f : Nat × Nat), W.heap[k]? = some (Obj.cells C t f) → W'.heap[k]? = W.heap[k]? := fun k C t f hk =>
  hg.block k (Array.getElem?_eq_some_iff.1 hk).1 fun e => by
    obtain ⟨o, h1, h2⟩ := hr k e.symm
    rw [hk] at h1
    cases h1
    cases h2
/-- What List has laid down when some of a key's entries have come. -/
structure LsI (w : World) (q8 : Nat) (Ds : List Nat) (nv : Value) (xs : List EntV) (W : World) : Prop where
  bel : Below w.heap.size w W
  box : ∃ v, W.heap[w.heap.size]? = some (.cells #[v] 22 (0, 0)) ∧ RowF entW w.heap.size (fun b => w.heap.size ≤ b) W v xs
  nbx : W.heap[q8]? = some (.cells #[nv] 54 (0, 0))
  mks : ∀ D ∈ Ds, W.heap[D]? = some (.deferred (some []))
theorem LsI.own {w : World} {q8 : Nat} {Ds : List Nat} {nv : Value} {xs : List EntV} {B : Nat} {W W' : World} {row : Option Nat} (h : LsI w q8 Ds nv xs W) (hB : ∀ D ∈ Ds, D < B) (hw : w.heap.size ≤ B) (hg : W.grownBy W' row) (hr : ∀ r, row = some r → B ≤ r ∧ ∃ o : Obj, W.heap[r]? = some o ∧ o.isCells = false) : LsI w q8 Ds nv xs W' := by
  have hc := grown_cells hg (fun r e => (hr r e).2)
  obtain ⟨v, h1, h2⟩ := h.box
  refine ⟨Below.grown h.bel hg h.bel.size (fun k e => by have := (hr k e).1; omega), ⟨v, (hc _ _ _ _ h1).trans h1, rowW_cells h2 hc⟩, (hc _ _ _ _ h.nbx).trans h.nbx, fun D hD => ?_⟩
  have := h.mks D hD
  exact (hg.block D (Array.getElem?_eq_some_iff.1 this).1 (fun e => by have := (hr D e.symm).1; have := hB D hD; omega)).trans this
theorem LsI.later {w : World} {q8 : Nat} {Ds : List Nat} {nv : Value} {xs : List EntV} {W W' : World} (h : LsI w q8 Ds nv xs W) (hb : Below W.heap.size W W') : LsI w q8 Ds nv xs W' := by
  obtain ⟨v, h1, h2⟩ := h.box
  have hk : ∀ {k o}, W.heap[k]? = some o → W'.heap[k]? = some o := fun {k o} e => (hb.block k (Array.getElem?_eq_some_iff.1 e).1).trans e
  exact ⟨h.bel.trans (hb.mono h.bel.size), ⟨v, hk h1, h2.later hb⟩, hk h.nbx, fun D hD => hk (h.mks D hD)⟩

theorem lay_ne {w : World} {E : Nat} {a : Option Addr} {n c : Nat} {t : TypeId} {f : Nat × Nat} (hE : w.heap[E]? = some (.cells #[.slice a n c] t f)) : ∀ {us : List Value} {xs : List EntV}, Lay entW w us xs → ∀ u ∈ us, ∀ b, Refs u b → b ≠ E
  | us, [], h, u, hu, b, hr => by rw [show us = [] from h] at hu; cases hu
  | us, x :: xs, h, u, hu, b, hr => by
    obtain ⟨vs, us', rfl, h1, h2⟩ := h
    rcases List.mem_append.1 hu with q | q
    · rintro rfl
      have main : ∀ {a' : Option Addr} {n' c' : Nat} {ys : List Int}, Sl w a' n' c' ys → Refs (.slice a' n' c') b → False := fun {a' n' c' ys} hs ⟨off, l, cc, e, h0⟩ => by
        simp only [Value.slice.injEq] at e
        obtain ⟨rfl, rfl, rfl⟩ := e
        obtain ⟨_, b', off', e', hc⟩ := hs.2.2.2.2.2 0 h0
        simp only [Option.some.injEq, Addr.mk.injEq, and_true] at e'
        obtain ⟨rfl, rfl⟩ := e'
        rw [cell_of hE] at hc
        have hlt := (Array.getElem?_eq_some_iff.1 hc).1
        simp only [List.size_toArray, List.length_cons, List.length_nil] at hlt
        have h9 : off + 0 = 0 := by omega
        rw [h9] at hc
        simp at hc
      obtain ⟨ka, kc, va, vc, rfl, sk, sv, _, _⟩ := h1.1
      simp only [List.mem_cons, List.not_mem_nil, or_false] at q
      rcases q with rfl | rfl | rfl | rfl | rfl
      · exact main sk hr
      · exact (refs_int hr).elim
      · exact (refs_bool hr).elim
      · exact (refs_int hr).elim
      · exact main sv hr
    · exact lay_ne hE h2 u q b hr
theorem row_ne {B : Nat} {F : Nat → Prop} {w w' : World} {E : Nat} {a : Option Addr} {n c : Nat} {v : Value} {xs : List EntV} (h : RowF entW B F w v xs) (hE : w.heap[E]? = some (.cells #[.slice a n c] 22 (0, 0))) (hk : ∀ k, k ≠ E → w'.heap[k]? = w.heap[k]?) : RowF entW B F w' v xs := by
  obtain ⟨us, h1, h2, h3, h4⟩ := h
  refine ⟨us, ownsRow_keep h1 fun k q => hk k ?_, h2.keep fun u hu b hr => hk b (lay_ne hE h2 u hu b hr), h3, h4⟩
  obtain ⟨C, hC⟩ := ownsRow_ty h1 q
  exact ty_ne hC hE (by decide)
/-- One more entry that has come. -/
theorem ls_more {w W : World} {q8 Bs : Nat} {Ds : List Nat} {nb : Nat} {xs : List EntV} {x : EntV} {bv : Value} {sa : Option Addr} {sl sc : Nat} (h : LsI w q8 Ds (ptr nb) xs W) (hq : w.heap.size < q8) (hBs : W.heap[Bs]? = some (.cells #[bv] 53 (0, 0))) (hlo : ∀ D ∈ Ds, w.heap.size < D)
    (hvb : W.heap[w.heap.size]? = some (.cells #[.slice sa sl sc] 22 (0, 0))) (hvr : RowF entW w.heap.size (fun b => w.heap.size ≤ b) W (.slice sa sl sc) xs) (hlen : xs.length ≤ 200)
    {w5 : World} (b5 : Below W.heap.size W w5) {a5 a6 : Option Addr} {c5 c6 : Nat} (hem : EntW w5 (entL a5 c5 a6 c6 x) x) (hnew : ∀ u ∈ entL a5 c5 a6 c6 x, ∀ b, Refs u b → W.heap.size ≤ b) :
    ∃ a9 l9 c9 w9, (∀ ty, (Builtin.append_ #[22, 22] ty #[.slice sa sl sc, .slice (some ⟨w5.heap.size, 0, none⟩) 1 1]).run Tryd.prog (w5.alloc (.cells #[.slice a5 x.key.length c5, .int .i64 x.seq, .bool x.gone, .int .i64 x.till, .slice a6 x.val.length c6] 28)) = .ok (.slice a9 l9 c9) w9) ∧
      w5.cell? ⟨w.heap.size, 0, none⟩ = some (.slice sa sl sc) ∧ (w5.alloc (.cells #[.slice a5 x.key.length c5, .int .i64 x.seq, .bool x.gone, .int .i64 x.till, .slice a6 x.val.length c6] 28)).cell? ⟨w.heap.size, 0, none⟩ = some (.slice sa sl sc) ∧ w9.cell? ⟨w.heap.size, 0, none⟩ = some (.slice sa sl sc) ∧ w9.frozen? ⟨w.heap.size, 0, none⟩ = false ∧
      ∀ W', W'.heap = (w9.setCell ⟨w.heap.size, 0, none⟩ (.slice a9 l9 c9)).heap → W'.os = w9.os → W'.tape = w9.tape → W'.output = w9.output → KeepsOthers W W' ∧ KB w.heap.size Bs W W' ∧ LsI w q8 Ds (ptr nb) (xs ++ [x]) W' ∧ W'.heap[Bs]? = some (.cells #[bv] 53 (0, 0)) := by
  have B6 : Below W.heap.size W (w5.alloc (.cells #[.slice a5 x.key.length c5, .int .i64 x.seq, .bool x.gone, .int .i64 x.till, .slice a6 x.val.length c6] 28)) := b5.alloc b5.size _
  have row5 := hvr.later b5
  have hsw := h.bel.size
  have hbase : w.heap.size ≤ (w5.alloc (.cells #[.slice a5 x.key.length c5, .int .i64 x.seq, .bool x.gone, .int .i64 x.till, .slice a6 x.val.length c6] 28)).heap.size := by have := B6.size; omega
  have hsep : ∀ u ∈ entL a5 c5 a6 c6 x, ∀ b, Refs u b → (Value.slice sa sl sc).ownBlock ≠ some b := fun u hu b hr e => by
    have h1 := hnew u hu b hr
    have h2 := (hvr.own_lt e).2
    omega
  have hrun : ∀ ty, ∃ v' w', (Builtin.append_ #[22, 22] ty #[.slice sa sl sc, .slice (some ⟨w5.heap.size, 0, none⟩) 1 1]).run Tryd.prog (w5.alloc (.cells #[.slice a5 x.key.length c5, .int .i64 x.seq, .bool x.gone, .int .i64 x.till, .slice a6 x.val.length c6] 28)) = .ok v' w' ∧ RowF entW w.heap.size (fun b => w.heap.size ≤ b) w' v' (xs ++ [x]) ∧ (w5.alloc (.cells #[.slice a5 x.key.length c5, .int .i64 x.seq, .bool x.gone, .int .i64 x.till, .slice a6 x.val.length c6] 28)).grownBy w' (Value.slice sa sl sc).ownBlock ∧ Moved (w5.alloc (.cells #[.slice a5 x.key.length c5, .int .i64 x.seq, .bool x.gone, .int .i64 x.till, .slice a6 x.val.length c6] 28)) (.slice sa sl sc) v' := fun ty =>
    run_appF entW 22 (.agg #[.slice none 0 0, .int .i64 0, .bool false, .int .i64 0, .slice none 0 0]) 72 Tryd.underlying22 entW_info rfl (by decide) ty (row5.alloc _) (rs_one hem) hsep (fun u hu b hr => by have := hnew u hu b hr; omega) (by omega) (by omega) hbase
  obtain ⟨v9, w9, hr9, r9, g9, m9⟩ := hrun 22
  have hall : ∀ ty, (Builtin.append_ #[22, 22] ty #[.slice sa sl sc, .slice (some ⟨w5.heap.size, 0, none⟩) 1 1]).run Tryd.prog (w5.alloc (.cells #[.slice a5 x.key.length c5, .int .i64 x.seq, .bool x.gone, .int .i64 x.till, .slice a6 x.val.length c6] 28)) = .ok v9 w9 := fun ty => hr9
  obtain ⟨a9, l9, c9, rfl⟩ : ∃ a l c, v9 = .slice a l c := by
    obtain ⟨us, q1, _⟩ := r9
    exact ownsRow_slice q1
  have hold : ∀ {k : Nat} {C : Array Value} {t : TypeId}, W.heap[k]? = some (.cells C t (0, 0)) → t ≠ 28 → w9.heap[k]? = some (.cells C t (0, 0)) := fun {k C t} hk ht => by
    have h6 := (B6.block k (Array.getElem?_eq_some_iff.1 hk).1).trans hk
    refine (g9.block k (Array.getElem?_eq_some_iff.1 h6).1 fun e => ?_).trans h6
    obtain ⟨us, q1, _⟩ := hvr
    obtain ⟨D, hD⟩ := ownsRow_ty q1 (show Ows (Value.slice sa sl sc) k from e.symm)
    exact ty_ne hk hD ht rfl
  have hE9 := hold hvb (by decide)
  have h5E : w5.heap[w.heap.size]? = some (.cells #[.slice sa sl sc] 22 (0, 0)) := (b5.block _ (Array.getElem?_eq_some_iff.1 hvb).1).trans hvb
  have h6E := (B6.block _ (Array.getElem?_eq_some_iff.1 hvb).1).trans hvb
  refine ⟨a9, l9, c9, w9, hall, by rw [cell_of h5E]; rfl, by rw [cell_of h6E]; rfl, by rw [cell_of hE9]; rfl, frozen_ofW hE9 0, fun W' e1 e2 e3 e4 => ?_⟩
  have hK6 : KeepsOthers W (w5.alloc (.cells #[.slice a5 x.key.length c5, .int .i64 x.seq, .bool x.gone, .int .i64 x.till, .slice a6 x.val.length c6] 28)) := ⟨B6.size, fun k o hk _ => (B6.block k (Array.getElem?_eq_some_iff.1 hk).1).trans hk⟩
  have hK9 := hK6.trans (KeepsOthers.of_grownBy g9 (fun k o e hk => by
    obtain ⟨us, q1, _⟩ := row5.alloc (.cells #[.slice a5 x.key.length c5, .int .i64 x.seq, .bool x.gone, .int .i64 x.till, .slice a6 x.val.length c6] 28)
    obtain ⟨D, hD⟩ := ownsRow_ty q1 e
    rw [hk] at hD
    cases hD
    rfl))
  have hKs := hK9.trans (KeepsOthers.setCell w9 ⟨w.heap.size, 0, none⟩ (.slice a9 l9 c9))
  have hsame : ∀ k, k ≠ w.heap.size → W'.heap[k]? = w9.heap[k]? := fun k hk => by rw [e1]; exact heap_ne w9 0 _ hk
  have hB9 : Below w.heap.size W w9 := Below.grown (B6.mono hsw) g9 hbase (fun k hk => (hvr.own_lt hk).1)
  have hbel : Below w.heap.size W W' := ⟨e2.trans hB9.os, e3.trans hB9.tape, e4.trans hB9.output, by rw [e1, size_set]; exact hB9.size, fun k hk => (hsame k (by omega)).trans (hB9.block k hk)⟩
  have hBne : Bs ≠ w.heap.size := ty_ne hBs hvb (by decide)
  have hBs9 := (hsame Bs hBne).trans (hold hBs (by decide))
  refine ⟨⟨by rw [e1]; exact hKs.size, fun k o hk ho => by rw [e1]; exact hKs.same k o hk ho⟩, ⟨hbel, hBs9.trans hBs.symm⟩, ⟨h.bel.trans hbel, ⟨.slice a9 l9 c9, ?_, row_ne r9 hE9 hsame⟩, (hsame q8 (by omega)).trans (hold h.nbx (by decide)), fun D hD => ?_⟩, hBs9⟩
  · rw [e1]
    have := heap_set hE9 0 (.slice a9 l9 c9)
    exact this
  · have hd := hK9.same D _ (h.mks D hD) rfl
    exact (hsame D (by have := hlo D hD; omega)).trans hd
/-- Between two keys. -/
structure LsS (w : World) (Z : List Nd) (ub : List Int) (j q8 : Nat) (Ds : List Nat) (W : World) : Prop where
  jl : j ≤ Z.length
  dl : Ds.length = j
  st : LsI w q8 Ds (ptrO (Z[j]?.map Nd.b)) (flat (Z.take j)) W
  q8 : w.heap.size < q8
  nd : Ds.Nodup
  lo : ∀ D ∈ Ds, w.heap.size < D ∧ D < W.heap.size
  all : ∀ m ∈ Z.take j, inK ub m = true

attribute [-go_sem] Builtin.append_
set_option maxHeartbeats 4000000 in
set_option maxRecDepth 100000 in
theorem list_w {w : World} {p : Nat} {l : List EntV} {F : Nat → Prop} {fa ta : Option Addr} {fl fc tl tc : Nat} {fr ub : List Int} (h : RM w p l F) (hok : okE l) (hl : l.length ≤ 100) (hf : Sl w fa fl fc fr) (ht : Sl w ta tl tc ub) : Calls Tryd.prog 19 #[pm p, .slice fa fl fc, .slice ta tl tc] w fun r w' => ∃ v, r = .returned v ∧ RowF entW w.heap.size (fun b => w.heap.size ≤ b) w' v (listE l fr ub) ∧ Below w.heap.size w w' := by
  obtain ⟨ns, hm, rfl, rfl⟩ := h
  obtain ⟨W1, hW1⟩ : ∃ W1, W1 = w.alloc (.cells #[.slice none 0 0] 22) := ⟨_, rfl⟩
  have b1 : Below w.heap.size w W1 := by rw [hW1]; exact (Below.refl _ w).alloc (Nat.le_refl _) _
  have s1 : W1.heap.size = w.heap.size + 1 := by rw [hW1]; simp
  have k1 : W1.heap[w.heap.size]? = some (.cells #[.slice none 0 0] 22 (0, 0)) := by rw [hW1]; exact heap_alloc_new w _
  have hsk := seek_m (hm.later b1) (hf.later b1)
  rw [List.head?_eq_getElem?] at hsk
  have HH : Hid (MemAt w p ns ((flat ns).length : Nat) (wts (flat ns) : Nat) ∧ okE (flat ns) ∧ (flat ns).length ≤ 100 ∧ Sl w ta tl tc ub ∧ Below w.heap.size w W1 ∧ W1.heap.size = w.heap.size + 1 ∧ W1.heap[w.heap.size]? = some (.cells #[.slice none 0 0] 22 (0, 0))) := ⟨hm, hok, hl, ht, b1, s1, k1⟩
  have HLL : Hid (∀ j, (flat ((bck ns fr).take j)).length ≤ 100) := fun j => by
    have h3 := flat_sub ((List.take_sublist j (bck ns fr)).trans (List.filter_sublist (l := ns)))
    omega
  have HW1 := hid hW1
  clear hm hok hl hf ht b1 s1 k1 hW1
  unfold pm at hsk ⊢
  obtain ⟨Z, hZ⟩ : ∃ Z, Z = bck ns fr := ⟨_, rfl⟩
  rw [← hZ] at hsk HLL
  have HZ := hid hZ
  clear hZ
  obtain ⟨o0, ho0⟩ : ∃ o0, ptrO (Z[0]?.map Nd.b) = .pointer o0 := by
    cases Z[0]?.map Nd.b with
    | none => exact ⟨_, rfl⟩
    | some b => exact ⟨_, rfl⟩
  rw [ho0] at hsk
  have HO0 := hid ho0
  clear ho0
  refine (callsIn_wide (n := 3)).1 ?_
  refine callsIn_of_wp_marks Tryd.func19 rfl trivial ?_ rfl
  simp only [Tryd.ntmps19, List.size_toArray, List.length_cons, List.length_nil, Nat.reduceAdd, Nat.reduceSub, Array.replicate_succ, Array.replicate_zero, List.push_toArray, List.append_toArray, List.nil_append, List.cons_append]
  rw [HW1.out] at hsk
  gi_wp2_with (first | (refine ⟨trivial, ?_⟩; gi_at_call 30; refine (callsIn_wide.2 hsk).mono ?_; rintro e9 w2 ⟨rfl, b2⟩; rw [← HW1.out] at b2))
  have H0 : Hid (∀ wx, wx.heap = (w2.alloc (.cells #[.pointer o0] 54)).heap → wx.os = w2.os → wx.tape = w2.tape → wx.output = w2.output → LsS w Z ub 0 w2.heap.size [] wx) := fun wx h1 h2 h3 h4 => by
    have hw := HH.out.2.2.2.2.1
    have hc : Below w.heap.size w w2 := hw.trans (b2.mono hw.size)
    have hc3 : Below w.heap.size w (w2.alloc (.cells #[.pointer o0] 54)) := hc.alloc hc.size _
    have hs := b2.size
    have hs1 := HH.out.2.2.2.2.2.1
    have g1 : wx.heap[w.heap.size]? = some (.cells #[.slice none 0 0] 22 (0, 0)) := by
      rw [h1]
      exact (Below.heap_alloc w2 _ _ (by omega)).trans ((b2.block _ (by omega)).trans HH.out.2.2.2.2.2.2)
    have g2 : wx.heap[w2.heap.size]? = some (.cells #[.pointer o0] 54 (0, 0)) := by rw [h1]; exact heap_alloc_new w2 _
    exact ⟨Nat.zero_le _, rfl, ⟨⟨h2.trans hc.os, h3.trans hc.tape, h4.trans hc.output, by rw [h1]; exact hc3.size, fun k hk => by rw [h1]; exact hc3.block k hk⟩, ⟨_, g1, RowF.nil _ _ _⟩, by rw [HO0.out]; exact g2, fun D hD => by cases hD⟩, by omega, List.nodup_nil, (fun D hD => by cases hD), fun m hm => by cases hm⟩
  clear hsk b2
  refine wpIn_loop (fun a' wr => ∃ (j q8 : Nat) (Ds : List Nat) (u9 u10 u11 u12 u13 u14 u15 u16 u17 u18 u19 u20 u21 u22 u23 u24 u25 u26 u27 u28 u29 u30 u31 u32 u33 u34 u35 u36 : Value), a' = { tmps := #[.pointer (some ⟨p, 0, none⟩), .slice fa fl fc, .slice ta tl tc, undef, undef, undef, .slice none 0 0, .pointer (some ⟨w.heap.size, 0, none⟩), .pointer (some ⟨q8, 0, none⟩), u9, u10, u11, u12, u13, u14, u15, u16, u17, u18, u19, u20, u21, u22, u23, u24, u25, u26, u27, u28, u29, u30, u31, u32, u33, u34, u35, u36], defers := Ds.map coll } ∧ Hid (LsS w Z ub j q8 Ds wr)) (fun a' _ => Z.length - a'.defers.length) ?_ ?_
  · exact ⟨0, w2.heap.size, [], _, _, _, _, _, _, _, _, _, _, _, _, _, _, _, _, _, _, _, _, _, _, _, _, _, _, _, _, rfl, H0.out _ (by first | rfl | simp [World.setCell, World.alloc]) rfl rfl rfl⟩
  · rintro a' wr ⟨j, q8, Ds, u9, u10, u11, u12, u13, u14, u15, u16, u17, u18, u19, u20, u21, u22, u23, u24, u25, u26, u27, u28, u29, u30, u31, u32, u33, u34, u35, u36, rfl, HK⟩
    obtain ⟨hv0, hvb, hvr⟩ := HK.out.st.box
    have HDONE : Hid ((∀ m, Z[j]? = some m → inK ub m = false) → ∀ W', ButMarks Ds wr W' → RowF entW w.heap.size (fun b => w.heap.size ≤ b) W' hv0 (listE (flat ns) fr ub) ∧ Below w.heap.size w W') := fun h2 W' hbm => by
      have h1 := HK.out.all
      rw [HZ.out] at h1 h2
      rw [list_flat_take HH.out.1.bas.ord h1 h2, ← HZ.out]
      have hck : ∀ (k : Nat) (C : Array Value) (t : TypeId) (f : Nat × Nat), wr.heap[k]? = some (Obj.cells C t f) → W'.heap[k]? = wr.heap[k]? := fun k C t f hk => hbm.block k fun hD => by
        have := HK.out.st.mks k hD
        rw [hk] at this
        cases this
      exact ⟨rowW_cells hvr hck, ⟨hbm.os.trans HK.out.st.bel.os, hbm.tape.trans HK.out.st.bel.tape, hbm.output.trans HK.out.st.bel.output, by rw [hbm.size]; exact HK.out.st.bel.size, fun k hk => (hbm.block k fun hD => by have := (HK.out.lo k hD).1; omega).trans (HK.out.st.bel.block k hk)⟩⟩
    have hbx : wr.cell? ⟨w.heap.size, 0, none⟩ = some hv0 := by rw [cell_of hvb]; rfl
    have hq8 : wr.cell? ⟨q8, 0, none⟩ = some (ptrO (Z[j]?.map Nd.b)) := by rw [cell_of HK.out.st.nbx]; rfl
    have hmks : Hid (Ds.Nodup ∧ ∀ D ∈ Ds, wr.heap[D]? = some (.deferred (some []))) := ⟨HK.out.nd, HK.out.st.mks⟩
    obtain ⟨sa, sl, sc, hsl⟩ : ∃ a l c, hv0 = .slice a l c := by
      obtain ⟨us, q1, _⟩ := hvr
      exact ownsRow_slice q1
    subst hsl
    have HVR := hid hvr
    clear hvr hvb
    cases hz : Z[j]? with
    | none =>
      have hn := @ahead_nil wr ta tl tc
      have HD := hid (HDONE.out (fun m hm => by rw [hz] at hm; cases hm))
      rw [hz] at hq8
      simp only [Option.map_none, ptrO] at hq8
      clear hz HK HDONE
      gi_wp2_with (first | (refine ⟨trivial, ?_⟩; gi_at_call 35; refine (callsIn_wide.2 hn).mono ?_; rintro e9 w9 ⟨rfl, hw⟩; obtain rfl := hw.symm; clear hn hw))
      refine leaves_marks Ds _ hmks.out.1 hmks.out.2 fun W' hbm => ⟨.slice sa sl sc, by simp [results, Tryd.results19, go_sem], _, rfl, HD.out W' hbm⟩
    | some m =>
      have hmm : m ∈ ns := (bck_ge m (by rw [← HZ.out]; exact List.mem_of_getElem? hz)).1
      have HM := hid (HH.out.1.later HK.out.st.bel)
      have hn := ahead_m (HM.out.bas.nd m hmm) (HH.out.2.2.2.1.later HK.out.st.bel)
      rw [hz] at hq8
      simp only [Option.map_some, ptrO] at hq8
      unfold ptr at hn hq8
      by_cases hi : inK ub m = true
      · have hi' := hi
        unfold inK at hi'
        rw [hi'] at hn
        have hvl : m.vs.length ≤ 100000 := by have := vs_le hmm; have := HH.out.2.2.1; omega
        obtain ⟨ao, cap, hrv, _⟩ := (HM.out.bas.nd m hmm).rowv
        have hc1 := (HM.out.bas.nd m hmm).cells.2
        rw [hrv] at hc1
        have HRV := hid hrv
        have HIN := hid hi
        have HZJ := hid hz
        have HMM := hid (And.intro hmm hvl)
        clear hz hi hi' hvl hrv hmm HDONE
        gi_wp2_with (first | (refine ⟨trivial, ?_⟩; gi_at_call 35; refine (callsIn_wide.2 hn).mono ?_; rintro e9 w9 ⟨rfl, hw⟩; obtain rfl := hw.symm; clear hn hw) | (refine ⟨trivial, ?_⟩; gi_at_call 36; refine (bw_in Fence.wide _ trivial rfl ao m.vs.length cap _).mono ?_; rintro e9 w9 ⟨rfl, rfl⟩))
        have hW5 : Below wr.heap.size wr (wr.alloc (.cells #[.slice ao m.vs.length cap] 53)) := (Below.refl _ wr).alloc (Nat.le_refl _) _
        have hB5 : Below w.heap.size w (wr.alloc (.cells #[.slice ao m.vs.length cap] 53)) := HK.out.st.bel.trans (hW5.mono HK.out.st.bel.size)
        have hnd5 := (HH.out.1.later hB5).bas.nd m HMM.out.1
        have hbs5 : (wr.alloc (.cells #[.slice ao m.vs.length cap] 53)).cell? ⟨wr.heap.size, 0, none⟩ = some m.rv := by rw [cell_of (heap_alloc_new wr _), HRV.out]; rfl
        have hrv5 : ∀ k, Ows m.rv k → k < w.heap.size := fun k hk => ownsRow_lt (HH.out.1.bas.nd m HMM.out.1).row hk
        have hsz5 : (wr.alloc (.cells #[.slice ao m.vs.length cap] 53)).heap.size = wr.heap.size + 1 := by simp
        have hI0 : LsI w q8 Ds (ptr m.b) (flat (Z.take j) ++ ([] : List (Com m)).map (fun x => x.1.2.ent m.key)) (wr.alloc (.cells #[.slice ao m.vs.length cap] 53)) := by
          have := HK.out.st.later hW5
          rw [HZJ.out] at this
          simpa [ptrO] using this
        have HENT : Hid (∀ (x : Com m) wx, Below w.heap.size w wx → Calls Tryd.prog 33 #[.pointer (some ⟨m.b, 0, none⟩), .pointer (some ⟨x.1.2.b, 0, none⟩)] wx fun e w' => ToldE wx (x.1.2.ent m.key) e w') := fun x wx hb => by
          have hlen := ok_key HH.out.2.1 HMM.out.1 x.2
          exact entry_m ((HH.out.1.later hb).bas.nd m HMM.out.1) x.2 (by omega) (by omega)
        have HLN : Hid (∀ pre : List (Com m), pre.length < m.vs.length → (flat (Z.take j) ++ pre.map (fun x => x.1.2.ent m.key)).length ≤ 200) := fun pre hp => by
          have h1 := HLL.out j
          have h2 := vs_le HMM.out.1
          have h3 := HH.out.2.2.1
          rw [List.length_append, List.length_map]
          omega
        clear hc1 hq8 hbx hmks
        refine wpIn_rangeFunc_ownF rfl (by omega) (gf := 46) (lb := #[.pointer (some ⟨wr.heap.size, 0, none⟩)]) rfl trivial (enters_of Tryd.func46 (by kernel_rfl) rfl)
          (bw_stops Fence.wide 2 trivial rfl (by omega) wr.heap.size w.heap.size hnd5 HMM.out.2 hbs5 (by omega) hrv5 hB5.size) KB.trans
          (fun W l o o' h1 h2 h3 h4 => ⟨Below.grown (Below.refl _ W) (grownBy_putObj' W l o') (by have := hB5.size; have := (Array.getElem?_eq_some_iff.1 h2).1; omega) (fun k hk => by cases hk; have := hB5.size; omega), (grownBy_putObj' W l o').block wr.heap.size (by have := (Array.getElem?_eq_some_iff.1 h2).1; omega) (by simp; omega)⟩)
          (Below.refl _ _) (fun _ => rfl)
          (fun (pre : List (Com m)) W => LsI w q8 Ds (ptr m.b) (flat (Z.take j) ++ pre.map (fun x => x.1.2.ent m.key)) W ∧ W.heap[wr.heap.size]? = some (.cells #[.slice ao m.vs.length cap] 53 (0, 0)))
          (fun _ _ _ => False)
          (fun pre W W' row hs hg hr => ⟨hs.1.own (fun D hD => by have := (HK.out.lo D hD).2; omega) hB5.size hg hr, (grown_cells hg (fun r e => (hr r e).2) _ _ _ _ hs.2).trans hs.2⟩)
          (fun _ _ _ _ _ hs _ _ => hs)
          ⟨hI0, heap_alloc_new wr _⟩
          (fun x => { tmps := #[.pointer (some ⟨p, 0, none⟩), .slice fa fl fc, .slice ta tl tc, undef, undef, undef, .slice none 0 0, .pointer (some ⟨w.heap.size, 0, none⟩), .pointer (some ⟨q8, 0, none⟩), u9, .pointer (some ⟨x.1.2.b, 0, none⟩), u11, u12, u13, .pointer (some ⟨m.b, 0, none⟩), .slice ta tl tc, .bool true, u17, u18, u19, u20, u21, .pointer (some ⟨m.b, 0, none⟩), .pointer (some ⟨m.b, 0, none⟩), .pointer (some ⟨m.b, 1, none⟩), .slice ao m.vs.length cap, .func (.func 46) #[] #[.pointer (some ⟨wr.heap.size, 0, none⟩)], .int .i64 (x.1.1 : Int), .pointer (some ⟨x.1.2.b, 0, none⟩), u29, u30, u31, u32, u33, u34, u35, u36], defers := [] }) ?assign ?body ?done ?stop
        case assign =>
          intro l x W K hK
          unfold encC
          gi_wp2
          exact hK
        case stop => rintro D c pre W _ _ h _; exact h.elim
        case body =>
          rintro l pre x W ⟨HI, hBs⟩ hlt
          obtain ⟨v, hvb, hvr⟩ := HI.box
          obtain ⟨sa', sl', sc', rfl⟩ : ∃ a l c, v = .slice a l c := by
            obtain ⟨us, q1, _⟩ := hvr
            exact ownsRow_slice q1
          have hbx : W.cell? ⟨w.heap.size, 0, none⟩ = some (.slice sa' sl' sc') := by rw [cell_of hvb]; rfl
          have hq8 : W.cell? ⟨q8, 0, none⟩ = some (.pointer (some ⟨m.b, 0, none⟩)) := by rw [cell_of HI.nbx]; rfl
          have hfz := frozen_ofW hvb 0
          have hent := HENT.out x W.drew HI.bel.drew
          have hmx : Tryd.prog.follows .mixedOrders = true := by kernel_rfl
          have HMORE : Hid (∀ w5 a5 c5 a6 c6, Below W.heap.size W.drew w5 → EntM w5 (entL a5 c5 a6 c6 (x.1.2.ent m.key)) (x.1.2.ent m.key) → (∀ u ∈ entL a5 c5 a6 c6 (x.1.2.ent m.key), ∀ b, Refs u b → W.drew.heap.size ≤ b) → Wr w5 a5 (x.1.2.ent m.key).key.length → Wr w5 a6 (x.1.2.ent m.key).val.length → _) := fun w5 a5 c5 a6 c6 b5 em n5 k5 k6 =>
            ls_more (x := x.1.2.ent m.key) HI HK.out.q8 hBs (fun D hD => (HK.out.lo D hD).1) hvb hvr (HLN.out pre hlt) (((Below.refl W.heap.size W).drew).trans b5) (told_W em k5 k6) n5
          have HXE : Hid (∀ W', LsI w q8 Ds (ptr m.b) ((flat (Z.take j) ++ pre.map (fun x => x.1.2.ent m.key)) ++ [x.1.2.ent m.key]) W' → LsI w q8 Ds (ptr m.b) (flat (Z.take j) ++ (pre ++ [x]).map (fun x => x.1.2.ent m.key)) W') := fun W' h => by
            rw [List.map_append, ← List.append_assoc]
            exact h
          generalize hxx : x.1.2.ent m.key = xe at hent HMORE HXE
          unfold ToldE at hent
          clear hvb hvr hlt HI hBs hxx hnd5 hbs5 hrv5 hI0 hB5 hW5 HVR HM
          gi_wp2
          gi_region_with_o (first | (refine ⟨trivial, ?_⟩; gi_at_call 33; refine (CallsIn.inRound l (callsIn_wide.2 hent)).mono ?_; rintro e9 w5 ⟨a5, c5, a6, c6, rfl, em5, n5, k5, k6, b5⟩; unfold entA; obtain ⟨a9, l9, c9, w9, hrun, hc5, hc6, hc9, hf9, hfin⟩ := HMORE.out w5 a5 c5 a6 c6 b5 em5 n5 k5 k6; have HFIN := hid hfin; clear hfin em5 n5 k5 k6 b5))
          all_goals gi_wp2
          all_goals
            obtain ⟨f1, f2, f3, f4⟩ := HFIN.out _ rfl rfl rfl rfl
            exact ⟨f1, f2, HXE.out _ f3, f4⟩
        case done =>
          rintro D xs W hD hS ⟨HI, hBs⟩ hK
          have hq8 : W.cell? ⟨q8, 0, none⟩ = some (.pointer (some ⟨m.b, 0, none⟩)) := by rw [cell_of HI.nbx]; rfl
          have hnx : W.cell? ⟨m.b, 2, none⟩ = some (ptrO (Z[j + 1]?.map Nd.b)) := by
            have hz := HZJ.out
            rw [HZ.out] at hz ⊢
            exact nd_next (HH.out.1.later HI.bel) fr hz
          obtain ⟨o', ho'⟩ : ∃ o', ptrO (Z[j + 1]?.map Nd.b) = .pointer o' := by
            cases Z[j + 1]?.map Nd.b with
            | none => exact ⟨_, rfl⟩
            | some b => exact ⟨_, rfl⟩
          rw [ho'] at hnx
          have hmb : m.b < W.heap.size := World.block_lt_of_cell? _ _ hnx
          have hmne : m.b ≠ W.heap.size := by omega
          have hjl := (List.getElem?_eq_some_iff.1 HZJ.out).1
          have HFIN : Hid (∀ W', W'.heap = (W.alloc (.cells #[.pointer o'] 54)).heap → W'.os = W.os → W'.tape = W.tape → W'.output = W.output → LsS w Z ub (j + 1) W.heap.size (D :: Ds) W' ∧ Z.length - (D :: Ds).length < Z.length - Ds.length) := fun W' e1 e2 e3 e4 => by
            have hb : Below W.heap.size W W' := ⟨e2, e3, e4, by rw [e1]; simp, fun k hk => by rw [e1]; exact Below.heap_alloc W _ k hk⟩
            have HL := HI.later hb
            have hsz : W'.heap.size = W.heap.size + 1 := by rw [e1]; simp
            have hDl : D < W.heap.size := (Array.getElem?_eq_some_iff.1 hK).1
            have hfl : flat (Z.take (j + 1)) = flat (Z.take j) ++ xs.map (fun x => x.1.2.ent m.key) := by
              rw [List.take_add_one, HZJ.out, flat_app]
              congr 1
              simp only [Option.toList, flat_cons, flat_nil, List.append_nil]
              unfold Nd.ents
              rw [← List.map_reverse, ← hS, List.map_map]
              rfl
            have hdl := HK.out.dl
            have hwl := HK.out.st.bel.size
            refine ⟨⟨by omega, by simp; omega, ⟨HL.bel, by rw [hfl]; exact HL.box, by rw [ho', e1]; exact heap_alloc_new W _, fun D' hD' => ?_⟩, by have := HI.bel.size; omega, List.nodup_cons.2 ⟨fun q => by have := (HK.out.lo D q).2; omega, HK.out.nd⟩, fun D' hD' => ?_, fun x hx => ?_⟩, by simp; omega⟩
            · rcases List.mem_cons.1 hD' with rfl | q
              · exact (hb.block _ hDl).trans hK
              · exact HL.mks D' q
            · rcases List.mem_cons.1 hD' with rfl | q
              · exact ⟨by omega, by omega⟩
              · have h1 := HK.out.lo D' q
                have h2 := (Array.getElem?_eq_some_iff.1 (HI.mks D' q)).1
                exact ⟨h1.1, by omega⟩
            · rw [List.take_add_one, HZJ.out] at hx
              rcases List.mem_append.1 hx with q | q
              · exact HK.out.all x q
              · have e : x = m := by simpa using q
                rw [e]; exact HIN.out
          have HLT : Hid (Ds.length < Z.length) := by have := HK.out.dl; show _ < _; omega
          dsimp only
          clear hS hBs hK HI hD hjl ho' hnd5 hbs5 hrv5 hI0 hB5 hW5 hsz5
          gi_wp2
          exact ⟨⟨j + 1, W.heap.size, D :: Ds, _, _, _, _, _, _, _, _, _, _, _, _, _, _, _, _, _, _, _, _, _, _, _, _, _, _, _, _, rfl, (HFIN.out (W.alloc (.cells #[.pointer o'] 54)) rfl rfl rfl rfl).1⟩, by simp only [List.length_cons, List.length_map]; have := HLT.out; omega⟩
      · have hi' : inK ub m = false := by simpa using hi
        have HD := hid (HDONE.out (fun m' hm' => by rw [hz] at hm'; cases hm'; exact hi'))
        unfold inK at hi'
        rw [hi'] at hn
        clear hz hi hi' HK HDONE
        gi_wp2_with (first | (refine ⟨trivial, ?_⟩; gi_at_call 35; refine (callsIn_wide.2 hn).mono ?_; rintro e9 w9 ⟨rfl, hw⟩; obtain rfl := hw.symm; clear hn hw))
        refine leaves_marks Ds _ hmks.out.1 hmks.out.2 fun W' hbm => ⟨.slice sa sl sc, by simp [results, Tryd.results19, go_sem], _, rfl, HD.out W' hbm⟩
/-- List, as the document asks; and All. -/
theorem list_m {w : World} {p : Nat} {l : List EntV} {F : Nat → Prop} {fa ta : Option Addr} {fl fc tl tc : Nat} {fr ub : List Int} (h : RM w p l F) (hok : okE l) (hl : l.length ≤ 100) (hf : Sl w fa fl fc fr) (ht : Sl w ta tl tc ub) : Calls Tryd.prog 19 #[pm p, .slice fa fl fc, .slice ta tl tc] w fun r w' => ∃ v, r = .returned v ∧ RowF entE w.heap.size (fun b => w.heap.size ≤ b) w' v (listE l fr ub) ∧ Below w.heap.size w w' :=
  (list_w h hok hl hf ht).mono fun e w' ⟨v, h1, h2, h3⟩ => ⟨v, h1, rowW_E h2, h3⟩
theorem all_w {w : World} {p : Nat} {l : List EntV} {F : Nat → Prop} (h : RM w p l F) (hok : okE l) (hl : l.length ≤ 100) : Calls Tryd.prog 14 #[pm p] w fun r w' => ∃ v, r = .returned v ∧ RowF entW w.heap.size (fun b => w.heap.size ≤ b) w' v l ∧ Below w.heap.size w w' := by
  have hl' := list_w h hok hl (Sl.nil w) (Sl.nil w)
  rw [listE_all] at hl'
  clear h hok hl
  unfold pm at hl' ⊢
  go_enter Tryd.func14, Tryd.ntmps14
  go_wp2_with fail
  refine hl'.mono ?_
  rintro e w' ⟨v, rfl, r, b⟩
  have HB := hid (And.intro r b)
  clear hl' r b
  go_wp2_with fail
  exact bodyPost_ret (v := v) (by simp [results, Tryd.results14, go_sem]) rfl ⟨v, rfl, HB.out⟩
theorem theLists : PML theMem where
  list := fun h _ h2 h3 h4 h5 => list_m h h2 h3 h4 h5
  all := fun h _ h2 h3 => (all_w h h2 h3).mono fun e w' ⟨v, h1, h2, h3⟩ => ⟨v, h1, rowW_E h2, h3⟩
theorem theApart : PMA theMem where
  allW := fun {w p l F} h _ h2 h3 => (all_w h h2 h3).mono fun e w' ⟨v, e1, r2, b3⟩ => by
    obtain ⟨us, q1, q2, q3, q4⟩ := r2
    obtain ⟨l1, l2⟩ := lay_wr q2
    rcases q1.2 with q | ⟨g, cap, cur, c1, c2, c4, c5, c6, c7, c8⟩
    · have hl0 : l = [] := List.eq_nil_of_length_eq_zero q.2
      have hu0 : us = [] := by have := q1.1; rw [q.2] at this; exact List.eq_nil_of_length_eq_zero (by omega)
      subst hl0
      subst hu0
      exact ⟨none, 0, [], by rw [e1, q.1]; rfl, ⟨rfl, fun _ => ⟨rfl, rfl⟩, Nat.le_refl _, Nat.zero_le _, rfl, fun j u hu => by simp at hu⟩, (fun u hu => by cases hu), (fun u hu => by cases hu), b3⟩
    · refine ⟨some ⟨g, 0, none⟩, cap, us, by rw [e1, c1], ⟨rfl, (fun e => by cases e), c5, c6, l1, fun j u hu => ⟨g, 0, rfl, ?_⟩⟩, fun u hu b hr => ⟨q4 u hu b hr, fun g' off e => ?_⟩, l2, b3⟩
      · rw [cell_of c4, Nat.zero_add]
        rw [← c8, List.getElem?_take] at hu
        split at hu
        · simpa using hu
        · cases hu
      · simp only [Option.some.injEq, Addr.mk.injEq] at e
        obtain ⟨rfl, _⟩ := e
        intro e
        exact q3 u hu b hr (by rw [c1, e]; rfl)
end Go.Proofs.YtaefddnmldbgiaaDoor

/- The package's table lies where the program's text lays it. -/
namespace Go.Proofs.YtaefddnmldbgiaaDoor
open Go.RowKit
set_option linter.unusedVariables false

set_option maxRecDepth 100000 in
theorem tab_begin : ((begin Tryd.prog (fun _ _ => 0) default).world.heap[1]?).bind Obj.row? = some ((List.replicate 64 (Value.int .u8 0)).toArray, 91) := by kernel_rfl
set_option maxRecDepth 100000 in
theorem tab_types : Tryd.prog.cellTypes Tryd.prog.depth 91 = some (List.replicate 64 5) := by kernel_rfl
theorem tab_builds : Tryd.prog.buildable 91 = true := by kernel_rfl
theorem tab_globals : (1 : Nat) < Tryd.prog.globals.size := by
  have : Tryd.prog.globals.size = 2 := by kernel_rfl
  omega
theorem tab_of {W : World} (h : W.ShapedOpen Tryd.prog) : Tab W := by
  obtain ⟨cs, h1, h2, h3⟩ := h.1 1 _ _ tab_globals tab_begin
  obtain ⟨ts, e1, ⟨m, e2⟩, e3⟩ := h3 tab_builds
  rw [tab_types] at e1
  obtain rfl := Option.some.inj e1
  refine ⟨cs, 91, (0, 0), h1, ⟨by decide, by decide, by decide⟩, fun i hi => ?_⟩
  have hs : cs.size = 64 := by rw [h2]; simp
  obtain ⟨u, hu, hc⟩ := e3 i cs[i] (Array.getElem?_eq_getElem (by omega))
  have hu5 : u = 5 := by
    rw [List.length_replicate, Nat.mod_eq_of_lt hi, List.getElem?_replicate, if_pos hi] at hu
    exact (Option.some.inj hu).symm
  subst hu5
  unfold Cell.ok at hc
  rw [Tryd.underlying5] at hc
  have hg := Array.getElem?_eq_getElem (show i < cs.size by omega)
  generalize cs[i] = v at hc hg
  cases v with
  | int k n =>
    obtain ⟨rfl, hn⟩ := hc
    have hn' : 0 ≤ n ∧ n ≤ 255 := by
      have h0 : IntKind.u8.min = 0 := by decide
      have h9 : IntKind.u8.max = 255 := by decide
      unfold IntKind.has at hn
      rw [h0, h9] at hn
      exact hn
    exact ⟨n.toNat, by rw [hg]; simp [Int.toNat_of_nonneg hn'.1], by omega⟩
  | _ => exact hc.elim
end Go.Proofs.YtaefddnmldbgiaaDoor

/- A mem that there isn't. -/
namespace Go.Proofs.YtaefddnmldbgiaaDoor
open Go.RowKit
set_option linter.unusedVariables false
set_option linter.unusedSimpArgs false

theorem nadd0_m {w : World} {ka va : Option Addr} {kc vc : Nat} {e : EntV} : Calls Tryd.prog 23 #[.pointer none, entA ka kc va vc e] w fun r w' => r = .returned (.int .i64 1) ∧ Below w.heap.size w w' := by
  unfold entA
  go_enter Tryd.func23, Tryd.ntmps23
  go_wp2_with fail
  go_ret
  exact ⟨by simp, (Below.refl _ w).alloc (Nat.le_refl _) _⟩
theorem nlen0_m {w : World} : Calls Tryd.prog 11 #[.pointer none] w fun r w' => r = .returned (.int .i64 0) ∧ Below w.heap.size w w' := by
  go_enter Tryd.func11, Tryd.ntmps11
  go_wp2_with fail
  go_ret
  exact ⟨by simp, Below.refl _ _⟩
theorem nweight0_m {w : World} : Calls Tryd.prog 12 #[.pointer none] w fun r w' => r = .returned (.int .i64 0) ∧ Below w.heap.size w w' := by
  go_enter Tryd.func12, Tryd.ntmps12
  go_wp2_with fail
  go_ret
  exact ⟨by simp, Below.refl _ _⟩
theorem nget0_m {w : World} {ka : Option Addr} {kl kc : Nat} {s : Int} : Calls Tryd.prog 16 #[.pointer none, .slice ka kl kc, .int .i64 s] w fun r w' => r = .returned (.tuple #[ent0, .bool false]) ∧ Below w.heap.size w w' := by
  obtain ⟨W, hW⟩ : ∃ W, W = w.alloc (.cells #[.slice none 0 0, .int .i64 0, .bool false, .int .i64 0, .slice none 0 0] 28) := ⟨_, rfl⟩
  have hWb : Below w.heap.size w W := by rw [hW]; exact (Below.refl _ w).alloc (Nat.le_refl _) _
  have hWk : W.heap[w.heap.size]? = some (.cells #[.slice none 0 0, .int .i64 0, .bool false, .int .i64 0, .slice none 0 0] 28 (0, 0)) := by rw [hW]; exact heap_alloc_new w _
  have hsk := @seek_nil W ka kl kc
  have hn := @has_nil W ka kl kc
  have HW := hid hW
  have HQ := hid hWk
  have HB := hid hWb
  unfold ent0
  clear hW hWb hWk
  go_enter Tryd.func16, Tryd.ntmps16
  go_upto_region 1 with fail
  rw [← HW.out]
  obtain ⟨z0, z1, z2, z3, z4, f0, f1, f2, f3, f4⟩ := ent0_cells HQ.out
  go_wp2_with (first | (go_at_call 30; refine hsk.mono ?_; rintro e9 w2 ⟨rfl, hw⟩; obtain rfl := hw.symm; clear hw) | (go_at_call 31; refine hn.mono ?_; rintro e9 w9 ⟨rfl, hw⟩; obtain rfl := hw.symm; clear hw))
  obtain ⟨o0, o1, o2, o3, o4⟩ := cells_set5 HQ.out (.slice none 0 0) (.int .i64 0) (.bool false) (.int .i64 0) (.slice none 0 0)
  exact bodyPost_ret (v := .tuple #[.agg #[.slice none 0 0, .int .i64 0, .bool false, .int .i64 0, .slice none 0 0], .bool false]) (by simp [results, Tryd.results16, go_sem, o0, o1, o2, o3, o4]) rfl ⟨rfl, below_set5 HB.out _ _ _ _ _⟩
theorem nlatest0_m {w : World} {fa ta : Option Addr} {fl fc tl tc : Nat} {s : Int} : Calls Tryd.prog 21 #[.pointer none, .slice fa fl fc, .slice ta tl tc, .int .i64 s] w fun r w' => (∃ a c, r = .returned (.slice a 0 c)) ∧ Below w.heap.size w w' := by
  have hsk := @seek_nil w fa fl fc
  have hn := @ahead_nil w ta tl tc
  go_enter Tryd.func21, Tryd.ntmps21
  go_wp2_with (first | (go_at_call 30; refine hsk.mono ?_; rintro e9 w2 ⟨rfl, hw⟩; obtain rfl := hw.symm; clear hw))
  go_loopg [9, 10] 0 (fun g v n wr => v = .slice none 0 0 ∧ n = .pointer none ∧ wr = w)
  case atStart => exact ⟨rfl, rfl, rfl⟩
  case round =>
    obtain ⟨rfl, rfl, rfl⟩ := hrel
    go_wp2_with (first | (go_at_call 35; refine hn.mono ?_; rintro e9 w9 ⟨rfl, hw⟩; obtain rfl := hw.symm; clear hw))
    go_ret
    exact ⟨⟨none, 0, by simp⟩, Below.refl _ _⟩
theorem nlist0_m {w : World} {fa ta : Option Addr} {fl fc tl tc : Nat} : Calls Tryd.prog 19 #[.pointer none, .slice fa fl fc, .slice ta tl tc] w fun r w' => (∃ a c, r = .returned (.slice a 0 c)) ∧ Below w.heap.size w w' := by
  have hsk := fun C => @seek_nil (w.alloc C) fa fl fc
  go_enter Tryd.func19, Tryd.ntmps19
  go_wp2_with (first | (go_at_call 30; refine (hsk _).mono ?_; rintro e9 w2 ⟨rfl, hw⟩; obtain rfl := hw.symm; clear hw))
  have hb : Below w.heap.size w ((w.alloc (.cells #[.slice none 0 0] 22)).alloc (.cells #[.pointer none] 54)) := ((Below.refl _ w).alloc (Nat.le_refl _) _).alloc (by simp) _
  have H0 : Hid (∀ wx, wx.heap = ((w.alloc (.cells #[.slice none 0 0] 22)).alloc (.cells #[.pointer none] 54)).heap → wx.os = w.os → wx.tape = w.tape → wx.output = w.output → wx.cell? ⟨w.heap.size + 1, 0, none⟩ = some (.pointer none) ∧ wx.cell? ⟨w.heap.size, 0, none⟩ = some (.slice none 0 0) ∧ Below w.heap.size w wx) := fun wx h1 h2 h3 h4 => by
    have e1 := heap_alloc_new (w.alloc (.cells #[.slice none 0 0] 22)) (.cells #[.pointer none] 54)
    rw [World.size_alloc] at e1
    have e2 : wx.heap[w.heap.size + 1]? = some (.cells #[.pointer none] 54 (0, 0)) := by rw [h1]; exact e1
    have e3 : wx.heap[w.heap.size]? = some (.cells #[.slice none 0 0] 22 (0, 0)) := by rw [h1]; exact (Below.heap_alloc _ _ _ (by simp)).trans (heap_alloc_new w _)
    exact ⟨by rw [cell_of e2]; rfl, by rw [cell_of e3]; rfl, h2, h3, h4, by rw [h1]; exact hb.size, fun k hk => by rw [h1]; exact hb.block k hk⟩
  clear hb hsk
  go_loopg [8] 0 (fun g n wr => n = .pointer (some ⟨w.heap.size + 1, 0, none⟩) ∧ Hid (wr.cell? ⟨w.heap.size + 1, 0, none⟩ = some (.pointer none) ∧ wr.cell? ⟨w.heap.size, 0, none⟩ = some (.slice none 0 0) ∧ Below w.heap.size w wr))
  case atStart => exact ⟨rfl, H0.out _ (by first | rfl | simp [World.setCell, World.alloc]) rfl rfl rfl⟩
  case round =>
    obtain ⟨rfl, HK⟩ := hrel
    have hn := @ahead_nil wr ta tl tc
    obtain ⟨c1, c2, b3⟩ := HK.out
    have HB := hid b3
    clear b3 HK
    go_wp2_with (first | (go_at_call 35; refine hn.mono ?_; rintro e9 w9 ⟨rfl, hw⟩; obtain rfl := hw.symm; clear hw))
    go_ret
    exact ⟨⟨none, 0, by simp⟩, HB.out⟩
theorem nall0_m {w : World} : Calls Tryd.prog 14 #[.pointer none] w fun r w' => (∃ a c, r = .returned (.slice a 0 c)) ∧ Below w.heap.size w w' := by
  have hl := @nlist0_m w none none 0 0 0 0
  go_enter Tryd.func14, Tryd.ntmps14
  go_wp2_with fail
  refine hl.mono ?_
  rintro e w' ⟨⟨a, c, rfl⟩, b⟩
  have HB := hid b
  clear hl b
  go_wp2_with fail
  go_ret
  exact ⟨⟨a, c, by simp⟩, HB.out⟩
theorem theNone : PMN where
  add := fun _ => nadd0_m
  len := nlen0_m
  weight := nweight0_m
  get := fun _ _ => nget0_m
  list := fun _ _ => nlist0_m
  all := nall0_m
  latest := fun _ _ _ => nlatest0_m
end Go.Proofs.YtaefddnmldbgiaaDoor
