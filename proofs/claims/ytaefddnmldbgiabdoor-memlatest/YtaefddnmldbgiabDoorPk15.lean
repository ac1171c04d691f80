import Derived.Laws.BitsAllLaws
import Derived.Deep.RegionLaw
import Derived.Test.YtaefddnmldbgiabDoorPk14
/- The law on what lies ahead of a key and behind it, of any mem. -/
namespace Go.Proofs.YtaefddnmldbgiabDoor
open Go.RowKit
set_option linter.unusedVariables false
set_option linter.unusedSimpArgs false

/-- A mem that is being filled. -/
def AddS (D : PM) (w : World) (p n : Nat) (wx : World) (L : List EntV) : Prop :=
  ∃ F, D.R wx p L F ∧ ordE L ∧ okE L ∧ L.length ≤ n ∧ (∀ k, F k → w.heap.size ≤ k) ∧ Below w.heap.size w wx
theorem AddS.later {D : PM} {w : World} {p n : Nat} {wx wy : World} {L : List EntV} (h : AddS D w p n wx L) (hb : Below wx.heap.size wx wy) : AddS D w p n wy L := by
  obtain ⟨F, a1, a2, a3, a4, a5, a6⟩ := h
  exact ⟨F, PM.later a1 hb, a2, a3, a4, a5, a6.trans (hb.mono a6.size)⟩
/-- One more. -/
theorem AddS.add {D : PM} {w : World} {p n : Nat} {wx : World} {L : List EntV} (h : AddS D w p n wx L) (hn : n ≤ 90) {ka kc va vc : _} {o : EntV} (hem : EntM w (entL ka kc va vc o) o) (h1 : o.key.length ≤ 3000) (h2 : o.val.length ≤ 3000) :
    Calls Tryd.prog 8 #[pm p, entA ka kc va vc o] wx fun r w' => r = .returned (.int .i64 ((addE L o).1 : Nat)) ∧ AddS D w p (n + 1) w' (addE L o).2 := by
  obtain ⟨F, a1, a2, a3, a4, a5, a6⟩ := h
  refine (D.add a1 a2 a3 (by omega) (El.later (E := entE) hem a6) (fun u hu b hr hb' => by have := entE.lt hem u hu b hr; have := a5 b hb'; omega) h1 h2).mono fun r w' ⟨he, F', r6, k6, f6⟩ => ⟨he, F', r6, addE_ord a2 o, addE_ok a3 o, by have := addE_len L o; omega, (fun j hj => ?_), a6.trans (k6.below a6.size a5)⟩
  rcases f6 j hj with q | q
  · exact a5 j q
  · have := a6.size; omega
theorem wpList_appSw {α : Type} (E : El α) {t : TypeId} {z : Value} {bytes : Nat} (ht : Tryd.prog.underlying t = some (.slice E.ty)) (hinfo : (Tryd.prog.info? E.ty).map (fun i => (i.zero, i.size, i.bytes)) = some (some z, E.size, bytes)) (hz1 : z.cells.size = E.size) (hp : 0 < E.size)
    {w : World} {ops : Array Oper} {rest : List Oper} {o : Oper} {a : Act} {Q : Exit → Act → World → Prop} (hw : Region.wanted o (yielded ops a.tmps) = true) (s x : Operand)
    (ho : o.op = .call { callee := .builtin .append, args := #[s, x], argTypes := #[t, t] }) {B : Nat} {v : Value} {xs ys : List α} (hs : a.eval s = v) (hrow : RowS E B w v xs) {ao : Option Addr} {m c : Nat} {us : List Value} (hx : a.eval x = .slice ao m c)
    (hr : RSu E w ao m c us ys) (hsep : ∀ u ∈ us, ∀ b, Refs u b → v.ownBlock ≠ some b) (h63 : xs.length + m ≤ 140737488355328) (hb : (xs.length + m) * bytes ≤ 140737488355328) (hbase : B ≤ w.heap.size)
    (h : ∀ v' w', RowS E B w' v' (xs ++ ys) → w.grownBy w' v.ownBlock → wpList Tryd.prog ops Q rest (a.put o.dst v') w') : wpList Tryd.prog ops Q (o :: rest) a w :=
  wpList_step fun K hK => by
    rw [if_pos hw]
    obtain ⟨v', w', hr, h2, h3, h4⟩ := run_appS E t z bytes ht hinfo hz1 hp o.type hrow hr hsep h63 hb hbase
    unfold Oper.wp execOp
    simp only [ho, resolve, invoke, builtin, Sem.run_bind, Sem.run_pure, Result.andThen_ok, List.map_toArray, List.map_cons, List.map_nil, hs, hx, hr]
    exact hK _ _ (h v' w' h2 h3)
theorem getE_keep {l : List EntV} {key : List Int} {s : Int} {k : Nat} {x : EntV} (h : getE (l.take k) key s = some x) : getE (l.take (k + 1)) key s = some x := by
  unfold getE at h ⊢
  rw [List.take_add_one, List.find?_append, h]
  rfl
/-- What was wanted, in its box. -/
def WantS (q : Nat) (g : Option EntV) (wr : World) : Prop :=
  (g = none ∧ wr.heap[q]? = some (.cells #[.slice none 0 0, .int .i64 0, .bool false, .int .i64 0, .slice none 0 0] 28 (0, 0))) ∨ ∃ x ka kc va vc, g = some x ∧ wr.heap[q]? = some (.cells #[.slice ka x.key.length kc, .int .i64 x.seq, .bool x.gone, .int .i64 x.till, .slice va x.val.length vc] 28 (0, 0)) ∧ EntM wr (entL ka kc va vc x) x

theorem WantS.later {q : Nat} {g : Option EntV} {wr wx : World} (h : WantS q g wr) (hb : Below wr.heap.size wr wx) : WantS q g wx := by
  rcases h with ⟨h1, h2⟩ | ⟨x, ka, kc, va, vc, h1, h2, h3⟩
  · exact .inl ⟨h1, (hb.block q (Array.getElem?_eq_some_iff.1 h2).1).trans h2⟩
  · exact .inr ⟨x, ka, kc, va, vc, h1, (hb.block q (Array.getElem?_eq_some_iff.1 h2).1).trans h2, El.later (E := entE) h3 hb⟩

end Go.Proofs.YtaefddnmldbgiabDoor

/- Bytes that may be written, and what stays when they are. -/
namespace Go.Proofs.YtaefddnmldbgiabDoor
open Go.RowKit
set_option linter.unusedVariables false
set_option linter.unusedSimpArgs false

theorem heap_setW {w : World} {p : Nat} {C : Array Value} {t : TypeId} {f : Nat × Nat} (h : w.heap[p]? = some (.cells C t f)) (k : Nat) (v : Value) : (w.setCell ⟨p, k, none⟩ v).heap[p]? = some (.cells (C.setIfInBounds k v) t f) := by
  simp only [World.setCell, Array.getElem?_modify, if_true, h]
  rfl
theorem frozen_ofW {w : World} {p : Nat} {C : Array Value} {t : TypeId} (h : w.heap[p]? = some (.cells C t (0, 0))) (k : Nat) : w.frozen? ⟨p, k, none⟩ = false := by
  simp [World.frozen?, h]
theorem heap_ne (w : World) {p b : Nat} (k : Nat) (v : Value) (h : b ≠ p) : (w.setCell ⟨p, k, none⟩ v).heap[b]? = w.heap[b]? := Below.heap_setCell _ _ _ _ (fun e => h e)
theorem size_set (w : World) (p k : Nat) (v : Value) : (w.setCell ⟨p, k, none⟩ v).heap.size = w.heap.size := by simp [World.setCell]
theorem below_set {B : Nat} {w0 w : World} (h : Below B w0 w) (p k : Nat) (v : Value) (hp : B ≤ p) : Below B w0 (w.setCell ⟨p, k, none⟩ v) :=
  ⟨h.os, h.tape, h.output, by rw [size_set]; exact h.size, fun i hi => by rw [heap_ne w k v (by omega)]; exact h.block i hi⟩
/-- Bytes that may be written. -/
def Wr (w : World) (a : Option Addr) (n : Nat) : Prop := ∀ i, i < n → ∃ b off m, a = some ⟨b, off, none⟩ ∧ m < 256 ∧ w.cell? ⟨b, off + i, none⟩ = some (.int .u8 ((m : Nat) : Int)) ∧ w.frozen? ⟨b, off + i, none⟩ = false
theorem cell_heap {w : World} {b k : Nat} {v : Value} (h : w.cell? ⟨b, k, none⟩ = some v) : ∃ C t f, w.heap[b]? = some (.cells C t f) ∧ C[k]? = some v := by
  unfold World.cell? at h
  split at h
  · rename_i C t f e
    exact ⟨C, t, f, e, by simpa using h⟩
  · cases h
theorem Wr.set {w : World} {a : Option Addr} {n : Nat} (h : Wr w a n) (p k m : Nat) (hm : m < 256) : Wr (w.setCell ⟨p, k, none⟩ (.int .u8 (m : Int))) a n := by
  intro i hi
  obtain ⟨b, off, m0, e, hm0, hc, hf⟩ := h i hi
  by_cases hb : b = p
  · subst hb
    obtain ⟨C, t, f, eh, hC⟩ := cell_heap hc
    have eh2 := heap_setW eh k (.int .u8 (m : Int))
    have hf2 : (w.setCell ⟨b, k, none⟩ (.int .u8 (m : Int))).frozen? ⟨b, off + i, none⟩ = false := by
      unfold World.frozen? at hf ⊢
      rw [eh2]
      rw [eh] at hf
      exact hf
    by_cases hk : k = off + i
    · refine ⟨b, off, m, e, hm, ?_, hf2⟩
      unfold World.cell?
      rw [eh2]
      have hlt := (Array.getElem?_eq_some_iff.1 hC).1
      simp [hk, hlt]
    · refine ⟨b, off, m0, e, hm0, ?_, hf2⟩
      unfold World.cell?
      rw [eh2]
      simp only [Option.isSome_none, Bool.false_eq_true, if_false]
      rw [Array.getElem?_setIfInBounds_ne (by omega)]
      exact hC
  · refine ⟨b, off, m0, e, hm0, ?_, ?_⟩
    · rw [World.cell?_of_block (w := w) (a := ⟨b, off + i, none⟩) (heap_ne w k _ hb)]; exact hc
    · rw [World.frozen?_of_block (w := w) (heap_ne w k _ hb)]; exact hf
theorem Wr.lt {w : World} {a : Option Addr} {n b off : Nat} (h : Wr w a n) (hn : 0 < n) (e : a = some ⟨b, off, none⟩) : b < w.heap.size := by
  obtain ⟨b', off', m, e', _, hc, _⟩ := h 0 hn
  rw [e] at e'
  simp only [Option.some.injEq, Addr.mk.injEq, and_true] at e'
  obtain ⟨rfl, rfl⟩ := e'
  exact World.block_lt_of_cell? _ _ hc
theorem Wr.keep {w w' : World} {a : Option Addr} {n : Nat} (h : Wr w a n) (hk : ∀ b off, a = some ⟨b, off, none⟩ → 0 < n → w'.heap[b]? = w.heap[b]?) : Wr w' a n := by
  intro i hi
  obtain ⟨b, off, m, e, hm, hc, hf⟩ := h i hi
  have := hk b off e (by omega)
  exact ⟨b, off, m, e, hm, by rw [World.cell?_of_block (w := w) (a := ⟨b, off + i, none⟩) this]; exact hc, by rw [World.frozen?_of_block (w := w) this]; exact hf⟩
theorem Wr.later {w w' : World} {a : Option Addr} {n : Nat} (h : Wr w a n) (hb : Below w.heap.size w w') : Wr w' a n := h.keep fun b off e hn => hb.block b (h.lt hn e)
theorem wr_row {B : Nat} {w : World} {v : Value} {xs : List Int} (h : Row B w v xs) (hok : Okb xs) : ∃ a c, v = .slice a xs.length c ∧ Sl w a xs.length c xs ∧ Wr w a xs.length ∧ ∀ b off, a = some ⟨b, off, none⟩ → B ≤ b := by
  obtain ⟨a, c, e, hs⟩ := Sl.ofRow h hok
  refine ⟨a, c, e, hs, fun i hi => ?_, fun b off hb => ?_⟩
  · obtain ⟨hx, b, off, e1, hc⟩ := hs.2.2.2.2.2 i hi
    refine ⟨b, off, xof xs i, e1, hx, hc, ?_⟩
    rcases h.2 with ⟨e2, h0⟩ | ⟨g, cap, cur, e2, _, hg, _⟩
    · omega
    · rw [e, e1] at e2
      simp only [Value.slice.injEq, Option.some.injEq, Addr.mk.injEq, and_true] at e2
      obtain ⟨⟨rfl, rfl⟩, _⟩ := e2
      exact frozen_ofW hg _
  · subst hb
    rcases h.2 with ⟨e2, h0⟩ | ⟨g, cap, cur, e2, hg, _⟩
    · rw [e] at e2; simp at e2
    · rw [e] at e2
      simp only [Value.slice.injEq, Option.some.injEq, Addr.mk.injEq, and_true] at e2
      obtain ⟨⟨rfl, rfl⟩, _⟩ := e2
      exact hg
/-- Bytes behind a row of one's own, as a step of a region that draws. -/
theorem step_appL {ops : Array Oper} {w : World} {o : Oper} {a : Act} {K : Act → World → Prop} {Q : Exit → Act → World → Prop} {E : Prop} {B : Nat} {v : Value} {xs ys : List Int} {ao : Option Addr} {m c : Nat} (hgd : o.guard = none) (s x : Operand)
    (ho : o.op = .call { callee := .builtin .append, args := #[s, x], argTypes := #[26, 26] }) (hs : a.eval s = v) (hrow : Row B w v xs) (hx : a.eval x = .slice ao m c) (hsl : Sl w ao m c ys) (hb : xs.length + m ≤ 140737488355328) (hB : B ≤ w.heap.size)
    (h : ∀ v' w', Row B w' v' (xs ++ ys) → w.grownBy w' v.ownBlock → Moved w v v' → K (a.put o.dst v') w') :
    if Region.wanted o (yielded ops a.tmps) = true then Oper.wp Tryd.prog o a w K Q else E := by
  have hw : Region.wanted o (yielded ops a.tmps) = true := by simp [Region.wanted, hgd]
  rw [if_pos hw]
  obtain ⟨v', w', hr, h2, h3, h4⟩ := run_app B w o.type v xs hrow ao m c (xof ys) hsl.2.2.1 hsl.2.2.2.2.2 hb hB
  rw [← hsl.1, bs_xof hsl.2.1] at h2
  unfold Oper.wp execOp
  simp only [ho, resolve, invoke, builtin, Sem.run_bind, Sem.run_pure, Result.andThen_ok, List.map_toArray, List.map_cons, List.map_nil, hs, hx, hr]
  exact h _ _ h2 h3 h4
theorem grown_none {w w' : World} (h : w.grownBy w' none) : Below w.heap.size w w' := ⟨h.os, h.tape, h.output, h.size, fun k hk => h.block k hk (by simp)⟩
theorem undrew9 {w w2 : World} {r : Option Nat} (h : w.drew.grownBy w2 r) : w.grownBy w2 r := ⟨h.os, h.tape, h.output, h.size, h.block⟩
theorem below_app {w w2 : World} (h : w.grownBy w2 (Value.slice none 0 0).ownBlock) : Below w.heap.size w w2 := grown_none h
theorem below_app' {w w2 : World} (h : w.drew.grownBy w2 (Value.slice none 0 0).ownBlock) : Below w.heap.size w w2 := grown_none (undrew9 h)
/-- An entry whose key and value are one's own now. -/
structure CpS (wr : World) (o : EntV) (a5 : Option Addr) (c5 : Nat) (a6 : Option Addr) (c6 : Nat) (wx : World) : Prop where
  bx : wx.heap[wr.heap.size]? = some (.cells #[.slice a5 o.key.length c5, .int .i64 o.seq, .bool o.gone, .int .i64 o.till, .slice a6 o.val.length c6] 28 (0, 0))
  sk : Sl wx a5 o.key.length c5 o.key
  sv : Sl wx a6 o.val.length c6 o.val
  wk : Wr wx a5 o.key.length
  wv : Wr wx a6 o.val.length
  nk : ∀ b off, a5 = some ⟨b, off, none⟩ → wr.heap.size < b
  nv : ∀ b off, a6 = some ⟨b, off, none⟩ → wr.heap.size < b
  bel : Below wr.heap.size wr wx
theorem cps_of {wr w6 : World} {o : EntV} {x0 x4 : Value} {a5 a6 : Option Addr} {c5 c6 : Nat} (hb : w6.heap[wr.heap.size]? = some (.cells #[x0, .int .i64 o.seq, .bool o.gone, .int .i64 o.till, x4] 28 (0, 0)))
    (sk : Sl w6 a5 o.key.length c5 o.key) (sv : Sl w6 a6 o.val.length c6 o.val) (wk : Wr w6 a5 o.key.length) (wv : Wr w6 a6 o.val.length) (nk : ∀ b off, a5 = some ⟨b, off, none⟩ → wr.heap.size < b) (nv : ∀ b off, a6 = some ⟨b, off, none⟩ → wr.heap.size < b) (bel : Below wr.heap.size wr w6) :
    CpS wr o a5 c5 a6 c6 ((w6.setCell ⟨wr.heap.size, 0, none⟩ (.slice a5 o.key.length c5)).setCell ⟨wr.heap.size, 4, none⟩ (.slice a6 o.val.length c6)) := by
  have hne : ∀ b, wr.heap.size < b → ((w6.setCell ⟨wr.heap.size, 0, none⟩ (.slice a5 o.key.length c5)).setCell ⟨wr.heap.size, 4, none⟩ (.slice a6 o.val.length c6)).heap[b]? = w6.heap[b]? := fun b hlt => by
    rw [heap_ne _ _ _ (by omega), heap_ne _ _ _ (by omega)]
  refine ⟨heap_setW (heap_setW hb 0 _) 4 _, sk.keep (fun b hr => ?_), sv.keep (fun b hr => ?_), wk.keep (fun b off e _ => hne b (nk b off e)), wv.keep (fun b off e _ => hne b (nv b off e)), nk, nv, below_set (below_set bel _ _ _ (Nat.le_refl _)) _ _ _ (Nat.le_refl _)⟩
  · obtain ⟨off, l, c, e, h0⟩ := hr
    simp only [Value.slice.injEq] at e
    exact hne b (nk b off e.1)
  · obtain ⟨off, l, c, e, h0⟩ := hr
    simp only [Value.slice.injEq] at e
    exact hne b (nv b off e.1)
theorem xor_byte {n : Nat} (h : n < 256) : ∃ m : Nat, m < 256 ∧ bits .xor .u8 (n : Int) 255 = (m : Int) := by
  have e := u8_xor_nat n 255 h (by decide)
  exact ⟨n ^^^ 255, Nat.xor_lt_two_pow (n := 8) h (by decide), e⟩
/-- An entry of one's own that was handed in, and is written now; the mem stays. -/
structure FlS (D : PM) (w : World) (p q : Nat) (L : List EntV) (F : Nat → Prop) (ka : Option Addr) (n kc : Nat) (va : Option Addr) (m vc : Nat) (s1 s2 s3 : Value) (wx : World) : Prop where
  gn : D.N ≤ w.heap.size
  r : D.R wx p L F
  bx : wx.heap[q]? = some (.cells #[.slice ka n kc, s1, s2, s3, .slice va m vc] 28 (0, 0))
  wk : Wr wx ka n
  wv : Wr wx va m
  nk : ∀ b off, ka = some ⟨b, off, none⟩ → 0 < n → ¬ F b ∧ b ≠ q ∧ w.heap.size ≤ b
  nv : ∀ b off, va = some ⟨b, off, none⟩ → 0 < m → ¬ F b ∧ b ≠ q ∧ w.heap.size ≤ b
  bel : Below w.heap.size w wx
theorem FlS.flip {D : PM} {w : World} {p q : Nat} {L : List EntV} {F : Nat → Prop} {ka : Option Addr} {n kc : Nat} {va : Option Addr} {m vc : Nat} {s1 s2 s3 : Value} {wx : World} (h : FlS D w p q L F ka n kc va m vc s1 s2 s3 wx) {b k mm : Nat} (hb : ¬ F b ∧ b ≠ q ∧ w.heap.size ≤ b) (hm : mm < 256) :
    FlS D w p q L F ka n kc va m vc s1 s2 s3 (wx.setCell ⟨b, k, none⟩ (.int .u8 (mm : Int))) :=
  ⟨h.gn, D.same h.r (fun j hj => heap_ne wx k _ (fun e => hb.1 (e ▸ hj))) (fun j hj => heap_ne wx k _ (fun e => by have := h.gn; have := hb.2.2; omega)), (heap_ne wx k _ (Ne.symm hb.2.1)).trans h.bx, h.wk.set b k mm hm, h.wv.set b k mm hm, h.nk, h.nv, below_set h.bel b k _ hb.2.2⟩
theorem FlS.cells {D : PM} {w : World} {p q : Nat} {L : List EntV} {F : Nat → Prop} {ka : Option Addr} {n kc : Nat} {va : Option Addr} {m vc : Nat} {s1 s2 s3 : Value} {wx : World} (h : FlS D w p q L F ka n kc va m vc s1 s2 s3 wx) :
    wx.cell? ⟨q, 0, none⟩ = some (.slice ka n kc) ∧ wx.cell? ⟨q, 4, none⟩ = some (.slice va m vc) := by
  constructor <;> rw [cell_of h.bx] <;> rfl
/-- What is asked of a mem besides: what All tells may be written. -/
structure PMA (D : PM) : Prop where
  allW : ∀ {w p l F}, D.R w p l F → ordE l → okE l → l.length ≤ 100 → Calls Tryd.prog 9 #[pm p] w fun r w' => ∃ a c us, r = .returned (.slice a l.length c) ∧ RSu entE w' a l.length c us l ∧ (∀ u ∈ us, ∀ b, Refs u b → w.heap.size ≤ b ∧ ∀ g off, a = some ⟨g, off, none⟩ → b ≠ g) ∧ (∀ u ∈ us, ∀ a n c, u = .slice a n c → Wr w' a n) ∧ Below w.heap.size w w'
/-- An entry of a row: its cells among the row's. -/
theorem rsu_ent {w : World} {ao : Option Addr} {len cap : Nat} {us : List Value} {l : List EntV} (h : RSu entE w ao len cap us l) {i : Nat} {x : EntV} (hx : l[i]? = some x) :
    ∃ ka kc va vc, us[i * 5]? = some (.slice ka x.key.length kc) ∧ us[i * 5 + 1]? = some (.int .i64 x.seq) ∧ us[i * 5 + 2]? = some (.bool x.gone) ∧ us[i * 5 + 3]? = some (.int .i64 x.till) ∧ us[i * 5 + 4]? = some (.slice va x.val.length vc) := by
  obtain ⟨h1, h2, h3, h4, h5, h6⟩ := h
  obtain ⟨vs, ⟨ka, kc, va, vc, rfl, _⟩, _, g⟩ := h5.at hx
  exact ⟨ka, kc, va, vc, g 0 _ rfl, g 1 _ rfl, g 2 _ rfl, g 3 _ rfl, g 4 _ rfl⟩
/-- A row that was told, whose bytes are written; all that was there before stays. -/
structure GlS (w3 : World) (B4 g off : Nat) (us : List Value) (wx : World) : Prop where
  bel : Below w3.heap.size w3 wx
  sz : B4 ≤ wx.heap.size
  rc : ∀ (j : Nat) (u : Value), us[j]? = some u → wx.cell? ⟨g, off + j, none⟩ = some u
  wr : ∀ u ∈ us, ∀ a n c, u = .slice a n c → Wr wx a n
  nb : ∀ u ∈ us, ∀ b, Refs u b → w3.heap.size ≤ b ∧ b ≠ g ∧ b < B4
theorem GlS.flip {w3 : World} {B4 g off : Nat} {us : List Value} {wx : World} (h : GlS w3 B4 g off us wx) {b k m : Nat} (hb : w3.heap.size ≤ b ∧ b ≠ g) (hm : m < 256) : GlS w3 B4 g off us (wx.setCell ⟨b, k, none⟩ (.int .u8 (m : Int))) :=
  ⟨below_set h.bel b k _ hb.1, by rw [size_set]; exact h.sz, (fun j u hu => by rw [World.cell?_of_block (w := wx) (a := ⟨g, off + j, none⟩) (heap_ne wx k _ (Ne.symm hb.2))]; exact h.rc j u hu), (fun u hu a n c e => (h.wr u hu a n c e).set b k m hm), h.nb⟩
theorem GlS.later {w3 : World} {B4 g off : Nat} {us : List Value} {wx wy : World} (h : GlS w3 B4 g off us wx) (hb : Below wx.heap.size wx wy) : GlS w3 B4 g off us wy :=
  ⟨h.bel.trans (hb.mono h.bel.size), Nat.le_trans h.sz hb.size, (fun j u hu => cell_later hb (h.rc j u hu)), (fun u hu a n c e => (h.wr u hu a n c e).later hb), h.nb⟩
/-- With one of its entries in a box. -/
def GlB (w3 : World) (B4 g off : Nat) (us : List Value) (q : Nat) (C : Array Value) (wx : World) : Prop := GlS w3 B4 g off us wx ∧ wx.heap[q]? = some (.cells C 28 (0, 0))
theorem GlB.flip {w3 : World} {B4 g off : Nat} {us : List Value} {q : Nat} {C : Array Value} {wx : World} (h : GlB w3 B4 g off us q C wx) (hq : B4 ≤ q) {a : Option Addr} {n c : Nat} (hu : (Value.slice a n c) ∈ us) {b o : Nat} (ha : a = some ⟨b, o, none⟩) (hn : 0 < n) {k m : Nat} (hm : m < 256) : GlB w3 B4 g off us q C (wx.setCell ⟨b, k, none⟩ (.int .u8 (m : Int))) := by
  have h1 := h.1.nb _ hu b ⟨o, n, c, by rw [ha], hn⟩
  exact ⟨h.1.flip ⟨h1.1, h1.2.1⟩ hm, (heap_ne wx k _ (by omega)).trans h.2⟩
theorem GlB.cells {w3 : World} {B4 g off : Nat} {us : List Value} {q : Nat} {x0 x1 x2 x3 x4 : Value} {wx : World} (h : GlB w3 B4 g off us q #[x0, x1, x2, x3, x4] wx) : wx.cell? ⟨q, 0, none⟩ = some x0 ∧ wx.cell? ⟨q, 4, none⟩ = some x4 := by
  constructor <;> rw [cell_of h.2] <;> rfl
theorem gls_begin {w2 w3 : World} {a : Option Addr} {n c g off : Nat} {us : List Value} {l : List EntV} (h : RSu entE w3 a n c us l) (nb : ∀ u ∈ us, ∀ b, Refs u b → w2.heap.size ≤ b ∧ ∀ g off, a = some ⟨g, off, none⟩ → b ≠ g) (wr : ∀ u ∈ us, ∀ a n c, u = .slice a n c → Wr w3 a n) (hb : Below w2.heap.size w2 w3) (ha : a = some ⟨g, off, none⟩) : GlS w2 w3.heap.size g off us w3 := by
  refine ⟨hb, Nat.le_refl _, fun j u hu => ?_, wr, fun u hu b hr => ⟨(nb u hu b hr).1, (nb u hu b hr).2 g off ha, h.2.2.2.2.1.lt u hu b hr⟩⟩
  obtain ⟨b, o, e, hc⟩ := h.2.2.2.2.2 j u hu
  rw [ha] at e
  simp only [Option.some.injEq, Addr.mk.injEq, and_true] at e
  obtain ⟨rfl, rfl⟩ := e
  exact hc
theorem rsu_at {w : World} {ao : Option Addr} {len cap : Nat} {us : List Value} {l : List EntV} (h : RSu entE w ao len cap us l) {j : Nat} {u : Value} (hu : us[j]? = some u) : ∃ g off, ao = some ⟨g, off, none⟩ := by
  obtain ⟨b, o, e, _⟩ := h.2.2.2.2.2 j u hu
  exact ⟨b, o, e⟩
end Go.Proofs.YtaefddnmldbgiabDoor

/- The law that what is handed in and what is told is not the mem's own, of any mem. -/
namespace Go.Proofs.YtaefddnmldbgiabDoor
open Go.RowKit
set_option linter.unusedVariables false
set_option linter.unusedSimpArgs false

set_option maxHeartbeats 4000000 in
set_option maxRecDepth 100000 in
theorem apart_any (D : PM) (LL : PML D) (A : PMA D) {w : World} {ao : Option Addr} {len cap : Nat} {l : List EntV} (hG : D.G w) (h : RS entE w ao len cap l) :
    Calls Tryd.prog 4 #[.slice ao len cap] w fun r w' => r = .returned (.bool true) ∧ Below w.heap.size w w' := by
  have HGD : Hid (∀ wx, Below w.heap.size w wx → D.G wx) := fun wx hb => D.gk hG hb
  have HS : Hid (RS entE w ao len cap l) := h
  have hln : l.length = len := h.len.1
  have hl63 : len ≤ 2 ^ 63 - 1 := by have := h.len.2; unfold maxLen at this; omega
  have hnew := D.new hG
  clear hG
  clear h
  go_enter Tryd.func4, Tryd.ntmps4
  go_wp2_with fail
  refine hnew.mono ?_
  rintro e w1 ⟨p, F0, rfl, r0, hF0, b0⟩
  have H0 : Hid (AddS D w p 0 w1 []) := ⟨F0, r0, ord_nil, ok_nil, Nat.le_refl _, hF0, b0⟩
  clear hnew r0 hF0 b0
  go_upto_block 0 with fail
  go_cut [4] from 14 to 70 (fun _ wx => ∃ L, Hid (AddS D w p 40 wx L))
  case first =>
    go_wp2_with fail
    go_loopg [4, 5, 6, 7] len (fun g i _ _ _ wr => ∃ k : Nat, k + g = len ∧ i = .int .i64 (k : Int) ∧ ∃ L, Hid (k ≤ 40 ∧ AddS D w p k wr L))
    case atStart => exact ⟨0, by omega, rfl, [], Nat.zero_le _, H0⟩
    case round =>
      obtain ⟨k, hk, rfl, L, HK⟩ := hrel
      by_cases hkl : k < len
      · have hkl' : (k : Int) < (len : Int) := by omega
        by_cases h40 : k < 40
        · have h40' : (k : Int) < 40 := by omega
          have hkx : k < l.length := by omega
          have bel : Below w.heap.size w wr := by obtain ⟨_, _, _, _, _, _, q⟩ := HK.out.2; exact q
          obtain ⟨b, off, ka, kc, va, vc, rfl, e0, e1, e2, e3, e4, sk, sv, i1, i2⟩ := RS.ent HS.out (List.getElem?_eq_getElem hkx)
          have d0 := cell_later bel e0
          have d1 := cell_later bel e1
          have d2 := cell_later bel e2
          have d3 := cell_later bel e3
          have d4 := cell_later bel e4
          generalize l[k] = o at e0 e1 e2 e3 e4 d0 d1 d2 d3 d4 sk sv i1 i2
          obtain ⟨W1, hW1⟩ : ∃ W1, W1 = wr.alloc (.cells #[.slice ka o.key.length kc, .int .i64 o.seq, .bool o.gone, .int .i64 o.till, .slice va o.val.length vc] 28) := ⟨_, rfl⟩
          have b1 : Below wr.heap.size wr W1 := by rw [hW1]; exact (Below.refl _ _).alloc (Nat.le_refl _) _
          have hbk : W1.heap[wr.heap.size]? = some (.cells #[.slice ka o.key.length kc, .int .i64 o.seq, .bool o.gone, .int .i64 o.till, .slice va o.val.length vc] 28 (0, 0)) := by rw [hW1]; exact heap_alloc_new wr _
          have hlg := light9_any (w := W1) (ka := ka) (kc := kc) (va := va) (vc := vc) (e := o)
          have HBW : Hid (Below w.heap.size w wr ∧ Below wr.heap.size wr W1) := ⟨bel, b1⟩
          have HSK : Hid (Sl w ka o.key.length kc o.key ∧ Sl w va o.val.length vc o.val ∧ In64 o.seq ∧ In64 o.till) := ⟨sk, sv, i1, i2⟩
          have HBK := hid hbk
          have HW1 := hid hW1
          have HBX := hid (box_cells wr (.slice ka o.key.length kc) (.int .i64 o.seq) (.bool o.gone) (.int .i64 o.till) (.slice va o.val.length vc) 28 (wx := W1) (by rw [← hW1]; exact Below.refl _ _))
          have hk62 : k ≤ 2 ^ 61 := by omega
          obtain ⟨GK, HG⟩ : ∃ g, Hid (g < gk ∧ k + 1 + g = len) := ⟨gk - 1, by omega, by omega⟩
          unfold entA at hlg
          clear e0 e1 e2 e3 e4 sk sv i1 i2 bel hk b1 hbk hW1
          go_upto_region 6 with fail
          rw [← HW1.out]
          obtain ⟨x0, x1, x2, x3, x4⟩ := HBX.out
          go_wp2_with fail
          refine hlg.mono ?_
          rintro e w2 ⟨rfl, b2⟩
          clear hlg d0 d1 d2 d3 d4 x0 x1 x2 x3 x4
          by_cases hlt : o.key.length ≤ 3000 ∧ o.val.length ≤ 3000
          · have hlt' : decide (o.key.length ≤ 3000 ∧ o.val.length ≤ 3000) = true := by simpa using hlt
            rw [hlt']
            have HLT : Hid (o.key.length ≤ 3000 ∧ o.val.length ≤ 3000) := hlt
            have HB2 : Hid (Below W1.heap.size W1 w2) := b2
            clear hlt hlt' b2
            go_upto_region 8 with fail
            have HQ : Hid (∀ wx, Below w2.heap.size w2 wx → wx.heap[wr.heap.size]? = some (.cells #[.slice ka o.key.length kc, .int .i64 o.seq, .bool o.gone, .int .i64 o.till, .slice va o.val.length vc] 28 (0, 0)) ∧ wx.cell? ⟨wr.heap.size, 0, none⟩ = some (.slice ka o.key.length kc) ∧ wx.cell? ⟨wr.heap.size, 4, none⟩ = some (.slice va o.val.length vc) ∧ wx.frozen? ⟨wr.heap.size, 0, none⟩ = false ∧ wx.frozen? ⟨wr.heap.size, 4, none⟩ = false) := fun wx hb => by
              have e1 : w2.heap[wr.heap.size]? = _ := (HB2.out.block _ (Array.getElem?_eq_some_iff.1 HBK.out).1).trans HBK.out
              have e2 : wx.heap[wr.heap.size]? = _ := (hb.block _ (Array.getElem?_eq_some_iff.1 e1).1).trans e1
              exact ⟨e2, by rw [cell_of e2]; rfl, by rw [cell_of e2]; rfl, frozen_ofW e2 _, frozen_ofW e2 _⟩
            have HB02 : Hid (Below w.heap.size w w2 ∧ Below wr.heap.size wr w2 ∧ wr.heap.size < w2.heap.size) := by
              have c1 := HBW.out.2.trans (HB2.out.mono HBW.out.2.size)
              refine ⟨HBW.out.1.trans (c1.mono HBW.out.1.size), c1, ?_⟩
              have := (Array.getElem?_eq_some_iff.1 HBK.out).1
              have := HB2.out.size
              omega
            have HOK : Hid (Okb o.key ∧ Okb o.val) := ⟨HSK.out.1.2.1, HSK.out.2.1.2.1⟩
            go_cut [] from 32 to 39 (fun wx => ∃ a5 c5 a6 c6, Hid (CpS wr o a5 c5 a6 c6 wx))
            case first =>
              obtain ⟨y9, y0, y4, f0, f4⟩ := HQ.out w2 (Below.refl _ _)
              have HY9 := hid y9
              clear y9
              have HA1 : Hid (Sl w2.drew ka o.key.length kc o.key ∧ ([] : List Int).length + o.key.length ≤ 140737488355328 ∧ w2.heap.size ≤ w2.drew.heap.size) := ⟨(HSK.out.1.later HB02.out.1).later ((Below.refl w2.heap.size w2).drew), by have := HLT.out.1; simp only [List.length_nil]; omega, (Below.refl w2.heap.size w2).drew.size⟩
              have HA2 : Hid (∀ w5, Below w2.heap.size w2 w5 → Sl w5 va o.val.length vc o.val ∧ ([] : List Int).length + o.val.length ≤ 140737488355328) := fun w5 b5 => ⟨(HSK.out.2.1.later HB02.out.1).later b5, by have := HLT.out.2; simp only [List.length_nil]; omega⟩
              go_region_law (first
                | (refine step_appL (B := w2.heap.size) (xs := []) (ys := o.key) (ao := ka) (m := o.key.length) (c := kc) (v := .slice none 0 0) rfl (.const (.slice none 0 0)) (.tmp 33) rfl rfl (Row.nil _ _) rfl HA1.out.1 HA1.out.2.1 HA1.out.2.2 ?_; intro v5 w5 r5 g5 m5; rw [List.nil_append] at r5; obtain ⟨a5, c5, rfl, s5, k5, n5⟩ := wr_row r5 HOK.out.1; have b5 : Below w2.heap.size w2 w5 := below_app' g5; obtain ⟨_, z0, z4, h0, h4⟩ := HQ.out w5 b5)
                | (refine step_appL (B := w5.heap.size) (xs := []) (ys := o.val) (ao := va) (m := o.val.length) (c := vc) (v := .slice none 0 0) rfl (.const (.slice none 0 0)) (.tmp 36) rfl rfl (Row.nil _ _) rfl (HA2.out w5 b5).1 (HA2.out w5 b5).2 (Nat.le_refl _) ?_; intro v6 w6 r6 g6 m6; rw [List.nil_append] at r6; obtain ⟨a6, c6, rfl, s6, k6, n6⟩ := wr_row r6 HOK.out.2; have b6 : Below w5.heap.size w5 w6 := below_app g6; obtain ⟨z9, t0, t4, q0, q4⟩ := HQ.out w6 (b5.trans (b6.mono b5.size))))
              all_goals
                have hC := cps_of z9 (s5.later b6) s6 (k5.later b6) k6 (fun b off e => by have := n5 b off e; have := HB02.out.2.2; omega) (fun b off e => by have := n6 b off e; have := HB02.out.2.2; have := b5.size; omega) (HB02.out.2.1.trans ((b5.trans (b6.mono b5.size)).mono HB02.out.2.1.size))
                have HCC := hid hC
                clear hC
                go_wp2_with fail
                go_meet
                exact ⟨a5, c5, a6, c6, HCC⟩
            obtain ⟨a5, c5, a6, c6, HC⟩ := hcut
            obtain ⟨F, r1, o1, ok1, n1, hF, bel⟩ := HK.out.2
            have r2 : D.R wc p L F := PM.later r1 HC.out.bel
            have hkl3 := HLT.out
            have hadd := D.add (ka := a5) (kc := c5) (va := a6) (vc := c6) (e := o) r2 o1 ok1 (by omega) ⟨a5, c5, a6, c6, rfl, HC.out.sk, HC.out.sv, HSK.out.2.2.1, HSK.out.2.2.2⟩ (fun u hu b hr hb => by
              have h1 := D.lt r1 b hb
              unfold entL at hu
              simp only [List.mem_cons, List.not_mem_nil, or_false] at hu
              rcases hu with rfl | rfl | rfl | rfl | rfl
              · obtain ⟨off, l, c, e, h0⟩ := hr
                simp only [Value.slice.injEq] at e
                have := HC.out.nk b off e.1
                omega
              · exact refs_int hr
              · exact refs_bool hr
              · exact refs_int hr
              · obtain ⟨off, l, c, e, h0⟩ := hr
                simp only [Value.slice.injEq] at e
                have := HC.out.nv b off e.1
                omega) hkl3.1 hkl3.2
            unfold entA at hadd
            have HM : Hid (D.R wr p L F ∧ ordE L ∧ okE L ∧ L.length ≤ k ∧ (∀ j, F j → w.heap.size ≤ j) ∧ Below w.heap.size w wr) := ⟨r1, o1, ok1, n1, hF, bel⟩
            have y0 : wc.cell? ⟨wr.heap.size, 0, none⟩ = some (.slice a5 o.key.length c5) := by rw [cell_of HC.out.bx]; rfl
            have y1 : wc.cell? ⟨wr.heap.size, 1, none⟩ = some (.int .i64 o.seq) := by rw [cell_of HC.out.bx]; rfl
            have y2 : wc.cell? ⟨wr.heap.size, 2, none⟩ = some (.bool o.gone) := by rw [cell_of HC.out.bx]; rfl
            have y3 : wc.cell? ⟨wr.heap.size, 3, none⟩ = some (.int .i64 o.till) := by rw [cell_of HC.out.bx]; rfl
            have y4 : wc.cell? ⟨wr.heap.size, 4, none⟩ = some (.slice a6 o.val.length c6) := by rw [cell_of HC.out.bx]; rfl
            clear r1 o1 ok1 n1 hF bel r2 hkl3
            go_wp2_with fail
            refine hadd.mono ?_
            rintro e w4 ⟨rfl, F', r4, k4, f4⟩
            have hq : ¬ F wr.heap.size := fun hf => by have := D.lt HM.out.1 _ hf; omega
            have hnF : ∀ b, wr.heap.size < b → b < wc.heap.size → ¬ F' b := fun b h1 h2 hf => by
              rcases f4 b hf with e | e
              · have := D.lt HM.out.1 _ e; omega
              · omega
            have hwr := HC.out.bel.size
            have HFL : Hid (FlS D w p wr.heap.size (addE L o).2 F' a5 o.key.length c5 a6 o.val.length c6 (.int .i64 o.seq) (.bool o.gone) (.int .i64 o.till) w4) := by
              refine ⟨D.gn (HGD.out _ (Below.refl _ w)), r4, (k4.block _ (Array.getElem?_eq_some_iff.1 HC.out.bx).1 hq).trans HC.out.bx, HC.out.wk.keep (fun b off e hn => k4.block b (HC.out.wk.lt hn e) (fun hf => ?_)), HC.out.wv.keep (fun b off e hn => k4.block b (HC.out.wv.lt hn e) (fun hf => ?_)), (fun b off e hn => ?_), (fun b off e hn => ?_), ?_⟩
              · have := D.lt HM.out.1 _ hf; have := HC.out.nk b off e; omega
              · have := D.lt HM.out.1 _ hf; have := HC.out.nv b off e; omega
              · have h1 := HC.out.nk b off e
                have h2 := HC.out.wk.lt hn e
                have h3 := HM.out.2.2.2.2.2.size
                exact ⟨hnF b h1 h2, by omega, by omega⟩
              · have h1 := HC.out.nv b off e
                have h2 := HC.out.wv.lt hn e
                have h3 := HM.out.2.2.2.2.2.size
                exact ⟨hnF b h1 h2, by omega, by omega⟩
              · have c1 := HM.out.2.2.2.2.2.trans (HC.out.bel.mono HM.out.2.2.2.2.2.size)
                exact c1.trans (k4.below c1.size HM.out.2.2.2.2.1)
            have HFF : Hid (ordE (addE L o).2 ∧ okE (addE L o).2 ∧ (addE L o).2.length ≤ k + 1 ∧ ∀ j, F' j → w.heap.size ≤ j) := by
              refine ⟨addE_ord HM.out.2.1 o, addE_ok HM.out.2.2.1 o, by have := addE_len L o; have := HM.out.2.2.2.1; omega, fun j hj => ?_⟩
              rcases f4 j hj with e | e
              · exact HM.out.2.2.2.2.1 j e
              · have := HM.out.2.2.2.2.2.size; omega
            obtain ⟨q, hqq⟩ : ∃ q, q = wr.heap.size := ⟨_, rfl⟩
            have hkl63 : o.key.length ≤ 2 ^ 61 := by have := HLT.out; omega
            have hvl63 : o.val.length ≤ 2 ^ 61 := by have := HLT.out; omega
            have HK1 : Hid (k + 1 ≤ 40) := by show _ ≤ _; omega
            generalize (addE L o).2 = L' at HFL HFF
            clear hadd r4 k4 f4 hq hnF hwr y0 y1 y2 y3 y4 HC HM HBK HBX HQ HB02 HW1 HBW HB2
            rw [← hqq] at HFL ⊢
            clear hqq
            obtain ⟨y0, y4⟩ := HFL.out.cells
            go_wp2_with fail
            clear y0 y4
            go_loopg [6, 46] o.key.length (fun g _ i wr => ∃ j : Nat, j + g = o.key.length ∧ i = .int .i64 (j : Int) ∧ Hid (FlS D w p q L' F' a5 o.key.length c5 a6 o.val.length c6 (.int .i64 o.seq) (.bool o.gone) (.int .i64 o.till) wr))
            case atStart => exact ⟨0, by omega, rfl, HFL⟩
            case round =>
              obtain ⟨j, hj, rfl, HJ⟩ := hrel
              by_cases hjl : j < o.key.length
              · have hjl' : (j : Int) < (o.key.length : Int) := by omega
                obtain ⟨b', off', m, rfl, hm, hc, hf⟩ := HJ.out.wk j hjl
                obtain ⟨mm, hmm, hx⟩ := xor_byte hm
                have HNX := hid (HJ.out.flip (k := off' + j) (HJ.out.nk b' off' rfl (by omega)) hmm)
                obtain ⟨y0, y4⟩ := HJ.out.cells
                have hj62 : j ≤ 2 ^ 61 := by omega
                obtain ⟨GJ, HGJ⟩ : ∃ g, Hid (g < gk ∧ j + 1 + g = o.key.length) := ⟨gk - 1, by omega, by omega⟩
                clear hj HJ
                go_wp2_with fail
                go_roundg GJ
                case measure => exact HGJ.out.1
                case rel => exact ⟨j + 1, HGJ.out.2, by go_num, HNX⟩
              · have hjl' : (o.key.length : Int) ≤ (j : Int) := by omega
                have HFL2 := hid HJ.out
                obtain ⟨y0, y4⟩ := HJ.out.cells
                clear hj hjl HJ
                go_wp2_with fail
                clear y0 y4
                go_loopg [7, 60] o.val.length (fun g _ i wr => ∃ j : Nat, j + g = o.val.length ∧ i = .int .i64 (j : Int) ∧ Hid (FlS D w p q L' F' a5 o.key.length c5 a6 o.val.length c6 (.int .i64 o.seq) (.bool o.gone) (.int .i64 o.till) wr))
                case atStart => exact ⟨0, by omega, rfl, HFL2⟩
                case round =>
                  obtain ⟨j, hj, rfl, HJ⟩ := hrel
                  by_cases hjl : j < o.val.length
                  · have hjl' : (j : Int) < (o.val.length : Int) := by omega
                    obtain ⟨b', off', m, rfl, hm, hc, hf⟩ := HJ.out.wv j hjl
                    obtain ⟨mm, hmm, hx⟩ := xor_byte hm
                    have HNX := hid (HJ.out.flip (k := off' + j) (HJ.out.nv b' off' rfl (by omega)) hmm)
                    obtain ⟨y0, y4⟩ := HJ.out.cells
                    have hj62 : j ≤ 2 ^ 61 := by omega
                    obtain ⟨GJ, HGJ⟩ : ∃ g, Hid (g < gk ∧ j + 1 + g = o.val.length) := ⟨gk - 1, by omega, by omega⟩
                    clear hj HJ
                    go_wp2_with fail
                    go_roundg GJ
                    case measure => exact HGJ.out.1
                    case rel => exact ⟨j + 1, HGJ.out.2, by go_num, HNX⟩
                  · have hjl' : (o.val.length : Int) ≤ (j : Int) := by omega
                    have HST : Hid (AddS D w p (k + 1) wr L') := ⟨F', HJ.out.r, HFF.out.1, HFF.out.2.1, HFF.out.2.2.1, HFF.out.2.2.2, HJ.out.bel⟩
                    clear hj hjl HJ
                    go_wp2_with fail
                    go_roundg GK
                    case measure => exact HG.out.1
                    case rel => exact ⟨k + 1, HG.out.2, by go_num, _, HK1.out, HST.out⟩
          · have hlt' : decide (o.key.length ≤ 3000 ∧ o.val.length ≤ 3000) = false := by rw [decide_eq_false_iff_not]; exact hlt
            rw [hlt']
            clear hlt hlt'
            go_wp2_with fail
            have c1 := HBW.out.1.trans (HBW.out.2.mono HBW.out.1.size)
            have c2 := c1.trans (b2.mono c1.size)
            refine (awake9_any D w2 (HGD.out _ c2)).mono ?_
            rintro e w3 ⟨rfl, b3⟩
            have c3 := c2.trans (b3.mono c2.size)
            go_wp2_with fail
            exact bodyPost_ret (v := .bool true) (by simp [results, Tryd.results4, go_sem]) rfl ⟨rfl, c3⟩
        · have h40' : (40 : Int) ≤ (k : Int) := by omega
          have HF : Hid (AddS D w p 40 wr L) := by obtain ⟨F, a1, a2, a3, a4, a5⟩ := HK.out.2; exact ⟨F, a1, a2, a3, by have := HK.out.1; omega, a5⟩
          clear hk h40
          go_wp2_with fail
          go_meet
          exact ⟨L, HF⟩
      · have hkl' : (len : Int) ≤ (k : Int) := by omega
        have HF : Hid (AddS D w p 40 wr L) := by obtain ⟨F, a1, a2, a3, a4, a5⟩ := HK.out.2; exact ⟨F, a1, a2, a3, by have := HK.out.1; omega, a5⟩
        clear hk hkl
        go_wp2_with fail
        go_meet
        exact ⟨L, HF⟩
  case rest =>
    obtain ⟨L, HK⟩ := hcut
    obtain ⟨F, r1, o1, ok1, n1, hF, bel⟩ := HK.out
    have hal := LL.all r1 o1 ok1 (by omega)
    have HB := hid bel
    have HR : Hid (D.R wc p L F ∧ ordE L ∧ okE L ∧ L.length ≤ 40) := ⟨r1, o1, ok1, n1⟩
    clear r1 o1 ok1 n1 hF bel HK
    go_wp2_with fail
    refine hal.mono ?_
    rintro e w2 ⟨v2, rfl, row2, c2⟩
    obtain ⟨a2, q2, hv2, rs2⟩ := row2.s.rs
    subst hv2
    have HRS := hid rs2
    have HC2 := hid c2
    obtain ⟨n, hn⟩ : ∃ n, n = L.length := ⟨_, rfl⟩
    rw [← hn] at HRS ⊢
    have HN : Hid (n = L.length ∧ n ≤ 40) := ⟨hn, by have := HR.out.2.2.2; omega⟩
    have hn62 : n ≤ 2 ^ 61 := by have := HN.out; omega
    clear hal row2 rs2 c2 hn
    go_wp2_with fail
    refine (A.allW (PM.later HR.out.1 HC2.out) HR.out.2.1 HR.out.2.2.1 (by have := HR.out.2.2.2; omega)).mono ?_
    rintro e w3 ⟨a3, c3, us, rfl, rs3, nb3, wr3, b3⟩
    rw [← HN.out.1] at rs3 ⊢
    have HR3 := hid (And.intro rs3 (And.intro nb3 (And.intro wr3 b3)))
    clear rs3 nb3 wr3 b3
    have H1 : Hid (Below w2.heap.size w2 w3 ∧ ∀ g off, a3 = some ⟨g, off, none⟩ → GlS w2 w3.heap.size g off us w3) := ⟨HR3.out.2.2.2, fun g off e => gls_begin HR3.out.1 HR3.out.2.1 HR3.out.2.2.1 HR3.out.2.2.2 e⟩
    have HWC : Hid (∀ wx, Below w2.heap.size w2 wx → Below wc.heap.size wc wx) := fun wx hb => HC2.out.trans (hb.mono HC2.out.size)
    go_wp2_with fail
    go_loopg [10, 11, 12, 76] n (fun gg _ _ _ i wr => ∃ j : Nat, j + gg = n ∧ i = .int .i64 (j : Int) ∧ Hid (Below w2.heap.size w2 wr ∧ ∀ g off, a3 = some ⟨g, off, none⟩ → GlS w2 w3.heap.size g off us wr))
    case atStart => exact ⟨0, by omega, rfl, H1⟩
    case round =>
      obtain ⟨j, hj, rfl, HJ⟩ := hrel
      by_cases hjn : j < n
      · have hjn' : (j : Int) < (n : Int) := by omega
        have hjx : j < L.length := by have := HN.out; omega
        obtain ⟨ka, kc, va, vc, u0, u1, u2, u3, u4⟩ := rsu_ent HR3.out.1 (List.getElem?_eq_getElem hjx)
        obtain ⟨g, off, rfl⟩ := rsu_at HR3.out.1 u0
        have gl := HJ.out.2 g off rfl
        have d0 := gl.rc _ _ u0
        have d1 := gl.rc _ _ u1
        have d2 := gl.rc _ _ u2
        have d3 := gl.rc _ _ u3
        have d4 := gl.rc _ _ u4
        rw [← Nat.add_assoc] at d1 d2 d3 d4
        have HX : Hid (L[j].key.length ≤ 2 ^ 61 ∧ L[j].val.length ≤ 2 ^ 61) := by
          have h1 := HR.out.2.2.1 L[j] (List.getElem_mem hjx)
          unfold mayE at h1
          have h2 := of_decide_eq_true h1
          exact ⟨by omega, by omega⟩
        generalize L[j] = x at u0 u1 u2 u3 u4 d0 d1 d2 d3 d4 HX
        have HU : Hid ((Value.slice ka x.key.length kc) ∈ us ∧ (Value.slice va x.val.length vc) ∈ us) := ⟨List.mem_of_getElem? u0, List.mem_of_getElem? u4⟩
        obtain ⟨W1, hW1⟩ : ∃ W1, W1 = wr.alloc (.cells #[.slice ka x.key.length kc, .int .i64 x.seq, .bool x.gone, .int .i64 x.till, .slice va x.val.length vc] 28) := ⟨_, rfl⟩
        have b1 : Below wr.heap.size wr W1 := by rw [hW1]; exact (Below.refl _ _).alloc (Nat.le_refl _) _
        have HGL : Hid (GlB w2 w3.heap.size g off us wr.heap.size #[.slice ka x.key.length kc, .int .i64 x.seq, .bool x.gone, .int .i64 x.till, .slice va x.val.length vc] W1) := ⟨gl.later b1, by rw [hW1]; exact heap_alloc_new wr _⟩
        have HSZ : Hid (w3.heap.size ≤ wr.heap.size) := gl.sz
        have HW1 := hid hW1
        have hj62 : j ≤ 2 ^ 61 := by omega
        have hkl62 : x.key.length ≤ 2 ^ 61 := HX.out.1
        have hvl62 : x.val.length ≤ 2 ^ 61 := HX.out.2
        obtain ⟨GJ, HGJ⟩ : ∃ g, Hid (g < gk ∧ j + 1 + g = n) := ⟨gk - 1, by omega, by omega⟩
        clear u0 u1 u2 u3 u4 gl b1 hW1 hj HJ
        go_upto_region 24 with fail
        rw [← HW1.out]
        obtain ⟨q, hq⟩ : ∃ q, q = wr.heap.size := ⟨_, rfl⟩
        rw [← hq] at HGL HSZ ⊢
        obtain ⟨y0, y4⟩ := HGL.out.cells
        clear d0 d1 d2 d3 d4 HW1 hq
        go_wp2_with fail
        clear y0 y4
        go_loopg [11, 83] x.key.length (fun gg _ i wr => ∃ m : Nat, m + gg = x.key.length ∧ i = .int .i64 (m : Int) ∧ Hid (GlB w2 w3.heap.size g off us q #[.slice ka x.key.length kc, .int .i64 x.seq, .bool x.gone, .int .i64 x.till, .slice va x.val.length vc] wr))
        case atStart => exact ⟨0, by omega, rfl, HGL⟩
        case round =>
          obtain ⟨m, hm, rfl, HM⟩ := hrel
          by_cases hmk : m < x.key.length
          · have hmk' : (m : Int) < (x.key.length : Int) := by omega
            obtain ⟨b', off', mb, hka, hmb, hc, hf⟩ := HM.out.1.wr _ HU.out.1 _ _ _ rfl m hmk
            obtain ⟨mm, hmm, hx⟩ := xor_byte hmb
            have HNX := hid (HM.out.flip HSZ.out HU.out.1 hka (by omega) (k := off' + m) hmm)
            obtain ⟨y0, y4⟩ := HM.out.cells
            have hm62 : m ≤ 2 ^ 61 := by omega
            obtain ⟨GM, HGM⟩ : ∃ g, Hid (g < gk ∧ m + 1 + g = x.key.length) := ⟨gk - 1, by omega, by omega⟩
            subst hka
            clear hm HM
            go_wp2_with fail
            go_roundg GM
            case measure => exact HGM.out.1
            case rel => exact ⟨m + 1, HGM.out.2, by go_num, HNX⟩
          · have hmk' : (x.key.length : Int) ≤ (m : Int) := by omega
            have HG2 := hid HM.out
            obtain ⟨y0, y4⟩ := HM.out.cells
            clear hm hmk HM HGL
            go_wp2_with fail
            clear y0 y4
            go_loopg [12, 97] x.val.length (fun gg _ i wr => ∃ m : Nat, m + gg = x.val.length ∧ i = .int .i64 (m : Int) ∧ Hid (GlB w2 w3.heap.size g off us q #[.slice ka x.key.length kc, .int .i64 x.seq, .bool x.gone, .int .i64 x.till, .slice va x.val.length vc] wr))
            case atStart => exact ⟨0, by omega, rfl, HG2⟩
            case round =>
              obtain ⟨m, hm, rfl, HM⟩ := hrel
              by_cases hmk : m < x.val.length
              · have hmk' : (m : Int) < (x.val.length : Int) := by omega
                obtain ⟨b', off', mb, hka, hmb, hc, hf⟩ := HM.out.1.wr _ HU.out.2 _ _ _ rfl m hmk
                obtain ⟨mm, hmm, hx⟩ := xor_byte hmb
                have HNX := hid (HM.out.flip HSZ.out HU.out.2 hka (by omega) (k := off' + m) hmm)
                obtain ⟨y0, y4⟩ := HM.out.cells
                have hm62 : m ≤ 2 ^ 61 := by omega
                obtain ⟨GM, HGM⟩ : ∃ g, Hid (g < gk ∧ m + 1 + g = x.val.length) := ⟨gk - 1, by omega, by omega⟩
                subst hka
                clear hm HM
                go_wp2_with fail
                go_roundg GM
                case measure => exact HGM.out.1
                case rel => exact ⟨m + 1, HGM.out.2, by go_num, HNX⟩
              · have hmk' : (x.val.length : Int) ≤ (m : Int) := by omega
                have HF : Hid (Below w2.heap.size w2 wr ∧ ∀ g' off', (some ⟨g, off, none⟩ : Option Addr) = some ⟨g', off', none⟩ → GlS w2 w3.heap.size g' off' us wr) := ⟨HM.out.1.bel, fun g' off' e => by
                  simp only [Option.some.injEq, Addr.mk.injEq, and_true] at e
                  obtain ⟨rfl, rfl⟩ := e
                  exact HM.out.1⟩
                clear hm hmk HM
                go_wp2_with fail
                go_roundg GJ
                case measure => exact HGJ.out.1
                case rel => exact ⟨j + 1, HGJ.out.2, by go_num, HF⟩
      · have hjn' : (n : Int) ≤ (j : Int) := by omega
        have bw := HJ.out.1
        have HRX := hid (HRS.out.later bw)
        have HBW : Hid (Below w.heap.size w wr) := HB.out.trans ((HWC.out _ bw).mono HB.out.size)
        have hal := LL.all (PM.later HR.out.1 (HWC.out _ bw)) HR.out.2.1 HR.out.2.2.1 (by have := HR.out.2.2.2; omega)
        clear hj hjn HJ bw
        go_wp2_with fail
        refine hal.mono ?_
        rintro e w4 ⟨v4, rfl, row4, b4⟩
        obtain ⟨a4, q4, hv4, rs4⟩ := row4.s.rs
        subst hv4
        rw [← HN.out.1] at rs4 ⊢
        have hsm := rsameE_eq (HRX.out.later b4) rs4
        have c4 := HBW.out.trans (b4.mono HBW.out.size)
        clear hal row4 rs4 b4
        go_wp2_with fail
        refine hsm.mono ?_
        rintro e w5 ⟨rfl, b5⟩
        have c5 := c4.trans (b5.mono c4.size)
        clear hsm
        go_wp2_with fail
        refine (awake9_any D w5 (HGD.out _ c5)).mono ?_
        rintro e w6 ⟨rfl, b6⟩
        have c6 := c5.trans (b6.mono c5.size)
        go_wp2_with fail
        exact bodyPost_ret (v := .bool true) (by simp [results, Tryd.results4, go_sem]) rfl ⟨rfl, c6⟩
end Go.Proofs.YtaefddnmldbgiabDoor
