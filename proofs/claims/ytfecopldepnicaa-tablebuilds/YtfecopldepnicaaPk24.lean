import Derived.Laws.BitsAllLaws
import Derived.Deep.RegionHeldLaw
import Derived.Deep.RegionLaw
import Derived.Test.YtfecopldepnicaaPk20
import Derived.Test.YtfecopldepnicaaPk21
import Derived.Test.YtfecopldepnicaaPk23
/- The law on what lies ahead of a key and behind it, of any mem. -/
namespace Go.Proofs.Ytfecopldepnicaa
open Go.RowKit
set_option linter.unusedVariables false
set_option linter.unusedSimpArgs false

/-- A mem that is being filled. -/
def AddS (D : PM) (w : World) (p n : Nat) (wx : World) (L : List EntV) : Prop :=
  ∃ F, D.R wx p L F ∧ ordE L ∧ okE L ∧ L.length ≤ n ∧ (∀ k, F k → w.heap.size ≤ k) ∧ Below w.heap.size w wx
theorem AddS.later {D : PM} {w : World} {p n : Nat} {wx wy : World} {L : List EntV} (h : AddS D w p n wx L) (hb : Below wx.heap.size wx wy) : AddS D w p n wy L := by
  obtain ⟨F, a1, a2, a3, a4, a5, a6⟩ := h
  exact ⟨F, PM.later a1 hb, a2, a3, a4, a5, a6.trans (hb.mono a6.size)⟩
theorem wpList_appSw {α : Type} (E : El α) {t : TypeId} {z : Value} {bytes : Nat} (ht : Try.prog.underlying t = some (.slice E.ty)) (hinfo : (Try.prog.info? E.ty).map (fun i => (i.zero, i.size, i.bytes)) = some (some z, E.size, bytes)) (hz1 : z.cells.size = E.size) (hp : 0 < E.size)
    {w : World} {ops : Array Oper} {rest : List Oper} {o : Oper} {a : Act} {Q : Exit → Act → World → Prop} (hw : Region.wanted o (yielded ops a.tmps) = true) (s x : Operand)
    (ho : o.op = .call { callee := .builtin .append, args := #[s, x], argTypes := #[t, t] }) {B : Nat} {v : Value} {xs ys : List α} (hs : a.eval s = v) (hrow : RowS E B w v xs) {ao : Option Addr} {m c : Nat} {us : List Value} (hx : a.eval x = .slice ao m c)
    (hr : RSu E w ao m c us ys) (hsep : ∀ u ∈ us, ∀ b, Refs u b → v.ownBlock ≠ some b) (h63 : xs.length + m ≤ 140737488355328) (hb : (xs.length + m) * bytes ≤ 140737488355328) (hbase : B ≤ w.heap.size)
    (h : ∀ v' w', RowS E B w' v' (xs ++ ys) → w.grownBy w' v.ownBlock → wpList Try.prog ops Q rest (a.put o.dst v') w') : wpList Try.prog ops Q (o :: rest) a w :=
  wpList_step fun K hK => by
    rw [if_pos hw]
    obtain ⟨v', w', hr, h2, h3, h4⟩ := run_appS E t z bytes ht hinfo hz1 hp o.type hrow hr hsep h63 hb hbase
    unfold Oper.wp execOp
    simp only [ho, resolve, invoke, builtin, Sem.run_bind, Sem.run_pure, Result.andThen_ok, List.map_toArray, List.map_cons, List.map_nil, hs, hx, hr]
    exact hK _ _ (h v' w' h2 h3)
theorem getE_keep {l : List EntV} {key : List Int} {s : Int} {k : Nat} {x : EntV} (h : getE (l.take k) key s = some x) : getE (l.take (k + 1)) key s = some x := by
  unfold getE at h ⊢
  rw [List.take_add_one, List.find?_append, h]
  rfl
/-- What was wanted, in its box. -/
def WantS (q : Nat) (g : Option EntV) (wr : World) : Prop :=
  (g = none ∧ wr.heap[q]? = some (.cells #[.slice none 0 0, .int .i64 0, .bool false, .int .i64 0, .slice none 0 0] 34 (0, 0))) ∨ ∃ x ka kc va vc, g = some x ∧ wr.heap[q]? = some (.cells #[.slice ka x.key.length kc, .int .i64 x.seq, .bool x.gone, .int .i64 x.till, .slice va x.val.length vc] 34 (0, 0)) ∧ EntM wr (entL ka kc va vc x) x

theorem WantS.later {q : Nat} {g : Option EntV} {wr wx : World} (h : WantS q g wr) (hb : Below wr.heap.size wr wx) : WantS q g wx := by
  rcases h with ⟨h1, h2⟩ | ⟨x, ka, kc, va, vc, h1, h2, h3⟩
  · exact .inl ⟨h1, (hb.block q (Array.getElem?_eq_some_iff.1 h2).1).trans h2⟩
  · exact .inr ⟨x, ka, kc, va, vc, h1, (hb.block q (Array.getElem?_eq_some_iff.1 h2).1).trans h2, El.later (E := entE) h3 hb⟩

end Go.Proofs.Ytfecopldepnicaa

/- Bytes that may be written, and what stays when they are. -/
namespace Go.Proofs.Ytfecopldepnicaa
open Go.RowKit
set_option linter.unusedVariables false
set_option linter.unusedSimpArgs false

theorem heap_setW {w : World} {p : Nat} {C : Array Value} {t : TypeId} {f : Nat × Nat} (h : w.heap[p]? = some (.cells C t f)) (k : Nat) (v : Value) : (w.setCell ⟨p, k, none⟩ v).heap[p]? = some (.cells (C.setIfInBounds k v) t f) := by
  simp only [World.setCell, Array.getElem?_modify, if_true, h]
  rfl
theorem frozen_ofW {w : World} {p : Nat} {C : Array Value} {t : TypeId} (h : w.heap[p]? = some (.cells C t (0, 0))) (k : Nat) : w.frozen? ⟨p, k, none⟩ = false := by
  simp [World.frozen?, h]
theorem heap_ne (w : World) {p b : Nat} (k : Nat) (v : Value) (h : b ≠ p) : (w.setCell ⟨p, k, none⟩ v).heap[b]? = w.heap[b]? := Below.heap_setCell _ _ _ _ (fun e => h e)
theorem size_set (w : World) (p k : Nat) (v : Value) : (w.setCell ⟨p, k, none⟩ v).heap.size = w.heap.size := by simp [World.setCell]
theorem below_set {B : Nat} {w0 w : World} (h : Below B w0 w) (p k : Nat) (v : Value) (hp : B ≤ p) : Below B w0 (w.setCell ⟨p, k, none⟩ v) :=
  ⟨h.os, h.tape, h.output, by rw [size_set]; exact h.size, fun i hi => by rw [heap_ne w k v (by omega)]; exact h.block i hi⟩
/-- Bytes that may be written. -/
def Wr (w : World) (a : Option Addr) (n : Nat) : Prop := ∀ i, i < n → ∃ b off m, a = some ⟨b, off, none⟩ ∧ m < 256 ∧ w.cell? ⟨b, off + i, none⟩ = some (.int .u8 ((m : Nat) : Int)) ∧ w.frozen? ⟨b, off + i, none⟩ = false
theorem cell_heap {w : World} {b k : Nat} {v : Value} (h : w.cell? ⟨b, k, none⟩ = some v) : ∃ C t f, w.heap[b]? = some (.cells C t f) ∧ C[k]? = some v := by
  unfold World.cell? at h
  split at h
  · rename_i C t f e
    exact ⟨C, t, f, e, by simpa using h⟩
  · cases h
theorem Wr.set {w : World} {a : Option Addr} {n : Nat} (h : Wr w a n) (p k m : Nat) (hm : m < 256) : Wr (w.setCell ⟨p, k, none⟩ (.int .u8 (m : Int))) a n := by
  intro i hi
  obtain ⟨b, off, m0, e, hm0, hc, hf⟩ := h i hi
  by_cases hb : b = p
  · subst hb
    obtain ⟨C, t, f, eh, hC⟩ := cell_heap hc
    have eh2 := heap_setW eh k (.int .u8 (m : Int))
    have hf2 : (w.setCell ⟨b, k, none⟩ (.int .u8 (m : Int))).frozen? ⟨b, off + i, none⟩ = false := by
      unfold World.frozen? at hf ⊢
      rw [eh2]
      rw [eh] at hf
      exact hf
    by_cases hk : k = off + i
    · refine ⟨b, off, m, e, hm, ?_, hf2⟩
      unfold World.cell?
      rw [eh2]
      have hlt := (Array.getElem?_eq_some_iff.1 hC).1
      simp [hk, hlt]
    · refine ⟨b, off, m0, e, hm0, ?_, hf2⟩
      unfold World.cell?
      rw [eh2]
      simp only [Option.isSome_none, Bool.false_eq_true, if_false]
      rw [Array.getElem?_setIfInBounds_ne (by omega)]
      exact hC
  · refine ⟨b, off, m0, e, hm0, ?_, ?_⟩
    · rw [World.cell?_of_block (w := w) (a := ⟨b, off + i, none⟩) (heap_ne w k _ hb)]; exact hc
    · rw [World.frozen?_of_block (w := w) (heap_ne w k _ hb)]; exact hf
theorem Wr.lt {w : World} {a : Option Addr} {n b off : Nat} (h : Wr w a n) (hn : 0 < n) (e : a = some ⟨b, off, none⟩) : b < w.heap.size := by
  obtain ⟨b', off', m, e', _, hc, _⟩ := h 0 hn
  rw [e] at e'
  simp only [Option.some.injEq, Addr.mk.injEq, and_true] at e'
  obtain ⟨rfl, rfl⟩ := e'
  exact World.block_lt_of_cell? _ _ hc
theorem Wr.keep {w w' : World} {a : Option Addr} {n : Nat} (h : Wr w a n) (hk : ∀ b off, a = some ⟨b, off, none⟩ → 0 < n → w'.heap[b]? = w.heap[b]?) : Wr w' a n := by
  intro i hi
  obtain ⟨b, off, m, e, hm, hc, hf⟩ := h i hi
  have := hk b off e (by omega)
  exact ⟨b, off, m, e, hm, by rw [World.cell?_of_block (w := w) (a := ⟨b, off + i, none⟩) this]; exact hc, by rw [World.frozen?_of_block (w := w) this]; exact hf⟩
theorem Wr.later {w w' : World} {a : Option Addr} {n : Nat} (h : Wr w a n) (hb : Below w.heap.size w w') : Wr w' a n := h.keep fun b off e hn => hb.block b (h.lt hn e)
theorem wr_row {B : Nat} {w : World} {v : Value} {xs : List Int} (h : Row B w v xs) (hok : Okb xs) : ∃ a c, v = .slice a xs.length c ∧ Sl w a xs.length c xs ∧ Wr w a xs.length ∧ ∀ b off, a = some ⟨b, off, none⟩ → B ≤ b := by
  obtain ⟨a, c, e, hs⟩ := Sl.ofRow h hok
  refine ⟨a, c, e, hs, fun i hi => ?_, fun b off hb => ?_⟩
  · obtain ⟨hx, b, off, e1, hc⟩ := hs.2.2.2.2.2 i hi
    refine ⟨b, off, xof xs i, e1, hx, hc, ?_⟩
    rcases h.2 with ⟨e2, h0⟩ | ⟨g, cap, cur, e2, _, hg, _⟩
    · omega
    · rw [e, e1] at e2
      simp only [Value.slice.injEq, Option.some.injEq, Addr.mk.injEq, and_true] at e2
      obtain ⟨⟨rfl, rfl⟩, _⟩ := e2
      exact frozen_ofW hg _
  · subst hb
    rcases h.2 with ⟨e2, h0⟩ | ⟨g, cap, cur, e2, hg, _⟩
    · rw [e] at e2; simp at e2
    · rw [e] at e2
      simp only [Value.slice.injEq, Option.some.injEq, Addr.mk.injEq, and_true] at e2
      obtain ⟨⟨rfl, rfl⟩, _⟩ := e2
      exact hg
/-- Bytes behind a row of one's own, as a step of a region that draws. -/
theorem step_appL {ops : Array Oper} {w : World} {o : Oper} {a : Act} {K : Act → World → Prop} {Q : Exit → Act → World → Prop} {E : Prop} {B : Nat} {v : Value} {xs ys : List Int} {ao : Option Addr} {m c : Nat} (hgd : o.guard = none) (s x : Operand)
    (ho : o.op = .call { callee := .builtin .append, args := #[s, x], argTypes := #[25, 25] }) (hs : a.eval s = v) (hrow : Row B w v xs) (hx : a.eval x = .slice ao m c) (hsl : Sl w ao m c ys) (hb : xs.length + m ≤ 140737488355328) (hB : B ≤ w.heap.size)
    (h : ∀ v' w', Row B w' v' (xs ++ ys) → w.grownBy w' v.ownBlock → Moved w v v' → K (a.put o.dst v') w') :
    if Region.wanted o (yielded ops a.tmps) = true then Oper.wp Try.prog o a w K Q else E := by
  have hw : Region.wanted o (yielded ops a.tmps) = true := by simp [Region.wanted, hgd]
  rw [if_pos hw]
  obtain ⟨v', w', hr, h2, h3, h4⟩ := run_app B w o.type v xs hrow ao m c (xof ys) hsl.2.2.1 hsl.2.2.2.2.2 hb hB
  rw [← hsl.1, bs_xof hsl.2.1] at h2
  unfold Oper.wp execOp
  simp only [ho, resolve, invoke, builtin, Sem.run_bind, Sem.run_pure, Result.andThen_ok, List.map_toArray, List.map_cons, List.map_nil, hs, hx, hr]
  exact h _ _ h2 h3 h4
theorem grown_none {w w' : World} (h : w.grownBy w' none) : Below w.heap.size w w' := ⟨h.os, h.tape, h.output, h.size, fun k hk => h.block k hk (by simp)⟩
theorem undrew9 {w w2 : World} {r : Option Nat} (h : w.drew.grownBy w2 r) : w.grownBy w2 r := ⟨h.os, h.tape, h.output, h.size, h.block⟩
theorem below_app {w w2 : World} (h : w.grownBy w2 (Value.slice none 0 0).ownBlock) : Below w.heap.size w w2 := grown_none h
theorem below_app' {w w2 : World} (h : w.drew.grownBy w2 (Value.slice none 0 0).ownBlock) : Below w.heap.size w w2 := grown_none (undrew9 h)
/-- An entry whose key and value are one's own now. -/
structure CpS (wr : World) (o : EntV) (a5 : Option Addr) (c5 : Nat) (a6 : Option Addr) (c6 : Nat) (wx : World) : Prop where
  bx : wx.heap[wr.heap.size]? = some (.cells #[.slice a5 o.key.length c5, .int .i64 o.seq, .bool o.gone, .int .i64 o.till, .slice a6 o.val.length c6] 34 (0, 0))
  sk : Sl wx a5 o.key.length c5 o.key
  sv : Sl wx a6 o.val.length c6 o.val
  wk : Wr wx a5 o.key.length
  wv : Wr wx a6 o.val.length
  nk : ∀ b off, a5 = some ⟨b, off, none⟩ → wr.heap.size < b
  nv : ∀ b off, a6 = some ⟨b, off, none⟩ → wr.heap.size < b
  bel : Below wr.heap.size wr wx
theorem cps_of {wr w6 : World} {o : EntV} {x0 x4 : Value} {a5 a6 : Option Addr} {c5 c6 : Nat} (hb : w6.heap[wr.heap.size]? = some (.cells #[x0, .int .i64 o.seq, .bool o.gone, .int .i64 o.till, x4] 34 (0, 0)))
    (sk : Sl w6 a5 o.key.length c5 o.key) (sv : Sl w6 a6 o.val.length c6 o.val) (wk : Wr w6 a5 o.key.length) (wv : Wr w6 a6 o.val.length) (nk : ∀ b off, a5 = some ⟨b, off, none⟩ → wr.heap.size < b) (nv : ∀ b off, a6 = some ⟨b, off, none⟩ → wr.heap.size < b) (bel : Below wr.heap.size wr w6) :
    CpS wr o a5 c5 a6 c6 ((w6.setCell ⟨wr.heap.size, 0, none⟩ (.slice a5 o.key.length c5)).setCell ⟨wr.heap.size, 4, none⟩ (.slice a6 o.val.length c6)) := by
  have hne : ∀ b, wr.heap.size < b → ((w6.setCell ⟨wr.heap.size, 0, none⟩ (.slice a5 o.key.length c5)).setCell ⟨wr.heap.size, 4, none⟩ (.slice a6 o.val.length c6)).heap[b]? = w6.heap[b]? := fun b hlt => by
    rw [heap_ne _ _ _ (by omega), heap_ne _ _ _ (by omega)]
  refine ⟨heap_setW (heap_setW hb 0 _) 4 _, sk.keep (fun b hr => ?_), sv.keep (fun b hr => ?_), wk.keep (fun b off e _ => hne b (nk b off e)), wv.keep (fun b off e _ => hne b (nv b off e)), nk, nv, below_set (below_set bel _ _ _ (Nat.le_refl _)) _ _ _ (Nat.le_refl _)⟩
  · obtain ⟨off, l, c, e, h0⟩ := hr
    simp only [Value.slice.injEq] at e
    exact hne b (nk b off e.1)
  · obtain ⟨off, l, c, e, h0⟩ := hr
    simp only [Value.slice.injEq] at e
    exact hne b (nv b off e.1)
theorem xor_byte {n : Nat} (h : n < 256) : ∃ m : Nat, m < 256 ∧ bits .xor .u8 (n : Int) 255 = (m : Int) := by
  have e := u8_xor_nat n 255 h (by decide)
  exact ⟨n ^^^ 255, Nat.xor_lt_two_pow (n := 8) h (by decide), e⟩
/-- An entry of one's own that was handed in, and is written now; the mem stays. -/
structure FlS (D : PM) (w : World) (p q : Nat) (L : List EntV) (F : Nat → Prop) (ka : Option Addr) (n kc : Nat) (va : Option Addr) (m vc : Nat) (s1 s2 s3 : Value) (wx : World) : Prop where
  gn : D.N ≤ w.heap.size
  r : D.R wx p L F
  bx : wx.heap[q]? = some (.cells #[.slice ka n kc, s1, s2, s3, .slice va m vc] 34 (0, 0))
  wk : Wr wx ka n
  wv : Wr wx va m
  nk : ∀ b off, ka = some ⟨b, off, none⟩ → 0 < n → ¬ F b ∧ b ≠ q ∧ w.heap.size ≤ b
  nv : ∀ b off, va = some ⟨b, off, none⟩ → 0 < m → ¬ F b ∧ b ≠ q ∧ w.heap.size ≤ b
  bel : Below w.heap.size w wx
theorem FlS.flip {D : PM} {w : World} {p q : Nat} {L : List EntV} {F : Nat → Prop} {ka : Option Addr} {n kc : Nat} {va : Option Addr} {m vc : Nat} {s1 s2 s3 : Value} {wx : World} (h : FlS D w p q L F ka n kc va m vc s1 s2 s3 wx) {b k mm : Nat} (hb : ¬ F b ∧ b ≠ q ∧ w.heap.size ≤ b) (hm : mm < 256) :
    FlS D w p q L F ka n kc va m vc s1 s2 s3 (wx.setCell ⟨b, k, none⟩ (.int .u8 (mm : Int))) :=
  ⟨h.gn, D.same h.r (fun j hj => heap_ne wx k _ (fun e => hb.1 (e ▸ hj))) (fun j hj => heap_ne wx k _ (fun e => by have := h.gn; have := hb.2.2; omega)), (heap_ne wx k _ (Ne.symm hb.2.1)).trans h.bx, h.wk.set b k mm hm, h.wv.set b k mm hm, h.nk, h.nv, below_set h.bel b k _ hb.2.2⟩
theorem FlS.cells {D : PM} {w : World} {p q : Nat} {L : List EntV} {F : Nat → Prop} {ka : Option Addr} {n kc : Nat} {va : Option Addr} {m vc : Nat} {s1 s2 s3 : Value} {wx : World} (h : FlS D w p q L F ka n kc va m vc s1 s2 s3 wx) :
    wx.cell? ⟨q, 0, none⟩ = some (.slice ka n kc) ∧ wx.cell? ⟨q, 4, none⟩ = some (.slice va m vc) := by
  constructor <;> rw [cell_of h.bx] <;> rfl
/-- An entry of a row: its cells among the row's. -/
theorem rsu_ent {w : World} {ao : Option Addr} {len cap : Nat} {us : List Value} {l : List EntV} (h : RSu entE w ao len cap us l) {i : Nat} {x : EntV} (hx : l[i]? = some x) :
    ∃ ka kc va vc, us[i * 5]? = some (.slice ka x.key.length kc) ∧ us[i * 5 + 1]? = some (.int .i64 x.seq) ∧ us[i * 5 + 2]? = some (.bool x.gone) ∧ us[i * 5 + 3]? = some (.int .i64 x.till) ∧ us[i * 5 + 4]? = some (.slice va x.val.length vc) := by
  obtain ⟨h1, h2, h3, h4, h5, h6⟩ := h
  obtain ⟨vs, ⟨ka, kc, va, vc, rfl, _⟩, _, g⟩ := h5.at hx
  exact ⟨ka, kc, va, vc, g 0 _ rfl, g 1 _ rfl, g 2 _ rfl, g 3 _ rfl, g 4 _ rfl⟩
/-- A row that was told, whose bytes are written; all that was there before stays. -/
structure GlS (w3 : World) (B4 g off : Nat) (us : List Value) (wx : World) : Prop where
  bel : Below w3.heap.size w3 wx
  sz : B4 ≤ wx.heap.size
  rc : ∀ (j : Nat) (u : Value), us[j]? = some u → wx.cell? ⟨g, off + j, none⟩ = some u
  wr : ∀ u ∈ us, ∀ a n c, u = .slice a n c → Wr wx a n
  nb : ∀ u ∈ us, ∀ b, Refs u b → w3.heap.size ≤ b ∧ b ≠ g ∧ b < B4
theorem GlS.flip {w3 : World} {B4 g off : Nat} {us : List Value} {wx : World} (h : GlS w3 B4 g off us wx) {b k m : Nat} (hb : w3.heap.size ≤ b ∧ b ≠ g) (hm : m < 256) : GlS w3 B4 g off us (wx.setCell ⟨b, k, none⟩ (.int .u8 (m : Int))) :=
  ⟨below_set h.bel b k _ hb.1, by rw [size_set]; exact h.sz, (fun j u hu => by rw [World.cell?_of_block (w := wx) (a := ⟨g, off + j, none⟩) (heap_ne wx k _ (Ne.symm hb.2))]; exact h.rc j u hu), (fun u hu a n c e => (h.wr u hu a n c e).set b k m hm), h.nb⟩
theorem GlS.later {w3 : World} {B4 g off : Nat} {us : List Value} {wx wy : World} (h : GlS w3 B4 g off us wx) (hb : Below wx.heap.size wx wy) : GlS w3 B4 g off us wy :=
  ⟨h.bel.trans (hb.mono h.bel.size), Nat.le_trans h.sz hb.size, (fun j u hu => cell_later hb (h.rc j u hu)), (fun u hu a n c e => (h.wr u hu a n c e).later hb), h.nb⟩
/-- With one of its entries in a box. -/
def GlB (w3 : World) (B4 g off : Nat) (us : List Value) (q : Nat) (C : Array Value) (wx : World) : Prop := GlS w3 B4 g off us wx ∧ wx.heap[q]? = some (.cells C 34 (0, 0))
theorem GlB.flip {w3 : World} {B4 g off : Nat} {us : List Value} {q : Nat} {C : Array Value} {wx : World} (h : GlB w3 B4 g off us q C wx) (hq : B4 ≤ q) {a : Option Addr} {n c : Nat} (hu : (Value.slice a n c) ∈ us) {b o : Nat} (ha : a = some ⟨b, o, none⟩) (hn : 0 < n) {k m : Nat} (hm : m < 256) : GlB w3 B4 g off us q C (wx.setCell ⟨b, k, none⟩ (.int .u8 (m : Int))) := by
  have h1 := h.1.nb _ hu b ⟨o, n, c, by rw [ha], hn⟩
  exact ⟨h.1.flip ⟨h1.1, h1.2.1⟩ hm, (heap_ne wx k _ (by omega)).trans h.2⟩
theorem GlB.cells {w3 : World} {B4 g off : Nat} {us : List Value} {q : Nat} {x0 x1 x2 x3 x4 : Value} {wx : World} (h : GlB w3 B4 g off us q #[x0, x1, x2, x3, x4] wx) : wx.cell? ⟨q, 0, none⟩ = some x0 ∧ wx.cell? ⟨q, 4, none⟩ = some x4 := by
  constructor <;> rw [cell_of h.2] <;> rfl
theorem gls_begin {w2 w3 : World} {a : Option Addr} {n c g off : Nat} {us : List Value} {l : List EntV} (h : RSu entE w3 a n c us l) (nb : ∀ u ∈ us, ∀ b, Refs u b → w2.heap.size ≤ b ∧ ∀ g off, a = some ⟨g, off, none⟩ → b ≠ g) (wr : ∀ u ∈ us, ∀ a n c, u = .slice a n c → Wr w3 a n) (hb : Below w2.heap.size w2 w3) (ha : a = some ⟨g, off, none⟩) : GlS w2 w3.heap.size g off us w3 := by
  refine ⟨hb, Nat.le_refl _, fun j u hu => ?_, wr, fun u hu b hr => ⟨(nb u hu b hr).1, (nb u hu b hr).2 g off ha, h.2.2.2.2.1.lt u hu b hr⟩⟩
  obtain ⟨b, o, e, hc⟩ := h.2.2.2.2.2 j u hu
  rw [ha] at e
  simp only [Option.some.injEq, Addr.mk.injEq, and_true] at e
  obtain ⟨rfl, rfl⟩ := e
  exact hc
theorem rsu_at {w : World} {ao : Option Addr} {len cap : Nat} {us : List Value} {l : List EntV} (h : RSu entE w ao len cap us l) {j : Nat} {u : Value} (hu : us[j]? = some u) : ∃ g off, ao = some ⟨g, off, none⟩ := by
  obtain ⟨b, o, e, _⟩ := h.2.2.2.2.2 j u hu
  exact ⟨b, o, e⟩
end Go.Proofs.Ytfecopldepnicaa

/- The document's own TakeBlock: the walk. -/
namespace Go.Proofs.Ytfecopldepnicaa
open Go.RowKit
set_option linter.unusedVariables false
set_option linter.unusedSimpArgs false

theorem okb_blkB {l : List EntV} (h : ∀ e ∈ l, OkE e) : Okb (blkB l) := (okb_enEs h).app (okb_enTl.app (okb_fx _ _))
theorem RS.okE {w : World} {ao : Option Addr} {len cap : Nat} {l : List EntV} (h : RS entE w ao len cap l) : ∀ e ∈ l, OkE e := fun e he => by
  obtain ⟨i, hi, rfl⟩ := List.getElem_of_mem he
  obtain ⟨b, off, ka, kc, va, vc, _, _, _, _, _, _, sk, sv, _, _⟩ := RS.ent h (List.getElem?_eq_getElem hi)
  exact ⟨sk.2.1, sv.2.1⟩
theorem RS.toV {α : Type} {E : El α} {w : World} {ao : Option Addr} {len cap : Nat} {l : List α} (h : RS E w ao len cap l) : RSV E w (.slice ao len cap) l := by
  obtain ⟨us, h1, h2⟩ := h
  subst h1
  exact ⟨ao, cap, rfl, us, rfl, h2⟩
theorem rblk_any {w : World} {ao : Option Addr} {len cap : Nat} {l : List EntV} (h : RS entE w ao len cap l) (hl : len ≤ 2 ^ 61) :
    Calls Try.prog 38 #[.slice ao len cap] w fun e w' => ∃ v, e = .returned (.tuple #[v, .int .i64 ((blkE l : Nat) : Int)]) ∧ Row w.heap.size w' v (if blkE l = 0 then blkB l else []) ∧ Below w.heap.size w w' := by
  have hln := h.len.1
  by_cases q : len = 0 ∨ 400 < len
  · have hE : blkE l = 13 := by unfold blkE; rw [if_pos (by omega)]
    rw [hE]
    exact (rblk_many (ao := ao) (cap := cap) (w := w) q hl).mono fun e w' ⟨he, hb⟩ => ⟨_, he, by rw [if_neg (by decide)]; exact Row.nil _ _, hb⟩
  · by_cases q2 : l.all mayE = false ∨ ordB l = false
    · have hE : blkE l ≠ 0 ∧ ((blkE l : Nat) : Int) = if l.all mayE = false then 1 else 11 := by
        unfold blkE
        rw [if_neg (by omega)]
        by_cases q3 : l.all mayE = false
        · rw [if_pos q3, if_pos q3]; decide
        · rw [if_neg q3, if_neg q3, if_pos (q2.resolve_left q3)]; decide
      exact (rblk_bad h (by omega) (by omega) q2 hE.2).mono fun e w' ⟨he, hb⟩ => ⟨_, he, by rw [if_neg hE.1]; exact Row.nil _ _, hb⟩
    · have hm : l.all mayE = true ∧ ordB l = true := by
        simp only [not_or, Bool.not_eq_false] at q2
        exact q2
      have hE : blkE l = 0 := by
        unfold blkE
        rw [if_neg (by omega), if_neg (by rw [hm.1]; decide), if_neg (by rw [hm.2]; decide)]
      exact (rblk_good h (by omega) (by omega) hm).mono fun e w' ⟨v, he, hr, hb⟩ => ⟨v, by rw [hE]; exact he, by rw [if_pos hE]; exact hr, hb⟩

end Go.Proofs.Ytfecopldepnicaa
