import Derived.Laws.BitsAllLaws
import Derived.Deep.RegionHeldLaw
import Derived.Deep.RegionLaw
import Derived.Test.YtimpaindbbjieaaPk18
import Derived.Test.YtimpaindbbjieaaPk22
import Derived.Test.YtimpaindbbjieaaPk26
import Derived.Test.YtimpaindbbjieaaPk28
/- Bytes that may be written, and what stays when they are. -/
namespace Go.Proofs.Ytimpaindbbjieaa
open Go.RowKit
set_option linter.unusedVariables false
set_option linter.unusedSimpArgs false

theorem heap_setW {w : World} {p : Nat} {C : Array Value} {t : TypeId} {f : Nat × Nat} (h : w.heap[p]? = some (.cells C t f)) (k : Nat) (v : Value) : (w.setCell ⟨p, k, none⟩ v).heap[p]? = some (.cells (C.setIfInBounds k v) t f) := by
  simp only [World.setCell, Array.getElem?_modify, if_true, h]
  rfl
theorem frozen_ofW {w : World} {p : Nat} {C : Array Value} {t : TypeId} (h : w.heap[p]? = some (.cells C t (0, 0))) (k : Nat) : w.frozen? ⟨p, k, none⟩ = false := by
  simp [World.frozen?, h]
theorem heap_ne (w : World) {p b : Nat} (k : Nat) (v : Value) (h : b ≠ p) : (w.setCell ⟨p, k, none⟩ v).heap[b]? = w.heap[b]? := Below.heap_setCell _ _ _ _ (fun e => h e)
theorem size_set (w : World) (p k : Nat) (v : Value) : (w.setCell ⟨p, k, none⟩ v).heap.size = w.heap.size := by simp [World.setCell]
theorem below_set {B : Nat} {w0 w : World} (h : Below B w0 w) (p k : Nat) (v : Value) (hp : B ≤ p) : Below B w0 (w.setCell ⟨p, k, none⟩ v) :=
  ⟨h.os, h.tape, h.output, by rw [size_set]; exact h.size, fun i hi => by rw [heap_ne w k v (by omega)]; exact h.block i hi⟩
/-- Bytes that may be written. -/
def Wr (w : World) (a : Option Addr) (n : Nat) : Prop := ∀ i, i < n → ∃ b off m, a = some ⟨b, off, none⟩ ∧ m < 256 ∧ w.cell? ⟨b, off + i, none⟩ = some (.int .u8 ((m : Nat) : Int)) ∧ w.frozen? ⟨b, off + i, none⟩ = false
theorem cell_heap {w : World} {b k : Nat} {v : Value} (h : w.cell? ⟨b, k, none⟩ = some v) : ∃ C t f, w.heap[b]? = some (.cells C t f) ∧ C[k]? = some v := by
  unfold World.cell? at h
  split at h
  · rename_i C t f e
    exact ⟨C, t, f, e, by simpa using h⟩
  · cases h
theorem Wr.set {w : World} {a : Option Addr} {n : Nat} (h : Wr w a n) (p k m : Nat) (hm : m < 256) : Wr (w.setCell ⟨p, k, none⟩ (.int .u8 (m : Int))) a n := by
  intro i hi
  obtain ⟨b, off, m0, e, hm0, hc, hf⟩ := h i hi
  by_cases hb : b = p
  · subst hb
    obtain ⟨C, t, f, eh, hC⟩ := cell_heap hc
    have eh2 := heap_setW eh k (.int .u8 (m : Int))
    have hf2 : (w.setCell ⟨b, k, none⟩ (.int .u8 (m : Int))).frozen? ⟨b, off + i, none⟩ = false := by
      unfold World.frozen? at hf ⊢
      rw [eh2]
      rw [eh] at hf
      exact hf
    by_cases hk : k = off + i
    · refine ⟨b, off, m, e, hm, ?_, hf2⟩
      unfold World.cell?
      rw [eh2]
      have hlt := (Array.getElem?_eq_some_iff.1 hC).1
      simp [hk, hlt]
    · refine ⟨b, off, m0, e, hm0, ?_, hf2⟩
      unfold World.cell?
      rw [eh2]
      simp only [Option.isSome_none, Bool.false_eq_true, if_false]
      rw [Array.getElem?_setIfInBounds_ne (by omega)]
      exact hC
  · refine ⟨b, off, m0, e, hm0, ?_, ?_⟩
    · rw [World.cell?_of_block (w := w) (a := ⟨b, off + i, none⟩) (heap_ne w k _ hb)]; exact hc
    · rw [World.frozen?_of_block (w := w) (heap_ne w k _ hb)]; exact hf
theorem Wr.lt {w : World} {a : Option Addr} {n b off : Nat} (h : Wr w a n) (hn : 0 < n) (e : a = some ⟨b, off, none⟩) : b < w.heap.size := by
  obtain ⟨b', off', m, e', _, hc, _⟩ := h 0 hn
  rw [e] at e'
  simp only [Option.some.injEq, Addr.mk.injEq, and_true] at e'
  obtain ⟨rfl, rfl⟩ := e'
  exact World.block_lt_of_cell? _ _ hc
theorem Wr.keep {w w' : World} {a : Option Addr} {n : Nat} (h : Wr w a n) (hk : ∀ b off, a = some ⟨b, off, none⟩ → 0 < n → w'.heap[b]? = w.heap[b]?) : Wr w' a n := by
  intro i hi
  obtain ⟨b, off, m, e, hm, hc, hf⟩ := h i hi
  have := hk b off e (by omega)
  exact ⟨b, off, m, e, hm, by rw [World.cell?_of_block (w := w) (a := ⟨b, off + i, none⟩) this]; exact hc, by rw [World.frozen?_of_block (w := w) this]; exact hf⟩
theorem Wr.later {w w' : World} {a : Option Addr} {n : Nat} (h : Wr w a n) (hb : Below w.heap.size w w') : Wr w' a n := h.keep fun b off e hn => hb.block b (h.lt hn e)
theorem wr_row {B : Nat} {w : World} {v : Value} {xs : List Int} (h : Row B w v xs) (hok : Okb xs) : ∃ a c, v = .slice a xs.length c ∧ Sl w a xs.length c xs ∧ Wr w a xs.length ∧ ∀ b off, a = some ⟨b, off, none⟩ → B ≤ b := by
  obtain ⟨a, c, e, hs⟩ := Sl.ofRow h hok
  refine ⟨a, c, e, hs, fun i hi => ?_, fun b off hb => ?_⟩
  · obtain ⟨hx, b, off, e1, hc⟩ := hs.2.2.2.2.2 i hi
    refine ⟨b, off, xof xs i, e1, hx, hc, ?_⟩
    rcases h.2 with ⟨e2, h0⟩ | ⟨g, cap, cur, e2, _, hg, _⟩
    · omega
    · rw [e, e1] at e2
      simp only [Value.slice.injEq, Option.some.injEq, Addr.mk.injEq, and_true] at e2
      obtain ⟨⟨rfl, rfl⟩, _⟩ := e2
      exact frozen_ofW hg _
  · subst hb
    rcases h.2 with ⟨e2, h0⟩ | ⟨g, cap, cur, e2, hg, _⟩
    · rw [e] at e2; simp at e2
    · rw [e] at e2
      simp only [Value.slice.injEq, Option.some.injEq, Addr.mk.injEq, and_true] at e2
      obtain ⟨⟨rfl, rfl⟩, _⟩ := e2
      exact hg
/-- Bytes behind a row of one's own, as a step of a region that draws. -/
theorem step_appL {ops : Array Oper} {w : World} {o : Oper} {a : Act} {K : Act → World → Prop} {Q : Exit → Act → World → Prop} {E : Prop} {B : Nat} {v : Value} {xs ys : List Int} {ao : Option Addr} {m c : Nat} (hgd : o.guard = none) (s x : Operand)
    (ho : o.op = .call { callee := .builtin .append, args := #[s, x], argTypes := #[25, 25] }) (hs : a.eval s = v) (hrow : Row B w v xs) (hx : a.eval x = .slice ao m c) (hsl : Sl w ao m c ys) (hb : xs.length + m ≤ 140737488355328) (hB : B ≤ w.heap.size)
    (h : ∀ v' w', Row B w' v' (xs ++ ys) → w.grownBy w' v.ownBlock → Moved w v v' → K (a.put o.dst v') w') :
    if Region.wanted o (yielded ops a.tmps) = true then Oper.wp Try.prog o a w K Q else E := by
  have hw : Region.wanted o (yielded ops a.tmps) = true := by simp [Region.wanted, hgd]
  rw [if_pos hw]
  obtain ⟨v', w', hr, h2, h3, h4⟩ := run_app B w o.type v xs hrow ao m c (xof ys) hsl.2.2.1 hsl.2.2.2.2.2 hb hB
  rw [← hsl.1, bs_xof hsl.2.1] at h2
  unfold Oper.wp execOp
  simp only [ho, resolve, invoke, builtin, Sem.run_bind, Sem.run_pure, Result.andThen_ok, List.map_toArray, List.map_cons, List.map_nil, hs, hx, hr]
  exact h _ _ h2 h3 h4
theorem grown_none {w w' : World} (h : w.grownBy w' none) : Below w.heap.size w w' := ⟨h.os, h.tape, h.output, h.size, fun k hk => h.block k hk (by simp)⟩
theorem undrew9 {w w2 : World} {r : Option Nat} (h : w.drew.grownBy w2 r) : w.grownBy w2 r := ⟨h.os, h.tape, h.output, h.size, h.block⟩
theorem below_app {w w2 : World} (h : w.grownBy w2 (Value.slice none 0 0).ownBlock) : Below w.heap.size w w2 := grown_none h
theorem below_app' {w w2 : World} (h : w.drew.grownBy w2 (Value.slice none 0 0).ownBlock) : Below w.heap.size w w2 := grown_none (undrew9 h)
/-- An entry whose key and value are one's own now. -/
structure CpS (wr : World) (o : EntV) (a5 : Option Addr) (c5 : Nat) (a6 : Option Addr) (c6 : Nat) (wx : World) : Prop where
  bx : wx.heap[wr.heap.size]? = some (.cells #[.slice a5 o.key.length c5, .int .i64 o.seq, .bool o.gone, .int .i64 o.till, .slice a6 o.val.length c6] 34 (0, 0))
  sk : Sl wx a5 o.key.length c5 o.key
  sv : Sl wx a6 o.val.length c6 o.val
  wk : Wr wx a5 o.key.length
  wv : Wr wx a6 o.val.length
  nk : ∀ b off, a5 = some ⟨b, off, none⟩ → wr.heap.size < b
  nv : ∀ b off, a6 = some ⟨b, off, none⟩ → wr.heap.size < b
  bel : Below wr.heap.size wr wx
theorem cps_of {wr w6 : World} {o : EntV} {x0 x4 : Value} {a5 a6 : Option Addr} {c5 c6 : Nat} (hb : w6.heap[wr.heap.size]? = some (.cells #[x0, .int .i64 o.seq, .bool o.gone, .int .i64 o.till, x4] 34 (0, 0)))
    (sk : Sl w6 a5 o.key.length c5 o.key) (sv : Sl w6 a6 o.val.length c6 o.val) (wk : Wr w6 a5 o.key.length) (wv : Wr w6 a6 o.val.length) (nk : ∀ b off, a5 = some ⟨b, off, none⟩ → wr.heap.size < b) (nv : ∀ b off, a6 = some ⟨b, off, none⟩ → wr.heap.size < b) (bel : Below wr.heap.size wr w6) :
    CpS wr o a5 c5 a6 c6 ((w6.setCell ⟨wr.heap.size, 0, none⟩ (.slice a5 o.key.length c5)).setCell ⟨wr.heap.size, 4, none⟩ (.slice a6 o.val.length c6)) := by
  have hne : ∀ b, wr.heap.size < b → ((w6.setCell ⟨wr.heap.size, 0, none⟩ (.slice a5 o.key.length c5)).setCell ⟨wr.heap.size, 4, none⟩ (.slice a6 o.val.length c6)).heap[b]? = w6.heap[b]? := fun b hlt => by
    rw [heap_ne _ _ _ (by omega), heap_ne _ _ _ (by omega)]
  refine ⟨heap_setW (heap_setW hb 0 _) 4 _, sk.keep (fun b hr => ?_), sv.keep (fun b hr => ?_), wk.keep (fun b off e _ => hne b (nk b off e)), wv.keep (fun b off e _ => hne b (nv b off e)), nk, nv, below_set (below_set bel _ _ _ (Nat.le_refl _)) _ _ _ (Nat.le_refl _)⟩
  · obtain ⟨off, l, c, e, h0⟩ := hr
    simp only [Value.slice.injEq] at e
    exact hne b (nk b off e.1)
  · obtain ⟨off, l, c, e, h0⟩ := hr
    simp only [Value.slice.injEq] at e
    exact hne b (nv b off e.1)
theorem xor_byte {n : Nat} (h : n < 256) : ∃ m : Nat, m < 256 ∧ bits .xor .u8 (n : Int) 255 = (m : Int) := by
  have e := u8_xor_nat n 255 h (by decide)
  exact ⟨n ^^^ 255, Nat.xor_lt_two_pow (n := 8) h (by decide), e⟩
/-- An entry of one's own that was handed in, and is written now; the mem stays. -/
structure FlS (D : PM) (w : World) (p q : Nat) (L : List EntV) (F : Nat → Prop) (ka : Option Addr) (n kc : Nat) (va : Option Addr) (m vc : Nat) (s1 s2 s3 : Value) (wx : World) : Prop where
  gn : D.N ≤ w.heap.size
  r : D.R wx p L F
  bx : wx.heap[q]? = some (.cells #[.slice ka n kc, s1, s2, s3, .slice va m vc] 34 (0, 0))
  wk : Wr wx ka n
  wv : Wr wx va m
  nk : ∀ b off, ka = some ⟨b, off, none⟩ → 0 < n → ¬ F b ∧ b ≠ q ∧ w.heap.size ≤ b
  nv : ∀ b off, va = some ⟨b, off, none⟩ → 0 < m → ¬ F b ∧ b ≠ q ∧ w.heap.size ≤ b
  bel : Below w.heap.size w wx
theorem FlS.flip {D : PM} {w : World} {p q : Nat} {L : List EntV} {F : Nat → Prop} {ka : Option Addr} {n kc : Nat} {va : Option Addr} {m vc : Nat} {s1 s2 s3 : Value} {wx : World} (h : FlS D w p q L F ka n kc va m vc s1 s2 s3 wx) {b k mm : Nat} (hb : ¬ F b ∧ b ≠ q ∧ w.heap.size ≤ b) (hm : mm < 256) :
    FlS D w p q L F ka n kc va m vc s1 s2 s3 (wx.setCell ⟨b, k, none⟩ (.int .u8 (mm : Int))) :=
  ⟨h.gn, D.same h.r (fun j hj => heap_ne wx k _ (fun e => hb.1 (e ▸ hj))) (fun j hj => heap_ne wx k _ (fun e => by have := h.gn; have := hb.2.2; omega)), (heap_ne wx k _ (Ne.symm hb.2.1)).trans h.bx, h.wk.set b k mm hm, h.wv.set b k mm hm, h.nk, h.nv, below_set h.bel b k _ hb.2.2⟩
theorem FlS.cells {D : PM} {w : World} {p q : Nat} {L : List EntV} {F : Nat → Prop} {ka : Option Addr} {n kc : Nat} {va : Option Addr} {m vc : Nat} {s1 s2 s3 : Value} {wx : World} (h : FlS D w p q L F ka n kc va m vc s1 s2 s3 wx) :
    wx.cell? ⟨q, 0, none⟩ = some (.slice ka n kc) ∧ wx.cell? ⟨q, 4, none⟩ = some (.slice va m vc) := by
  constructor <;> rw [cell_of h.bx] <;> rfl
/-- An entry of a row: its cells among the row's. -/
theorem rsu_ent {w : World} {ao : Option Addr} {len cap : Nat} {us : List Value} {l : List EntV} (h : RSu entE w ao len cap us l) {i : Nat} {x : EntV} (hx : l[i]? = some x) :
    ∃ ka kc va vc, us[i * 5]? = some (.slice ka x.key.length kc) ∧ us[i * 5 + 1]? = some (.int .i64 x.seq) ∧ us[i * 5 + 2]? = some (.bool x.gone) ∧ us[i * 5 + 3]? = some (.int .i64 x.till) ∧ us[i * 5 + 4]? = some (.slice va x.val.length vc) := by
  obtain ⟨h1, h2, h3, h4, h5, h6⟩ := h
  obtain ⟨vs, ⟨ka, kc, va, vc, rfl, _⟩, _, g⟩ := h5.at hx
  exact ⟨ka, kc, va, vc, g 0 _ rfl, g 1 _ rfl, g 2 _ rfl, g 3 _ rfl, g 4 _ rfl⟩
/-- A row that was told, whose bytes are written; all that was there before stays. -/
structure GlS (w3 : World) (B4 g off : Nat) (us : List Value) (wx : World) : Prop where
  bel : Below w3.heap.size w3 wx
  sz : B4 ≤ wx.heap.size
  rc : ∀ (j : Nat) (u : Value), us[j]? = some u → wx.cell? ⟨g, off + j, none⟩ = some u
  wr : ∀ u ∈ us, ∀ a n c, u = .slice a n c → Wr wx a n
  nb : ∀ u ∈ us, ∀ b, Refs u b → w3.heap.size ≤ b ∧ b ≠ g ∧ b < B4
theorem GlS.flip {w3 : World} {B4 g off : Nat} {us : List Value} {wx : World} (h : GlS w3 B4 g off us wx) {b k m : Nat} (hb : w3.heap.size ≤ b ∧ b ≠ g) (hm : m < 256) : GlS w3 B4 g off us (wx.setCell ⟨b, k, none⟩ (.int .u8 (m : Int))) :=
  ⟨below_set h.bel b k _ hb.1, by rw [size_set]; exact h.sz, (fun j u hu => by rw [World.cell?_of_block (w := wx) (a := ⟨g, off + j, none⟩) (heap_ne wx k _ (Ne.symm hb.2))]; exact h.rc j u hu), (fun u hu a n c e => (h.wr u hu a n c e).set b k m hm), h.nb⟩
theorem GlS.later {w3 : World} {B4 g off : Nat} {us : List Value} {wx wy : World} (h : GlS w3 B4 g off us wx) (hb : Below wx.heap.size wx wy) : GlS w3 B4 g off us wy :=
  ⟨h.bel.trans (hb.mono h.bel.size), Nat.le_trans h.sz hb.size, (fun j u hu => cell_later hb (h.rc j u hu)), (fun u hu a n c e => (h.wr u hu a n c e).later hb), h.nb⟩
/-- With one of its entries in a box. -/
def GlB (w3 : World) (B4 g off : Nat) (us : List Value) (q : Nat) (C : Array Value) (wx : World) : Prop := GlS w3 B4 g off us wx ∧ wx.heap[q]? = some (.cells C 34 (0, 0))
theorem GlB.flip {w3 : World} {B4 g off : Nat} {us : List Value} {q : Nat} {C : Array Value} {wx : World} (h : GlB w3 B4 g off us q C wx) (hq : B4 ≤ q) {a : Option Addr} {n c : Nat} (hu : (Value.slice a n c) ∈ us) {b o : Nat} (ha : a = some ⟨b, o, none⟩) (hn : 0 < n) {k m : Nat} (hm : m < 256) : GlB w3 B4 g off us q C (wx.setCell ⟨b, k, none⟩ (.int .u8 (m : Int))) := by
  have h1 := h.1.nb _ hu b ⟨o, n, c, by rw [ha], hn⟩
  exact ⟨h.1.flip ⟨h1.1, h1.2.1⟩ hm, (heap_ne wx k _ (by omega)).trans h.2⟩
theorem GlB.cells {w3 : World} {B4 g off : Nat} {us : List Value} {q : Nat} {x0 x1 x2 x3 x4 : Value} {wx : World} (h : GlB w3 B4 g off us q #[x0, x1, x2, x3, x4] wx) : wx.cell? ⟨q, 0, none⟩ = some x0 ∧ wx.cell? ⟨q, 4, none⟩ = some x4 := by
  constructor <;> rw [cell_of h.2] <;> rfl
theorem gls_begin {w2 w3 : World} {a : Option Addr} {n c g off : Nat} {us : List Value} {l : List EntV} (h : RSu entE w3 a n c us l) (nb : ∀ u ∈ us, ∀ b, Refs u b → w2.heap.size ≤ b ∧ ∀ g off, a = some ⟨g, off, none⟩ → b ≠ g) (wr : ∀ u ∈ us, ∀ a n c, u = .slice a n c → Wr w3 a n) (hb : Below w2.heap.size w2 w3) (ha : a = some ⟨g, off, none⟩) : GlS w2 w3.heap.size g off us w3 := by
  refine ⟨hb, Nat.le_refl _, fun j u hu => ?_, wr, fun u hu b hr => ⟨(nb u hu b hr).1, (nb u hu b hr).2 g off ha, h.2.2.2.2.1.lt u hu b hr⟩⟩
  obtain ⟨b, o, e, hc⟩ := h.2.2.2.2.2 j u hu
  rw [ha] at e
  simp only [Option.some.injEq, Addr.mk.injEq, and_true] at e
  obtain ⟨rfl, rfl⟩ := e
  exact hc
theorem rsu_at {w : World} {ao : Option Addr} {len cap : Nat} {us : List Value} {l : List EntV} (h : RSu entE w ao len cap us l) {j : Nat} {u : Value} (hu : us[j]? = some u) : ∃ g off, ao = some ⟨g, off, none⟩ := by
  obtain ⟨b, o, e, _⟩ := h.2.2.2.2.2 j u hu
  exact ⟨b, o, e⟩
end Go.Proofs.Ytimpaindbbjieaa

/- The document's own TakeBlock: the walk. -/
namespace Go.Proofs.Ytimpaindbbjieaa
open Go.RowKit
set_option linter.unusedVariables false
set_option linter.unusedSimpArgs false

theorem okb_blkB {l : List EntV} (h : ∀ e ∈ l, OkE e) : Okb (blkB l) := (okb_enEs h).app (okb_enTl.app (okb_fx _ _))
theorem RS.okE {w : World} {ao : Option Addr} {len cap : Nat} {l : List EntV} (h : RS entE w ao len cap l) : ∀ e ∈ l, OkE e := fun e he => by
  obtain ⟨i, hi, rfl⟩ := List.getElem_of_mem he
  obtain ⟨b, off, ka, kc, va, vc, _, _, _, _, _, _, sk, sv, _, _⟩ := RS.ent h (List.getElem?_eq_getElem hi)
  exact ⟨sk.2.1, sv.2.1⟩
theorem RS.toV {α : Type} {E : El α} {w : World} {ao : Option Addr} {len cap : Nat} {l : List α} (h : RS E w ao len cap l) : RSV E w (.slice ao len cap) l := by
  obtain ⟨us, h1, h2⟩ := h
  subst h1
  exact ⟨ao, cap, rfl, us, rfl, h2⟩
theorem rblk_any {w : World} {ao : Option Addr} {len cap : Nat} {l : List EntV} (h : RS entE w ao len cap l) (hl : len ≤ 2 ^ 61) :
    Calls Try.prog 38 #[.slice ao len cap] w fun e w' => ∃ v, e = .returned (.tuple #[v, .int .i64 ((blkE l : Nat) : Int)]) ∧ Row w.heap.size w' v (if blkE l = 0 then blkB l else []) ∧ Below w.heap.size w w' := by
  have hln := h.len.1
  by_cases q : len = 0 ∨ 400 < len
  · have hE : blkE l = 13 := by unfold blkE; rw [if_pos (by omega)]
    rw [hE]
    exact (rblk_many (ao := ao) (cap := cap) (w := w) q hl).mono fun e w' ⟨he, hb⟩ => ⟨_, he, by rw [if_neg (by decide)]; exact Row.nil _ _, hb⟩
  · by_cases q2 : l.all mayE = false ∨ ordB l = false
    · have hE : blkE l ≠ 0 ∧ ((blkE l : Nat) : Int) = if l.all mayE = false then 1 else 11 := by
        unfold blkE
        rw [if_neg (by omega)]
        by_cases q3 : l.all mayE = false
        · rw [if_pos q3, if_pos q3]; decide
        · rw [if_neg q3, if_neg q3, if_pos (q2.resolve_left q3)]; decide
      exact (rblk_bad h (by omega) (by omega) q2 hE.2).mono fun e w' ⟨he, hb⟩ => ⟨_, he, by rw [if_neg hE.1]; exact Row.nil _ _, hb⟩
    · have hm : l.all mayE = true ∧ ordB l = true := by
        simp only [not_or, Bool.not_eq_false] at q2
        exact q2
      have hE : blkE l = 0 := by
        unfold blkE
        rw [if_neg (by omega), if_neg (by rw [hm.1]; decide), if_neg (by rw [hm.2]; decide)]
      exact (rblk_good h (by omega) (by omega) hm).mono fun e w' ⟨v, he, hr, hb⟩ => ⟨v, by rw [hE]; exact he, by rw [if_pos hE]; exact hr, hb⟩

end Go.Proofs.Ytimpaindbbjieaa

/- The landed block: Encode. -/
namespace Go.Proofs.Ytimpaindbbjieaa
open Go.RowKit
set_option linter.unusedVariables false
set_option linter.unusedSimpArgs false

/-- Three rows of bytes in a new row. -/
theorem rb3_k {w : World} {a1 a2 a3 : Option Addr} {m1 m2 m3 c1 c2 c3 : Nat} {x1 x2 x3 : List Int} (h1 : Sl w a1 m1 c1 x1) (h2 : Sl w a2 m2 c2 x2) (h3 : Sl w a3 m3 c3 x3) :
    RB (w.alloc (.cells #[.slice a1 m1 c1, .slice a2 m2 c2, .slice a3 m3 c3] 25)) (some ⟨w.heap.size, 0, none⟩) 3 3 [x1, x2, x3] := by
  have hb : Below w.heap.size w (w.alloc (.cells #[.slice a1 m1 c1, .slice a2 m2 c2, .slice a3 m3 c3] 25)) := (Below.refl _ w).alloc (Nat.le_refl _) _
  refine ⟨rfl, (fun q => by cases q), Nat.le_refl _, by unfold maxLen; omega, fun i r hr => ?_⟩
  have hc : ∀ j, (w.alloc (.cells #[.slice a1 m1 c1, .slice a2 m2 c2, .slice a3 m3 c3] 25)).cell? ⟨w.heap.size, 0 + j, none⟩ = #[Value.slice a1 m1 c1, .slice a2 m2 c2, .slice a3 m3 c3][j]? := fun j => by
    rw [Nat.zero_add]
    exact cell_of_row _ _ _ _ _ _ (heap_alloc_new w _)
  match i, hr with
  | 0, hr => obtain rfl : x1 = r := by simpa using hr
             exact ⟨_, _, a1, c1, rfl, by rw [hc, h1.1]; rfl, by rw [h1.1]; exact h1.later hb⟩
  | 1, hr => obtain rfl : x2 = r := by simpa using hr
             exact ⟨_, _, a2, c2, rfl, by rw [hc, h2.1]; rfl, by rw [h2.1]; exact h2.later hb⟩
  | 2, hr => obtain rfl : x3 = r := by simpa using hr
             exact ⟨_, _, a3, c3, rfl, by rw [hc, h3.1]; rfl, by rw [h3.1]; exact h3.later hb⟩
  | n + 3, hr => simp at hr
theorem Two.grw {W : World} {ob : Nat} {C : Array Value} {t : TypeId} {wx wy : World} {v v' u : Value} {ys xs zs : List Int} (h : Two W ob C t wx v u ys zs) (hg : Grw wx v wy v') (hp : Pair W wy v' u xs zs) : Two W ob C t wy v' u xs zs := h.step hg.1 hg.2 hp.1

set_option maxHeartbeats 1000000 in
set_option maxRecDepth 100000 in
theorem enc_many {w : World} {ao : Option Addr} {len cap : Nat} (h : len = 0 ∨ 400 < len) (hl : len ≤ 2 ^ 61) :
    Calls Try.prog 62 #[.slice ao len cap] w fun e w' => e = .returned (.tuple #[.slice none 0 0, .int .i64 13]) ∧ Below w.heap.size w w' := by
  rcases h with h | h
  · subst h
    go_enter Try.func62, Try.ntmps62
    go_wp2_with fail
    exact bodyPost_ret (v := .tuple #[.slice none 0 0, .int .i64 13]) (by simp [results, Try.results62, go_sem]) rfl ⟨rfl, Below.refl _ _⟩
  · have h0 : ¬ ((len : Int) < 1) := by omega
    have h1 : (400 : Int) < (len : Int) := by omega
    go_enter Try.func62, Try.ntmps62
    go_wp2_with fail
    exact bodyPost_ret (v := .tuple #[.slice none 0 0, .int .i64 13]) (by simp [results, Try.results62, go_sem]) rfl ⟨rfl, Below.refl _ _⟩
set_option maxHeartbeats 1000000 in
set_option maxRecDepth 100000 in
theorem enc_bad {w : World} {ao : Option Addr} {len cap : Nat} {l : List EntV} (h : RS entE w ao len cap l) (h1 : 1 ≤ len) (h4 : len ≤ 400) (hm : l.all mayE = false ∨ ordB l = false) {c : Int} (hc : c = if l.all mayE = false then 1 else 11) :
    Calls Try.prog 62 #[.slice ao len cap] w fun e w' => e = .returned (.tuple #[.slice none 0 0, .int .i64 c]) ∧ Below w.heap.size w w' := by
  have hl0 : ¬ ((len : Int) < 1) := by omega
  have hl4 : ¬ ((400 : Int) < (len : Int)) := by omega
  have hl62 : len ≤ 2 ^ 61 := by omega
  have hcn := cnf_k h (by omega)
  have HO : Hid (∀ wx, Below w.heap.size w wx → Calls Try.prog 29 #[.slice ao len cap] wx fun r w' => r = .returned (.bool (ordB l)) ∧ Below wx.heap.size wx w') := fun wx hb => ord_k (h.later hb) (by omega)
  cases ha : l.all mayE with
  | false =>
    rw [ha] at hcn hc
    rw [hc]
    clear HO hm h hc
    go_enter Try.func62, Try.ntmps62
    go_wp2_with (go_at_call 27; refine hcn.mono ?_; rintro e w1 ⟨rfl, b1⟩)
    exact bodyPost_ret (v := .tuple #[.slice none 0 0, .int .i64 1]) (by simp [results, Try.results62, go_sem]) rfl ⟨by simp, b1⟩
  | true =>
    rw [ha] at hcn hc hm
    rw [hc]
    have ho : ordB l = false := hm.resolve_left (by decide)
    rw [ho] at HO
    clear hm h hc ho
    go_enter Try.func62, Try.ntmps62
    go_wp2_with (first | (go_at_call 27; refine hcn.mono ?_; rintro e w1 ⟨rfl, b1⟩) | (go_at_call 29; refine (HO.out _ b1).mono ?_; rintro e w2 ⟨rfl, b2⟩))
    exact bodyPost_ret (v := .tuple #[.slice none 0 0, .int .i64 11]) (by simp [results, Try.results62, go_sem]) rfl ⟨by simp, b1.trans (b2.mono b1.size)⟩

set_option maxHeartbeats 8000000 in
set_option maxRecDepth 100000 in
theorem enc_good {w : World} {ao : Option Addr} {len cap : Nat} {l : List EntV} (h : RS entE w ao len cap l) (h1 : 1 ≤ len) (h4 : len ≤ 400) (hm : l.all mayE = true ∧ ordB l = true) :
    Calls Try.prog 62 #[.slice ao len cap] w fun e w' => ∃ v, e = .returned (.tuple #[v, .int .i64 0]) ∧ Row w.heap.size w' v (blkB l) ∧ Below w.heap.size w w' := by
  have hl0 : ¬ ((len : Int) < 1) := by omega
  have hl4 : ¬ ((400 : Int) < (len : Int)) := by omega
  have hl62 : len ≤ 2 ^ 61 := by omega
  have hln : l.length = len := h.len.1
  have hcn := cnf_k h (by omega)
  have HO : Hid (∀ wx, Below w.heap.size w wx → Calls Try.prog 29 #[.slice ao len cap] wx fun r w' => r = .returned (.bool true) ∧ Below wx.heap.size wx w') := fun wx hb => by have := ord_k (h.later hb) (by omega); rw [hm.2] at this; exact this
  rw [hm.1] at hcn
  have HS : Hid (RS entE w ao len cap l ∧ l.all mayE = true ∧ len ≤ 400) := ⟨h, hm.1, h4⟩
  clear h hm h1 h4
  go_enter Try.func62, Try.ntmps62
  go_upto_region 8 with (first | (go_at_call 27; refine hcn.mono ?_; rintro e w1 ⟨rfl, b1⟩) | (go_at_call 29; refine (HO.out _ b1).mono ?_; rintro e w2 ⟨rfl, b2⟩))
  have H0 : Hid (Pair w w2 (.slice none 0 0) (.slice none 0 0) (enEs 0 [] (l.take 0)) (enTl 0 0 [] (l.take 0)) ∧ Sl w none 0 0 (lastK [] (l.take 0))) := ⟨⟨Row.nil _ _, Row.nil _ _, b1.trans (b2.mono b1.size), fun g e => by cases e⟩, Sl.nil w⟩
  clear hcn HO b1 b2
  go_wp2_with fail
  go_loopg [4, 5, 6, 7, 8, 25] len (fun g v u p _ _ i wr => ∃ (q : Nat) (pa : Option Addr) (pl pc : Nat), q + g = len ∧ i = .int .i64 (q : Int) ∧ p = .slice pa pl pc ∧ Hid (Pair w wr v u (enEs 0 [] (l.take q)) (enTl 0 0 [] (l.take q)) ∧ Sl w pa pl pc (lastK [] (l.take q)) ∧ pl ≤ 512))
  case atStart => exact ⟨0, none, 0, 0, by omega, rfl, rfl, H0.out.1, H0.out.2, by omega⟩
  case round =>
    obtain ⟨q, pa, pl, pc, hq, rfl, rfl, HP⟩ := hrel
    by_cases hql : q < len
    · have hql' : (q : Int) < (len : Int) := by omega
      have hqx : q < l.length := by omega
      have bel := HP.out.1.2.2.1
      obtain ⟨b, off, ka, kc, va, vc, rfl, e0, e1, e2, e3, e4, sk, sv, i1, i2⟩ := RS.ent HS.out.1 (List.getElem?_eq_getElem hqx)
      have d0 := cell_later bel e0
      have d1 := cell_later bel e1
      have d2 := cell_later bel e2
      have d3 := cell_later bel e3
      have d4 := cell_later bel e4
      have hye := enEs_take hqx
      have hze := enTl_take hqx
      have hlk := lastK_take l q [] hqx
      have hma : mayE l[q] = true := List.all_eq_true.1 HS.out.2.1 _ (List.getElem_mem hqx)
      have hyl := enEs_tlen HS.out.2.1 q (by omega)
      have hzl := enTl_tlen (l := l) q (by omega)
      have hyo : Okb (enEs 0 [] (l.take q)) := okb_enEs fun e he => HS.out.1.okE e (List.mem_of_mem_take he)
      have hsh : shK l q = if q % 8 = 0 then 0 else shr l[q].key (lastK [] (l.take q)) := by unfold shK shI; rw [List.getElem?_eq_getElem hqx]; rfl
      generalize shK l q = SK at hye hsh
      generalize l[q] = o at d0 d1 d2 d3 d4 hye hma sk sv hlk hsh
      obtain ⟨prev, hprev⟩ : ∃ x, x = lastK [] (l.take q) := ⟨_, rfl⟩
      have spv := HP.out.2.1
      rw [← hprev] at spv hsh
      obtain ⟨ys, hys⟩ : ∃ ys, ys = enEs 0 [] (l.take q) := ⟨_, rfl⟩
      obtain ⟨zs, hzs⟩ : ∃ zs, zs = enTl 0 0 [] (l.take q) := ⟨_, rfl⟩
      have hpr := HP.out.1
      rw [← hys, ← hzs] at hpr
      rw [← hys] at hye hyl hyo hze
      rw [← hzs] at hze hzl
      obtain ⟨a6, c6, hv6, hs6⟩ := Sl.ofRow hpr.1 hyo
      subst hv6
      have hq4 := HS.out.2.2
      have hmo := mayE_ok hma
      have hpl := HP.out.2.2
      have hq62 : q ≤ 2 ^ 61 := by omega
      obtain ⟨GK, HG⟩ : ∃ g, Hid (g < gk ∧ q + 1 + g = len) := ⟨gk - 1, by omega, by omega⟩
      obtain ⟨W1, hW1⟩ : ∃ W1, W1 = wr.alloc (.cells #[.slice ka o.key.length kc, .int .i64 o.seq, .bool o.gone, .int .i64 o.till, .slice va o.val.length vc] 34) := ⟨_, rfl⟩
      have HW1 := hid hW1
      obtain ⟨PB, hPB⟩ : ∃ PB, PB = wr.heap.size := ⟨_, rfl⟩
      have T1 : Hid (Two w PB #[.slice ka o.key.length kc, .int .i64 o.seq, .bool o.gone, .int .i64 o.till, .slice va o.val.length vc] 34 W1 (.slice a6 ys.length c6) u5 ys zs) := by show Two _ _ _ _ _ _ _ _ _; rw [hW1, hPB]; exact hpr.two
      have HAP : Hid (∀ {wx : World} {u zs'} {pa pl pc prev}, Two w PB #[.slice ka o.key.length kc, .int .i64 o.seq, .bool o.gone, .int .i64 o.till, .slice va o.val.length vc] 34 wx (.slice a6 ys.length c6) u ys zs' → Sl w pa pl pc prev → pl ≤ 512 → Calls Try.prog 86 #[.slice a6 ys.length c6, .slice pa pl pc, .agg #[.slice ka o.key.length kc, .int .i64 o.seq, .bool o.gone, .int .i64 o.till, .slice va o.val.length vc]] wx fun r w' => ∃ v', r = .returned v' ∧ Two w PB #[.slice ka o.key.length kc, .int .i64 o.seq, .bool o.gone, .int .i64 o.till, .slice va o.val.length vc] 34 w' v' u (ys ++ enE (shr prev o.key) o) zs') := fun {wx u zs' pa pl pc prev} hT hp hl => by
        have := app_k (va := va) hT.pair hp hl sk sv hma (by omega)
        unfold entA at this
        exact this.mono fun r w' ⟨v', e, hP', hG⟩ => ⟨v', e, hT.grw hG hP'⟩
      have HNX : Hid (∀ {wx v u}, Pair w wx v u (ys ++ enE SK o) (zs ++ (if q % 8 = 0 then fx ys.length 4 else [])) → Pair w wx v u (enEs 0 [] (l.take (q + 1))) (enTl 0 0 [] (l.take (q + 1))) ∧ Sl w ka o.key.length kc (lastK [] (l.take (q + 1))) ∧ o.key.length ≤ 512) := fun {wx v u} hp => by rw [hye, hze, hlk]; exact ⟨hp, sk, by omega⟩
      have HSP := hid spv
      have HPL := hid hpl
      have HSK := hid hsh
      have HZ : Hid (zs.length + 4 ≤ 140737488355328) := by show _ ≤ _; omega
      have hyl62 : ys.length ≤ 2 ^ 61 := by omega
      have hkl62 : o.key.length ≤ 2 ^ 61 := by omega
      clear hpr hs6 hma hye hze hlk hyl hzl hyo hsh hprev spv hys hzs hq4 hmo hpl sk sv i1 i2 e0 e1 e2 e3 e4 hW1 hq bel HP
      go_upto_region 12 with fail
      rw [← HW1.out, ← hPB]
      clear d0 d1 d2 d3 d4 hPB
      have hq8 : Int.tmod (q : Int) 8 = ((q % 8 : Nat) : Int) := by rw [Int.tmod_eq_emod_of_nonneg (by omega)]; omega
      by_cases h8 : q % 8 = 0
      · have hq0 : Int.tmod (q : Int) 8 = 0 := by rw [hq8]; omega
        have hq00 : (q : Int) % 8 = 0 := by omega
        go_upto_region 15 with (first | (go_at_call 85; refine (fix_k hyl62).mono ?_; rintro e w3 ⟨a3, c3, rfl, s3, b3⟩) | (at_builtin; refine wpList_appl (B := w.heap.size) rfl (.tmp 33) (.tmp 36) rfl rfl (T1.out.later b3).row2 rfl s3 (by have := HZ.out; omega) (T1.out.later b3).mid.bel.size ?_; intro v4 w4 r4 g4 m4))
        have T4 := hid (((T1.out.later b3).swap.step g4 m4 r4).swap)
        clear T1 b3 s3 r4 g4 m4 hq8 hq0 hq00
        obtain ⟨z0, z1, z2, z3, z4⟩ := T4.out.cells
        go_upto_region 16 with (go_at_call 86; refine (HAP.out T4.out (Sl.nil w) (by omega)).mono ?_; rintro e w5 ⟨v5, rfl, T5⟩)
        clear z0 z1 z2 z3 z4
        obtain ⟨z0, z1, z2, z3, z4⟩ := T5.cells
        have HX : Hid (Pair w w5 v5 v4 (ys ++ enE SK o) (zs ++ (if q % 8 = 0 then fx ys.length 4 else []))) := by
          show Pair _ _ _ _ _ _
          rw [HSK.out, if_pos h8, if_pos h8]
          exact T5.pair
        clear T5 T4
        go_wp2_with fail
        go_roundg GK
        case measure => exact HG.out.1
        case rel => exact ⟨q + 1, ka, o.key.length, kc, HG.out.2, by go_num, rfl, HNX.out HX.out⟩
      · have hq0 : ¬ Int.tmod (q : Int) 8 = 0 := by rw [hq8]; omega
        have hq00 : ¬ (q : Int) % 8 = 0 := by omega
        have hq41 : ((q : Int) % 8 == 0) = false := by simp; omega
        go_upto_region 15 with fail
        clear hq8 hq0 hq00 hq41
        obtain ⟨z0, z1, z2, z3, z4⟩ := T1.out.cells
        go_upto_region 16 with (go_at_call 86; refine (HAP.out T1.out HSP.out HPL.out).mono ?_; rintro e w5 ⟨v5, rfl, T5⟩)
        clear z0 z1 z2 z3 z4
        obtain ⟨z0, z1, z2, z3, z4⟩ := T5.cells
        have HX : Hid (Pair w w5 v5 u5 (ys ++ enE SK o) (zs ++ (if q % 8 = 0 then fx ys.length 4 else []))) := by
          show Pair _ _ _ _ _ _
          rw [HSK.out, if_neg h8, if_neg h8, List.append_nil, shr_comm]
          exact T5.pair
        clear T5 T1
        go_wp2_with fail
        go_roundg GK
        case measure => exact HG.out.1
        case rel => exact ⟨q + 1, ka, o.key.length, kc, HG.out.2, by go_num, rfl, HNX.out HX.out⟩
    · have hql' : (len : Int) ≤ (q : Int) := by omega
      obtain rfl : q = l.length := by omega
      rw [List.take_length] at HP
      have hyo : Okb (enEs 0 [] l) := okb_enEs fun e he => HS.out.1.okE e he
      obtain ⟨a6, c6, hv6, hs6⟩ := Sl.ofRow HP.out.1.1 hyo
      obtain ⟨a7, c7, hv7, hs7⟩ := Sl.ofRow HP.out.1.2.1 okb_enTl
      subst hv6 hv7
      have hyl := enEs_tlen HS.out.2.1 l.length (Nat.le_refl _)
      have hzl := enTl_tlen (l := l) l.length (Nat.le_refl _)
      rw [List.take_length] at hyl hzl
      have hlen4 := HS.out.2.2
      have HBK : Hid ([enEs 0 [] l, enTl 0 0 [] l, fx ((enTl 0 0 [] l).length / 4) 4].flatten = blkB l) := by show _ = _; unfold blkB; simp
      have HB := hid HP.out.1.2.2.1
      generalize enEs 0 [] l = ys at HP hyl HBK hs6
      generalize enTl 0 0 [] l = zs at HP hzl hs7 HBK
      obtain ⟨Y, hY⟩ : ∃ n, n = ys.length := ⟨_, rfl⟩
      obtain ⟨Z, hZ⟩ : ∃ n, n = zs.length := ⟨_, rfl⟩
      rw [← hZ] at hs7 hzl HBK ⊢
      rw [← hY] at hs6 hyl ⊢
      have HR : Hid (Sl wr a6 Y c6 ys ∧ Sl wr a7 Z c7 zs ∧ ys.length + zs.length ≤ 2000000) := ⟨hs6, hs7, by omega⟩
      have hZ62 : Z ≤ 2 ^ 61 := by omega
      have hz4 : (Z : Int) / 4 = ((Z / 4 : Nat) : Int) := by omega
      have hz5 : Int.tdiv (Z : Int) 4 = ((Z / 4 : Nat) : Int) := by rw [Int.tdiv_eq_ediv_of_nonneg (by omega)]; omega
      have hD62 : Z / 4 ≤ 2 ^ 61 := by omega
      have HFX : Hid (∀ {wx : World}, Calls Try.prog 85 #[.int .i64 ((Z / 4 : Nat) : Int)] wx fun e w' => ∃ a c, e = .returned (.slice a 4 c) ∧ Sl w' a 4 c (fx (Z / 4) 4) ∧ Below wx.heap.size wx w') := fun {wx} => fix_k hD62
      generalize Z / 4 = D at hz4 hz5 hD62 HBK HFX
      clear hZ hY hzl hyl hs7 hs6 HP hlen4 hql hyo hq
      go_wp2_with (first | (go_at_call 85; refine HFX.out.mono ?_; rintro e w8 ⟨a8, c8, rfl, s8, b8⟩) | (go_at_call 87; refine (concat_any (rb3_k (HR.out.1.later b8) (HR.out.2.1.later b8) s8) (by have := HR.out.2.2; unfold tot; simp [fx_length]; omega)).mono ?_; rintro e w9 ⟨v9, rfl, r9, b9⟩))
      rw [HBK.out] at r9
      have b10 : Below w.heap.size w (w8.alloc (.cells #[.slice a6 Y c6, .slice a7 Z c7, .slice a8 4 c8] 25)) := (HB.out.trans (b8.mono HB.out.size)).alloc (Nat.le_trans HB.out.size b8.size) _
      exact bodyPost_ret (v := .tuple #[v9, .int .i64 0]) (by simp [results, Try.results62, go_sem]) rfl ⟨v9, rfl, r9.base b10.size, b10.trans (b9.mono b10.size)⟩

theorem encR_k {w : World} {ao : Option Addr} {len cap : Nat} {l : List EntV} (h : RS entE w ao len cap l) (hl : len ≤ 2 ^ 61) :
    Calls Try.prog 62 #[.slice ao len cap] w fun e w' => ∃ v, e = .returned (.tuple #[v, .int .i64 ((blkE l : Nat) : Int)]) ∧ Row w.heap.size w' v (if blkE l = 0 then blkB l else []) ∧ Below w.heap.size w w' := by
  have hln : l.length = len := h.len.1
  unfold blkE
  rw [hln]
  by_cases q : len = 0 ∨ 400 < len
  · rw [if_pos q]
    exact (enc_many q hl).mono fun e w' ⟨h1, h2⟩ => ⟨_, h1, Row.nil _ _, h2⟩
  · rw [if_neg q]
    cases ha : l.all mayE with
    | false =>
      rw [if_pos rfl]
      exact (enc_bad h (by omega) (by omega) (.inl ha) (c := 1) (by rw [ha]; rfl)).mono fun e w' ⟨h1, h2⟩ => ⟨_, h1, Row.nil _ _, h2⟩
    | true =>
      rw [if_neg (by decide)]
      cases ho : ordB l with
      | false =>
        rw [if_pos rfl]
        exact (enc_bad h (by omega) (by omega) (.inr ho) (c := 11) (by rw [ha]; rfl)).mono fun e w' ⟨h1, h2⟩ => ⟨_, h1, Row.nil _ _, h2⟩
      | true =>
        rw [if_neg (by decide)]
        exact enc_good h (by omega) (by omega) ⟨ha, ho⟩
end Go.Proofs.Ytimpaindbbjieaa
