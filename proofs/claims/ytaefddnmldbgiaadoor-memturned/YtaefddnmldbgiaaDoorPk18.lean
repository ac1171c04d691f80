import Derived.Laws.BitsAllLaws
import Derived.Test.YtaefddnmldbgiaaDoorPk04
import Derived.Test.YtaefddnmldbgiaaDoorPk16
import Derived.Test.YtaefddnmldbgiaaDoorPk17
/- Bytes that may be written, and what stays when they are. -/
namespace Go.Proofs.YtaefddnmldbgiaaDoor
open Go.RowKit
set_option linter.unusedVariables false
set_option linter.unusedSimpArgs false

theorem heap_setW {w : World} {p : Nat} {C : Array Value} {t : TypeId} {f : Nat × Nat} (h : w.heap[p]? = some (.cells C t f)) (k : Nat) (v : Value) : (w.setCell ⟨p, k, none⟩ v).heap[p]? = some (.cells (C.setIfInBounds k v) t f) := by
  simp only [World.setCell, Array.getElem?_modify, if_true, h]
  rfl
theorem frozen_ofW {w : World} {p : Nat} {C : Array Value} {t : TypeId} (h : w.heap[p]? = some (.cells C t (0, 0))) (k : Nat) : w.frozen? ⟨p, k, none⟩ = false := by
  simp [World.frozen?, h]
theorem heap_ne (w : World) {p b : Nat} (k : Nat) (v : Value) (h : b ≠ p) : (w.setCell ⟨p, k, none⟩ v).heap[b]? = w.heap[b]? := Below.heap_setCell _ _ _ _ (fun e => h e)
theorem size_set (w : World) (p k : Nat) (v : Value) : (w.setCell ⟨p, k, none⟩ v).heap.size = w.heap.size := by simp [World.setCell]
theorem below_set {B : Nat} {w0 w : World} (h : Below B w0 w) (p k : Nat) (v : Value) (hp : B ≤ p) : Below B w0 (w.setCell ⟨p, k, none⟩ v) :=
  ⟨h.os, h.tape, h.output, by rw [size_set]; exact h.size, fun i hi => by rw [heap_ne w k v (by omega)]; exact h.block i hi⟩
/-- Bytes that may be written. -/
def Wr (w : World) (a : Option Addr) (n : Nat) : Prop := ∀ i, i < n → ∃ b off m, a = some ⟨b, off, none⟩ ∧ m < 256 ∧ w.cell? ⟨b, off + i, none⟩ = some (.int .u8 ((m : Nat) : Int)) ∧ w.frozen? ⟨b, off + i, none⟩ = false
theorem cell_heap {w : World} {b k : Nat} {v : Value} (h : w.cell? ⟨b, k, none⟩ = some v) : ∃ C t f, w.heap[b]? = some (.cells C t f) ∧ C[k]? = some v := by
  unfold World.cell? at h
  split at h
  · rename_i C t f e
    exact ⟨C, t, f, e, by simpa using h⟩
  · cases h
theorem Wr.set {w : World} {a : Option Addr} {n : Nat} (h : Wr w a n) (p k m : Nat) (hm : m < 256) : Wr (w.setCell ⟨p, k, none⟩ (.int .u8 (m : Int))) a n := by
  intro i hi
  obtain ⟨b, off, m0, e, hm0, hc, hf⟩ := h i hi
  by_cases hb : b = p
  · subst hb
    obtain ⟨C, t, f, eh, hC⟩ := cell_heap hc
    have eh2 := heap_setW eh k (.int .u8 (m : Int))
    have hf2 : (w.setCell ⟨b, k, none⟩ (.int .u8 (m : Int))).frozen? ⟨b, off + i, none⟩ = false := by
      unfold World.frozen? at hf ⊢
      rw [eh2]
      rw [eh] at hf
      exact hf
    by_cases hk : k = off + i
    · refine ⟨b, off, m, e, hm, ?_, hf2⟩
      unfold World.cell?
      rw [eh2]
      have hlt := (Array.getElem?_eq_some_iff.1 hC).1
      simp [hk, hlt]
    · refine ⟨b, off, m0, e, hm0, ?_, hf2⟩
      unfold World.cell?
      rw [eh2]
      simp only [Option.isSome_none, Bool.false_eq_true, if_false]
      rw [Array.getElem?_setIfInBounds_ne (by omega)]
      exact hC
  · refine ⟨b, off, m0, e, hm0, ?_, ?_⟩
    · rw [World.cell?_of_block (w := w) (a := ⟨b, off + i, none⟩) (heap_ne w k _ hb)]; exact hc
    · rw [World.frozen?_of_block (w := w) (heap_ne w k _ hb)]; exact hf
theorem Wr.lt {w : World} {a : Option Addr} {n b off : Nat} (h : Wr w a n) (hn : 0 < n) (e : a = some ⟨b, off, none⟩) : b < w.heap.size := by
  obtain ⟨b', off', m, e', _, hc, _⟩ := h 0 hn
  rw [e] at e'
  simp only [Option.some.injEq, Addr.mk.injEq, and_true] at e'
  obtain ⟨rfl, rfl⟩ := e'
  exact World.block_lt_of_cell? _ _ hc
theorem Wr.keep {w w' : World} {a : Option Addr} {n : Nat} (h : Wr w a n) (hk : ∀ b off, a = some ⟨b, off, none⟩ → 0 < n → w'.heap[b]? = w.heap[b]?) : Wr w' a n := by
  intro i hi
  obtain ⟨b, off, m, e, hm, hc, hf⟩ := h i hi
  have := hk b off e (by omega)
  exact ⟨b, off, m, e, hm, by rw [World.cell?_of_block (w := w) (a := ⟨b, off + i, none⟩) this]; exact hc, by rw [World.frozen?_of_block (w := w) this]; exact hf⟩
theorem Wr.later {w w' : World} {a : Option Addr} {n : Nat} (h : Wr w a n) (hb : Below w.heap.size w w') : Wr w' a n := h.keep fun b off e hn => hb.block b (h.lt hn e)
theorem wr_row {B : Nat} {w : World} {v : Value} {xs : List Int} (h : Row B w v xs) (hok : Okb xs) : ∃ a c, v = .slice a xs.length c ∧ Sl w a xs.length c xs ∧ Wr w a xs.length ∧ ∀ b off, a = some ⟨b, off, none⟩ → B ≤ b := by
  obtain ⟨a, c, e, hs⟩ := Sl.ofRow h hok
  refine ⟨a, c, e, hs, fun i hi => ?_, fun b off hb => ?_⟩
  · obtain ⟨hx, b, off, e1, hc⟩ := hs.2.2.2.2.2 i hi
    refine ⟨b, off, xof xs i, e1, hx, hc, ?_⟩
    rcases h.2 with ⟨e2, h0⟩ | ⟨g, cap, cur, e2, _, hg, _⟩
    · omega
    · rw [e, e1] at e2
      simp only [Value.slice.injEq, Option.some.injEq, Addr.mk.injEq, and_true] at e2
      obtain ⟨⟨rfl, rfl⟩, _⟩ := e2
      exact frozen_ofW hg _
  · subst hb
    rcases h.2 with ⟨e2, h0⟩ | ⟨g, cap, cur, e2, hg, _⟩
    · rw [e] at e2; simp at e2
    · rw [e] at e2
      simp only [Value.slice.injEq, Option.some.injEq, Addr.mk.injEq, and_true] at e2
      obtain ⟨⟨rfl, rfl⟩, _⟩ := e2
      exact hg
/-- Bytes behind a row of one's own, as a step of a region that draws. -/
theorem step_appL {ops : Array Oper} {w : World} {o : Oper} {a : Act} {K : Act → World → Prop} {Q : Exit → Act → World → Prop} {E : Prop} {B : Nat} {v : Value} {xs ys : List Int} {ao : Option Addr} {m c : Nat} (hgd : o.guard = none) (s x : Operand)
    (ho : o.op = .call { callee := .builtin .append, args := #[s, x], argTypes := #[26, 26] }) (hs : a.eval s = v) (hrow : Row B w v xs) (hx : a.eval x = .slice ao m c) (hsl : Sl w ao m c ys) (hb : xs.length + m ≤ 140737488355328) (hB : B ≤ w.heap.size)
    (h : ∀ v' w', Row B w' v' (xs ++ ys) → w.grownBy w' v.ownBlock → Moved w v v' → K (a.put o.dst v') w') :
    if Region.wanted o (yielded ops a.tmps) = true then Oper.wp Tryd.prog o a w K Q else E := by
  have hw : Region.wanted o (yielded ops a.tmps) = true := by simp [Region.wanted, hgd]
  rw [if_pos hw]
  obtain ⟨v', w', hr, h2, h3, h4⟩ := run_app B w o.type v xs hrow ao m c (xof ys) hsl.2.2.1 hsl.2.2.2.2.2 hb hB
  rw [← hsl.1, bs_xof hsl.2.1] at h2
  unfold Oper.wp execOp
  simp only [ho, resolve, invoke, builtin, Sem.run_bind, Sem.run_pure, Result.andThen_ok, List.map_toArray, List.map_cons, List.map_nil, hs, hx, hr]
  exact h _ _ h2 h3 h4
theorem grown_none {w w' : World} (h : w.grownBy w' none) : Below w.heap.size w w' := ⟨h.os, h.tape, h.output, h.size, fun k hk => h.block k hk (by simp)⟩
theorem undrew9 {w w2 : World} {r : Option Nat} (h : w.drew.grownBy w2 r) : w.grownBy w2 r := ⟨h.os, h.tape, h.output, h.size, h.block⟩
theorem below_app {w w2 : World} (h : w.grownBy w2 (Value.slice none 0 0).ownBlock) : Below w.heap.size w w2 := grown_none h
theorem below_app' {w w2 : World} (h : w.drew.grownBy w2 (Value.slice none 0 0).ownBlock) : Below w.heap.size w w2 := grown_none (undrew9 h)
/-- An entry whose key and value are one's own now. -/
structure CpS (wr : World) (o : EntV) (a5 : Option Addr) (c5 : Nat) (a6 : Option Addr) (c6 : Nat) (wx : World) : Prop where
  bx : wx.heap[wr.heap.size]? = some (.cells #[.slice a5 o.key.length c5, .int .i64 o.seq, .bool o.gone, .int .i64 o.till, .slice a6 o.val.length c6] 28 (0, 0))
  sk : Sl wx a5 o.key.length c5 o.key
  sv : Sl wx a6 o.val.length c6 o.val
  wk : Wr wx a5 o.key.length
  wv : Wr wx a6 o.val.length
  nk : ∀ b off, a5 = some ⟨b, off, none⟩ → wr.heap.size < b
  nv : ∀ b off, a6 = some ⟨b, off, none⟩ → wr.heap.size < b
  bel : Below wr.heap.size wr wx
theorem cps_of {wr w6 : World} {o : EntV} {x0 x4 : Value} {a5 a6 : Option Addr} {c5 c6 : Nat} (hb : w6.heap[wr.heap.size]? = some (.cells #[x0, .int .i64 o.seq, .bool o.gone, .int .i64 o.till, x4] 28 (0, 0)))
    (sk : Sl w6 a5 o.key.length c5 o.key) (sv : Sl w6 a6 o.val.length c6 o.val) (wk : Wr w6 a5 o.key.length) (wv : Wr w6 a6 o.val.length) (nk : ∀ b off, a5 = some ⟨b, off, none⟩ → wr.heap.size < b) (nv : ∀ b off, a6 = some ⟨b, off, none⟩ → wr.heap.size < b) (bel : Below wr.heap.size wr w6) :
    CpS wr o a5 c5 a6 c6 ((w6.setCell ⟨wr.heap.size, 0, none⟩ (.slice a5 o.key.length c5)).setCell ⟨wr.heap.size, 4, none⟩ (.slice a6 o.val.length c6)) := by
  have hne : ∀ b, wr.heap.size < b → ((w6.setCell ⟨wr.heap.size, 0, none⟩ (.slice a5 o.key.length c5)).setCell ⟨wr.heap.size, 4, none⟩ (.slice a6 o.val.length c6)).heap[b]? = w6.heap[b]? := fun b hlt => by
    rw [heap_ne _ _ _ (by omega), heap_ne _ _ _ (by omega)]
  refine ⟨heap_setW (heap_setW hb 0 _) 4 _, sk.keep (fun b hr => ?_), sv.keep (fun b hr => ?_), wk.keep (fun b off e _ => hne b (nk b off e)), wv.keep (fun b off e _ => hne b (nv b off e)), nk, nv, below_set (below_set bel _ _ _ (Nat.le_refl _)) _ _ _ (Nat.le_refl _)⟩
  · obtain ⟨off, l, c, e, h0⟩ := hr
    simp only [Value.slice.injEq] at e
    exact hne b (nk b off e.1)
  · obtain ⟨off, l, c, e, h0⟩ := hr
    simp only [Value.slice.injEq] at e
    exact hne b (nv b off e.1)
theorem xor_byte {n : Nat} (h : n < 256) : ∃ m : Nat, m < 256 ∧ bits .xor .u8 (n : Int) 255 = (m : Int) := by
  have e := u8_xor_nat n 255 h (by decide)
  exact ⟨n ^^^ 255, Nat.xor_lt_two_pow (n := 8) h (by decide), e⟩
/-- An entry of one's own that was handed in, and is written now; the mem stays. -/
structure FlS (D : PM) (w : World) (p q : Nat) (L : List EntV) (F : Nat → Prop) (ka : Option Addr) (n kc : Nat) (va : Option Addr) (m vc : Nat) (s1 s2 s3 : Value) (wx : World) : Prop where
  gn : D.N ≤ w.heap.size
  r : D.R wx p L F
  bx : wx.heap[q]? = some (.cells #[.slice ka n kc, s1, s2, s3, .slice va m vc] 28 (0, 0))
  wk : Wr wx ka n
  wv : Wr wx va m
  nk : ∀ b off, ka = some ⟨b, off, none⟩ → 0 < n → ¬ F b ∧ b ≠ q ∧ w.heap.size ≤ b
  nv : ∀ b off, va = some ⟨b, off, none⟩ → 0 < m → ¬ F b ∧ b ≠ q ∧ w.heap.size ≤ b
  bel : Below w.heap.size w wx
theorem FlS.flip {D : PM} {w : World} {p q : Nat} {L : List EntV} {F : Nat → Prop} {ka : Option Addr} {n kc : Nat} {va : Option Addr} {m vc : Nat} {s1 s2 s3 : Value} {wx : World} (h : FlS D w p q L F ka n kc va m vc s1 s2 s3 wx) {b k mm : Nat} (hb : ¬ F b ∧ b ≠ q ∧ w.heap.size ≤ b) (hm : mm < 256) :
    FlS D w p q L F ka n kc va m vc s1 s2 s3 (wx.setCell ⟨b, k, none⟩ (.int .u8 (mm : Int))) :=
  ⟨h.gn, D.same h.r (fun j hj => heap_ne wx k _ (fun e => hb.1 (e ▸ hj))) (fun j hj => heap_ne wx k _ (fun e => by have := h.gn; have := hb.2.2; omega)), (heap_ne wx k _ (Ne.symm hb.2.1)).trans h.bx, h.wk.set b k mm hm, h.wv.set b k mm hm, h.nk, h.nv, below_set h.bel b k _ hb.2.2⟩
theorem FlS.cells {D : PM} {w : World} {p q : Nat} {L : List EntV} {F : Nat → Prop} {ka : Option Addr} {n kc : Nat} {va : Option Addr} {m vc : Nat} {s1 s2 s3 : Value} {wx : World} (h : FlS D w p q L F ka n kc va m vc s1 s2 s3 wx) :
    wx.cell? ⟨q, 0, none⟩ = some (.slice ka n kc) ∧ wx.cell? ⟨q, 4, none⟩ = some (.slice va m vc) := by
  constructor <;> rw [cell_of h.bx] <;> rfl
/-- What is asked of a mem besides: what All tells may be written. -/
structure PMA (D : PM) : Prop where
  allW : ∀ {w p l F}, D.R w p l F → ordE l → okE l → l.length ≤ 100 → Calls Tryd.prog 14 #[pm p] w fun r w' => ∃ a c us, r = .returned (.slice a l.length c) ∧ RSu entE w' a l.length c us l ∧ (∀ u ∈ us, ∀ b, Refs u b → w.heap.size ≤ b ∧ ∀ g off, a = some ⟨g, off, none⟩ → b ≠ g) ∧ (∀ u ∈ us, ∀ a n c, u = .slice a n c → Wr w' a n) ∧ Below w.heap.size w w'
/-- An entry of a row: its cells among the row's. -/
theorem rsu_ent {w : World} {ao : Option Addr} {len cap : Nat} {us : List Value} {l : List EntV} (h : RSu entE w ao len cap us l) {i : Nat} {x : EntV} (hx : l[i]? = some x) :
    ∃ ka kc va vc, us[i * 5]? = some (.slice ka x.key.length kc) ∧ us[i * 5 + 1]? = some (.int .i64 x.seq) ∧ us[i * 5 + 2]? = some (.bool x.gone) ∧ us[i * 5 + 3]? = some (.int .i64 x.till) ∧ us[i * 5 + 4]? = some (.slice va x.val.length vc) := by
  obtain ⟨h1, h2, h3, h4, h5, h6⟩ := h
  obtain ⟨vs, ⟨ka, kc, va, vc, rfl, _⟩, _, g⟩ := h5.at hx
  exact ⟨ka, kc, va, vc, g 0 _ rfl, g 1 _ rfl, g 2 _ rfl, g 3 _ rfl, g 4 _ rfl⟩
/-- A row that was told, whose bytes are written; all that was there before stays. -/
structure GlS (w3 : World) (B4 g off : Nat) (us : List Value) (wx : World) : Prop where
  bel : Below w3.heap.size w3 wx
  sz : B4 ≤ wx.heap.size
  rc : ∀ (j : Nat) (u : Value), us[j]? = some u → wx.cell? ⟨g, off + j, none⟩ = some u
  wr : ∀ u ∈ us, ∀ a n c, u = .slice a n c → Wr wx a n
  nb : ∀ u ∈ us, ∀ b, Refs u b → w3.heap.size ≤ b ∧ b ≠ g ∧ b < B4
theorem GlS.flip {w3 : World} {B4 g off : Nat} {us : List Value} {wx : World} (h : GlS w3 B4 g off us wx) {b k m : Nat} (hb : w3.heap.size ≤ b ∧ b ≠ g) (hm : m < 256) : GlS w3 B4 g off us (wx.setCell ⟨b, k, none⟩ (.int .u8 (m : Int))) :=
  ⟨below_set h.bel b k _ hb.1, by rw [size_set]; exact h.sz, (fun j u hu => by rw [World.cell?_of_block (w := wx) (a := ⟨g, off + j, none⟩) (heap_ne wx k _ (Ne.symm hb.2))]; exact h.rc j u hu), (fun u hu a n c e => (h.wr u hu a n c e).set b k m hm), h.nb⟩
theorem GlS.later {w3 : World} {B4 g off : Nat} {us : List Value} {wx wy : World} (h : GlS w3 B4 g off us wx) (hb : Below wx.heap.size wx wy) : GlS w3 B4 g off us wy :=
  ⟨h.bel.trans (hb.mono h.bel.size), Nat.le_trans h.sz hb.size, (fun j u hu => cell_later hb (h.rc j u hu)), (fun u hu a n c e => (h.wr u hu a n c e).later hb), h.nb⟩
/-- With one of its entries in a box. -/
def GlB (w3 : World) (B4 g off : Nat) (us : List Value) (q : Nat) (C : Array Value) (wx : World) : Prop := GlS w3 B4 g off us wx ∧ wx.heap[q]? = some (.cells C 28 (0, 0))
theorem GlB.flip {w3 : World} {B4 g off : Nat} {us : List Value} {q : Nat} {C : Array Value} {wx : World} (h : GlB w3 B4 g off us q C wx) (hq : B4 ≤ q) {a : Option Addr} {n c : Nat} (hu : (Value.slice a n c) ∈ us) {b o : Nat} (ha : a = some ⟨b, o, none⟩) (hn : 0 < n) {k m : Nat} (hm : m < 256) : GlB w3 B4 g off us q C (wx.setCell ⟨b, k, none⟩ (.int .u8 (m : Int))) := by
  have h1 := h.1.nb _ hu b ⟨o, n, c, by rw [ha], hn⟩
  exact ⟨h.1.flip ⟨h1.1, h1.2.1⟩ hm, (heap_ne wx k _ (by omega)).trans h.2⟩
theorem GlB.cells {w3 : World} {B4 g off : Nat} {us : List Value} {q : Nat} {x0 x1 x2 x3 x4 : Value} {wx : World} (h : GlB w3 B4 g off us q #[x0, x1, x2, x3, x4] wx) : wx.cell? ⟨q, 0, none⟩ = some x0 ∧ wx.cell? ⟨q, 4, none⟩ = some x4 := by
  constructor <;> rw [cell_of h.2] <;> rfl
theorem gls_begin {w2 w3 : World} {a : Option Addr} {n c g off : Nat} {us : List Value} {l : List EntV} (h : RSu entE w3 a n c us l) (nb : ∀ u ∈ us, ∀ b, Refs u b → w2.heap.size ≤ b ∧ ∀ g off, a = some ⟨g, off, none⟩ → b ≠ g) (wr : ∀ u ∈ us, ∀ a n c, u = .slice a n c → Wr w3 a n) (hb : Below w2.heap.size w2 w3) (ha : a = some ⟨g, off, none⟩) : GlS w2 w3.heap.size g off us w3 := by
  refine ⟨hb, Nat.le_refl _, fun j u hu => ?_, wr, fun u hu b hr => ⟨(nb u hu b hr).1, (nb u hu b hr).2 g off ha, h.2.2.2.2.1.lt u hu b hr⟩⟩
  obtain ⟨b, o, e, hc⟩ := h.2.2.2.2.2 j u hu
  rw [ha] at e
  simp only [Option.some.injEq, Addr.mk.injEq, and_true] at e
  obtain ⟨rfl, rfl⟩ := e
  exact hc
theorem rsu_at {w : World} {ao : Option Addr} {len cap : Nat} {us : List Value} {l : List EntV} (h : RSu entE w ao len cap us l) {j : Nat} {u : Value} (hu : us[j]? = some u) : ∃ g off, ao = some ⟨g, off, none⟩ := by
  obtain ⟨b, o, e, _⟩ := h.2.2.2.2.2 j u hu
  exact ⟨b, o, e⟩
end Go.Proofs.YtaefddnmldbgiaaDoor

/- What the landed mem's before and seek answer. -/
namespace Go.Proofs.YtaefddnmldbgiaaDoor
open Go.RowKit
set_option linter.unusedVariables false
set_option linter.unusedSimpArgs false

/-- The keys ahead of one, and the others. -/
def frt (ns : List Nd) (key : List Int) : List Nd := ns.filter fun n => decide (cmp n.key key < 0)
def bck (ns : List Nd) (key : List Int) : List Nd := ns.filter fun n => ! decide (cmp n.key key < 0)
theorem frt_bck {ns : List Nd} (h : ns.Pairwise fun a b => cmp a.key b.key < 0) (key : List Int) : ns = frt ns key ++ bck ns key := by
  induction ns with
  | nil => rfl
  | cons n r ih =>
    rw [List.pairwise_cons] at h
    by_cases q : cmp n.key key < 0
    · have e1 : frt (n :: r) key = n :: frt r key := by simp [frt, q]
      have e2 : bck (n :: r) key = bck r key := by simp [bck, q]
      rw [e1, e2, List.cons_append, ← ih h.2]
    · have hr : ∀ m ∈ r, ¬ cmp m.key key < 0 := fun m hm e => q (cmp_trans (h.1 m hm) e)
      have e1 : frt (n :: r) key = [] := by
        unfold frt
        rw [List.filter_eq_nil_iff]
        intro m hm
        rcases List.mem_cons.1 hm with rfl | hm
        · simpa using q
        · simpa using hr m hm
      have e2 : bck (n :: r) key = n :: r := by
        unfold bck
        rw [List.filter_eq_self]
        intro m hm
        rcases List.mem_cons.1 hm with rfl | hm
        · simpa using q
        · simpa using hr m hm
      rw [e1, e2]
      rfl
theorem frt_lt {ns : List Nd} {key : List Int} : ∀ n ∈ frt ns key, n ∈ ns ∧ cmp n.key key < 0 := fun n hn => by
  unfold frt at hn
  rw [List.mem_filter] at hn
  exact ⟨hn.1, by simpa using hn.2⟩
theorem bck_ge {ns : List Nd} {key : List Int} : ∀ n ∈ bck ns key, n ∈ ns ∧ ¬ cmp n.key key < 0 := fun n hn => by
  unfold bck at hn
  rw [List.mem_filter] at hn
  exact ⟨hn.1, by simpa using hn.2⟩
/-- The last of a level ahead of a key. -/
def pre (p : Nat) (ns : List Nd) (key : List Int) (i : Nat) : Nat := lastB p (lev (frt ns key) i)
/-- Where a level is gone on from, one level down. -/
theorem last_filter {α : Type} (f : α → Nat) (q : α → Bool) (p : Nat) : ∀ (n : Nat) (X : List α), X.length = n → ∃ j, j ≤ X.length ∧ lastB p ((X.filter q).map f) = lastB p ((X.take j).map f)
  | 0, X, h0 => by
    have e := List.eq_nil_of_length_eq_zero h0
    subst e
    exact ⟨0, Nat.le_refl _, rfl⟩
  | n + 1, X, h0 => by
    rcases List.eq_nil_or_concat X with rfl | ⟨X', c, rfl⟩
    · simp at h0
    · rw [List.concat_eq_append] at h0 ⊢
      by_cases h : q c = true
      · refine ⟨(X' ++ [c]).length, Nat.le_refl _, ?_⟩
        rw [List.take_length, List.filter_append, List.map_append, List.map_append]
        simp only [List.filter_cons, h, if_true, List.filter_nil, List.map_cons, List.map_nil]
        rw [lastB_app, lastB_app]
      · obtain ⟨j, hj, e⟩ := last_filter f q p n X' (by simp at h0; omega)
        refine ⟨j, by simp; omega, ?_⟩
        rw [List.filter_append]
        simp only [List.filter_cons, h, Bool.false_eq_true, if_false, List.filter_nil, List.append_nil]
        rw [e, List.take_append_of_le_length hj]
theorem pre_down (p : Nat) (A : List Nd) (i : Nat) : ∃ j, j ≤ (lev A i).length ∧ lastB p (lev A (i + 1)) = lastB p ((lev A i).take j) := by
  obtain ⟨j, hj, e⟩ := last_filter Nd.b (fun n => decide (i + 1 < n.h)) p _ (A.filter fun n => decide (i < n.h)) rfl
  have e1 : (A.filter fun n => decide (i < n.h)).filter (fun n => decide (i + 1 < n.h)) = A.filter fun n => decide (i + 1 < n.h) := by
    rw [List.filter_filter]
    congr 1
    funext n
    rw [Bool.eq_iff_iff]
    simp
    omega
  rw [e1, List.map_take] at e
  exact ⟨j, by unfold lev; simpa using hj, e⟩
/-- One step along a level. -/
theorem bef_next {w : World} {p : Nat} {ns : List Nd} {c wt : Int} (h : MemAt w p ns c wt) {key : List Int} {i : Nat} (hi : i < 12) {j : Nat} (hj : j ≤ (lev (frt ns key) i).length) :
    (∃ m ∈ ns, j < (lev (frt ns key) i).length ∧ w.cell? ⟨lastB p ((lev (frt ns key) i).take j), 2 + i, none⟩ = some (ptr m.b) ∧ lastB p ((lev (frt ns key) i).take (j + 1)) = m.b ∧ cmp m.key key < 0) ∨
    (j = (lev (frt ns key) i).length ∧ (w.cell? ⟨lastB p ((lev (frt ns key) i).take j), 2 + i, none⟩ = some (.pointer none) ∨ ∃ m ∈ ns, w.cell? ⟨lastB p ((lev (frt ns key) i).take j), 2 + i, none⟩ = some (ptr m.b) ∧ ¬ cmp m.key key < 0)) := by
  have hc := h.lv i hi
  rw [frt_bck h.bas.ord.1 key, lev_app] at hc
  have e : lev (frt ns key) i = (lev (frt ns key) i).take j ++ (lev (frt ns key) i).drop j := (List.take_append_drop _ _).symm
  have hc2 : Chain w i p ((lev (frt ns key) i).take j ++ ((lev (frt ns key) i).drop j ++ lev (bck ns key) i)) := by
    rw [← List.append_assoc, List.take_append_drop]
    exact hc
  have hn := hc2.from.next
  rcases Nat.lt_or_ge j (lev (frt ns key) i).length with q | q
  · left
    obtain ⟨m, hm, hb, hh⟩ := lev_mem (List.getElem_mem q)
    have hf := frt_lt m hm
    refine ⟨m, hf.1, q, ?_, ?_, hf.2⟩
    · rw [hn, List.drop_eq_getElem_cons q, hb]
      rfl
    · rw [List.take_add_one, List.getElem?_eq_getElem q]
      simp only [Option.toList]
      rw [lastB_app, hb]
  · right
    have hj2 : j = (lev (frt ns key) i).length := by omega
    refine ⟨hj2, ?_⟩
    rw [List.drop_of_length_le (by omega), List.nil_append] at hn
    cases hY : lev (bck ns key) i with
    | nil => rw [hY] at hn; exact .inl hn
    | cons y ys =>
      rw [hY] at hn
      obtain ⟨m, hm, hb, _⟩ := lev_mem (show y ∈ lev (bck ns key) i by rw [hY]; simp)
      have hf := bck_ge m hm
      exact .inr ⟨m, hf.1, by rw [hn]; simp [ptrO, hb], hf.2⟩
/-- What before has laid down. -/
structure BfS (w : World) (p : Nat) (ns : List Nd) (key : List Int) (L : Nat) (wx : World) : Prop where
  bel : Below w.heap.size w wx
  res : wx.heap[w.heap.size]? = some (.cells #[.pointer none, .pointer none, .pointer none, .pointer none, .pointer none, .pointer none, .pointer none, .pointer none, .pointer none, .pointer none, .pointer none, .pointer none] 55 (0, 0))
  pth : ∃ C, wx.heap[w.heap.size + 1]? = some (.cells C 55 (0, 0)) ∧ C.size = 12 ∧ ∀ i, L ≤ i → i < 12 → C[i]? = some (ptr (pre p ns key i))
theorem BfS.cell {w : World} {p : Nat} {ns : List Nd} {key : List Int} {L i : Nat} {wx : World} (h : BfS w p ns key L wx) (hi : i < 12) : (∃ v, wx.cell? ⟨w.heap.size + 1, i, none⟩ = some v) ∧ wx.frozen? ⟨w.heap.size + 1, i, none⟩ = false := by
  obtain ⟨C, h1, h2, h3⟩ := h.pth
  exact ⟨⟨C[i], by rw [cell_of h1]; exact Array.getElem?_eq_getElem (by omega)⟩, frozen_ofW h1 _⟩
theorem BfS.put {w : World} {p : Nat} {ns : List Nd} {key : List Int} {L : Nat} {wx : World} (h : BfS w p ns key (L + 1) wx) (hL : L < 12) : BfS w p ns key L (wx.setCell ⟨w.heap.size + 1, L, none⟩ (ptr (pre p ns key L))) := by
  obtain ⟨C, h1, h2, h3⟩ := h.pth
  refine ⟨below_set h.bel _ _ _ (by omega), (heap_ne wx _ _ (by omega)).trans h.res, _, heap_set h1 L _, by simpa using h2, fun i hi hi2 => ?_⟩
  rw [Array.getElem?_setIfInBounds]
  by_cases q : L = i
  · subst q
    rw [if_pos rfl, if_pos (by omega)]
  · rw [if_neg q]
    exact h3 i (by omega) hi2
theorem BfS.all {w : World} {p : Nat} {ns : List Nd} {key : List Int} {wx : World} (h : BfS w p ns key 0 wx) : wx.cell? ⟨w.heap.size + 1, 0, none⟩ = some (.pointer (some ⟨pre p ns key 0, 0, none⟩)) ∧ wx.cell? ⟨w.heap.size + 1, 1, none⟩ = some (.pointer (some ⟨pre p ns key 1, 0, none⟩)) ∧ wx.cell? ⟨w.heap.size + 1, 2, none⟩ = some (.pointer (some ⟨pre p ns key 2, 0, none⟩)) ∧ wx.cell? ⟨w.heap.size + 1, 3, none⟩ = some (.pointer (some ⟨pre p ns key 3, 0, none⟩)) ∧ wx.cell? ⟨w.heap.size + 1, 4, none⟩ = some (.pointer (some ⟨pre p ns key 4, 0, none⟩)) ∧ wx.cell? ⟨w.heap.size + 1, 5, none⟩ = some (.pointer (some ⟨pre p ns key 5, 0, none⟩)) ∧ wx.cell? ⟨w.heap.size + 1, 6, none⟩ = some (.pointer (some ⟨pre p ns key 6, 0, none⟩)) ∧ wx.cell? ⟨w.heap.size + 1, 7, none⟩ = some (.pointer (some ⟨pre p ns key 7, 0, none⟩)) ∧ wx.cell? ⟨w.heap.size + 1, 8, none⟩ = some (.pointer (some ⟨pre p ns key 8, 0, none⟩)) ∧ wx.cell? ⟨w.heap.size + 1, 9, none⟩ = some (.pointer (some ⟨pre p ns key 9, 0, none⟩)) ∧ wx.cell? ⟨w.heap.size + 1, 10, none⟩ = some (.pointer (some ⟨pre p ns key 10, 0, none⟩)) ∧ wx.cell? ⟨w.heap.size + 1, 11, none⟩ = some (.pointer (some ⟨pre p ns key 11, 0, none⟩)) := by
  obtain ⟨C, h1, h2, h3⟩ := h.pth
  refine ⟨?_, ?_, ?_, ?_, ?_, ?_, ?_, ?_, ?_, ?_, ?_, ?_⟩ <;> rw [cell_of h1] <;> exact h3 _ (by omega) (by omega)
theorem BfS.zero {w : World} {p : Nat} {ns : List Nd} {key : List Int} {L : Nat} {wx : World} (h : BfS w p ns key L wx) : wx.cell? ⟨w.heap.size, 0, none⟩ = some (.pointer none) ∧ wx.cell? ⟨w.heap.size, 1, none⟩ = some (.pointer none) ∧ wx.cell? ⟨w.heap.size, 2, none⟩ = some (.pointer none) ∧ wx.cell? ⟨w.heap.size, 3, none⟩ = some (.pointer none) ∧ wx.cell? ⟨w.heap.size, 4, none⟩ = some (.pointer none) ∧ wx.cell? ⟨w.heap.size, 5, none⟩ = some (.pointer none) ∧ wx.cell? ⟨w.heap.size, 6, none⟩ = some (.pointer none) ∧ wx.cell? ⟨w.heap.size, 7, none⟩ = some (.pointer none) ∧ wx.cell? ⟨w.heap.size, 8, none⟩ = some (.pointer none) ∧ wx.cell? ⟨w.heap.size, 9, none⟩ = some (.pointer none) ∧ wx.cell? ⟨w.heap.size, 10, none⟩ = some (.pointer none) ∧ wx.cell? ⟨w.heap.size, 11, none⟩ = some (.pointer none) := by
  refine ⟨?_, ?_, ?_, ?_, ?_, ?_, ?_, ?_, ?_, ?_, ?_, ?_⟩ <;> rw [cell_of h.res] <;> rfl
theorem BfS.frz {w : World} {p : Nat} {ns : List Nd} {key : List Int} {L : Nat} {wx : World} (h : BfS w p ns key L wx) (i : Nat) : wx.frozen? ⟨w.heap.size, i, none⟩ = false := frozen_ofW h.res i
def pathA (p : Nat) (ns : List Nd) (key : List Int) : Array Value := #[ptr (pre p ns key 0), ptr (pre p ns key 1), ptr (pre p ns key 2), ptr (pre p ns key 3), ptr (pre p ns key 4), ptr (pre p ns key 5), ptr (pre p ns key 6), ptr (pre p ns key 7), ptr (pre p ns key 8), ptr (pre p ns key 9), ptr (pre p ns key 10), ptr (pre p ns key 11)]
theorem arr12_size : (Tryd.prog.info? 55).map (·.size) = some 12 := by kernel_rfl
theorem path_one (p : Nat) (ns : List Nd) (key : List Int) : (pathA p ns key).all (·.oneCell') = true := by simp [pathA, ptr, Value.oneCell']
theorem below_row {B : Nat} {w0 w : World} (h : Below B w0 w) (q : Nat) (C : Array Value) (hq : B ≤ q) : Below B w0 (w.setRow q C) :=
  ⟨h.os, h.tape, h.output, by have : (w.setRow q C).heap.size = w.heap.size := by simp [World.setRow]
                              rw [this]; exact h.size, fun i hi => (setRow_other w q i C (by omega)).trans (h.block i hi)⟩
def lvv : Value → Nat
  | .int _ n => n.toNat
  | _ => 0

set_option maxHeartbeats 4000000 in
set_option maxRecDepth 100000 in
theorem before_m {w : World} {p : Nat} {ns : List Nd} {c wt : Int} (h : MemAt w p ns c wt) {ka : Option Addr} {kl kc : Nat} {key : List Int} (hk : Sl w ka kl kc key) : Calls Tryd.prog 38 #[pm p, .slice ka kl kc] w fun e w' => e = .returned (.agg (pathA p ns key)) ∧ Below w.heap.size w w' := by
  obtain ⟨W, hW⟩ : ∃ W, W = (w.alloc (.cells #[.pointer none, .pointer none, .pointer none, .pointer none, .pointer none, .pointer none, .pointer none, .pointer none, .pointer none, .pointer none, .pointer none, .pointer none] 55)).alloc (.cells #[.pointer none, .pointer none, .pointer none, .pointer none, .pointer none, .pointer none, .pointer none, .pointer none, .pointer none, .pointer none, .pointer none, .pointer none] 55) := ⟨_, rfl⟩
  have HSZ : Hid (W.heap.size = w.heap.size + 2) := by show _ = _; rw [hW]; simp
  have H0 : Hid (BfS w p ns key 12 W) := by
    have b1 : Below w.heap.size w (w.alloc (.cells #[.pointer none, .pointer none, .pointer none, .pointer none, .pointer none, .pointer none, .pointer none, .pointer none, .pointer none, .pointer none, .pointer none, .pointer none] 55)) := (Below.refl _ w).alloc (Nat.le_refl _) _
    have e1 := heap_alloc_new (w.alloc (.cells #[.pointer none, .pointer none, .pointer none, .pointer none, .pointer none, .pointer none, .pointer none, .pointer none, .pointer none, .pointer none, .pointer none, .pointer none] 55)) (.cells #[.pointer none, .pointer none, .pointer none, .pointer none, .pointer none, .pointer none, .pointer none, .pointer none, .pointer none, .pointer none, .pointer none, .pointer none] 55)
    rw [World.size_alloc] at e1
    refine ⟨by rw [hW]; exact b1.alloc b1.size _, by rw [hW]; exact (Below.heap_alloc _ _ _ (by simp)).trans (heap_alloc_new w _), _, by rw [hW]; exact e1, rfl, fun i hi hi2 => by omega⟩
  have HM : Hid (∀ wx, Below w.heap.size w wx → MemAt wx p ns c wt ∧ Sl wx ka kl kc key) := fun wx hb => ⟨h.later hb, hk.later hb⟩
  have HP : Hid (∃ j, j ≤ (lev (frt ns key) 11).length ∧ p = lastB p ((lev (frt ns key) 11).take j)) := ⟨0, Nat.zero_le _, rfl⟩
  have HW := hid hW
  unfold pm
  clear h hk hW
  go_enter Tryd.func38, Tryd.ntmps38
  go_wp2_with fail
  refine wp_scope_jumps 0 (fun a' w' => ∃ (L N : Nat), Hid (L < 12 ∧ BfS w p ns key (L + 1) w' ∧ ∃ j, j ≤ (lev (frt ns key) L).length ∧ N = lastB p ((lev (frt ns key) L).take j)) ∧ ∃ (u2 u3 u8 u9 u10 u11 u12 u13 u14 u15 u16 u17 u18 u19 u20 u21 u22 u23 u24 u25 u26 u27 u28 u29 u30 u31 u32 u33 u34 u35 u36 u37 u38 u39 u40 u41 u42 u43 u44 u45 : Value), a' = { tmps := #[.pointer (some ⟨p, 0, none⟩), .slice ka kl kc, u2, u3, .pointer (some ⟨w.heap.size, 0, none⟩), .pointer (some ⟨w.heap.size + 1, 0, none⟩), .int .i64 (L : Int), .pointer (some ⟨N, 0, none⟩), u8, u9, u10, u11, u12, u13, u14, u15, u16, u17, u18, u19, u20, u21, u22, u23, u24, u25, u26, u27, u28, u29, u30, u31, u32, u33, u34, u35, u36, u37, u38, u39, u40, u41, u42, u43, u44, u45], defers := [] }) (fun a _ => lvv (a.eval (.tmp 6))) rfl ?_ ?_
  · go_wp2_with fail
    rw [← HW.out]
    have HB : Hid (BfS w p ns key (11 + 1) W) := H0
    obtain ⟨j0, hj0, hp0⟩ := HP.out
    have H1 : Hid (p = lastB p ((lev (frt ns key) 11).take j0)) := hp0
    have hm62 : (lev (frt ns key) 11).length - j0 + j0 = (lev (frt ns key) 11).length := by omega
    clear hp0 HW HP H0
    go_step3
    have HC : Hid (MemAt W p ns c wt ∧ Sl W ka kl kc key) := HM.out _ HB.out.bel
    go_wp2_with fail
    go_loopg [7] ((lev (frt ns key) 11).length - j0) (fun g nv wx => wx = W ∧ ∃ j N : Nat, j + g = (lev (frt ns key) 11).length ∧ nv = .pointer (some ⟨N, 0, none⟩) ∧ Hid (N = lastB p ((lev (frt ns key) 11).take j)))
    case atStart => exact ⟨rfl, j0, _, by omega, rfl, H1⟩
    case round =>
      obtain ⟨rfl, j, N, hj, rfl, HN⟩ := hrel
      rcases bef_next HC.out.1 (key := key) (i := 11) (by omega) (j := j) (by omega) with ⟨m, hm, hlt, hcell, hnext, hcmp⟩ | ⟨hje, hcell | ⟨m, hm, hcell, hcmp⟩⟩
      · obtain ⟨a, cc, hv, hs⟩ := (HC.out.1.bas.nd m hm).sl
        have hkc := (HC.out.1.bas.nd m hm).cells.1
        rw [hv] at hkc
        have hcp := compare_l hs HC.out.2
        rw [← HN.out] at hcell
        unfold ptr at hcell
        simp only [Nat.reduceAdd] at hcell
        have HNX : Hid (m.b = lastB p ((lev (frt ns key) 11).take (j + 1))) := hnext.symm
        generalize cmp m.key key = S at hcp hcmp
        generalize m.b = mb at hcell hkc HNX
        generalize m.key.length = ml at hcp hkc
        clear hs hv hm hnext
        go_wp2_with fail
        refine hcp.mono ?_
        rintro e w' ⟨rfl, hw⟩
        obtain rfl := hw.symm
        clear hcp
        go_wp2_with fail
        go_roundg (gk - 1)
        case measure => omega
        case rel => exact ⟨rfl, j + 1, mb, by omega, rfl, HNX⟩
      · rw [← HN.out] at hcell
        simp only [Nat.reduceAdd] at hcell
        have hpre : N = pre p ns key 11 := by
          rw [HN.out, hje, List.take_length]
          rfl
        obtain ⟨⟨x, hx⟩, hf⟩ := HB.out.cell (i := 11) (by omega)
        have HB2 : Hid (BfS w p ns key 11 (wr.setCell ⟨w.heap.size + 1, 11, none⟩ (.pointer (some ⟨N, 0, none⟩)))) := by
          have := HB.out.put (L := 11) (by omega)
          rw [← hpre] at this
          exact this
        have HPR := hid hpre
        clear hpre HN HB hje hj H1 hm62
        go_wp2_with fail
        go_step3
        obtain ⟨j', hj', e'⟩ := pre_down p (frt ns key) 10
        exact ⟨rfl, 10, N, ⟨by omega, HB2.out, j', hj', HPR.out.trans e'⟩, _, _, _, _, _, _, _, _, _, _, _, _, _, _, _, _, _, _, _, _, _, _, _, _, _, _, _, _, _, _, _, _, _, _, _, _, _, _, _, _, rfl⟩
      · obtain ⟨a, cc, hv, hs⟩ := (HC.out.1.bas.nd m hm).sl
        have hkc := (HC.out.1.bas.nd m hm).cells.1
        rw [hv] at hkc
        have hcp := compare_l hs HC.out.2
        rw [← HN.out] at hcell
        unfold ptr at hcell
        simp only [Nat.reduceAdd] at hcell
        have hcmp' : 0 ≤ cmp m.key key := by omega
        generalize cmp m.key key = S at hcp hcmp hcmp'
        generalize m.b = mb at hcell hkc
        generalize m.key.length = ml at hcp hkc
        clear hs hv hm hcmp
        have hpre : N = pre p ns key 11 := by
          rw [HN.out, hje, List.take_length]
          rfl
        obtain ⟨⟨x, hx⟩, hf⟩ := HB.out.cell (i := 11) (by omega)
        have HB2 : Hid (BfS w p ns key 11 (wr.setCell ⟨w.heap.size + 1, 11, none⟩ (.pointer (some ⟨N, 0, none⟩)))) := by
          have := HB.out.put (L := 11) (by omega)
          rw [← hpre] at this
          exact this
        have HPR := hid hpre
        clear hpre HN HB hje hj H1 hm62
        go_wp2_with (first | (go_at_call 45; refine hcp.mono ?_; rintro e w' ⟨rfl, hw⟩; obtain rfl := hw.symm; clear hcp))
        go_step3
        obtain ⟨j', hj', e'⟩ := pre_down p (frt ns key) 10
        exact ⟨rfl, 10, N, ⟨by omega, HB2.out, j', hj', HPR.out.trans e'⟩, _, _, _, _, _, _, _, _, _, _, _, _, _, _, _, _, _, _, _, _, _, _, _, _, _, _, _, _, _, _, _, _, _, _, _, _, _, _, _, _, rfl⟩
  · rintro a' W ⟨L, N0, HI, u2, u3, u8, u9, u10, u11, u12, u13, u14, u15, u16, u17, u18, u19, u20, u21, u22, u23, u24, u25, u26, u27, u28, u29, u30, u31, u32, u33, u34, u35, u36, u37, u38, u39, u40, u41, u42, u43, u44, u45, rfl⟩
    have HB : Hid (BfS w p ns key (L + 1) W) := HI.out.2.1
    have hL12 : L < 12 := HI.out.1
    have hL12' : (L : Int) < 12 := by omega
    obtain ⟨j0, hj0, hp0⟩ := HI.out.2.2
    have H1 : Hid (N0 = lastB p ((lev (frt ns key) L).take j0)) := hp0
    clear hp0 HI HW HP H0
    have HC : Hid (MemAt W p ns c wt ∧ Sl W ka kl kc key) := HM.out _ HB.out.bel
    go_wp2_with fail
    go_loopg [7] ((lev (frt ns key) L).length - j0) (fun g nv wx => wx = W ∧ ∃ j N : Nat, j + g = (lev (frt ns key) L).length ∧ nv = .pointer (some ⟨N, 0, none⟩) ∧ Hid (N = lastB p ((lev (frt ns key) L).take j)))
    case atStart => exact ⟨rfl, j0, _, by omega, rfl, H1⟩
    case round =>
      obtain ⟨rfl, j, N, hj, rfl, HN⟩ := hrel
      rcases bef_next HC.out.1 (key := key) (i := L) (by omega) (j := j) (by omega) with ⟨m, hm, hlt, hcell, hnext, hcmp⟩ | ⟨hje, hcell | ⟨m, hm, hcell, hcmp⟩⟩
      · obtain ⟨a, cc, hv, hs⟩ := (HC.out.1.bas.nd m hm).sl
        have hkc := (HC.out.1.bas.nd m hm).cells.1
        rw [hv] at hkc
        have hcp := compare_l hs HC.out.2
        rw [← HN.out] at hcell
        unfold ptr at hcell
        have HNX : Hid (m.b = lastB p ((lev (frt ns key) L).take (j + 1))) := hnext.symm
        generalize cmp m.key key = S at hcp hcmp
        generalize m.b = mb at hcell hkc HNX
        generalize m.key.length = ml at hcp hkc
        clear hs hv hm hnext
        go_wp2_with fail
        refine hcp.mono ?_
        rintro e w' ⟨rfl, hw⟩
        obtain rfl := hw.symm
        clear hcp
        go_wp2_with fail
        go_roundg (gk - 1)
        case measure => omega
        case rel => exact ⟨rfl, j + 1, mb, by omega, rfl, HNX⟩
      · rw [← HN.out] at hcell
        have hpre : N = pre p ns key L := by
          rw [HN.out, hje, List.take_length]
          rfl
        obtain ⟨⟨x, hx⟩, hf⟩ := HB.out.cell (i := L) (by omega)
        have HB2 : Hid (BfS w p ns key L (wr.setCell ⟨w.heap.size + 1, L, none⟩ (.pointer (some ⟨N, 0, none⟩)))) := by
          have := HB.out.put (L := L) (by omega)
          rw [← hpre] at this
          exact this
        have HPR := hid hpre
        clear hpre HN HB hje hj H1
        by_cases hz : L = 0
        · subst hz
          have hg := HB2.out.res
          obtain ⟨C, g1, g2, g3⟩ := HB2.out.pth
          have hCA : C = pathA p ns key := by
            apply Array.ext
            · rw [g2]; rfl
            · intro i h1 h2
              have h12 : i < 12 := by omega
              have e1 := g3 i (by omega) h12
              rw [Array.getElem?_eq_getElem h1] at e1
              have e2 : (pathA p ns key)[i]? = some (ptr (pre p ns key i)) := by
                unfold pathA
                match i, h12 with
                | 0, _ => rfl
                | 1, _ => rfl
                | 2, _ => rfl
                | 3, _ => rfl
                | 4, _ => rfl
                | 5, _ => rfl
                | 6, _ => rfl
                | 7, _ => rfl
                | 8, _ => rfl
                | 9, _ => rfl
                | 10, _ => rfl
                | 11, _ => rfl
              rw [Array.getElem?_eq_getElem h2] at e2
              rw [Option.some.inj e1, Option.some.inj e2]
          subst hCA
          have HG := hid (And.intro hg g1)
          clear g3 g2 hg g1
          go_wp2_with (first | (refine wpList_load_row rfl 55 (.tmp 5) rfl (w.heap.size + 1) rfl 55 (pathA p ns key) (0, 0) (.array 12 54) HG.out.2 Tryd.underlying55 rfl arr12_size ?_) | (refine wpList_store_row rfl 55 (.tmp 4) (.tmp 45) rfl w.heap.size (pathA p ns key) rfl rfl 55 #[.pointer none, .pointer none, .pointer none, .pointer none, .pointer none, .pointer none, .pointer none, .pointer none, .pointer none, .pointer none, .pointer none, .pointer none] HG.out.1 arr12_size rfl (path_one p ns key) ?_))
          exact ⟨by simp, _, results_cell_row Tryd.results38 _ _ w.heap.size 55 (pathA p ns key) (0, 0) (.array 12 54) rfl (setRow_heap _ _ _ _ _ _ HG.out.1) Tryd.underlying55 rfl arr12_size, rfl, below_row HB2.out.bel _ _ (Nat.le_refl _)⟩
        · obtain ⟨M, rfl⟩ : ∃ M, L = M + 1 := ⟨L - 1, by omega⟩
          clear hz
          go_wp2_with fail
          go_step3
          obtain ⟨j', hj', e'⟩ := pre_down p (frt ns key) M
          refine ⟨rfl, ⟨M, N, ⟨by omega, HB2.out, j', hj', HPR.out.trans e'⟩, _, _, _, _, _, _, _, _, _, _, _, _, _, _, _, _, _, _, _, _, _, _, _, _, _, _, _, _, _, _, _, _, _, _, _, _, _, _, _, _, rfl⟩, ?_⟩
          simp [lvv, Act.eval]
      · obtain ⟨a, cc, hv, hs⟩ := (HC.out.1.bas.nd m hm).sl
        have hkc := (HC.out.1.bas.nd m hm).cells.1
        rw [hv] at hkc
        have hcp := compare_l hs HC.out.2
        rw [← HN.out] at hcell
        unfold ptr at hcell
        have hcmp' : 0 ≤ cmp m.key key := by omega
        generalize cmp m.key key = S at hcp hcmp hcmp'
        generalize m.b = mb at hcell hkc
        generalize m.key.length = ml at hcp hkc
        clear hs hv hm hcmp
        have hpre : N = pre p ns key L := by
          rw [HN.out, hje, List.take_length]
          rfl
        obtain ⟨⟨x, hx⟩, hf⟩ := HB.out.cell (i := L) (by omega)
        have HB2 : Hid (BfS w p ns key L (wr.setCell ⟨w.heap.size + 1, L, none⟩ (.pointer (some ⟨N, 0, none⟩)))) := by
          have := HB.out.put (L := L) (by omega)
          rw [← hpre] at this
          exact this
        have HPR := hid hpre
        clear hpre HN HB hje hj H1
        by_cases hz : L = 0
        · subst hz
          have hg := HB2.out.res
          obtain ⟨C, g1, g2, g3⟩ := HB2.out.pth
          have hCA : C = pathA p ns key := by
            apply Array.ext
            · rw [g2]; rfl
            · intro i h1 h2
              have h12 : i < 12 := by omega
              have e1 := g3 i (by omega) h12
              rw [Array.getElem?_eq_getElem h1] at e1
              have e2 : (pathA p ns key)[i]? = some (ptr (pre p ns key i)) := by
                unfold pathA
                match i, h12 with
                | 0, _ => rfl
                | 1, _ => rfl
                | 2, _ => rfl
                | 3, _ => rfl
                | 4, _ => rfl
                | 5, _ => rfl
                | 6, _ => rfl
                | 7, _ => rfl
                | 8, _ => rfl
                | 9, _ => rfl
                | 10, _ => rfl
                | 11, _ => rfl
              rw [Array.getElem?_eq_getElem h2] at e2
              rw [Option.some.inj e1, Option.some.inj e2]
          subst hCA
          have HG := hid (And.intro hg g1)
          clear g3 g2 hg g1
          go_wp2_with (first | (go_at_call 45; refine hcp.mono ?_; rintro e w' ⟨rfl, hw⟩; obtain rfl := hw.symm; clear hcp) | (refine wpList_load_row rfl 55 (.tmp 5) rfl (w.heap.size + 1) rfl 55 (pathA p ns key) (0, 0) (.array 12 54) HG.out.2 Tryd.underlying55 rfl arr12_size ?_) | (refine wpList_store_row rfl 55 (.tmp 4) (.tmp 45) rfl w.heap.size (pathA p ns key) rfl rfl 55 #[.pointer none, .pointer none, .pointer none, .pointer none, .pointer none, .pointer none, .pointer none, .pointer none, .pointer none, .pointer none, .pointer none, .pointer none] HG.out.1 arr12_size rfl (path_one p ns key) ?_))
          exact ⟨by simp, _, results_cell_row Tryd.results38 _ _ w.heap.size 55 (pathA p ns key) (0, 0) (.array 12 54) rfl (setRow_heap _ _ _ _ _ _ HG.out.1) Tryd.underlying55 rfl arr12_size, rfl, below_row HB2.out.bel _ _ (Nat.le_refl _)⟩
        · obtain ⟨M, rfl⟩ : ∃ M, L = M + 1 := ⟨L - 1, by omega⟩
          clear hz
          go_wp2_with (first | (go_at_call 45; refine hcp.mono ?_; rintro e w' ⟨rfl, hw⟩; obtain rfl := hw.symm; clear hcp))
          go_step3
          obtain ⟨j', hj', e'⟩ := pre_down p (frt ns key) M
          refine ⟨rfl, ⟨M, N, ⟨by omega, HB2.out, j', hj', HPR.out.trans e'⟩, _, _, _, _, _, _, _, _, _, _, _, _, _, _, _, _, _, _, _, _, _, _, _, _, _, _, _, _, _, _, _, _, _, _, _, _, _, _, _, _, rfl⟩, ?_⟩
          simp [lvv, Act.eval]
theorem lev_zero {ns : List Nd} (h : ∀ n ∈ ns, 1 ≤ n.h) : lev ns 0 = ns.map Nd.b := by
  unfold lev
  rw [List.filter_eq_self.2 (fun n hn => by have := h n hn; simp; omega)]
theorem pre_next {w : World} {p : Nat} {ns : List Nd} {c wt : Int} (h : MemAt w p ns c wt) (key : List Int) : w.cell? ⟨pre p ns key 0, 2, none⟩ = some (ptrO ((bck ns key).head?.map Nd.b)) := by
  have hc := h.lv 0 (by omega)
  rw [frt_bck h.bas.ord.1 key, lev_app] at hc
  have hn := hc.from.next
  rw [lev_zero (fun n hn => (h.bas.nd n (bck_ge n hn).1).h.1), List.head?_map] at hn
  exact hn
theorem seek_nil {w : World} {ka : Option Addr} {kl kc : Nat} : Calls Tryd.prog 30 #[.pointer none, .slice ka kl kc] w fun e w' => e = .returned (.pointer none) ∧ w' = w := by
  go_enter Tryd.func30, Tryd.ntmps30
  go_wp2_with fail
  go_ret
  exact ⟨by simp, rfl⟩
theorem run_ix0 (w : World) (c0 c1 c2 c3 c4 c5 c6 c7 c8 c9 c10 c11 : Option Addr) : (Instr.index 55 (.agg #[.pointer c0, .pointer c1, .pointer c2, .pointer c3, .pointer c4, .pointer c5, .pointer c6, .pointer c7, .pointer c8, .pointer c9, .pointer c10, .pointer c11]) (.int .i64 0)).run Tryd.prog w = .ok (.pointer c0) w := by
  simp [Instr.index, run_underlying Tryd.underlying55, asIntOf, go_sem]
theorem seek_m {w : World} {p : Nat} {ns : List Nd} {c wt : Int} (h : MemAt w p ns c wt) {ka : Option Addr} {kl kc : Nat} {key : List Int} (hk : Sl w ka kl kc key) : Calls Tryd.prog 30 #[pm p, .slice ka kl kc] w fun e w' => e = .returned (ptrO ((bck ns key).head?.map Nd.b)) ∧ Below w.heap.size w w' := by
  have hb := before_m h hk
  have HN : Hid (∀ wx, Below w.heap.size w wx → wx.cell? ⟨pre p ns key 0, 2, none⟩ = some (ptrO ((bck ns key).head?.map Nd.b))) := fun wx hb => pre_next (h.later hb) key
  clear h hk
  obtain ⟨V, hV⟩ : ∃ V, V = ptrO ((bck ns key).head?.map Nd.b) := ⟨_, rfl⟩
  have hV2 : ∃ o, V = .pointer o := by
    rw [hV]
    cases (bck ns key).head?.map Nd.b with
    | none => exact ⟨_, rfl⟩
    | some b => exact ⟨_, rfl⟩
  rw [← hV] at HN ⊢
  unfold pathA at hb
  unfold pm ptr at *
  generalize pre p ns key 0 = b0 at hb HN
  obtain ⟨o, rfl⟩ := hV2
  clear hV
  go_enter Tryd.func30, Tryd.ntmps30
  go_wp2_with fail
  refine hb.mono ?_
  rintro e w' ⟨rfl, b1⟩
  have hc := HN.out _ b1
  have HB := hid b1
  clear hb HN b1
  have hix := run_ix0
  go_wp2_with fail
  go_ret
  exact ⟨by simp, HB.out⟩
end Go.Proofs.YtaefddnmldbgiaaDoor

/- bytes.Clone. -/
namespace Go.Proofs.YtaefddnmldbgiaaDoor
open Go.RowKit
set_option linter.unusedVariables false
set_option linter.unusedSimpArgs false

theorem wpList_applN {w : World} {ops : Array Oper} {rest : List Oper} {o : Oper} {a : Act} {Q : Exit → Act → World → Prop} {B : Nat} {v : Value} {xs ys : List Int} {ao : Option Addr} {m c : Nat} (hgd : o.guard = none) (s x : Operand)
    (ho : o.op = .call { callee := .builtin .append, args := #[s, x], argTypes := #[26, 26] }) (hs : a.eval s = v) (hrow : Row B w v xs) (hx : a.eval x = .slice ao m c) (hsl : Sl w ao m c ys) (hb : xs.length + m ≤ 140737488355328) (hB : B ≤ w.heap.size)
    (h : ∀ v' w', Row B w' v' (xs ++ ys) → w.grownBy w' v.ownBlock → Moved w v v' → wpList Tryd.prog ops Q rest (a.put o.dst v') w') : wpList Tryd.prog ops Q (o :: rest) a w :=
  wpList_plain hgd fun K hK => by
    obtain ⟨v', w', hr, h2, h3, h4⟩ := run_app B w o.type v xs hrow ao m c (xof ys) hsl.2.2.1 hsl.2.2.2.2.2 hb hB
    rw [← hsl.1, bs_xof hsl.2.1] at h2
    unfold Oper.wp execOp
    simp only [ho, resolve, invoke, builtin, Sem.run_bind, Sem.run_pure, Result.andThen_ok, List.map_toArray, List.map_cons, List.map_nil, hs, hx, hr]
    exact hK _ _ (h v' w' h2 h3 h4)
set_option maxHeartbeats 1000000 in
set_option maxRecDepth 100000 in
theorem clone_n {w : World} {ao : Option Addr} {len cap : Nat} {xs : List Int} (h : Sl w ao len cap xs) (hl : len ≤ 140737488355328) :
    Calls Tryd.prog 44 #[.slice ao len cap] w fun e w' => ∃ v, e = .returned v ∧ Row w.heap.size w' v xs ∧ Below w.heap.size w w' := by
  have q22 : ∀ (w : World) (a : Option Addr) (n c n' c' : Nat), (binOp .eql 26 (.slice a n c) (.slice none n' c')).run Tryd.prog w = .ok (.bool a.isNone) w := fun w a n c n' c' => Lib.run_eql_slice_nil w _ _ a n c n' c' Tryd.underlying26
  cases ao with
  | none =>
    obtain ⟨rfl, rfl⟩ := h.2.2.1 rfl
    have hx : xs = [] := List.eq_nil_of_length_eq_zero h.1
    subst hx
    clear h hl
    go_enter Tryd.func44, Tryd.ntmps44
    go_wp2_with fail
    exact bodyPost_ret (v := .slice none 0 0) (by simp [results, Tryd.results44, go_sem]) rfl ⟨_, rfl, Row.nil _ _, Below.refl _ _⟩
  | some a =>
    have b1 : Below w.heap.size w (w.alloc (.cells #[] 5)) := (Below.refl _ _).alloc (Nat.le_refl _) _
    have HS : Hid (Sl (w.alloc (.cells #[] 5)) (some a) len cap xs ∧ len ≤ 140737488355328 ∧ Below w.heap.size w (w.alloc (.cells #[] 5)) ∧ Row w.heap.size (w.alloc (.cells #[] 5)) (.slice (some ⟨w.heap.size, 0, none⟩) 0 0) []) := ⟨h.later b1, hl, b1, World.ownsRow_made w #[] 0 (Nat.le_refl _) (Nat.zero_le _) rfl⟩
    clear h hl b1
    go_enter Tryd.func44, Tryd.ntmps44
    go_wp2_with (at_builtin; refine wpList_applN (B := w.heap.size) rfl (.tmp 5) (.tmp 6) rfl rfl HS.out.2.2.2 rfl HS.out.1 (by have := HS.out.2.1; simp; omega) HS.out.2.2.1.size ?_; intro v2 w2 r2 g2 m2)
    exact bodyPost_ret (v := v2) (by simp [results, Tryd.results44, go_sem]) rfl ⟨v2, rfl, r2, HS.out.2.2.1.trans (grown_below HS.out.2.2.2 g2 HS.out.2.2.1.size)⟩

end Go.Proofs.YtaefddnmldbgiaaDoor
