import Derived.Laws.BitsAllLaws
import Derived.Test.YtifgojkmdicdmaaPk01
import Derived.Test.YtifgojkmdicdmaaPk04
import Derived.Test.YtifgojkmdicdmaaPk12
import Derived.Test.YtifgojkmdicdmaaPk14
import Derived.Test.YtifgojkmdicdmaaPk18
/- Bytes that may be written, and what stays when they are. -/
namespace Go.Proofs.Ytifgojkmdicdmaa
open Go.RowKit
set_option linter.unusedVariables false
set_option linter.unusedSimpArgs false

theorem heap_setW {w : World} {p : Nat} {C : Array Value} {t : TypeId} {f : Nat × Nat} (h : w.heap[p]? = some (.cells C t f)) (k : Nat) (v : Value) : (w.setCell ⟨p, k, none⟩ v).heap[p]? = some (.cells (C.setIfInBounds k v) t f) := by
  simp only [World.setCell, Array.getElem?_modify, if_true, h]
  rfl
theorem frozen_ofW {w : World} {p : Nat} {C : Array Value} {t : TypeId} (h : w.heap[p]? = some (.cells C t (0, 0))) (k : Nat) : w.frozen? ⟨p, k, none⟩ = false := by
  simp [World.frozen?, h]
theorem heap_ne (w : World) {p b : Nat} (k : Nat) (v : Value) (h : b ≠ p) : (w.setCell ⟨p, k, none⟩ v).heap[b]? = w.heap[b]? := Below.heap_setCell _ _ _ _ (fun e => h e)
theorem size_set (w : World) (p k : Nat) (v : Value) : (w.setCell ⟨p, k, none⟩ v).heap.size = w.heap.size := by simp [World.setCell]
theorem below_set {B : Nat} {w0 w : World} (h : Below B w0 w) (p k : Nat) (v : Value) (hp : B ≤ p) : Below B w0 (w.setCell ⟨p, k, none⟩ v) :=
  ⟨h.os, h.tape, h.output, by rw [size_set]; exact h.size, fun i hi => by rw [heap_ne w k v (by omega)]; exact h.block i hi⟩
/-- Bytes that may be written. -/
def Wr (w : World) (a : Option Addr) (n : Nat) : Prop := ∀ i, i < n → ∃ b off m, a = some ⟨b, off, none⟩ ∧ m < 256 ∧ w.cell? ⟨b, off + i, none⟩ = some (.int .u8 ((m : Nat) : Int)) ∧ w.frozen? ⟨b, off + i, none⟩ = false
theorem cell_heap {w : World} {b k : Nat} {v : Value} (h : w.cell? ⟨b, k, none⟩ = some v) : ∃ C t f, w.heap[b]? = some (.cells C t f) ∧ C[k]? = some v := by
  unfold World.cell? at h
  split at h
  · rename_i C t f e
    exact ⟨C, t, f, e, by simpa using h⟩
  · cases h
theorem Wr.set {w : World} {a : Option Addr} {n : Nat} (h : Wr w a n) (p k m : Nat) (hm : m < 256) : Wr (w.setCell ⟨p, k, none⟩ (.int .u8 (m : Int))) a n := by
  intro i hi
  obtain ⟨b, off, m0, e, hm0, hc, hf⟩ := h i hi
  by_cases hb : b = p
  · subst hb
    obtain ⟨C, t, f, eh, hC⟩ := cell_heap hc
    have eh2 := heap_setW eh k (.int .u8 (m : Int))
    have hf2 : (w.setCell ⟨b, k, none⟩ (.int .u8 (m : Int))).frozen? ⟨b, off + i, none⟩ = false := by
      unfold World.frozen? at hf ⊢
      rw [eh2]
      rw [eh] at hf
      exact hf
    by_cases hk : k = off + i
    · refine ⟨b, off, m, e, hm, ?_, hf2⟩
      unfold World.cell?
      rw [eh2]
      have hlt := (Array.getElem?_eq_some_iff.1 hC).1
      simp [hk, hlt]
    · refine ⟨b, off, m0, e, hm0, ?_, hf2⟩
      unfold World.cell?
      rw [eh2]
      simp only [Option.isSome_none, Bool.false_eq_true, if_false]
      rw [Array.getElem?_setIfInBounds_ne (by omega)]
      exact hC
  · refine ⟨b, off, m0, e, hm0, ?_, ?_⟩
    · rw [World.cell?_of_block (w := w) (a := ⟨b, off + i, none⟩) (heap_ne w k _ hb)]; exact hc
    · rw [World.frozen?_of_block (w := w) (heap_ne w k _ hb)]; exact hf
theorem Wr.lt {w : World} {a : Option Addr} {n b off : Nat} (h : Wr w a n) (hn : 0 < n) (e : a = some ⟨b, off, none⟩) : b < w.heap.size := by
  obtain ⟨b', off', m, e', _, hc, _⟩ := h 0 hn
  rw [e] at e'
  simp only [Option.some.injEq, Addr.mk.injEq, and_true] at e'
  obtain ⟨rfl, rfl⟩ := e'
  exact World.block_lt_of_cell? _ _ hc
theorem Wr.keep {w w' : World} {a : Option Addr} {n : Nat} (h : Wr w a n) (hk : ∀ b off, a = some ⟨b, off, none⟩ → 0 < n → w'.heap[b]? = w.heap[b]?) : Wr w' a n := by
  intro i hi
  obtain ⟨b, off, m, e, hm, hc, hf⟩ := h i hi
  have := hk b off e (by omega)
  exact ⟨b, off, m, e, hm, by rw [World.cell?_of_block (w := w) (a := ⟨b, off + i, none⟩) this]; exact hc, by rw [World.frozen?_of_block (w := w) this]; exact hf⟩
theorem Wr.later {w w' : World} {a : Option Addr} {n : Nat} (h : Wr w a n) (hb : Below w.heap.size w w') : Wr w' a n := h.keep fun b off e hn => hb.block b (h.lt hn e)
theorem wr_row {B : Nat} {w : World} {v : Value} {xs : List Int} (h : Row B w v xs) (hok : Okb xs) : ∃ a c, v = .slice a xs.length c ∧ Sl w a xs.length c xs ∧ Wr w a xs.length ∧ ∀ b off, a = some ⟨b, off, none⟩ → B ≤ b := by
  obtain ⟨a, c, e, hs⟩ := Sl.ofRow h hok
  refine ⟨a, c, e, hs, fun i hi => ?_, fun b off hb => ?_⟩
  · obtain ⟨hx, b, off, e1, hc⟩ := hs.2.2.2.2.2 i hi
    refine ⟨b, off, xof xs i, e1, hx, hc, ?_⟩
    rcases h.2 with ⟨e2, h0⟩ | ⟨g, cap, cur, e2, _, hg, _⟩
    · omega
    · rw [e, e1] at e2
      simp only [Value.slice.injEq, Option.some.injEq, Addr.mk.injEq, and_true] at e2
      obtain ⟨⟨rfl, rfl⟩, _⟩ := e2
      exact frozen_ofW hg _
  · subst hb
    rcases h.2 with ⟨e2, h0⟩ | ⟨g, cap, cur, e2, hg, _⟩
    · rw [e] at e2; simp at e2
    · rw [e] at e2
      simp only [Value.slice.injEq, Option.some.injEq, Addr.mk.injEq, and_true] at e2
      obtain ⟨⟨rfl, rfl⟩, _⟩ := e2
      exact hg
/-- Bytes behind a row of one's own, as a step of a region that draws. -/
theorem step_appL {ops : Array Oper} {w : World} {o : Oper} {a : Act} {K : Act → World → Prop} {Q : Exit → Act → World → Prop} {E : Prop} {B : Nat} {v : Value} {xs ys : List Int} {ao : Option Addr} {m c : Nat} (hgd : o.guard = none) (s x : Operand)
    (ho : o.op = .call { callee := .builtin .append, args := #[s, x], argTypes := #[25, 25] }) (hs : a.eval s = v) (hrow : Row B w v xs) (hx : a.eval x = .slice ao m c) (hsl : Sl w ao m c ys) (hb : xs.length + m ≤ 140737488355328) (hB : B ≤ w.heap.size)
    (h : ∀ v' w', Row B w' v' (xs ++ ys) → w.grownBy w' v.ownBlock → Moved w v v' → K (a.put o.dst v') w') :
    if Region.wanted o (yielded ops a.tmps) = true then Oper.wp Try.prog o a w K Q else E := by
  have hw : Region.wanted o (yielded ops a.tmps) = true := by simp [Region.wanted, hgd]
  rw [if_pos hw]
  obtain ⟨v', w', hr, h2, h3, h4⟩ := run_app B w o.type v xs hrow ao m c (xof ys) hsl.2.2.1 hsl.2.2.2.2.2 hb hB
  rw [← hsl.1, bs_xof hsl.2.1] at h2
  unfold Oper.wp execOp
  simp only [ho, resolve, invoke, builtin, Sem.run_bind, Sem.run_pure, Result.andThen_ok, List.map_toArray, List.map_cons, List.map_nil, hs, hx, hr]
  exact h _ _ h2 h3 h4
theorem grown_none {w w' : World} (h : w.grownBy w' none) : Below w.heap.size w w' := ⟨h.os, h.tape, h.output, h.size, fun k hk => h.block k hk (by simp)⟩
theorem undrew9 {w w2 : World} {r : Option Nat} (h : w.drew.grownBy w2 r) : w.grownBy w2 r := ⟨h.os, h.tape, h.output, h.size, h.block⟩
theorem below_app {w w2 : World} (h : w.grownBy w2 (Value.slice none 0 0).ownBlock) : Below w.heap.size w w2 := grown_none h
theorem below_app' {w w2 : World} (h : w.drew.grownBy w2 (Value.slice none 0 0).ownBlock) : Below w.heap.size w w2 := grown_none (undrew9 h)
/-- An entry whose key and value are one's own now. -/
structure CpS (wr : World) (o : EntV) (a5 : Option Addr) (c5 : Nat) (a6 : Option Addr) (c6 : Nat) (wx : World) : Prop where
  bx : wx.heap[wr.heap.size]? = some (.cells #[.slice a5 o.key.length c5, .int .i64 o.seq, .bool o.gone, .int .i64 o.till, .slice a6 o.val.length c6] 35 (0, 0))
  sk : Sl wx a5 o.key.length c5 o.key
  sv : Sl wx a6 o.val.length c6 o.val
  wk : Wr wx a5 o.key.length
  wv : Wr wx a6 o.val.length
  nk : ∀ b off, a5 = some ⟨b, off, none⟩ → wr.heap.size < b
  nv : ∀ b off, a6 = some ⟨b, off, none⟩ → wr.heap.size < b
  bel : Below wr.heap.size wr wx
theorem cps_of {wr w6 : World} {o : EntV} {x0 x4 : Value} {a5 a6 : Option Addr} {c5 c6 : Nat} (hb : w6.heap[wr.heap.size]? = some (.cells #[x0, .int .i64 o.seq, .bool o.gone, .int .i64 o.till, x4] 35 (0, 0)))
    (sk : Sl w6 a5 o.key.length c5 o.key) (sv : Sl w6 a6 o.val.length c6 o.val) (wk : Wr w6 a5 o.key.length) (wv : Wr w6 a6 o.val.length) (nk : ∀ b off, a5 = some ⟨b, off, none⟩ → wr.heap.size < b) (nv : ∀ b off, a6 = some ⟨b, off, none⟩ → wr.heap.size < b) (bel : Below wr.heap.size wr w6) :
    CpS wr o a5 c5 a6 c6 ((w6.setCell ⟨wr.heap.size, 0, none⟩ (.slice a5 o.key.length c5)).setCell ⟨wr.heap.size, 4, none⟩ (.slice a6 o.val.length c6)) := by
  have hne : ∀ b, wr.heap.size < b → ((w6.setCell ⟨wr.heap.size, 0, none⟩ (.slice a5 o.key.length c5)).setCell ⟨wr.heap.size, 4, none⟩ (.slice a6 o.val.length c6)).heap[b]? = w6.heap[b]? := fun b hlt => by
    rw [heap_ne _ _ _ (by omega), heap_ne _ _ _ (by omega)]
  refine ⟨heap_setW (heap_setW hb 0 _) 4 _, sk.keep (fun b hr => ?_), sv.keep (fun b hr => ?_), wk.keep (fun b off e _ => hne b (nk b off e)), wv.keep (fun b off e _ => hne b (nv b off e)), nk, nv, below_set (below_set bel _ _ _ (Nat.le_refl _)) _ _ _ (Nat.le_refl _)⟩
  · obtain ⟨off, l, c, e, h0⟩ := hr
    simp only [Value.slice.injEq] at e
    exact hne b (nk b off e.1)
  · obtain ⟨off, l, c, e, h0⟩ := hr
    simp only [Value.slice.injEq] at e
    exact hne b (nv b off e.1)
theorem xor_byte {n : Nat} (h : n < 256) : ∃ m : Nat, m < 256 ∧ bits .xor .u8 (n : Int) 255 = (m : Int) := by
  have e := u8_xor_nat n 255 h (by decide)
  exact ⟨n ^^^ 255, Nat.xor_lt_two_pow (n := 8) h (by decide), e⟩
/-- An entry of one's own that was handed in, and is written now; the mem stays. -/
structure FlS (D : PM) (w : World) (p q : Nat) (L : List EntV) (F : Nat → Prop) (ka : Option Addr) (n kc : Nat) (va : Option Addr) (m vc : Nat) (s1 s2 s3 : Value) (wx : World) : Prop where
  gn : D.N ≤ w.heap.size
  r : D.R wx p L F
  bx : wx.heap[q]? = some (.cells #[.slice ka n kc, s1, s2, s3, .slice va m vc] 35 (0, 0))
  wk : Wr wx ka n
  wv : Wr wx va m
  nk : ∀ b off, ka = some ⟨b, off, none⟩ → 0 < n → ¬ F b ∧ b ≠ q ∧ w.heap.size ≤ b
  nv : ∀ b off, va = some ⟨b, off, none⟩ → 0 < m → ¬ F b ∧ b ≠ q ∧ w.heap.size ≤ b
  bel : Below w.heap.size w wx
theorem FlS.flip {D : PM} {w : World} {p q : Nat} {L : List EntV} {F : Nat → Prop} {ka : Option Addr} {n kc : Nat} {va : Option Addr} {m vc : Nat} {s1 s2 s3 : Value} {wx : World} (h : FlS D w p q L F ka n kc va m vc s1 s2 s3 wx) {b k mm : Nat} (hb : ¬ F b ∧ b ≠ q ∧ w.heap.size ≤ b) (hm : mm < 256) :
    FlS D w p q L F ka n kc va m vc s1 s2 s3 (wx.setCell ⟨b, k, none⟩ (.int .u8 (mm : Int))) :=
  ⟨h.gn, D.same h.r (fun j hj => heap_ne wx k _ (fun e => hb.1 (e ▸ hj))) (fun j hj => heap_ne wx k _ (fun e => by have := h.gn; have := hb.2.2; omega)), (heap_ne wx k _ (Ne.symm hb.2.1)).trans h.bx, h.wk.set b k mm hm, h.wv.set b k mm hm, h.nk, h.nv, below_set h.bel b k _ hb.2.2⟩
theorem FlS.cells {D : PM} {w : World} {p q : Nat} {L : List EntV} {F : Nat → Prop} {ka : Option Addr} {n kc : Nat} {va : Option Addr} {m vc : Nat} {s1 s2 s3 : Value} {wx : World} (h : FlS D w p q L F ka n kc va m vc s1 s2 s3 wx) :
    wx.cell? ⟨q, 0, none⟩ = some (.slice ka n kc) ∧ wx.cell? ⟨q, 4, none⟩ = some (.slice va m vc) := by
  constructor <;> rw [cell_of h.bx] <;> rfl
/-- An entry of a row: its cells among the row's. -/
theorem rsu_ent {w : World} {ao : Option Addr} {len cap : Nat} {us : List Value} {l : List EntV} (h : RSu entE w ao len cap us l) {i : Nat} {x : EntV} (hx : l[i]? = some x) :
    ∃ ka kc va vc, us[i * 5]? = some (.slice ka x.key.length kc) ∧ us[i * 5 + 1]? = some (.int .i64 x.seq) ∧ us[i * 5 + 2]? = some (.bool x.gone) ∧ us[i * 5 + 3]? = some (.int .i64 x.till) ∧ us[i * 5 + 4]? = some (.slice va x.val.length vc) := by
  obtain ⟨h1, h2, h3, h4, h5, h6⟩ := h
  obtain ⟨vs, ⟨ka, kc, va, vc, rfl, _⟩, _, g⟩ := h5.at hx
  exact ⟨ka, kc, va, vc, g 0 _ rfl, g 1 _ rfl, g 2 _ rfl, g 3 _ rfl, g 4 _ rfl⟩
/-- A row that was told, whose bytes are written; all that was there before stays. -/
structure GlS (w3 : World) (B4 g off : Nat) (us : List Value) (wx : World) : Prop where
  bel : Below w3.heap.size w3 wx
  sz : B4 ≤ wx.heap.size
  rc : ∀ (j : Nat) (u : Value), us[j]? = some u → wx.cell? ⟨g, off + j, none⟩ = some u
  wr : ∀ u ∈ us, ∀ a n c, u = .slice a n c → Wr wx a n
  nb : ∀ u ∈ us, ∀ b, Refs u b → w3.heap.size ≤ b ∧ b ≠ g ∧ b < B4
theorem GlS.flip {w3 : World} {B4 g off : Nat} {us : List Value} {wx : World} (h : GlS w3 B4 g off us wx) {b k m : Nat} (hb : w3.heap.size ≤ b ∧ b ≠ g) (hm : m < 256) : GlS w3 B4 g off us (wx.setCell ⟨b, k, none⟩ (.int .u8 (m : Int))) :=
  ⟨below_set h.bel b k _ hb.1, by rw [size_set]; exact h.sz, (fun j u hu => by rw [World.cell?_of_block (w := wx) (a := ⟨g, off + j, none⟩) (heap_ne wx k _ (Ne.symm hb.2))]; exact h.rc j u hu), (fun u hu a n c e => (h.wr u hu a n c e).set b k m hm), h.nb⟩
theorem GlS.later {w3 : World} {B4 g off : Nat} {us : List Value} {wx wy : World} (h : GlS w3 B4 g off us wx) (hb : Below wx.heap.size wx wy) : GlS w3 B4 g off us wy :=
  ⟨h.bel.trans (hb.mono h.bel.size), Nat.le_trans h.sz hb.size, (fun j u hu => cell_later hb (h.rc j u hu)), (fun u hu a n c e => (h.wr u hu a n c e).later hb), h.nb⟩
/-- With one of its entries in a box. -/
def GlB (w3 : World) (B4 g off : Nat) (us : List Value) (q : Nat) (C : Array Value) (wx : World) : Prop := GlS w3 B4 g off us wx ∧ wx.heap[q]? = some (.cells C 35 (0, 0))
theorem GlB.flip {w3 : World} {B4 g off : Nat} {us : List Value} {q : Nat} {C : Array Value} {wx : World} (h : GlB w3 B4 g off us q C wx) (hq : B4 ≤ q) {a : Option Addr} {n c : Nat} (hu : (Value.slice a n c) ∈ us) {b o : Nat} (ha : a = some ⟨b, o, none⟩) (hn : 0 < n) {k m : Nat} (hm : m < 256) : GlB w3 B4 g off us q C (wx.setCell ⟨b, k, none⟩ (.int .u8 (m : Int))) := by
  have h1 := h.1.nb _ hu b ⟨o, n, c, by rw [ha], hn⟩
  exact ⟨h.1.flip ⟨h1.1, h1.2.1⟩ hm, (heap_ne wx k _ (by omega)).trans h.2⟩
theorem GlB.cells {w3 : World} {B4 g off : Nat} {us : List Value} {q : Nat} {x0 x1 x2 x3 x4 : Value} {wx : World} (h : GlB w3 B4 g off us q #[x0, x1, x2, x3, x4] wx) : wx.cell? ⟨q, 0, none⟩ = some x0 ∧ wx.cell? ⟨q, 4, none⟩ = some x4 := by
  constructor <;> rw [cell_of h.2] <;> rfl
theorem gls_begin {w2 w3 : World} {a : Option Addr} {n c g off : Nat} {us : List Value} {l : List EntV} (h : RSu entE w3 a n c us l) (nb : ∀ u ∈ us, ∀ b, Refs u b → w2.heap.size ≤ b ∧ ∀ g off, a = some ⟨g, off, none⟩ → b ≠ g) (wr : ∀ u ∈ us, ∀ a n c, u = .slice a n c → Wr w3 a n) (hb : Below w2.heap.size w2 w3) (ha : a = some ⟨g, off, none⟩) : GlS w2 w3.heap.size g off us w3 := by
  refine ⟨hb, Nat.le_refl _, fun j u hu => ?_, wr, fun u hu b hr => ⟨(nb u hu b hr).1, (nb u hu b hr).2 g off ha, h.2.2.2.2.1.lt u hu b hr⟩⟩
  obtain ⟨b, o, e, hc⟩ := h.2.2.2.2.2 j u hu
  rw [ha] at e
  simp only [Option.some.injEq, Addr.mk.injEq, and_true] at e
  obtain ⟨rfl, rfl⟩ := e
  exact hc
theorem rsu_at {w : World} {ao : Option Addr} {len cap : Nat} {us : List Value} {l : List EntV} (h : RSu entE w ao len cap us l) {j : Nat} {u : Value} (hu : us[j]? = some u) : ∃ g off, ao = some ⟨g, off, none⟩ := by
  obtain ⟨b, o, e, _⟩ := h.2.2.2.2.2 j u hu
  exact ⟨b, o, e⟩
end Go.Proofs.Ytifgojkmdicdmaa

/- The law on growth: greater numbers have no fewer bytes; what was put is taken; a number of a set size is what its bytes hold. -/
namespace Go.Proofs.Ytifgojkmdicdmaa
open Go.RowKit
set_option linter.unusedVariables false

theorem or128_lt {a : Nat} (h : a < 18446744073709551616) : a ||| 128 < 18446744073709551616 := by
  have : a ||| 128 < 2 ^ 64 := Nat.or_lt_two_pow (by omega) (by decide)
  omega
theorem or128_ge (a : Nat) : 128 ≤ a ||| 128 := Nat.right_le_or
theorem or128_64 {a : Nat} (h : a < 18446744073709551616) : bits .or .u64 (a : Int) 128 = ((a ||| 128 : Nat) : Int) := u64_or_nat a 128 h (by decide)

/-- Bytes with their length ahead come back. -/
theorem tbR_put {ls : Nat} {S : Nat → Nat} (hs : ls ≤ 140737488351232) (hok : Okb (bs S ls)) : ∃ E, IsEnd (xof (uv ls ++ bs S ls)) (uv ls ++ bs S ls).length E ∧
    tbR (xof (uv ls ++ bs S ls)) (uv ls ++ bs S ls).length E (ls : Int) = (bs S ls, (((uv ls).length + ls : Nat) : Int), 0) := by
  have hb : Begins (xof (uv ls ++ bs S ls)) (uv ls) := begins_xof ((okb_uv ls).app hok)
  have hl : (uv ls ++ bs S ls).length = (uv ls).length + ls := by simp [bs_length]
  have hp := uv_pos ls
  refine ⟨(uv ls).length - 1, uv_end hb (by omega), ?_⟩
  unfold tbR
  rw [if_pos (by omega), if_pos (uv_good (by omega) hb), uv_val hb, if_neg (by omega), if_neg (by omega)]
  have e : bs (fun k => xof (uv ls ++ bs S ls) ((uv ls).length - 1 + 1 + k)) ls = bs S ls := by
    unfold bs
    apply List.map_congr_left
    intro k hk
    have hk' := List.mem_range.1 hk
    have h1 : (uv ls).length - 1 + 1 + k = (uv ls).length + k := by omega
    show ((xof (uv ls ++ bs S ls) ((uv ls).length - 1 + 1 + k) : Nat) : Int) = (S k : Int)
    rw [h1]
    have h2 : (uv ls ++ bs S ls)[(uv ls).length + k]? = some (S k : Int) := by
      rw [List.getElem?_append_right (by omega)]
      simp [bs, hk']
    have h3 : xof (uv ls ++ bs S ls) ((uv ls).length + k) = S k := by
      unfold xof
      rw [List.getD_eq_getElem?_getD, h2]
      simp
    rw [h3]
  rw [e]
  congr 2
  omega

theorem shl_shr (a t s : Nat) (h : t + 8 * s = 64) : IntKind.u64.wrap ((a : Int) * 2 ^ t) / 2 ^ t = ((a % 256 ^ s : Nat) : Int) := by
  have e1 : (a : Int) * 2 ^ t = ((a * 2 ^ t : Nat) : Int) := by push_cast; rfl
  rw [e1, wrapU64_nat]
  have e2 : ((2 : Int) ^ t) = ((2 ^ t : Nat) : Int) := by push_cast; rfl
  rw [e2]
  have e3 : 18446744073709551616 = 256 ^ s * 2 ^ t := by
    rw [show (256 : Nat) = 2 ^ 8 from rfl, ← Nat.pow_mul, ← Nat.pow_add, show 8 * s + t = 64 by omega]
  have e4 : a * 2 ^ t % (256 ^ s * 2 ^ t) = a % 256 ^ s * 2 ^ t := Nat.mul_mod_mul_right _ _ _
  rw [e3, e4]
  have e5 : a % 256 ^ s * 2 ^ t / 2 ^ t = a % 256 ^ s := Nat.mul_div_cancel _ (Nat.pow_pos (by decide))
  rw [← Int.natCast_ediv, e5]

/-- A slice of bytes that was made: its shape and what it holds. -/
def Made (w w' : World) (e : Ending) (L : List Int) : Prop :=
  ∃ ao cap, e = .returned (.slice ao L.length cap) ∧ (ao = none → L.length = 0 ∧ cap = 0) ∧ L.length ≤ cap ∧ cap ≤ maxLen ∧ Byt w' ao L.length (xof L) ∧ Below w.heap.size w w'
theorem made_row {w w' : World} {e : Ending} {L : List Int} (hok : Okb L) (h : ∃ v', e = .returned v' ∧ Row w.heap.size w' v' L ∧ Below w.heap.size w w') : Made w w' e L := by
  obtain ⟨v, rfl, hr, hb⟩ := h
  obtain ⟨ao, cap, rfl, q1, q2, q3, q4⟩ := hr.byt hok
  exact ⟨ao, cap, rfl, q1, q2, q3, q4, hb⟩
theorem pb_made (so : Option Addr) (ls cs : Nat) (S : Nat → Nat) (w : World) (hs : Byt w so ls S) (hnil : so = none → ls = 0 ∧ cs = 0) (hls : ls ≤ 140737488351232) :
    Calls Try.prog 47 #[.slice none 0 0, .slice so ls cs] w fun e w' => Made w w' e (uv ls ++ bs S ls) := by
  have h := pby_any none so 0 0 ls cs (fun _ => 0) S w (fun k hk => by cases hk) (fun _ => ⟨rfl, rfl⟩) hs hnil (by omega)
  simp only [show bs (fun _ => 0) 0 = [] from rfl, List.nil_append] at h
  exact h.mono fun e w' h => made_row ((okb_uv ls).app (okb_bs hs)) h
theorem tb_made {ls : Nat} {S : Nat → Nat} (ao : Option Addr) (cap : Nat) (w : World) (hls : ls ≤ 140737488351232) (hok : Okb (bs S ls)) (hb : Byt w ao (uv ls ++ bs S ls).length (xof (uv ls ++ bs S ls))) (hl : (uv ls ++ bs S ls).length ≤ cap) (hc : cap ≤ maxLen) :
    Calls Try.prog 65 #[.slice ao (uv ls ++ bs S ls).length cap, .int .i64 (ls : Int)] w fun e w' => ∃ ao2 cap2, e = .returned (.tuple #[.slice ao2 ls cap2, .int .i64 (((uv ls).length : Int) + (ls : Int)), .int .i64 0]) ∧ (ao2 = none → ls = 0 ∧ cap2 = 0) ∧ Byt w' ao2 ls (xof (bs S ls)) ∧ Below w.heap.size w w' := by
  obtain ⟨E, hE, hR⟩ := tbR_put hls hok
  have hu := uv_len64 (n := ls) (by omega)
  have hlen : (uv ls ++ bs S ls).length = (uv ls).length + ls := by simp [bs_length]
  have h := tby_any ao _ cap E _ (ls : Int) w hb hl hc (by omega) hE (by omega)
  rw [hR] at h
  refine h.mono fun e w' ⟨ao2, cap2, he, q1, _, _, q4, q5, _⟩ => ?_
  simp only [bs_length] at he q1 q4
  exact ⟨ao2, cap2, by rw [he]; congr 5, q1, q4, q5⟩
theorem fix_made (n : Nat) (size : Int) (w : World) : Calls Try.prog 44 #[.slice none 0 0, .int .u64 (n : Int), .int .i64 size] w fun e w' => Made w w' e (fxs n size) := by
  have h := fixed_any none 0 0 n (fun _ => 0) size w (fun k hk => by cases hk) (fun _ => ⟨rfl, rfl⟩) (by omega)
  simp only [show bs (fun _ => 0) 0 = [] from rfl, List.nil_append] at h
  exact h.mono fun e w' h => made_row (okb_fxs n size) h
theorem fix_read (n s : Nat) (h1 : 1 ≤ s) (h8 : s ≤ 8) (ao : Option Addr) (cap : Nat) (w : World) (hb : Byt w ao (fxs n (s : Int)).length (xof (fxs n (s : Int)))) (hl : (fxs n (s : Int)).length ≤ cap) :
    Calls Try.prog 50 #[.slice ao (fxs n (s : Int)).length cap, .int .i64 (s : Int)] w fun e w' => e = .returned (.tuple #[.int .u64 ((n % 256 ^ s : Nat) : Int), .int .i64 0]) ∧ w' = w := by
  have hin : InSize (s : Int) := ⟨by omega, by omega⟩
  have e1 : fxs n (s : Int) = fx n s := by unfold fxs; rw [if_pos hin]; rfl
  rw [e1] at hb hl ⊢
  have h := read_any ao _ cap _ (s : Int) w hb hl
  have e2 : readV (xof (fx n s)) (fx n s).length (s : Int) = .tuple #[.int .u64 ((n % 256 ^ s : Nat) : Int), .int .i64 0] := by
    unfold readV
    rw [if_pos hin, fx_length, if_neg (by omega), Int.toNat_natCast]
    have h2 := fv_fx n s (xof (fx n s)) 0 0 (fun k hk => by
      have := begins_xof' (okb_fx n s) k (by rw [fx_length]; exact hk)
      rw [Nat.zero_add]
      exact this) rfl
    simp only [Nat.zero_add, Nat.zero_mul] at h2
    rw [h2]
  rw [e2] at h
  exact h

end Go.Proofs.Ytifgojkmdicdmaa

/- The document's own sums. -/
namespace Go.Proofs.Ytifgojkmdicdmaa
open Go.RowKit
set_option linter.unusedVariables false

/-- The first n bytes that X tells, as natural numbers. -/
def bl (X : Nat → Nat) (n : Nat) : List Nat := (List.range n).map X
theorem bl_succ (X : Nat → Nat) (n : Nat) : bl X (n + 1) = bl X n ++ [X n] := by simp [bl, List.range_succ]
theorem bl_length (X : Nat → Nat) (n : Nat) : (bl X n).length = n := by simp [bl]
theorem bl_lt {w : World} {ao : Option Addr} {len : Nat} {X : Nat → Nat} (h : Byt w ao len X) {n : Nat} (hn : n ≤ len) : ∀ x ∈ bl X n, x < 256 := fun x hx => by
  obtain ⟨k, hk, rfl⟩ := List.mem_map.1 hx
  exact (h k (by have := List.mem_range.1 hk; omega)).1
theorem crcs_bl (s : Nat) (X : Nat → Nat) (n : Nat) : crcs s (bl X (n + 1)) = upd8 (crcs s (bl X n)) (X n) := by
  rw [bl_succ, crcs_append, crcs_cons, crcs_nil]

theorem not32 {a : Nat} (h : a < 4294967296) : bits .xor .u32 IntKind.u32.max (a : Int) = ((a ^^^ ones : Nat) : Int) := by
  have e : IntKind.u32.max = ((4294967295 : Nat) : Int) := by simp [IntKind.max, IntKind.bits, IntKind.signed]
  rw [e, u32_xor_nat _ _ (by decide) h, Nat.xor_comm]
  rfl
theorem and1_32 {t : Nat} (h : t < 4294967296) : bits .and .u32 (t : Int) 1 = ((t % 2 : Nat) : Int) := by
  have := u32_and_nat t 1 h (by decide)
  rw [Nat.and_one_is_mod] at this
  exact this
theorem xorP {a : Nat} (h : a < 4294967296) : bits .xor .u32 (a : Int) 2197175160 = ((a ^^^ poly : Nat) : Int) := u32_xor_nat a 2197175160 h (by decide)
theorem stps_succ (g t : Nat) : stps (g + 1) t = stps g (stp t) := rfl

end Go.Proofs.Ytifgojkmdicdmaa
