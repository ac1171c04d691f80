/- The document's own TakeBatch: bytes as a batch. -/
import Derived.Test.YtcielnkkbccldaaRrd
namespace Go.Proofs.Ytcielnkkbccldaa
open Go.RowKit
set_option linter.unusedVariables false
set_option linter.unusedSimpArgs false

/-- The places: the answer's, the reader's, the batch's; all ahead of B, behind what was there. -/
structure Pl (w0 : World) (R p q B : Nat) : Prop where
  hR : w0.heap.size ≤ R
  hp : R < p
  hq : p < q
  hB : q < B
/-- Where the walk stands: the reader, the batch, the answer's place. -/
structure TB (w0 : World) (R p q B : Nat) (wx : World) (s : Int) (v : Value) (ops : List OpV) (st : Rd) : Prop where
  rd : RdAt wx p st
  bq : wx.heap[q]? = some (.cells #[.int .i64 s, v] 24 (0, 0))
  bR : wx.heap[R]? = some (.cells #[.int .i64 0, .slice none 0 0] 24 (0, 0))
  row : RowF opE B (fun b => B ≤ b) wx v ops
  bel : Below w0.heap.size w0 wx
  sz : B ≤ wx.heap.size
theorem TB.read {w0 : World} {R p q B : Nat} (P : Pl w0 R p q B) {wx wy : World} {s : Int} {v : Value} {ops : List OpV} {st st' : Rd} (h : TB w0 R p q B wx s v ops st) (hg : wx.grownBy wy (some p)) (hr : RdAt wy p st') : TB w0 R p q B wy s v ops st' := by
  have h1 := P.hR
  have h2 := P.hp
  have h3 := P.hq
  have h4 := P.hB
  have h5 := h.sz
  refine ⟨hr, ?_, ?_, h.row.grown hg (fun b e e' => ?_) (fun b e e' => ?_), Below.grown h.bel hg h.bel.size (fun k e => ?_), Nat.le_trans h.sz hg.size⟩
  · rw [hg.block q (by omega) (fun e => by simp only [Option.some.injEq] at e; omega)]; exact h.bq
  · rw [hg.block R (by omega) (fun e => by simp only [Option.some.injEq] at e; omega)]; exact h.bR
  · have := (h.row.own_lt e).1
    simp only [Option.some.injEq] at e'
    omega
  · simp only [Option.some.injEq] at e'
    omega
  · simp only [Option.some.injEq] at e
    omega
/-- The same with a change under way, at ob. -/
structure TC (w0 : World) (R p q B ob : Nat) (wx : World) (s : Int) (v : Value) (ops : List OpV) (C : Array Value) (st : Rd) : Prop where
  rd : RdAt wx p st
  bq : wx.heap[q]? = some (.cells #[.int .i64 s, v] 24 (0, 0))
  bR : wx.heap[R]? = some (.cells #[.int .i64 0, .slice none 0 0] 24 (0, 0))
  bo : wx.heap[ob]? = some (.cells C 42 (0, 0))
  row : RowF opE B (fun b => B ≤ b ∧ b < ob) wx v ops
  own : ∀ b, v.ownBlock = some b → b < ob
  bel : Below w0.heap.size w0 wx
  sz : B ≤ ob
theorem TC.begin {w0 : World} {R p q B : Nat} {wx : World} {s : Int} {v : Value} {ops : List OpV} {st : Rd} (h : TB w0 R p q B wx s v ops st) (C : Array Value) : TC w0 R p q B wx.heap.size (wx.alloc (.cells C 42)) s v ops C st := by
  have hb : Below wx.heap.size wx (wx.alloc (.cells C 42)) := (Below.refl _ wx).alloc (Nat.le_refl _) _
  exact ⟨h.rd.later hb, (hb.block q (Array.getElem?_eq_some_iff.1 h.bq).1).trans h.bq, (hb.block R (Array.getElem?_eq_some_iff.1 h.bR).1).trans h.bR, heap_alloc_new wx _, h.row.strong.later hb, fun b e => (h.row.own_lt e).2, h.bel.trans (hb.mono h.bel.size), h.sz⟩
theorem TC.read {w0 : World} {R p q B ob : Nat} (P : Pl w0 R p q B) {wx wy : World} {s : Int} {v : Value} {ops : List OpV} {C : Array Value} {st st' : Rd} (h : TC w0 R p q B ob wx s v ops C st) (hg : wx.grownBy wy (some p)) (hr : RdAt wy p st') : TC w0 R p q B ob wy s v ops C st' := by
  have h1 := P.hR
  have h2 := P.hp
  have h3 := P.hq
  have h4 := P.hB
  have h5 := h.sz
  refine ⟨hr, ?_, ?_, ?_, h.row.grown hg (fun b e e' => ?_) (fun b e e' => ?_), h.own, Below.grown h.bel hg h.bel.size (fun k e => ?_), h.sz⟩
  · rw [hg.block q (Array.getElem?_eq_some_iff.1 h.bq).1 (fun e => by simp only [Option.some.injEq] at e; omega)]; exact h.bq
  · rw [hg.block R (Array.getElem?_eq_some_iff.1 h.bR).1 (fun e => by simp only [Option.some.injEq] at e; omega)]; exact h.bR
  · rw [hg.block ob (Array.getElem?_eq_some_iff.1 h.bo).1 (fun e => by simp only [Option.some.injEq] at e; omega)]; exact h.bo
  · have := (h.row.own_lt e).1
    simp only [Option.some.injEq] at e'
    omega
  · simp only [Option.some.injEq] at e'
    omega
  · simp only [Option.some.injEq] at e
    omega
theorem TC.set {w0 : World} {R p q B ob : Nat} (P : Pl w0 R p q B) {wx : World} {s : Int} {v : Value} {ops : List OpV} {C : Array Value} {st : Rd} (h : TC w0 R p q B ob wx s v ops C st) (k : Nat) (u : Value) : TC w0 R p q B ob (wx.setCell ⟨ob, k, none⟩ u) s v ops (C.setIfInBounds k u) st := by
  have h1 := P.hR
  have h2 := P.hp
  have h3 := P.hq
  have h4 := P.hB
  have h5 := h.sz
  have hg := grown_set wx ob k u
  refine ⟨h.rd.grown hg (by omega), ?_, ?_, heap_set h.bo k u, h.row.grown hg (fun b e e' => ?_) (fun b e e' => ?_), h.own, Below.grown h.bel hg h.bel.size (fun k e => ?_), h.sz⟩
  · rw [hg.block q (Array.getElem?_eq_some_iff.1 h.bq).1 (fun e => by simp only [Option.some.injEq] at e; omega)]; exact h.bq
  · rw [hg.block R (Array.getElem?_eq_some_iff.1 h.bR).1 (fun e => by simp only [Option.some.injEq] at e; omega)]; exact h.bR
  · have := h.own b e
    simp only [Option.some.injEq] at e'
    omega
  · simp only [Option.some.injEq] at e'
    omega
  · simp only [Option.some.injEq] at e
    omega
/-- Bytes behind ob. -/
def Sb (ob : Nat) (w : World) (a : Option Addr) (c : Nat) (xs : List Int) : Prop := Sl w a xs.length c xs ∧ ∀ b, Refs (.slice a xs.length c) b → ob < b
theorem Sb.grown {ob r : Nat} {w w' : World} {a : Option Addr} {c : Nat} {xs : List Int} (h : Sb ob w a c xs) (hg : w.grownBy w' (some r)) (hr : r ≤ ob) : Sb ob w' a c xs :=
  ⟨h.1.keep fun b hb => hg.block b (h.1.lt hb) (fun e => by simp only [Option.some.injEq] at e; have := h.2 b hb; omega), h.2⟩
theorem Sb.nil (ob : Nat) (w : World) : Sb ob w none 0 [] := ⟨Sl.nil w, fun b hr => by obtain ⟨_, _, _, e, h0⟩ := hr; cases e⟩
theorem sb_row {ob : Nat} {w w' : World} {v : Value} {xs : List Int} (h : Row w.heap.size w' v xs) (hob : ob < w.heap.size) (hok : Okb xs) : ∃ a c, v = .slice a xs.length c ∧ Sb ob w' a c xs := by
  obtain ⟨a, c, e, hs⟩ := Sl.ofRow h hok
  subst e
  refine ⟨a, c, rfl, hs, fun b hr => ?_⟩
  obtain ⟨off, l, c', e, h0⟩ := hr
  simp only [Value.slice.injEq] at e
  obtain ⟨rfl, rfl, rfl⟩ := e
  have := (World.ownsRow.lt h b rfl).1
  omega
/-- A change is done: it stands in the batch. -/
theorem TC.done {w0 : World} {R p q B ob : Nat} (P : Pl w0 R p q B) {wx wy : World} {s : Int} {v v' : Value} {ops ops' : List OpV} {C : Array Value} {st : Rd} (h : TC w0 R p q B ob wx s v ops C st) (hg : wx.grownBy wy v.ownBlock) (hr : RowF opE B (fun b => B ≤ b) wy v' ops') :
    TB w0 R p q B (wy.setCell ⟨q, 1, none⟩ v') s v' ops' st := by
  have h1 := P.hR
  have h2 := P.hp
  have h3 := P.hq
  have h4 := P.hB
  have h5 := h.sz
  have hge : ∀ b, v.ownBlock = some b → B ≤ b := fun b e => (h.row.own_lt e).1
  have hne : ∀ k, k < B → some k ≠ v.ownBlock := fun k hk e => by have := hge k e.symm; omega
  have ew : ∀ k, k < B → k < wx.heap.size → wy.heap[k]? = wx.heap[k]? := fun k hk hl => hg.block k hl (hne k hk)
  have hg2 := grown_set wy q 1 v'
  have lq := (Array.getElem?_eq_some_iff.1 h.bq).1
  have lR := (Array.getElem?_eq_some_iff.1 h.bR).1
  have lo := (Array.getElem?_eq_some_iff.1 h.bo).1
  have lp := h.rd.lt
  have hrd : RdAt wy p st := by
    obtain ⟨a, len, cap, q1, q2, q3, q4⟩ := h.rd
    exact ⟨a, len, cap, by rw [ew p (by omega) lp]; exact q1, q2.keep fun b hb => ew b (by have := q3 b hb; omega) (q2.lt hb), q3, q4⟩
  refine ⟨hrd.grown hg2 h3, ?_, ?_, hr.grown hg2 (fun b e e' => ?_) (fun b e e' => ?_), Below.grown (Below.grown h.bel hg h.bel.size fun k e => ?_) hg2 (Nat.le_trans h.bel.size hg.size) (fun k e => ?_), ?_⟩
  · have : wy.heap[q]? = some (.cells #[.int .i64 s, v] 24 (0, 0)) := by rw [ew q h4 lq]; exact h.bq
    exact heap_set this 1 v'
  · rw [hg2.block R (by have := hg.size; omega) (fun e => by simp only [Option.some.injEq] at e; omega), ew R (by omega) lR]; exact h.bR
  · have := (hr.own_lt e).1
    simp only [Option.some.injEq] at e'
    omega
  · simp only [Option.some.injEq] at e'
    omega
  · have := hge k e
    omega
  · simp only [Option.some.injEq] at e
    omega
  · have := hg.size
    simp [World.setCell]
    omega
theorem TC.alloc {w0 : World} {R p q B ob : Nat} {wx : World} {s : Int} {v : Value} {ops : List OpV} {C : Array Value} {st : Rd} (h : TC w0 R p q B ob wx s v ops C st) (o : Obj) : TC w0 R p q B ob (wx.alloc o) s v ops C st := by
  have hb : Below wx.heap.size wx (wx.alloc o) := (Below.refl _ wx).alloc (Nat.le_refl _) _
  exact ⟨h.rd.later hb, (hb.block q (Array.getElem?_eq_some_iff.1 h.bq).1).trans h.bq, (hb.block R (Array.getElem?_eq_some_iff.1 h.bR).1).trans h.bR, (hb.block ob (Array.getElem?_eq_some_iff.1 h.bo).1).trans h.bo, h.row.later hb, h.own, h.bel.trans (hb.mono h.bel.size), h.sz⟩
theorem TC.keepq {w0 : World} {R p q B ob : Nat} (P : Pl w0 R p q B) {wx wy : World} {s : Int} {v : Value} {ops : List OpV} {C : Array Value} {st : Rd} (h : TC w0 R p q B ob wx s v ops C st) (hg : wx.grownBy wy v.ownBlock) : wy.cell? ⟨q, 1, none⟩ = some v ∧ wy.frozen? ⟨q, 1, none⟩ = false := by
  have e : wy.heap[q]? = some (.cells #[.int .i64 s, v] 24 (0, 0)) := by
    rw [hg.block q (Array.getElem?_eq_some_iff.1 h.bq).1 (fun e => by have := (h.row.own_lt e.symm).1; have := P.hB; omega)]
    exact h.bq
  exact ⟨by rw [cell_of e]; rfl, frozen_of e 1⟩
theorem TC.facts {w0 : World} {R p q B ob : Nat} {wx : World} {s : Int} {v c0 c1 c2 c3 : Value} {ops : List OpV} {st : Rd} (h : TC w0 R p q B ob wx s v ops #[c0, c1, c2, c3] st) :
    wx.cell? ⟨ob, 0, none⟩ = some c0 ∧ wx.cell? ⟨ob, 1, none⟩ = some c1 ∧ wx.cell? ⟨ob, 2, none⟩ = some c2 ∧ wx.cell? ⟨ob, 3, none⟩ = some c3 ∧ wx.frozen? ⟨ob, 0, none⟩ = false ∧ wx.frozen? ⟨ob, 2, none⟩ = false ∧ wx.frozen? ⟨ob, 3, none⟩ = false ∧ wx.cell? ⟨q, 1, none⟩ = some v :=
  ⟨by rw [cell_of h.bo]; rfl, by rw [cell_of h.bo]; rfl, by rw [cell_of h.bo]; rfl, by rw [cell_of h.bo]; rfl, frozen_of h.bo 0, frozen_of h.bo 2, frozen_of h.bo 3, by rw [cell_of h.bq]; rfl⟩
/-- A change that is whole may be put into the batch. -/
theorem TC.ready {w0 : World} {R p q B ob : Nat} {wx : World} {s : Int} {v : Value} {ops : List OpV} {ka va : Option Addr} {kc vc : Nat} {o : OpV} {st : Rd} (h : TC w0 R p q B ob wx s v ops #[.slice ka o.key.length kc, .bool o.gone, .int .i64 o.till, .slice va o.val.length vc] st) (hk : Sb ob wx ka kc o.key) (hv : Sb ob wx va vc o.val) (ht : In64 o.till) :
    RowF opE B (fun b => B ≤ b) (wx.alloc (.cells #[.slice ka o.key.length kc, .bool o.gone, .int .i64 o.till, .slice va o.val.length vc] 42)) v ops ∧
    RSu opE (wx.alloc (.cells #[.slice ka o.key.length kc, .bool o.gone, .int .i64 o.till, .slice va o.val.length vc] 42)) (some ⟨wx.heap.size, 0, none⟩) 1 1 [.slice ka o.key.length kc, .bool o.gone, .int .i64 o.till, .slice va o.val.length vc] [o] ∧
    (∀ u ∈ [Value.slice ka o.key.length kc, .bool o.gone, .int .i64 o.till, .slice va o.val.length vc], ∀ b, Refs u b → v.ownBlock ≠ some b) ∧
    (∀ u ∈ [Value.slice ka o.key.length kc, .bool o.gone, .int .i64 o.till, .slice va o.val.length vc], ∀ b, Refs u b → B ≤ b) ∧
    B ≤ (wx.alloc (.cells #[.slice ka o.key.length kc, .bool o.gone, .int .i64 o.till, .slice va o.val.length vc] 42)).heap.size ∧
    TC w0 R p q B ob (wx.alloc (.cells #[.slice ka o.key.length kc, .bool o.gone, .int .i64 o.till, .slice va o.val.length vc] 42)) s v ops #[.slice ka o.key.length kc, .bool o.gone, .int .i64 o.till, .slice va o.val.length vc] st := by
  have hT := h.alloc (.cells #[.slice ka o.key.length kc, .bool o.gone, .int .i64 o.till, .slice va o.val.length vc] 42)
  have hM : opE.M wx [.slice ka o.key.length kc, .bool o.gone, .int .i64 o.till, .slice va o.val.length vc] o := ⟨ka, kc, va, vc, rfl, hk.1, hv.1, ht⟩
  have hgt : ∀ u ∈ [Value.slice ka o.key.length kc, .bool o.gone, .int .i64 o.till, .slice va o.val.length vc], ∀ b, Refs u b → ob < b := fun u hu b hr => by
    simp only [List.mem_cons, List.not_mem_nil, or_false] at hu
    rcases hu with rfl | rfl | rfl | rfl
    · exact hk.2 b hr
    · exact (refs_bool hr).elim
    · exact (refs_int hr).elim
    · exact hv.2 b hr
  refine ⟨hT.row.weak fun b x => x.1, rs_one hM, fun u hu b hr e => ?_, fun u hu b hr => ?_, ?_, hT⟩
  · have := hgt u hu b hr
    have := h.own b e
    omega
  · have := hgt u hu b hr
    have := h.sz
    omega
  · have := h.sz
    have := (Array.getElem?_eq_some_iff.1 hT.bo).1
    omega
theorem TB.later {w0 : World} {R p q B : Nat} {wx wy : World} {s : Int} {v : Value} {ops : List OpV} {st : Rd} (h : TB w0 R p q B wx s v ops st) (hb : Below wx.heap.size wx wy) : TB w0 R p q B wy s v ops st :=
  ⟨h.rd.later hb, (hb.block q (Array.getElem?_eq_some_iff.1 h.bq).1).trans h.bq, (hb.block R (Array.getElem?_eq_some_iff.1 h.bR).1).trans h.bR, h.row.later hb, h.bel.trans (hb.mono h.bel.size), Nat.le_trans h.sz hb.size⟩
theorem TB.sete {w0 : World} {R p q B : Nat} (P : Pl w0 R p q B) {wx : World} {s : Int} {v : Value} {ops : List OpV} {st : Rd} (h : TB w0 R p q B wx s v ops st) (er : Nat) : TB w0 R p q B (wx.setCell ⟨p, 1, none⟩ (.int .i64 (er : Nat))) s v ops (st.1, er) := h.read P (grown_set _ _ _ _) (h.rd.sete er)
theorem TB.facts {w0 : World} {R p q B : Nat} {wx : World} {s : Int} {v : Value} {ops : List OpV} {st : Rd} (h : TB w0 R p q B wx s v ops st) :
    wx.cell? ⟨p, 1, none⟩ = some (.int .i64 (st.2 : Nat)) ∧ wx.frozen? ⟨p, 1, none⟩ = false ∧ wx.cell? ⟨q, 0, none⟩ = some (.int .i64 s) ∧ wx.cell? ⟨q, 1, none⟩ = some v ∧ wx.cell? ⟨R, 0, none⟩ = some (.int .i64 0) ∧ wx.cell? ⟨R, 1, none⟩ = some (.slice none 0 0) ∧ wx.frozen? ⟨R, 0, none⟩ = false ∧ wx.frozen? ⟨R, 1, none⟩ = false :=
  ⟨h.rd.cells.1, h.rd.cells.2, by rw [cell_of h.bq]; rfl, by rw [cell_of h.bq]; rfl, by rw [cell_of h.bR]; rfl, by rw [cell_of h.bR]; rfl, frozen_of h.bR 0, frozen_of h.bR 1⟩
theorem TB.rs {w0 : World} {R p q B : Nat} {wx : World} {s : Int} {a : Option Addr} {n c : Nat} {ops : List OpV} {st : Rd} (h : TB w0 R p q B wx s (.slice a n c) ops st) : RS opE wx a n c ops := by
  obtain ⟨a', c', e, hs⟩ := h.row.s.rs
  simp only [Value.slice.injEq] at e
  obtain ⟨rfl, rfl, rfl⟩ := e
  exact hs
/-- The answer is laid. -/
theorem TB.fin {w0 : World} {R p q B : Nat} (P : Pl w0 R p q B) {wx : World} {s : Int} {v : Value} {ops : List OpV} {st : Rd} (h : TB w0 R p q B wx s v ops st) (x y : Value) :
    ((wx.setCell ⟨R, 0, none⟩ x).setCell ⟨R, 1, none⟩ y).cell? ⟨R, 0, none⟩ = some x ∧ ((wx.setCell ⟨R, 0, none⟩ x).setCell ⟨R, 1, none⟩ y).cell? ⟨R, 1, none⟩ = some y ∧ RowF opE B (fun b => B ≤ b) ((wx.setCell ⟨R, 0, none⟩ x).setCell ⟨R, 1, none⟩ y) v ops ∧ Below w0.heap.size w0 ((wx.setCell ⟨R, 0, none⟩ x).setCell ⟨R, 1, none⟩ y) := by
  have h1 := P.hR
  have h2 := P.hp
  have h3 := P.hq
  have h4 := P.hB
  have hg := grown_trans (grown_set wx R 0 x) (grown_set (wx.setCell ⟨R, 0, none⟩ x) R 1 y)
  have hb := heap_set (heap_set h.bR 0 x) 1 y
  refine ⟨by rw [cell_of hb]; rfl, by rw [cell_of hb]; rfl, h.row.grown hg (fun b e e' => ?_) (fun b e e' => ?_), Below.grown h.bel hg h.bel.size fun k e => ?_⟩
  · have := (h.row.own_lt e).1
    simp only [Option.some.injEq] at e'
    omega
  · simp only [Option.some.injEq] at e'
    omega
  · simp only [Option.some.injEq] at e
    omega
theorem deOs_step {n : Nat} {st : Rd} {T : List OpV × Rd} {acc : List OpV} (h : T = (acc ++ (deOs (n + 1) st).1, (deOs (n + 1) st).2)) :
    ((deO st).2.2 ≠ 0 → T = (acc ++ [(deO st).1], (deO st).2)) ∧ ((deO st).2.2 = 0 → T = (acc ++ [(deO st).1] ++ (deOs n (deO st).2).1, (deOs n (deO st).2).2)) := by
  rw [deOs] at h
  constructor
  · intro q
    rw [if_pos q] at h
    exact h
  · intro q
    rw [if_neg (by simpa using q)] at h
    rw [h]
    simp
end Go.Proofs.Ytcielnkkbccldaa
