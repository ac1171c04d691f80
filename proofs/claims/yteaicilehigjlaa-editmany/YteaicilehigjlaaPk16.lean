import Derived.Deep.RegionHeldLaw
import Derived.Deep.RegionLaw
import Derived.Test.YteaicilehigjlaaPk01
import Derived.Test.YteaicilehigjlaaPk10
import Derived.Test.YteaicilehigjlaaPk12
import Derived.Test.YteaicilehigjlaaPk15
/- The document's own TakeEdit: bytes as an edit. -/
namespace Go.Proofs.Yteaicilehigjlaa
open Go.RowKit
set_option linter.unusedVariables false
set_option linter.unusedSimpArgs false

/-- Where the walk stands: the reader, the edit, the answer's place. -/
structure TE (w0 : World) (R p q B : Nat) (wx : World) (s : Int × Int × Int) (v : Value) (ops : List LnV) (st : Rd) : Prop where
  rd : RdAt wx p st
  bq : wx.heap[q]? = some (.cells #[.int .i64 s.1, .int .i64 s.2.1, .int .i64 s.2.2, v, .slice none 0 0] 30 (0, 0))
  bR : wx.heap[R]? = some (.cells #[.int .i64 0, .int .i64 0, .int .i64 0, .slice none 0 0, .slice none 0 0] 30 (0, 0))
  row : RowF lnE B (fun b => B ≤ b) wx v ops
  bel : Below w0.heap.size w0 wx
  sz : B ≤ wx.heap.size
theorem TE.read {w0 : World} {R p q B : Nat} (P : Pl w0 R p q B) {wx wy : World} {s : Int × Int × Int} {v : Value} {ops : List LnV} {st st' : Rd} (h : TE w0 R p q B wx s v ops st) (hg : wx.grownBy wy (some p)) (hr : RdAt wy p st') : TE w0 R p q B wy s v ops st' := by
  have h1 := P.hR
  have h2 := P.hp
  have h3 := P.hq
  have h4 := P.hB
  have h5 := h.sz
  refine ⟨hr, ?_, ?_, h.row.grown hg (fun b e e' => ?_) (fun b e e' => ?_), Below.grown h.bel hg h.bel.size (fun k e => ?_), Nat.le_trans h.sz hg.size⟩
  · rw [hg.block q (by omega) (fun e => by simp only [Option.some.injEq] at e; omega)]; exact h.bq
  · rw [hg.block R (by omega) (fun e => by simp only [Option.some.injEq] at e; omega)]; exact h.bR
  · have := (h.row.own_lt e).1
    simp only [Option.some.injEq] at e'
    omega
  · simp only [Option.some.injEq] at e'
    omega
  · simp only [Option.some.injEq] at e
    omega
/-- The same with a line under way, at ob. -/
structure TF (w0 : World) (R p q B ob : Nat) (wx : World) (s : Int × Int × Int) (v : Value) (ops : List LnV) (C : Array Value) (st : Rd) : Prop where
  rd : RdAt wx p st
  bq : wx.heap[q]? = some (.cells #[.int .i64 s.1, .int .i64 s.2.1, .int .i64 s.2.2, v, .slice none 0 0] 30 (0, 0))
  bR : wx.heap[R]? = some (.cells #[.int .i64 0, .int .i64 0, .int .i64 0, .slice none 0 0, .slice none 0 0] 30 (0, 0))
  bo : wx.heap[ob]? = some (.cells C 24 (0, 0))
  row : RowF lnE B (fun b => B ≤ b ∧ b < ob) wx v ops
  own : ∀ b, v.ownBlock = some b → b < ob
  bel : Below w0.heap.size w0 wx
  sz : B ≤ ob
theorem TF.begin {w0 : World} {R p q B : Nat} {wx : World} {s : Int × Int × Int} {v : Value} {ops : List LnV} {st : Rd} (h : TE w0 R p q B wx s v ops st) (C : Array Value) : TF w0 R p q B wx.heap.size (wx.alloc (.cells C 24)) s v ops C st := by
  have hb : Below wx.heap.size wx (wx.alloc (.cells C 24)) := (Below.refl _ wx).alloc (Nat.le_refl _) _
  exact ⟨h.rd.later hb, (hb.block q (Array.getElem?_eq_some_iff.1 h.bq).1).trans h.bq, (hb.block R (Array.getElem?_eq_some_iff.1 h.bR).1).trans h.bR, heap_alloc_new wx _, h.row.strong.later hb, fun b e => (h.row.own_lt e).2, h.bel.trans (hb.mono h.bel.size), h.sz⟩
theorem TF.read {w0 : World} {R p q B ob : Nat} (P : Pl w0 R p q B) {wx wy : World} {s : Int × Int × Int} {v : Value} {ops : List LnV} {C : Array Value} {st st' : Rd} (h : TF w0 R p q B ob wx s v ops C st) (hg : wx.grownBy wy (some p)) (hr : RdAt wy p st') : TF w0 R p q B ob wy s v ops C st' := by
  have h1 := P.hR
  have h2 := P.hp
  have h3 := P.hq
  have h4 := P.hB
  have h5 := h.sz
  refine ⟨hr, ?_, ?_, ?_, h.row.grown hg (fun b e e' => ?_) (fun b e e' => ?_), h.own, Below.grown h.bel hg h.bel.size (fun k e => ?_), h.sz⟩
  · rw [hg.block q (Array.getElem?_eq_some_iff.1 h.bq).1 (fun e => by simp only [Option.some.injEq] at e; omega)]; exact h.bq
  · rw [hg.block R (Array.getElem?_eq_some_iff.1 h.bR).1 (fun e => by simp only [Option.some.injEq] at e; omega)]; exact h.bR
  · rw [hg.block ob (Array.getElem?_eq_some_iff.1 h.bo).1 (fun e => by simp only [Option.some.injEq] at e; omega)]; exact h.bo
  · have := (h.row.own_lt e).1
    simp only [Option.some.injEq] at e'
    omega
  · simp only [Option.some.injEq] at e'
    omega
  · simp only [Option.some.injEq] at e
    omega
theorem TF.set {w0 : World} {R p q B ob : Nat} (P : Pl w0 R p q B) {wx : World} {s : Int × Int × Int} {v : Value} {ops : List LnV} {C : Array Value} {st : Rd} (h : TF w0 R p q B ob wx s v ops C st) (k : Nat) (u : Value) : TF w0 R p q B ob (wx.setCell ⟨ob, k, none⟩ u) s v ops (C.setIfInBounds k u) st := by
  have h1 := P.hR
  have h2 := P.hp
  have h3 := P.hq
  have h4 := P.hB
  have h5 := h.sz
  have hg := grown_set wx ob k u
  refine ⟨h.rd.grown hg (by omega), ?_, ?_, heap_set h.bo k u, h.row.grown hg (fun b e e' => ?_) (fun b e e' => ?_), h.own, Below.grown h.bel hg h.bel.size (fun k e => ?_), h.sz⟩
  · rw [hg.block q (Array.getElem?_eq_some_iff.1 h.bq).1 (fun e => by simp only [Option.some.injEq] at e; omega)]; exact h.bq
  · rw [hg.block R (Array.getElem?_eq_some_iff.1 h.bR).1 (fun e => by simp only [Option.some.injEq] at e; omega)]; exact h.bR
  · have := h.own b e
    simp only [Option.some.injEq] at e'
    omega
  · simp only [Option.some.injEq] at e'
    omega
  · simp only [Option.some.injEq] at e
    omega
/-- A change is done: it stands in the batch. -/
theorem TF.done {w0 : World} {R p q B ob : Nat} (P : Pl w0 R p q B) {wx wy : World} {s : Int × Int × Int} {v v' : Value} {ops ops' : List LnV} {C : Array Value} {st : Rd} (h : TF w0 R p q B ob wx s v ops C st) (hg : wx.grownBy wy v.ownBlock) (hr : RowF lnE B (fun b => B ≤ b) wy v' ops') :
    TE w0 R p q B (wy.setCell ⟨q, 3, none⟩ v') s v' ops' st := by
  have h1 := P.hR
  have h2 := P.hp
  have h3 := P.hq
  have h4 := P.hB
  have h5 := h.sz
  have hge : ∀ b, v.ownBlock = some b → B ≤ b := fun b e => (h.row.own_lt e).1
  have hne : ∀ k, k < B → some k ≠ v.ownBlock := fun k hk e => by have := hge k e.symm; omega
  have ew : ∀ k, k < B → k < wx.heap.size → wy.heap[k]? = wx.heap[k]? := fun k hk hl => hg.block k hl (hne k hk)
  have hg2 := grown_set wy q 3 v'
  have lq := (Array.getElem?_eq_some_iff.1 h.bq).1
  have lR := (Array.getElem?_eq_some_iff.1 h.bR).1
  have lo := (Array.getElem?_eq_some_iff.1 h.bo).1
  have lp := h.rd.lt
  have hrd : RdAt wy p st := by
    obtain ⟨a, len, cap, q1, q2, q3, q4⟩ := h.rd
    exact ⟨a, len, cap, by rw [ew p (by omega) lp]; exact q1, q2.keep fun b hb => ew b (by have := q3 b hb; omega) (q2.lt hb), q3, q4⟩
  refine ⟨hrd.grown hg2 h3, ?_, ?_, hr.grown hg2 (fun b e e' => ?_) (fun b e e' => ?_), Below.grown (Below.grown h.bel hg h.bel.size fun k e => ?_) hg2 (Nat.le_trans h.bel.size hg.size) (fun k e => ?_), ?_⟩
  · have : wy.heap[q]? = some (.cells #[.int .i64 s.1, .int .i64 s.2.1, .int .i64 s.2.2, v, .slice none 0 0] 30 (0, 0)) := by rw [ew q h4 lq]; exact h.bq
    exact heap_set this 3 v'
  · rw [hg2.block R (by have := hg.size; omega) (fun e => by simp only [Option.some.injEq] at e; omega), ew R (by omega) lR]; exact h.bR
  · have := (hr.own_lt e).1
    simp only [Option.some.injEq] at e'
    omega
  · simp only [Option.some.injEq] at e'
    omega
  · have := hge k e
    omega
  · simp only [Option.some.injEq] at e
    omega
  · have := hg.size
    simp [World.setCell]
    omega
theorem TF.alloc {w0 : World} {R p q B ob : Nat} {wx : World} {s : Int × Int × Int} {v : Value} {ops : List LnV} {C : Array Value} {st : Rd} (h : TF w0 R p q B ob wx s v ops C st) (o : Obj) : TF w0 R p q B ob (wx.alloc o) s v ops C st := by
  have hb : Below wx.heap.size wx (wx.alloc o) := (Below.refl _ wx).alloc (Nat.le_refl _) _
  exact ⟨h.rd.later hb, (hb.block q (Array.getElem?_eq_some_iff.1 h.bq).1).trans h.bq, (hb.block R (Array.getElem?_eq_some_iff.1 h.bR).1).trans h.bR, (hb.block ob (Array.getElem?_eq_some_iff.1 h.bo).1).trans h.bo, h.row.later hb, h.own, h.bel.trans (hb.mono h.bel.size), h.sz⟩
theorem TF.keepq {w0 : World} {R p q B ob : Nat} (P : Pl w0 R p q B) {wx wy : World} {s : Int × Int × Int} {v : Value} {ops : List LnV} {C : Array Value} {st : Rd} (h : TF w0 R p q B ob wx s v ops C st) (hg : wx.grownBy wy v.ownBlock) : wy.cell? ⟨q, 3, none⟩ = some v ∧ wy.frozen? ⟨q, 3, none⟩ = false := by
  have e : wy.heap[q]? = some (.cells #[.int .i64 s.1, .int .i64 s.2.1, .int .i64 s.2.2, v, .slice none 0 0] 30 (0, 0)) := by
    rw [hg.block q (Array.getElem?_eq_some_iff.1 h.bq).1 (fun e => by have := (h.row.own_lt e.symm).1; have := P.hB; omega)]
    exact h.bq
  exact ⟨by rw [cell_of e]; rfl, frozen_of e 3⟩
theorem TE.later {w0 : World} {R p q B : Nat} {wx wy : World} {s : Int × Int × Int} {v : Value} {ops : List LnV} {st : Rd} (h : TE w0 R p q B wx s v ops st) (hb : Below wx.heap.size wx wy) : TE w0 R p q B wy s v ops st :=
  ⟨h.rd.later hb, (hb.block q (Array.getElem?_eq_some_iff.1 h.bq).1).trans h.bq, (hb.block R (Array.getElem?_eq_some_iff.1 h.bR).1).trans h.bR, h.row.later hb, h.bel.trans (hb.mono h.bel.size), Nat.le_trans h.sz hb.size⟩
theorem TE.sete {w0 : World} {R p q B : Nat} (P : Pl w0 R p q B) {wx : World} {s : Int × Int × Int} {v : Value} {ops : List LnV} {st : Rd} (h : TE w0 R p q B wx s v ops st) (er : Nat) : TE w0 R p q B (wx.setCell ⟨p, 1, none⟩ (.int .i64 (er : Nat))) s v ops (st.1, er) := h.read P (grown_set _ _ _ _) (h.rd.sete er)
theorem TE.rs {w0 : World} {R p q B : Nat} {wx : World} {s : Int × Int × Int} {a : Option Addr} {n c : Nat} {ops : List LnV} {st : Rd} (h : TE w0 R p q B wx s (.slice a n c) ops st) : RS lnE wx a n c ops := by
  obtain ⟨a', c', e, hs⟩ := h.row.s.rs
  simp only [Value.slice.injEq] at e
  obtain ⟨rfl, rfl, rfl⟩ := e
  exact hs
theorem TF.facts {w0 : World} {R p q B ob : Nat} {wx : World} {s : Int × Int × Int} {v c0 c1 c2 c3 c4 : Value} {ops : List LnV} {st : Rd} (h : TF w0 R p q B ob wx s v ops #[c0, c1, c2, c3, c4] st) :
    (wx.cell? ⟨ob, 0, none⟩ = some c0 ∧ wx.cell? ⟨ob, 1, none⟩ = some c1 ∧ wx.cell? ⟨ob, 2, none⟩ = some c2 ∧ wx.cell? ⟨ob, 3, none⟩ = some c3 ∧ wx.cell? ⟨ob, 4, none⟩ = some c4) ∧ wx.frozen? ⟨ob, 3, none⟩ = false ∧ wx.frozen? ⟨ob, 4, none⟩ = false ∧ wx.cell? ⟨q, 3, none⟩ = some v :=
  ⟨⟨by rw [cell_of h.bo]; rfl, by rw [cell_of h.bo]; rfl, by rw [cell_of h.bo]; rfl, by rw [cell_of h.bo]; rfl, by rw [cell_of h.bo]; rfl⟩, frozen_of h.bo 3, frozen_of h.bo 4, by rw [cell_of h.bq]; rfl⟩
/-- A line that is whole may be put into the edit. -/
theorem TF.ready {w0 : World} {R p q B ob : Nat} {wx : World} {s : Int × Int × Int} {v : Value} {ops : List LnV} {la ma : Option Addr} {lc mc : Nat} {o : LnV} {st : Rd} (h : TF w0 R p q B ob wx s v ops #[.int .i64 o.num, .int .i64 o.lvl, .int .i64 o.size, .slice la o.least.length lc, .slice ma o.most.length mc] st) (hk : Sb ob wx la lc o.least) (hv : Sb ob wx ma mc o.most) (ht : In64 o.num ∧ In64 o.lvl ∧ In64 o.size) :
    RowF lnE B (fun b => B ≤ b) (wx.alloc (.cells #[.int .i64 o.num, .int .i64 o.lvl, .int .i64 o.size, .slice la o.least.length lc, .slice ma o.most.length mc] 24)) v ops ∧
    RSu lnE (wx.alloc (.cells #[.int .i64 o.num, .int .i64 o.lvl, .int .i64 o.size, .slice la o.least.length lc, .slice ma o.most.length mc] 24)) (some ⟨wx.heap.size, 0, none⟩) 1 1 [.int .i64 o.num, .int .i64 o.lvl, .int .i64 o.size, .slice la o.least.length lc, .slice ma o.most.length mc] [o] ∧
    (∀ u ∈ [Value.int .i64 o.num, .int .i64 o.lvl, .int .i64 o.size, .slice la o.least.length lc, .slice ma o.most.length mc], ∀ b, Refs u b → v.ownBlock ≠ some b) ∧
    (∀ u ∈ [Value.int .i64 o.num, .int .i64 o.lvl, .int .i64 o.size, .slice la o.least.length lc, .slice ma o.most.length mc], ∀ b, Refs u b → B ≤ b) ∧
    B ≤ (wx.alloc (.cells #[.int .i64 o.num, .int .i64 o.lvl, .int .i64 o.size, .slice la o.least.length lc, .slice ma o.most.length mc] 24)).heap.size ∧
    TF w0 R p q B ob (wx.alloc (.cells #[.int .i64 o.num, .int .i64 o.lvl, .int .i64 o.size, .slice la o.least.length lc, .slice ma o.most.length mc] 24)) s v ops #[.int .i64 o.num, .int .i64 o.lvl, .int .i64 o.size, .slice la o.least.length lc, .slice ma o.most.length mc] st := by
  have hT := h.alloc (.cells #[.int .i64 o.num, .int .i64 o.lvl, .int .i64 o.size, .slice la o.least.length lc, .slice ma o.most.length mc] 24)
  have hM : lnE.M wx [.int .i64 o.num, .int .i64 o.lvl, .int .i64 o.size, .slice la o.least.length lc, .slice ma o.most.length mc] o := ⟨la, lc, ma, mc, rfl, hk.1, hv.1, ht.1, ht.2.1, ht.2.2⟩
  have hgt : ∀ u ∈ [Value.int .i64 o.num, .int .i64 o.lvl, .int .i64 o.size, .slice la o.least.length lc, .slice ma o.most.length mc], ∀ b, Refs u b → ob < b := fun u hu b hr => by
    simp only [List.mem_cons, List.not_mem_nil, or_false] at hu
    rcases hu with rfl | rfl | rfl | rfl | rfl
    · exact (refs_int hr).elim
    · exact (refs_int hr).elim
    · exact (refs_int hr).elim
    · exact hk.2 b hr
    · exact hv.2 b hr
  refine ⟨hT.row.weak fun b x => x.1, rs_one hM, fun u hu b hr e => ?_, fun u hu b hr => ?_, ?_, hT⟩
  · have := hgt u hu b hr
    have := h.own b e
    omega
  · have := hgt u hu b hr
    have := h.sz
    omega
  · have := h.sz
    have := (Array.getElem?_eq_some_iff.1 hT.bo).1
    omega
theorem TE.num {w0 : World} {R p q B : Nat} (P : Pl w0 R p q B) {wx : World} {s : Int × Int × Int} {v : Value} {ops : List LnV} {st st' : Rd} {m : Nat} (h : TE w0 R p q B wx s v ops st) (most : Nat) (hm : most ≤ 2 ^ 63) (hx : rdN most st = (m, st')) :
    Calls Try.prog 33 #[.pointer (some ⟨p, 0, none⟩), .int .u64 (most : Int)] wx fun e w' => e = .returned (.int .u64 (m : Int)) ∧ TE w0 R p q B w' s v ops st' := (rnumber_any h.rd most hm).mono fun e w' ⟨he, hr, hg⟩ => by
  rw [hx] at he hr
  exact ⟨he, h.read P hg hr⟩
theorem TF.bytes {w0 : World} {R p q B ob : Nat} (P : Pl w0 R p q B) {wx : World} {s : Int × Int × Int} {v : Value} {ops : List LnV} {C : Array Value} {st st' : Rd} {key : List Int} (h : TF w0 R p q B ob wx s v ops C st) (hx : rdB 512 st = (key, st')) :
    Calls Try.prog 34 #[.pointer (some ⟨p, 0, none⟩), .int .i64 512] wx fun e w' => ∃ a c, e = .returned (.slice a key.length c) ∧ Sb ob w' a c key ∧ TF w0 R p q B ob w' s v ops C st' ∧ wx.grownBy w' (some p) := (rbytes_any h.rd 512 (by decide)).mono fun e w' ⟨v', he, hr, hrd, hg⟩ => by
  obtain ⟨a, c, e1, hs⟩ := sb_row hr (Array.getElem?_eq_some_iff.1 h.bo).1 (rdB_okb h.rd.okb)
  rw [hx] at e1 hs hrd
  exact ⟨a, c, by rw [he, e1], hs, h.read P hg hrd, hg⟩
/-- The numbers are being read; the lines stand still, ahead of C. -/
structure TH (w0 : World) (R p q B C : Nat) (wx : World) (s : Int × Int × Int) (v u : Value) (ops : List LnV) (ns : List Int) (st : Rd) : Prop where
  rd : RdAt wx p st
  bq : wx.heap[q]? = some (.cells #[.int .i64 s.1, .int .i64 s.2.1, .int .i64 s.2.2, v, u] 30 (0, 0))
  bR : wx.heap[R]? = some (.cells #[.int .i64 0, .int .i64 0, .int .i64 0, .slice none 0 0, .slice none 0 0] 30 (0, 0))
  row : RowF lnE B (fun b => B ≤ b ∧ b < C) wx v ops
  own : ∀ b, v.ownBlock = some b → b < C
  nums : RowS i64E C wx u ns
  bel : Below w0.heap.size w0 wx
  sz : C ≤ wx.heap.size
  hC : B ≤ C
theorem TE.th {w0 : World} {R p q B : Nat} {wx : World} {s : Int × Int × Int} {v : Value} {ops : List LnV} {st : Rd} (h : TE w0 R p q B wx s v ops st) : TH w0 R p q B wx.heap.size wx s v (.slice none 0 0) ops [] st :=
  ⟨h.rd, h.bq, h.bR, h.row.strong, fun b e => (h.row.own_lt e).2, RowS.nil _ _, h.bel, Nat.le_refl _, h.sz⟩
theorem TH.later {w0 : World} {R p q B C : Nat} {wx wy : World} {s : Int × Int × Int} {v u : Value} {ops : List LnV} {ns : List Int} {st : Rd} (h : TH w0 R p q B C wx s v u ops ns st) (hb : Below wx.heap.size wx wy) : TH w0 R p q B C wy s v u ops ns st :=
  ⟨h.rd.later hb, (hb.block q (Array.getElem?_eq_some_iff.1 h.bq).1).trans h.bq, (hb.block R (Array.getElem?_eq_some_iff.1 h.bR).1).trans h.bR, h.row.later hb, h.own, h.nums.later hb, h.bel.trans (hb.mono h.bel.size), Nat.le_trans h.sz hb.size, h.hC⟩
theorem TH.read {w0 : World} {R p q B C : Nat} (P : Pl w0 R p q B) {wx wy : World} {s : Int × Int × Int} {v u : Value} {ops : List LnV} {ns : List Int} {st st' : Rd} (h : TH w0 R p q B C wx s v u ops ns st) (hg : wx.grownBy wy (some p)) (hr : RdAt wy p st') : TH w0 R p q B C wy s v u ops ns st' := by
  have h1 := P.hR
  have h2 := P.hp
  have h3 := P.hq
  have h4 := P.hB
  have h5 := h.hC
  refine ⟨hr, ?_, ?_, h.row.grown hg (fun b e e' => ?_) (fun b e e' => ?_), h.own, h.nums.grown hg (fun b e e' => ?_) (fun us hus x hx b hr => (lay_i64 hus x hx b hr).elim), Below.grown h.bel hg h.bel.size (fun k e => ?_), Nat.le_trans h.sz hg.size, h.hC⟩
  · rw [hg.block q (Array.getElem?_eq_some_iff.1 h.bq).1 (fun e => by simp only [Option.some.injEq] at e; omega)]; exact h.bq
  · rw [hg.block R (Array.getElem?_eq_some_iff.1 h.bR).1 (fun e => by simp only [Option.some.injEq] at e; omega)]; exact h.bR
  · have := (h.row.own_lt e).1
    simp only [Option.some.injEq] at e'
    omega
  · simp only [Option.some.injEq] at e'
    omega
  · have := (h.nums.own_lt e).1
    simp only [Option.some.injEq] at e'
    omega
  · simp only [Option.some.injEq] at e
    omega
theorem TH.num {w0 : World} {R p q B C : Nat} (P : Pl w0 R p q B) {wx : World} {s : Int × Int × Int} {v u : Value} {ops : List LnV} {ns : List Int} {st st' : Rd} {m : Nat} (h : TH w0 R p q B C wx s v u ops ns st) (most : Nat) (hm : most ≤ 2 ^ 63) (hx : rdN most st = (m, st')) :
    Calls Try.prog 33 #[.pointer (some ⟨p, 0, none⟩), .int .u64 (most : Int)] wx fun e w' => e = .returned (.int .u64 (m : Int)) ∧ TH w0 R p q B C w' s v u ops ns st' ∧ wx.grownBy w' (some p) := (rnumber_any h.rd most hm).mono fun e w' ⟨he, hr, hg⟩ => by
  rw [hx] at he hr
  exact ⟨he, h.read P hg hr, hg⟩
theorem TH.facts {w0 : World} {R p q B C : Nat} {wx : World} {s : Int × Int × Int} {v u : Value} {ops : List LnV} {ns : List Int} {st : Rd} (h : TH w0 R p q B C wx s v u ops ns st) :
    (wx.cell? ⟨q, 0, none⟩ = some (.int .i64 s.1) ∧ wx.cell? ⟨q, 1, none⟩ = some (.int .i64 s.2.1) ∧ wx.cell? ⟨q, 2, none⟩ = some (.int .i64 s.2.2) ∧ wx.cell? ⟨q, 3, none⟩ = some v ∧ wx.cell? ⟨q, 4, none⟩ = some u) ∧ wx.frozen? ⟨q, 4, none⟩ = false ∧ wx.cell? ⟨p, 1, none⟩ = some (.int .i64 (st.2 : Nat)) ∧ wx.frozen? ⟨p, 1, none⟩ = false :=
  ⟨⟨by rw [cell_of h.bq]; rfl, by rw [cell_of h.bq]; rfl, by rw [cell_of h.bq]; rfl, by rw [cell_of h.bq]; rfl, by rw [cell_of h.bq]; rfl⟩, frozen_of h.bq 4, h.rd.cells.1, h.rd.cells.2⟩
theorem TH.res {w0 : World} {R p q B C : Nat} {wx : World} {s : Int × Int × Int} {v u : Value} {ops : List LnV} {ns : List Int} {st : Rd} (h : TH w0 R p q B C wx s v u ops ns st) :
    (wx.cell? ⟨R, 0, none⟩ = some (.int .i64 0) ∧ wx.cell? ⟨R, 1, none⟩ = some (.int .i64 0) ∧ wx.cell? ⟨R, 2, none⟩ = some (.int .i64 0) ∧ wx.cell? ⟨R, 3, none⟩ = some (.slice none 0 0) ∧ wx.cell? ⟨R, 4, none⟩ = some (.slice none 0 0)) ∧
    wx.frozen? ⟨R, 0, none⟩ = false ∧ wx.frozen? ⟨R, 1, none⟩ = false ∧ wx.frozen? ⟨R, 2, none⟩ = false ∧ wx.frozen? ⟨R, 3, none⟩ = false ∧ wx.frozen? ⟨R, 4, none⟩ = false :=
  ⟨⟨by rw [cell_of h.bR]; rfl, by rw [cell_of h.bR]; rfl, by rw [cell_of h.bR]; rfl, by rw [cell_of h.bR]; rfl, by rw [cell_of h.bR]; rfl⟩, frozen_of h.bR 0, frozen_of h.bR 1, frozen_of h.bR 2, frozen_of h.bR 3, frozen_of h.bR 4⟩
theorem TH.sete {w0 : World} {R p q B C : Nat} (P : Pl w0 R p q B) {wx : World} {s : Int × Int × Int} {v u : Value} {ops : List LnV} {ns : List Int} {st : Rd} (h : TH w0 R p q B C wx s v u ops ns st) (er : Nat) : TH w0 R p q B C (wx.setCell ⟨p, 1, none⟩ (.int .i64 (er : Nat))) s v u ops ns (st.1, er) := h.read P (grown_set _ _ _ _) (h.rd.sete er)
/-- One number more stands in the edit. -/
theorem TH.done {w0 : World} {R p q B C : Nat} (P : Pl w0 R p q B) {wx wy : World} {s : Int × Int × Int} {v u u' : Value} {ops : List LnV} {ns ns' : List Int} {st : Rd} (h : TH w0 R p q B C wx s v u ops ns st) (hg : wx.grownBy wy u.ownBlock) (hr : RowS i64E C wy u' ns') :
    TH w0 R p q B C (wy.setCell ⟨q, 4, none⟩ u') s v u' ops ns' st ∧ wy.cell? ⟨q, 4, none⟩ = some u ∧ wy.frozen? ⟨q, 4, none⟩ = false := by
  have h1 := P.hR
  have h2 := P.hp
  have h3 := P.hq
  have h4 := P.hB
  have h5 := h.hC
  have h6 := h.sz
  have hge : ∀ b, u.ownBlock = some b → C ≤ b := fun b e => (h.nums.own_lt e).1
  have ew : ∀ k, k < C → wy.heap[k]? = wx.heap[k]? := fun k hk => hg.block k (by omega) (fun e => by have := hge k e.symm; omega)
  have hg2 := grown_set wy q 4 u'
  have eq : wy.heap[q]? = some (.cells #[.int .i64 s.1, .int .i64 s.2.1, .int .i64 s.2.2, v, u] 30 (0, 0)) := by rw [ew q (by omega)]; exact h.bq
  have hrd : RdAt wy p st := by
    obtain ⟨a, len, cap, q1, q2, q3, q4⟩ := h.rd
    exact ⟨a, len, cap, by rw [ew p (by omega)]; exact q1, q2.keep fun b hb => ew b (by have := q3 b hb; omega), q3, q4⟩
  have hrow := h.row.grown hg (fun b e e' => by have := h.own b e; have := hge b e'.symm; omega) (fun b hF e' => by have := hge b e'.symm; omega)
  refine ⟨⟨hrd.grown hg2 h3, heap_set eq 4 u', ?_, hrow.grown hg2 (fun b e e' => ?_) (fun b e e' => ?_), h.own, hr.grown hg2 (fun b e e' => ?_) (fun us hus x hx b hr => (lay_i64 hus x hx b hr).elim), Below.grown (Below.grown h.bel hg h.bel.size fun k e => ?_) hg2 (Nat.le_trans h.bel.size hg.size) (fun k e => ?_), ?_, h.hC⟩, by rw [cell_of eq]; rfl, frozen_of eq 4⟩
  · rw [hg2.block R (by have := hg.size; omega) (fun e => by simp only [Option.some.injEq] at e; omega), ew R (by omega)]; exact h.bR
  · have := (h.row.own_lt e).1
    simp only [Option.some.injEq] at e'
    omega
  · simp only [Option.some.injEq] at e'
    omega
  · have := (hr.own_lt e).1
    simp only [Option.some.injEq] at e'
    omega
  · have := hge k e
    omega
  · simp only [Option.some.injEq] at e
    omega
  · have := hg.size
    simp [World.setCell]
    omega
/-- The answer is laid. -/
theorem TH.fin {w0 : World} {R p q B C : Nat} (P : Pl w0 R p q B) {wx : World} {s : Int × Int × Int} {v u : Value} {ops : List LnV} {ns : List Int} {st : Rd} (h : TH w0 R p q B C wx s v u ops ns st) (x0 x1 x2 x3 x4 : Value) :
    ((lay5 R wx x0 x1 x2 x3 x4).cell? ⟨R, 0, none⟩ = some x0 ∧ (lay5 R wx x0 x1 x2 x3 x4).cell? ⟨R, 1, none⟩ = some x1 ∧ (lay5 R wx x0 x1 x2 x3 x4).cell? ⟨R, 2, none⟩ = some x2 ∧ (lay5 R wx x0 x1 x2 x3 x4).cell? ⟨R, 3, none⟩ = some x3 ∧ (lay5 R wx x0 x1 x2 x3 x4).cell? ⟨R, 4, none⟩ = some x4) ∧ RowF lnE B (fun b => B ≤ b ∧ b < C) (lay5 R wx x0 x1 x2 x3 x4) v ops ∧ RowS i64E C (lay5 R wx x0 x1 x2 x3 x4) u ns ∧ Below w0.heap.size w0 (lay5 R wx x0 x1 x2 x3 x4) := by
  have h1 := P.hR
  have h2 := P.hp
  have h3 := P.hq
  have h4 := P.hB
  have h5 := h.hC
  have hg := lay5_grown R wx x0 x1 x2 x3 x4
  refine ⟨lay5_cells h.bR x0 x1 x2 x3 x4, h.row.grown hg (fun b e e' => ?_) (fun b e e' => ?_), h.nums.grown hg (fun b e e' => ?_) (fun us hus x hx b hr => (lay_i64 hus x hx b hr).elim), Below.grown h.bel hg h.bel.size fun k e => ?_⟩
  · have := (h.row.own_lt e).1
    simp only [Option.some.injEq] at e'
    omega
  · simp only [Option.some.injEq] at e'
    omega
  · have := (h.nums.own_lt e).1
    simp only [Option.some.injEq] at e'
    omega
  · simp only [Option.some.injEq] at e
    omega
theorem TH.ed {w0 : World} {R p q B C : Nat} {wx : World} {s : Int × Int × Int} {a b : Option Addr} {n c m k : Nat} {ops : List LnV} {ns : List Int} {st : Rd} (h : TH w0 R p q B C wx s (.slice a n c) (.slice b m k) ops ns st) (hs : In64 s.1 ∧ In64 s.2.1 ∧ In64 s.2.2) : n = ops.length ∧ m = ns.length ∧ EdM wx ⟨s.1, s.2.1, s.2.2, ops, ns⟩ a c b k := by
  obtain ⟨a', c', e, hr⟩ := h.row.s.rs
  simp only [Value.slice.injEq] at e
  obtain ⟨rfl, rfl, rfl⟩ := e
  obtain ⟨b', k', e, hq⟩ := h.nums.rs
  simp only [Value.slice.injEq] at e
  obtain ⟨rfl, rfl, rfl⟩ := e
  exact ⟨rfl, rfl, hs.1, hs.2.1, hs.2.2, hr, hq⟩
end Go.Proofs.Yteaicilehigjlaa

/- A call of a Go function as one step of a region that draws its order. -/
namespace Go.Proofs.Yteaicilehigjlaa
open Go.RowKit
set_option linter.unusedVariables false
set_option linter.unusedSimpArgs false

theorem step_fn {P : Program} {ops : Array Oper} {w : World} {o : Oper} {a : Act} {K : Act → World → Prop} {Q : Exit → Act → World → Prop} {E : Prop} {R : Ending → World → Prop} (f : FuncId) {xs : Array Operand} {ts : Array TypeId} {args : Array Value} (hgd : o.guard = none)
    (hop : o.op = .call { callee := .value (.func f), args := xs, argTypes := ts }) (hargs : xs.map a.eval = args) (hf : (callFunc f args).run P w = .ok (.enter f args) w) (hc : Calls P f args w R) (h : ∀ e w', R e w' → ∃ v, e = .returned v ∧ K (a.put o.dst v) w') :
    if Region.wanted o (yielded ops a.tmps) = true then Oper.wp P o a w K Q else E := by
  have hw : Region.wanted o (yielded ops a.tmps) = true := by simp [Region.wanted, hgd]
  rw [if_pos hw]
  have hrun : (execOp a.eval o).run P w = .ok (.enter f args) w := by
    unfold execOp
    rw [hop]
    simp [resolve, invoke, Act.eval, go_sem, hargs, hf]
  unfold Oper.wp
  rw [hrun]
  exact hc.mono fun e w' hR => by
    obtain ⟨v, he, hk⟩ := h e w' hR
    subst he
    exact hk
end Go.Proofs.Yteaicilehigjlaa

/- The document's own TakeEdit: the walk. -/
namespace Go.Proofs.Yteaicilehigjlaa
open Go.RowKit
set_option linter.unusedVariables false
set_option linter.unusedSimpArgs false

theorem e5S_of {d : List Int} {n : Nat} {st : Rd} (h : e4S d = (n, st)) : e5S d = ([] ++ (deLns n st).1, (deLns n st).2) := by unfold e5S; rw [h]; rfl
theorem e7S_of {d : List Int} {n : Nat} {st : Rd} (h : e6S d = (n, st)) : e7S d = ([] ++ (deNs n st).1, (deNs n st).2) := by unfold e7S; rw [h]; rfl
theorem RowS.slice'' {α : Type} {E : El α} {B : Nat} {w : World} {v : Value} {xs : List α} (h : RowS E B w v xs) : ∃ a n c, v = .slice a n c ∧ n = xs.length := by
  obtain ⟨a, c, e, _⟩ := h.rs
  exact ⟨a, _, c, e, rfl⟩
theorem rd_leS {most n : Nat} {s t : Rd} (h : rdN most s = (n, t)) : n ≤ most := by
  have := rdN_le (most := most) (s := s)
  rw [h] at this
  exact this
attribute [-go_sem] Builtin.append_
/-- An element behind a row of one's own, as a step of a region that draws. -/
theorem step_appS {α : Type} (E : El α) {t : TypeId} {z : Value} {bytes : Nat} (ht : Try.prog.underlying t = some (.slice E.ty)) (hinfo : (Try.prog.info? E.ty).map (fun i => (i.zero, i.size, i.bytes)) = some (some z, E.size, bytes)) (hz1 : z.cells.size = E.size) (hp : 0 < E.size)
    {ops : Array Oper} {w : World} {o : Oper} {a : Act} {K : Act → World → Prop} {Q : Exit → Act → World → Prop} {G : Prop} (hgd : o.guard = none) (s x : Operand)
    (ho : o.op = .call { callee := .builtin .append, args := #[s, x], argTypes := #[t, t] }) {B : Nat} {v : Value} {xs ys : List α} (hs : a.eval s = v) (hrow : RowS E B w v xs) {ao : Option Addr} {m c : Nat} {us : List Value} (hx : a.eval x = .slice ao m c)
    (hr : RSu E w ao m c us ys) (hsep : ∀ u ∈ us, ∀ b, Refs u b → v.ownBlock ≠ some b) (h63 : xs.length + m ≤ 140737488355328) (hb : (xs.length + m) * bytes ≤ 140737488355328) (hbase : B ≤ w.heap.size)
    (h : ∀ v' w', RowS E B w' v' (xs ++ ys) → w.grownBy w' v.ownBlock → Moved w v v' → K (a.put o.dst v') w') :
    if Region.wanted o (yielded ops a.tmps) = true then Oper.wp Try.prog o a w K Q else G := by
  have hw : Region.wanted o (yielded ops a.tmps) = true := by simp [Region.wanted, hgd]
  rw [if_pos hw]
  obtain ⟨v', w', hr, h2, h3, h4⟩ := run_appS E t z bytes ht hinfo hz1 hp o.type hrow hr hsep h63 hb hbase
  unfold Oper.wp execOp
  simp only [ho, resolve, invoke, builtin, Sem.run_bind, Sem.run_pure, Result.andThen_ok, List.map_toArray, List.map_cons, List.map_nil, hs, hx, hr]
  exact h _ _ h2 h3 h4
set_option maxHeartbeats 4000000 in
set_option maxRecDepth 100000 in
theorem rtakeD_any {w : World} {ao : Option Addr} {len cap : Nat} {d : List Int} (h : Sl w ao len cap d) (hl : len ≤ 175921860444160) :
    Calls Try.prog 17 #[.slice ao len cap] w fun e w' => ∃ aa ac ra rc, e = .returned (.tuple #[edV (deEd d).1 aa ac ra rc, .int .i64 ((deEd d).2 : Nat)]) ∧ EdM w' (deEd d).1 aa ac ra rc ∧ Below w.heap.size w w' := by
  obtain ⟨W, hW⟩ : ∃ W, W = (w.alloc (.cells #[.int .i64 0, .int .i64 0, .int .i64 0, .slice none 0 0, .slice none 0 0] 30)).alloc (.cells #[.slice ao len cap, .int .i64 0] 59) := ⟨_, rfl⟩
  have hWb : Below w.heap.size w W := by rw [hW]; exact ((Below.refl _ w).alloc (Nat.le_refl _) _).alloc (by simp) _
  have hWs : W.heap.size = w.heap.size + 2 := by rw [hW]; simp
  have hs1 : (w.alloc (.cells #[.int .i64 0, .int .i64 0, .int .i64 0, .slice none 0 0, .slice none 0 0] 30)).heap.size = w.heap.size + 1 := by simp
  have hWR : W.heap[w.heap.size]? = some (.cells #[.int .i64 0, .int .i64 0, .int .i64 0, .slice none 0 0, .slice none 0 0] 30 (0, 0)) := by
    rw [hW, heap_alloc_old (w := w.alloc (.cells #[.int .i64 0, .int .i64 0, .int .i64 0, .slice none 0 0, .slice none 0 0] 30)) _ (by omega)]
    exact heap_alloc_new w _
  have hWp : W.heap[w.heap.size + 1]? = some (.cells #[.slice ao len cap, .int .i64 0] 59 (0, 0)) := by
    rw [hW, ← hs1]
    exact heap_alloc_new _ _
  have hrd : RdAt W (w.heap.size + 1) (d, 0) := ⟨ao, len, cap, hWp, h.later hWb, fun b hr => by have := h.lt hr; omega, hl⟩
  obtain ⟨⟨n1, s1⟩, h1⟩ : ∃ x, e1S d = x := ⟨_, rfl⟩
  obtain ⟨⟨n2, s2⟩, h2⟩ : ∃ x, e2S d = x := ⟨_, rfl⟩
  obtain ⟨⟨n3, s3⟩, h3⟩ : ∃ x, e3S d = x := ⟨_, rfl⟩
  obtain ⟨⟨n4, s4⟩, h4⟩ : ∃ x, e4S d = x := ⟨_, rfl⟩
  have k1 : rdN 4611686018427387904 (d, 0) = (n1, s1) := h1
  have k2 : rdN 4611686018427387904 s1 = (n2, s2) := by rw [← h2]; unfold e2S; rw [h1]
  have k3 : rdN 4611686018427387904 s2 = (n3, s3) := by rw [← h3]; unfold e3S; rw [h2]
  have k4 : rdN 200 s3 = (n4, s4) := by rw [← h4]; unfold e4S; rw [h3]
  have hb1 := rd_leS k1
  have hb2 := rd_leS k2
  have hb3 := rd_leS k3
  have hb4 := rd_leS k4
  have HNB : Hid ((n1 ≤ 4611686018427387904 ∧ n2 ≤ 4611686018427387904 ∧ n3 ≤ 4611686018427387904 ∧ n4 ≤ 200) ∧ e1S d = (n1, s1) ∧ e2S d = (n2, s2) ∧ e3S d = (n3, s3) ∧ e4S d = (n4, s4)) := ⟨⟨hb1, hb2, hb3, hb4⟩, h1, h2, h3, h4⟩
  have HK : Hid (rdN 4611686018427387904 (d, 0) = (n1, s1) ∧ rdN 4611686018427387904 s1 = (n2, s2) ∧ rdN 4611686018427387904 s2 = (n3, s3) ∧ rdN 200 s3 = (n4, s4)) := ⟨k1, k2, k3, k4⟩
  have hn1 : n1 ≤ 2 ^ 63 - 1 := by omega
  have hn2 : n2 ≤ 2 ^ 63 - 1 := by omega
  have hn3 : n3 ≤ 2 ^ 63 - 1 := by omega
  have hn4 : n4 ≤ 2 ^ 61 := by omega
  have HRN : Hid (∀ {wx : World} {st st' : Rd} {m : Nat}, RdAt wx (w.heap.size + 1) st → rdN 4611686018427387904 st = (m, st') → Calls Try.prog 33 #[.pointer (some ⟨w.heap.size + 1, 0, none⟩), .int .u64 4611686018427387904] wx fun e w' => e = .returned (.int .u64 (m : Int)) ∧ RdAt w' (w.heap.size + 1) st' ∧ wx.grownBy w' (some (w.heap.size + 1))) := fun {wx st st' m} hr hx => by
    have := rnumber_any hr 4611686018427387904 (by decide)
    rw [hx] at this
    exact this
  have HW : Hid (W = (w.alloc (.cells #[.int .i64 0, .int .i64 0, .int .i64 0, .slice none 0 0, .slice none 0 0] 30)).alloc (.cells #[.slice ao len cap, .int .i64 0] 59) ∧ Below w.heap.size w W ∧ W.heap.size = w.heap.size + 2 ∧ W.heap[w.heap.size]? = some (.cells #[.int .i64 0, .int .i64 0, .int .i64 0, .slice none 0 0, .slice none 0 0] 30 (0, 0)) ∧ RdAt W (w.heap.size + 1) (d, 0)) := ⟨hW, hWb, hWs, hWR, hrd⟩
  clear h hl hWb hWs hs1 hWR hWp hrd hW h1 h2 h3 h4 k1 k2 k3 k4 hb1 hb2 hb3 hb4
  go_enter Try.func17, Try.ntmps17
  go_upto_region 2 with fail
  rw [← HW.out.1]
  go_upto_region 3 with (first | (go_at_call 33; refine (HRN.out r3 HK.out.2.2.1).mono ?_; rintro e w4 ⟨rfl, r4, g4⟩) | (go_at_call 33; refine (HRN.out r2 HK.out.2.1).mono ?_; rintro e w3 ⟨rfl, r3, g3⟩) | (go_at_call 33; refine (HRN.out HW.out.2.2.2.2 HK.out.1).mono ?_; rintro e w2 ⟨rfl, r2, g2⟩))
  have g24 := grown_trans (grown_trans g2 g3) g4
  have hsz4 := g24.size
  have P : Pl w w.heap.size (w.heap.size + 1) w4.heap.size (w4.heap.size + 1) := ⟨Nat.le_refl _, by omega, by have := HW.out.2.2.1; omega, by omega⟩
  have b3 : Below w4.heap.size w4 (w4.alloc (.cells #[.int .i64 (n1 : Int), .int .i64 (n2 : Int), .int .i64 (n3 : Int), .slice none 0 0, .slice none 0 0] 30)) := (Below.refl _ _).alloc (Nat.le_refl _) _
  obtain ⟨sq, hsq⟩ : ∃ x : Int × Int × Int, x = ((n1 : Int), (n2 : Int), (n3 : Int)) := ⟨_, rfl⟩
  have T3 : TE w w.heap.size (w.heap.size + 1) w4.heap.size (w4.heap.size + 1) (w4.alloc (.cells #[.int .i64 (n1 : Int), .int .i64 (n2 : Int), .int .i64 (n3 : Int), .slice none 0 0, .slice none 0 0] 30)) sq (.slice none 0 0) [] s3 := by
    have hb2 : Below w.heap.size w w4 := Below.grown HW.out.2.1 g24 HW.out.2.1.size (fun k e => by simp only [Option.some.injEq] at e; omega)
    refine ⟨r4.later b3, by rw [hsq]; exact heap_alloc_new w4 _, ?_, RowF.nil _ _ _, hb2.trans (b3.mono hb2.size), by simp⟩
    rw [b3.block _ (by have := HW.out.2.2.1; omega), g24.block _ (by have := HW.out.2.2.1; omega) (fun e => by simp only [Option.some.injEq] at e; omega)]
    exact HW.out.2.2.2.1
  have hN4 : Calls Try.prog 33 #[.pointer (some ⟨w.heap.size + 1, 0, none⟩), .int .u64 200] _ _ := TE.num P T3 200 (by decide) HK.out.2.2.2
  have HP := hidE P
  have HSQ := hidE hsq
  obtain ⟨Q, hQ⟩ : ∃ Q, Q = w4.heap.size := ⟨_, rfl⟩
  rw [← hQ] at HP hN4
  have HNa : Hid (∀ {wx : World} {v : Value} {ops : List LnV} {st st1 : Rd} {m : Nat}, TE w w.heap.size (w.heap.size + 1) Q (Q + 1) wx sq v ops st → rdN 1099511627776 st = (m, st1) → Calls Try.prog 33 #[.pointer (some ⟨w.heap.size + 1, 0, none⟩), .int .u64 1099511627776] wx fun e w' => e = .returned (.int .u64 (m : Int)) ∧ TE w w.heap.size (w.heap.size + 1) Q (Q + 1) w' sq v ops st1) := fun {wx v ops st st1 m} T hx => TE.num HP.out T 1099511627776 (by decide) hx
  have HNb : Hid (∀ {wx : World} {v : Value} {ops : List LnV} {st st1 : Rd} {m : Nat}, TE w w.heap.size (w.heap.size + 1) Q (Q + 1) wx sq v ops st → rdN 3 st = (m, st1) → Calls Try.prog 33 #[.pointer (some ⟨w.heap.size + 1, 0, none⟩), .int .u64 3] wx fun e w' => e = .returned (.int .u64 (m : Int)) ∧ TE w w.heap.size (w.heap.size + 1) Q (Q + 1) w' sq v ops st1) := fun {wx v ops st st1 m} T hx => TE.num HP.out T 3 (by decide) hx
  have HNc : Hid (∀ {wx : World} {v : Value} {ops : List LnV} {st st1 : Rd} {m : Nat}, TE w w.heap.size (w.heap.size + 1) Q (Q + 1) wx sq v ops st → rdN 4194304 st = (m, st1) → Calls Try.prog 33 #[.pointer (some ⟨w.heap.size + 1, 0, none⟩), .int .u64 4194304] wx fun e w' => e = .returned (.int .u64 (m : Int)) ∧ TE w w.heap.size (w.heap.size + 1) Q (Q + 1) w' sq v ops st1) := fun {wx v ops st st1 m} T hx => TE.num HP.out T 4194304 (by decide) hx
  have HBk : Hid (∀ {ob : Nat} {wx : World} {v : Value} {ops : List LnV} {C : Array Value} {st st1 : Rd} {key : List Int}, TF w w.heap.size (w.heap.size + 1) Q (Q + 1) ob wx sq v ops C st → rdB 512 st = (key, st1) → Calls Try.prog 34 #[.pointer (some ⟨w.heap.size + 1, 0, none⟩), .int .i64 512] wx fun e w' => ∃ a c, e = .returned (.slice a key.length c) ∧ Sb ob w' a c key ∧ TF w w.heap.size (w.heap.size + 1) Q (Q + 1) ob w' sq v ops C st1 ∧ wx.grownBy w' (some (w.heap.size + 1))) := fun {ob wx v ops C st st1 key} T hx => TF.bytes HP.out T hx
  have HTn : Hid (∀ {C : Nat} {wx : World} {v u : Value} {ops : List LnV} {ns : List Int} {st st1 : Rd} {m : Nat}, TH w w.heap.size (w.heap.size + 1) Q (Q + 1) C wx sq v u ops ns st → rdN 1099511627776 st = (m, st1) → Calls Try.prog 33 #[.pointer (some ⟨w.heap.size + 1, 0, none⟩), .int .u64 1099511627776] wx fun e w' => e = .returned (.int .u64 (m : Int)) ∧ TH w w.heap.size (w.heap.size + 1) Q (Q + 1) C w' sq v u ops ns st1 ∧ wx.grownBy w' (some (w.heap.size + 1))) := fun {C wx v u ops ns st st1 m} T hx => TH.num HP.out T 1099511627776 (by decide) hx
  have HIN : Hid (In64 sq.1 ∧ In64 sq.2.1 ∧ In64 sq.2.2) := by
    show _ ∧ _
    rw [hsq]
    exact ⟨⟨by show _ ≤ (n1 : Int); omega, by show (n1 : Int) ≤ _; omega⟩, ⟨by show _ ≤ (n2 : Int); omega, by show (n2 : Int) ≤ _; omega⟩, ⟨by show _ ≤ (n3 : Int); omega, by show (n3 : Int) ≤ _; omega⟩⟩
  rw [← hQ]
  clear P b3 T3 r2 r3 r4 g2 g3 g4 g24 hsz4 HRN HW hsq hQ
  go_upto_block 0 with (go_at_call 33; refine hN4.mono ?_; rintro e w5 ⟨rfl, T5⟩)
  have H0 : Hid (TE w w.heap.size (w.heap.size + 1) Q (Q + 1) w5 sq (.slice none 0 0) [] s4 ∧ e5S d = ([] ++ (deLns n4 s4).1, (deLns n4 s4).2) ∧ ([] : List LnV).length = 0) := ⟨T5, e5S_of HNB.out.2.2.2.2, rfl⟩
  clear hN4 T5
  go_cut [6, 22] from 23 to 51 (fun _ _ wx => ∃ (v : Value) (ops : List LnV) (st : Rd), Hid (TE w w.heap.size (w.heap.size + 1) Q (Q + 1) wx sq v ops st ∧ e5S d = (ops, st)))
  case rest =>
    obtain ⟨v9, ops, st, HC⟩ := hcut
    obtain ⟨a9, n9, c9, hv9, hn9⟩ := HC.out.1.row.slice'
    clear hn9
    subst hv9
    obtain ⟨⟨n6, s6⟩, h6⟩ : ∃ x, e6S d = x := ⟨_, rfl⟩
    have k6 : rdN 200 st = (n6, s6) := by rw [← h6]; unfold e6S; rw [HC.out.2]
    have HN6 : Hid (n6 ≤ 200 ∧ e6S d = (n6, s6) ∧ e5S d = (ops, st)) := ⟨rd_leS k6, h6, HC.out.2⟩
    have hn6 : n6 ≤ 2 ^ 61 := by have := HN6.out.1; omega
    have hN6 : Calls Try.prog 33 #[.pointer (some ⟨w.heap.size + 1, 0, none⟩), .int .u64 200] _ _ := TE.num HP.out HC.out.1 200 (by decide) k6
    clear HC H0 HNa HNb HNc HBk h6 k6
    go_upto_block 2 with (go_at_call 33; refine hN6.mono ?_; rintro e w6 ⟨rfl, T6⟩)
    have H1 : Hid (TH w w.heap.size (w.heap.size + 1) Q (Q + 1) w6.heap.size w6 sq (.slice a9 n9 c9) (.slice none 0 0) ops [] s6 ∧ e7S d = ([] ++ (deNs n6 s6).1, (deNs n6 s6).2) ∧ ([] : List Int).length = 0) := ⟨T6.th, e7S_of HN6.out.2.1, rfl⟩
    obtain ⟨C, hC⟩ : ∃ C, C = w6.heap.size := ⟨_, rfl⟩
    rw [← hC] at H1
    clear hN6 T6 hC
    go_cut [54] from 55 to 69 (fun _ wx => ∃ (u : Value) (ns : List Int) (st : Rd), Hid (TH w w.heap.size (w.heap.size + 1) Q (Q + 1) C wx sq (.slice a9 n9 c9) u ops ns st ∧ e7S d = (ns, st)))
    case rest =>
      obtain ⟨u9, ns, st7, HC⟩ := hcut
      obtain ⟨b9, m9, k9, hu9, hs9⟩ := RowS.slice'' HC.out.1.nums
      subst hu9
      have HRR : Hid (e7S d = (ns, st7)) := HC.out.2
      have HT := hidE HC.out.1
      have hLE := HT.out.ed HIN.out
      have HLE := hidE (And.intro hLE.1 hLE.2.1)
      have HER : Hid (edR d = ⟨sq.1, sq.2.1, sq.2.2, ops, ns⟩) := by
        show _ = _
        unfold edR
        rw [HNB.out.2.1, HNB.out.2.2.1, HNB.out.2.2.2.1, HN6.out.2.2, HRR.out, HSQ.out]
      have hEn := rend_any HT.out.rd
      obtain ⟨st8, hs8⟩ : ∃ x, rdE st7 = x := ⟨_, rfl⟩
      have HEN : Hid (edE d = if st8.2 = 0 then (if mayEd (edR d) = true then 0 else 3) else st8.2) := by show _ = _; unfold edE; rw [HRR.out, hs8]
      rw [hs8] at hEn
      clear HC H1 HTn hs8 hs9 hLE
      by_cases q5 : st8.2 = 0
      · have heq : ((st8.2 : Int) == 0) = true := by simp; omega
        have hne0 : ((st8.2 : Int) != 0) = false := by simp; omega
        obtain ⟨m, hm⟩ : ∃ m, m = mayEd ⟨sq.1, sq.2.1, sq.2.2, ops, ns⟩ := ⟨_, rfl⟩
        have HDE : Hid (edE d = if m = true then 0 else 3) := by show _ = _; rw [HEN.out, if_pos q5, HER.out, ← hm]
        have HMY : Hid (∀ {wx : World} {st9 : Rd}, TH w w.heap.size (w.heap.size + 1) Q (Q + 1) C wx sq (.slice a9 n9 c9) (.slice b9 m9 k9) ops ns st9 → Calls Try.prog 15 #[.agg #[.int .i64 sq.1, .int .i64 sq.2.1, .int .i64 sq.2.2, .slice a9 n9 c9, .slice b9 m9 k9]] wx fun e w' => e = .returned (.bool m) ∧ Below wx.heap.size wx w') := fun {wx st9} T => by
          have := rmay_ed (T.ed HIN.out).2.2
          rw [← hm] at this
          unfold edV at this
          rw [HLE.out.1, HLE.out.2]
          exact this
        have HQ5 := hidE q5
        clear hm q5 HEN
        cases m
        · have HB : Hid (deEd d = (noEd, 3)) := deEd_of (HDE.out.trans rfl) (by decide)
          go_upto_region 20 with (first | (go_at_call 35; refine hEn.mono ?_; rintro e w7 ⟨rfl, r7, g7⟩; have T7 := hidE (HT.out.read HP.out g7 r7); obtain ⟨⟨y0, y1, y2, y3, y4⟩, f4, z1, z2⟩ := T7.out.facts) | (go_at_call 15; refine (HMY.out T7.out).mono ?_; rintro e w8 ⟨rfl, b8⟩; have T8 := hidE (T7.out.later b8); obtain ⟨⟨x0, x1, x2, x3, x4⟩, g4, p1, p2⟩ := T8.out.facts; have T9 : Hid (TH w w.heap.size (w.heap.size + 1) Q (Q + 1) C (w8.setCell ⟨w.heap.size + 1, 1, none⟩ (.int .i64 3)) sq (.slice a9 n9 c9) (.slice b9 m9 k9) ops ns (st8.1, 3)) := T8.out.sete HP.out 3; have q1 : (w8.setCell ⟨w.heap.size + 1, 1, none⟩ (.int .i64 3)).cell? ⟨w.heap.size + 1, 1, none⟩ = some (.int .i64 3) := T9.out.facts.2.2.1; obtain ⟨⟨r0, r1, r2, r3, r4⟩, j0, j1, j2, j3, j4⟩ := T9.out.res))
          obtain ⟨⟨o0, o1, o2, o3, o4⟩, -, -, ob⟩ := T9.out.fin HP.out (.int .i64 0) (.int .i64 0) (.int .i64 0) (.slice none 0 0) (.slice none 0 0)
          have HO := hidE ob
          unfold lay5 at o0 o1 o2 o3 o4 HO
          clear ob x0 x1 x2 x3 x4 y0 y1 y2 y3 y4 p1 p2 z1 z2 f4 g4
          have HOO := hidE (And.intro o0 (And.intro o1 (And.intro o2 (And.intro o3 o4))))
          clear o0 o1 o2 o3 o4
          go_region_with (fail)
          all_goals
            go_wp2_with fail
            obtain ⟨o0, o1, o2, o3, o4⟩ := HOO.out
            exact bodyPost_ret (v := .tuple #[.agg #[.int .i64 0, .int .i64 0, .int .i64 0, .slice none 0 0, .slice none 0 0], .int .i64 3]) (by simp [results, Try.results17, go_sem, o0, o1, o2, o3, o4]) rfl ⟨none, 0, none, 0, by rw [HB.out]; rfl, by rw [HB.out]; exact ⟨in64_0, in64_0, in64_0, RS.nil _, RS.nil _⟩, by first | exact HO.out.drew | exact HO.out⟩
        · have HB : Hid (deEd d = (edR d, 0)) := deEd_ok (HDE.out.trans rfl)
          go_upto_region 21 with (first | (go_at_call 35; refine hEn.mono ?_; rintro e w7 ⟨rfl, r7, g7⟩; have T7 := hidE (HT.out.read HP.out g7 r7); obtain ⟨⟨y0, y1, y2, y3, y4⟩, f4, z1, z2⟩ := T7.out.facts) | (go_at_call 15; refine (HMY.out T7.out).mono ?_; rintro e w8 ⟨rfl, b8⟩; have T8 := hidE (T7.out.later b8); obtain ⟨⟨x0, x1, x2, x3, x4⟩, g4, p1, p2⟩ := T8.out.facts; obtain ⟨⟨r0, r1, r2, r3, r4⟩, j0, j1, j2, j3, j4⟩ := T8.out.res))
          obtain ⟨⟨o0, o1, o2, o3, o4⟩, ra, rr, ob⟩ := T8.out.fin HP.out (.int .i64 sq.1) (.int .i64 sq.2.1) (.int .i64 sq.2.2) (.slice a9 n9 c9) (.slice b9 m9 k9)
          have HO := hidE (And.intro ra (And.intro rr ob))
          unfold lay5 at o0 o1 o2 o3 o4 HO
          clear ra rr ob
          go_wp2_with fail
          refine bodyPost_ret (v := .tuple #[.agg #[.int .i64 sq.1, .int .i64 sq.2.1, .int .i64 sq.2.2, .slice a9 n9 c9, .slice b9 m9 k9], .int .i64 0]) (by simp [results, Try.results17, go_sem, o0, o1, o2, o3, o4]) rfl ?_
          rw [HB.out, HER.out]
          obtain ⟨a8, c8, e8, s8⟩ := HO.out.1.s.rs
          simp only [Value.slice.injEq] at e8
          obtain ⟨rfl, rfl, rfl⟩ := e8
          obtain ⟨b8', k8, e8, s9⟩ := HO.out.2.1.rs
          simp only [Value.slice.injEq] at e8
          obtain ⟨rfl, rfl, rfl⟩ := e8
          exact ⟨_, _, _, _, rfl, ⟨HIN.out.1, HIN.out.2.1, HIN.out.2.2, s8, s9⟩, HO.out.2.2⟩
      · have heq : ((st8.2 : Int) == 0) = false := by simp; omega
        have hne0 : ((st8.2 : Int) != 0) = true := by simp; omega
        have HB : Hid (deEd d = (noEd, st8.2)) := deEd_of (by rw [HEN.out, if_neg q5]) q5
        clear q5 HEN
        go_upto_region 20 with (first | (go_at_call 35; refine hEn.mono ?_; rintro e w7 ⟨rfl, r7, g7⟩; have T7 := hidE (HT.out.read HP.out g7 r7); obtain ⟨⟨y0, y1, y2, y3, y4⟩, f4, z1, z2⟩ := T7.out.facts; obtain ⟨⟨r0, r1, r2, r3, r4⟩, j0, j1, j2, j3, j4⟩ := T7.out.res))
        obtain ⟨⟨o0, o1, o2, o3, o4⟩, -, -, ob⟩ := T7.out.fin HP.out (.int .i64 0) (.int .i64 0) (.int .i64 0) (.slice none 0 0) (.slice none 0 0)
        have HO := hidE ob
        unfold lay5 at o0 o1 o2 o3 o4 HO
        clear ob y0 y1 y2 y3 y4 f4
        have HOO := hidE (And.intro o0 (And.intro o1 (And.intro o2 (And.intro o3 o4))))
        clear o0 o1 o2 o3 o4
        go_region_with (fail)
        all_goals
          go_wp2_with fail
          obtain ⟨o0, o1, o2, o3, o4⟩ := HOO.out
          exact bodyPost_ret (v := .tuple #[.agg #[.int .i64 0, .int .i64 0, .int .i64 0, .slice none 0 0, .slice none 0 0], .int .i64 (st8.2 : Nat)]) (by simp [results, Try.results17, go_sem, o0, o1, o2, o3, o4]) rfl ⟨none, 0, none, 0, by rw [HB.out]; rfl, by rw [HB.out]; exact ⟨in64_0, in64_0, in64_0, RS.nil _, RS.nil _⟩, by first | exact HO.out.drew | exact HO.out⟩
    case first =>
      go_wp2_with fail
      go_loopg [54] n6 (fun g i wr => ∃ (k : Nat) (u : Value) (acc : List Int) (st : Rd), k + g = n6 ∧ i = .int .u64 (k : Int) ∧ Hid (TH w w.heap.size (w.heap.size + 1) Q (Q + 1) C wr sq (.slice a9 n9 c9) u ops acc st ∧ e7S d = (acc ++ (deNs g st).1, (deNs g st).2) ∧ acc.length = k))
      case atStart => exact ⟨0, _, _, _, by omega, rfl, H1⟩
      case round =>
        obtain ⟨k, u, acc, st, hk, rfl, HK7⟩ := hrel
        by_cases hkl : k < n6
        · have hkl' : (k : Int) < (n6 : Int) := by omega
          obtain ⟨g, rfl⟩ : ∃ g, gk = g + 1 := ⟨gk - 1, by omega⟩
          have hst := deNs_step HK7.out.2.1
          obtain ⟨ua, un, uc, hu, hun⟩ := RowS.slice'' HK7.out.1.nums
          clear hun
          subst hu
          have HAL : Hid (k + 1 + g = n6 ∧ acc.length = k ∧ n6 ≤ 200) := ⟨by omega, HK7.out.2.2, HN6.out.1⟩
          have hk62 : k ≤ 2 ^ 61 := by have := HN6.out.1; omega
          obtain ⟨⟨x, t1⟩, m1⟩ : ∃ x, rdN 1099511627776 st = x := ⟨_, rfl⟩
          rw [m1] at hst
          simp only at hst
          have HS1 := hidE hst
          have HM := hidE m1
          have c1 := rd_leS m1
          have hx1 : x ≤ 2 ^ 61 := by omega
          obtain ⟨⟨y0, y1, y2, y3, y4⟩, f4, z1, z2⟩ := HK7.out.1.facts
          clear hst hk m1 c1
          have HXI : Hid (In64 (x : Int)) := ⟨by omega, by omega⟩
          have hwx : IntKind.i64.wrap (x : Int) = (x : Int) := by rw [IntKind.wrap_i64]; omega
          go_upto_region 13 with fail
          by_cases q : t1.2 = 0
          · have hne : ((t1.2 : Int) != 0) = false := by simp; omega
            have HQ : Hid (t1.2 = 0) := q
            clear q
            go_region_law (first
              | (refine step_appS i64E (t := 28) (z := .int .i64 0) (bytes := 8) Try.underlying28 i64E_info rfl (by decide) (by rfl) (.tmp 57) (.tmp 61) (by rfl) (by rfl) T6.out.nums (by rfl) (rs_one (E := i64E) (w := w5) (vs := [.int .i64 (x : Int)]) (x := (x : Int)) ⟨rfl, HXI.out⟩) (fun u hu b hr => by rw [List.mem_singleton.1 hu] at hr; exact (refs_int hr).elim) (by have := HAL.out; omega) (by have := HAL.out; omega) T6.out.sz ?_; intro v9 w9 r9 g9 m9; obtain ⟨T7, q1, q2⟩ := T6.out.done HP.out g9 r9; obtain ⟨aw, nw, cw, hvw, hsw⟩ := RowS.slice'' r9; subst hvw; have H10 := hidE T7; clear T7 r9 g9 m9 hsw)
              | (refine step_fn 33 (args := #[.pointer (some ⟨w.heap.size + 1, 0, none⟩), .int .u64 1099511627776]) rfl rfl (by simp [Act.eval, Act.put]) (by kernel_rfl) (HTn.out (HK7.out.1.later (Below.refl _ _).drew) HM.out) ?_; rintro e w5 ⟨rfl, T5, G5⟩; obtain ⟨⟨x0, x1, x2, x3, x4⟩, g4, p1, p2⟩ := T5.facts; have b5 : Below w5.heap.size w5 (w5.alloc (.cells #[.int .i64 (x : Int)] 2)) := (Below.refl _ _).alloc (Nat.le_refl _) _; have T6 := hidE (T5.later b5); obtain ⟨⟨-, -, -, -, u4⟩, -, -, -⟩ := T6.out.facts; clear T5 b5; refine ⟨_, rfl, ?_⟩))
            all_goals
              obtain ⟨-, -, z5, -⟩ := H10.out.facts
              go_wp2_with fail
              go_roundg g
              case measure => omega
              case rel => exact ⟨k + 1, _, _, _, HAL.out.1, by go_num, by first | exact H10.out | exact H10.out.later (Below.refl _ _).drew, HS1.out.2 HQ.out, by have := HAL.out; simp; omega⟩
          · have hne : ((t1.2 : Int) != 0) = true := by simp; omega
            have HQ : Hid (t1.2 ≠ 0) := q
            clear q
            have HRR : Hid (e7S d = (acc ++ [(x : Int)], t1)) := HS1.out.1 HQ.out
            go_region_law (first
              | (refine step_appS i64E (t := 28) (z := .int .i64 0) (bytes := 8) Try.underlying28 i64E_info rfl (by decide) (by rfl) (.tmp 57) (.tmp 61) (by rfl) (by rfl) T6.out.nums (by rfl) (rs_one (E := i64E) (w := w5) (vs := [.int .i64 (x : Int)]) (x := (x : Int)) ⟨rfl, HXI.out⟩) (fun u hu b hr => by rw [List.mem_singleton.1 hu] at hr; exact (refs_int hr).elim) (by have := HAL.out; omega) (by have := HAL.out; omega) T6.out.sz ?_; intro v9 w9 r9 g9 m9; obtain ⟨T7, q1, q2⟩ := T6.out.done HP.out g9 r9; obtain ⟨aw, nw, cw, hvw, hsw⟩ := RowS.slice'' r9; subst hvw; have H10 := hidE T7; clear T7 r9 g9 m9 hsw)
              | (refine step_fn 33 (args := #[.pointer (some ⟨w.heap.size + 1, 0, none⟩), .int .u64 1099511627776]) rfl rfl (by simp [Act.eval, Act.put]) (by kernel_rfl) (HTn.out (HK7.out.1.later (Below.refl _ _).drew) HM.out) ?_; rintro e w5 ⟨rfl, T5, G5⟩; obtain ⟨⟨x0, x1, x2, x3, x4⟩, g4, p1, p2⟩ := T5.facts; have b5 : Below w5.heap.size w5 (w5.alloc (.cells #[.int .i64 (x : Int)] 2)) := (Below.refl _ _).alloc (Nat.le_refl _) _; have T6 := hidE (T5.later b5); obtain ⟨⟨-, -, -, -, u4⟩, -, -, -⟩ := T6.out.facts; clear T5 b5; refine ⟨_, rfl, ?_⟩))
            all_goals
              obtain ⟨-, -, z5, -⟩ := H10.out.facts
              go_wp2_with fail
              go_meet
              exact ⟨_, _, _, by first | exact H10.out | exact H10.out.later (Below.refl _ _).drew, HRR.out⟩
        · have hkl' : (n6 : Int) ≤ (k : Int) := by omega
          obtain rfl : gk = 0 := by omega
          have HF : Hid (TH w w.heap.size (w.heap.size + 1) Q (Q + 1) C wr sq (.slice a9 n9 c9) u ops acc st ∧ e7S d = (acc, st)) := ⟨HK7.out.1, by rw [HK7.out.2.1]; simp [deNs]⟩
          clear hk HK7 hkl
          go_wp2_with fail
          go_meet
          exact ⟨_, _, _, HF⟩
  case first =>
    go_wp2_with fail
    go_loopg [6, 22] n4 (fun g _ i wr => ∃ (k : Nat) (v : Value) (acc : List LnV) (st : Rd), k + g = n4 ∧ i = .int .u64 (k : Int) ∧ Hid (TE w w.heap.size (w.heap.size + 1) Q (Q + 1) wr sq v acc st ∧ e5S d = (acc ++ (deLns g st).1, (deLns g st).2) ∧ acc.length = k))
    case atStart => exact ⟨0, _, _, _, by omega, rfl, H0⟩
    case round =>
      obtain ⟨k, v, acc, st, hk, rfl, HK5⟩ := hrel
      by_cases hkl : k < n4
      · have hkl' : (k : Int) < (n4 : Int) := by omega
        obtain ⟨g, rfl⟩ : ∃ g, gk = g + 1 := ⟨gk - 1, by omega⟩
        have hst := deLns_step HK5.out.2.1
        obtain ⟨va, vn, vc, hv, hvn⟩ := HK5.out.1.row.slice'
        clear hvn
        subst hv
        have HAL : Hid (k + 1 + g = n4 ∧ acc.length = k ∧ n4 ≤ 200) := ⟨by omega, HK5.out.2.2, HNB.out.1.2.2.2⟩
        have hk62 : k ≤ 2 ^ 61 := by have := HNB.out.1; omega
        obtain ⟨⟨a1, t1⟩, m1⟩ : ∃ x, rdN 1099511627776 st = x := ⟨_, rfl⟩
        obtain ⟨⟨a2, t2⟩, m2⟩ : ∃ x, rdN 3 t1 = x := ⟨_, rfl⟩
        obtain ⟨⟨a3, t3⟩, m3⟩ : ∃ x, rdN 4194304 t2 = x := ⟨_, rfl⟩
        obtain ⟨⟨ls, t4⟩, m4⟩ : ∃ x, rdB 512 t3 = x := ⟨_, rfl⟩
        obtain ⟨⟨ms, t5⟩, m5⟩ : ∃ x, rdB 512 t4 = x := ⟨_, rfl⟩
        have hde : deLn st = (⟨(a1 : Int), (a2 : Int), (a3 : Int), ls, ms⟩, t5) := by
          unfold deLn
          simp only [m1, m2, m3, m4, m5]
        rw [hde] at hst
        have HS1 := hidE hst
        have HM : Hid (rdN 1099511627776 st = (a1, t1) ∧ rdN 3 t1 = (a2, t2) ∧ rdN 4194304 t2 = (a3, t3) ∧ rdB 512 t3 = (ls, t4) ∧ rdB 512 t4 = (ms, t5)) := ⟨m1, m2, m3, m4, m5⟩
        have c1 := rd_leS m1
        have c2 := rd_leS m2
        have c3 := rd_leS m3
        have ha1 : a1 ≤ 2 ^ 61 := by omega
        have ha2 : a2 ≤ 2 ^ 61 := by omega
        have ha3 : a3 ≤ 2 ^ 61 := by omega
        have HI3 : Hid (In64 (a1 : Int) ∧ In64 (a2 : Int) ∧ In64 (a3 : Int)) := ⟨⟨by omega, by omega⟩, ⟨by omega, by omega⟩, ⟨by omega, by omega⟩⟩
        clear hst hk hde m1 m2 m3 m4 m5 c1 c2 c3
        by_cases q : t5.2 = 0
        · have hne : ((t5.2 : Int) != 0) = false := by simp; omega
          have HQ : Hid (t5.2 = 0) := q
          clear q
          go_wp2_with (first | (at_builtin; refine wpList_appF lnE (t := 27) (z := .agg #[.int .i64 0, .int .i64 0, .int .i64 0, .slice none 0 0, .slice none 0 0]) (bytes := 72) Try.underlying27 lnE_info rfl (by decide) rfl (.tmp 41) (.tmp 43) rfl rfl HR.out.1 rfl HR.out.2.1 HR.out.2.2.1 HR.out.2.2.2.1 (by have := HAL.out; omega) (by have := HAL.out; omega) HR.out.2.2.2.2.1 ?_; intro v9 w9 r9 g9 m9; obtain ⟨z1, z2⟩ := HR.out.2.2.2.2.2.keepq HP.out g9; have T10 := HR.out.2.2.2.2.2.done HP.out g9 r9; obtain ⟨a9, n9, c9, hv9, hs9⟩ := r9.slice'; subst hv9; have z3 := T10.rd.cells.1; have H10 := hidE T10; clear T10 r9 g9 m9 hs9) | (go_at_call 34; refine (HBk.out T9.out.1 HM.out.2.2.2.2).mono ?_; rintro e wb ⟨ab, cb, rfl, Sb1, Tb, Gb⟩; obtain ⟨⟨p0, p1, p2, p3, p4⟩, f3, f4, pq⟩ := Tb.facts; have Tc := Tb.set HP.out 4 (.slice ab ms.length cb); have S11 := (T9.out.2.grown Gb HOB.out).grown (grown_set wb w7.heap.size 4 (.slice ab ms.length cb)) (Nat.le_refl _); have S12 := Sb1.grown (grown_set wb w7.heap.size 4 (.slice ab ms.length cb)) (Nat.le_refl _); obtain ⟨⟨u0, u1, u2, u3, u4⟩, -, -, uq⟩ := Tc.facts; obtain ⟨R1, R2, R3, R4, R5, R6⟩ := TF.ready (o := ⟨(a1 : Int), (a2 : Int), (a3 : Int), ls, ms⟩) Tc S11 S12 HI3.out; rw [World.size_setCell] at R2; have HR := hidE (And.intro R1 (And.intro R2 (And.intro R3 (And.intro R4 (And.intro R5 R6))))); clear Tb Gb Sb1 Tc S11 S12 R1 R2 R3 R4 R5 R6) | (go_at_call 34; refine (HBk.out T8.out HM.out.2.2.2.1).mono ?_; rintro e wa ⟨aa, ca, rfl, Sa, Ta, Ga⟩; obtain ⟨⟨y0, y1, y2, y3, y4⟩, e3, e4, yq⟩ := Ta.facts; have T9 := hidE (And.intro (Ta.set HP.out 3 (.slice aa ls.length ca)) (Sa.grown (grown_set wa w7.heap.size 3 (.slice aa ls.length ca)) (Nat.le_refl _))); clear Ta Ga Sa) | (go_at_call 33; refine (HNc.out T6 HM.out.2.2.1).mono ?_; rintro e w7 ⟨rfl, T7⟩; have T8 := hidE (TF.begin T7 #[.int .i64 (a1 : Int), .int .i64 (a2 : Int), .int .i64 (a3 : Int), .slice none 0 0, .slice none 0 0]); have HOB : Hid (w.heap.size + 1 ≤ w7.heap.size) := by (show _ ≤ _; have := T7.sz; have := HP.out.hq; omega)) | (go_at_call 33; refine (HNb.out T5 HM.out.2.1).mono ?_; rintro e w6 ⟨rfl, T6⟩) | (go_at_call 33; refine (HNa.out HK5.out.1 HM.out.1).mono ?_; rintro e w5 ⟨rfl, T5⟩))
          go_roundg g
          case measure => omega
          case rel => exact ⟨k + 1, _, _, _, HAL.out.1, by go_num, H10.out, HS1.out.2 HQ.out, by have := HAL.out; simp; omega⟩
        · have hne : ((t5.2 : Int) != 0) = true := by simp; omega
          have HQ : Hid (t5.2 ≠ 0) := q
          clear q
          go_wp2_with (first | (at_builtin; refine wpList_appF lnE (t := 27) (z := .agg #[.int .i64 0, .int .i64 0, .int .i64 0, .slice none 0 0, .slice none 0 0]) (bytes := 72) Try.underlying27 lnE_info rfl (by decide) rfl (.tmp 41) (.tmp 43) rfl rfl HR.out.1 rfl HR.out.2.1 HR.out.2.2.1 HR.out.2.2.2.1 (by have := HAL.out; omega) (by have := HAL.out; omega) HR.out.2.2.2.2.1 ?_; intro v9 w9 r9 g9 m9; obtain ⟨z1, z2⟩ := HR.out.2.2.2.2.2.keepq HP.out g9; have T10 := HR.out.2.2.2.2.2.done HP.out g9 r9; obtain ⟨a9, n9, c9, hv9, hs9⟩ := r9.slice'; subst hv9; have z3 := T10.rd.cells.1; have H10 := hidE T10; clear T10 r9 g9 m9 hs9) | (go_at_call 34; refine (HBk.out T9.out.1 HM.out.2.2.2.2).mono ?_; rintro e wb ⟨ab, cb, rfl, Sb1, Tb, Gb⟩; obtain ⟨⟨p0, p1, p2, p3, p4⟩, f3, f4, pq⟩ := Tb.facts; have Tc := Tb.set HP.out 4 (.slice ab ms.length cb); have S11 := (T9.out.2.grown Gb HOB.out).grown (grown_set wb w7.heap.size 4 (.slice ab ms.length cb)) (Nat.le_refl _); have S12 := Sb1.grown (grown_set wb w7.heap.size 4 (.slice ab ms.length cb)) (Nat.le_refl _); obtain ⟨⟨u0, u1, u2, u3, u4⟩, -, -, uq⟩ := Tc.facts; obtain ⟨R1, R2, R3, R4, R5, R6⟩ := TF.ready (o := ⟨(a1 : Int), (a2 : Int), (a3 : Int), ls, ms⟩) Tc S11 S12 HI3.out; rw [World.size_setCell] at R2; have HR := hidE (And.intro R1 (And.intro R2 (And.intro R3 (And.intro R4 (And.intro R5 R6))))); clear Tb Gb Sb1 Tc S11 S12 R1 R2 R3 R4 R5 R6) | (go_at_call 34; refine (HBk.out T8.out HM.out.2.2.2.1).mono ?_; rintro e wa ⟨aa, ca, rfl, Sa, Ta, Ga⟩; obtain ⟨⟨y0, y1, y2, y3, y4⟩, e3, e4, yq⟩ := Ta.facts; have T9 := hidE (And.intro (Ta.set HP.out 3 (.slice aa ls.length ca)) (Sa.grown (grown_set wa w7.heap.size 3 (.slice aa ls.length ca)) (Nat.le_refl _))); clear Ta Ga Sa) | (go_at_call 33; refine (HNc.out T6 HM.out.2.2.1).mono ?_; rintro e w7 ⟨rfl, T7⟩; have T8 := hidE (TF.begin T7 #[.int .i64 (a1 : Int), .int .i64 (a2 : Int), .int .i64 (a3 : Int), .slice none 0 0, .slice none 0 0]); have HOB : Hid (w.heap.size + 1 ≤ w7.heap.size) := by (show _ ≤ _; have := T7.sz; have := HP.out.hq; omega)) | (go_at_call 33; refine (HNb.out T5 HM.out.2.1).mono ?_; rintro e w6 ⟨rfl, T6⟩) | (go_at_call 33; refine (HNa.out HK5.out.1 HM.out.1).mono ?_; rintro e w5 ⟨rfl, T5⟩))
          have HRR : Hid (e5S d = (acc ++ [⟨(a1 : Int), (a2 : Int), (a3 : Int), ls, ms⟩], t5)) := HS1.out.1 HQ.out
          go_meet
          exact ⟨_, _, _, H10.out, HRR.out⟩
      · have hkl' : (n4 : Int) ≤ (k : Int) := by omega
        obtain rfl : gk = 0 := by omega
        have HF : Hid (TE w w.heap.size (w.heap.size + 1) Q (Q + 1) wr sq v acc st ∧ e5S d = (acc, st)) := ⟨HK5.out.1, by rw [HK5.out.2.1]; simp [deLns]⟩
        clear hk HK5 hkl
        go_wp2_with fail
        go_meet
        exact ⟨_, _, _, HF⟩
end Go.Proofs.Yteaicilehigjlaa
