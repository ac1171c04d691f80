/- What the landed batch's Decode answers. -/
import Derived.Test.YtcielnkkbccldaaLbop
import Derived.Test.YtcielnkkbccldaaLbmay
namespace Go.Proofs.Ytcielnkkbccldaa
open Go.RowKit
set_option linter.unusedVariables false
set_option linter.unusedSimpArgs false

theorem deB_of {d : List Int} {E : Nat} (h : deE d = E) (hE : E ≠ 0) : deB d = ((0, []), E) := by unfold deB; rw [if_pos (by rw [h]; exact hE), h]
theorem deE_r {d : List Int} {ops : List OpV} {l : List Int} {E : Nat} (h : deR d = (ops, (l, E))) (hE : E ≠ 0) : deE d = E := by
  unfold deE
  rw [h]
  have e : rdE (l, E) = (l, E) := by unfold rdE; rw [if_neg (by intro q; exact hE q.1)]
  simp only [e]
  rw [if_neg hE]
theorem deE_n {d : List Int} {n : Nat} {l : List Int} {E : Nat} (h : deN d = (n, (l, E))) (hE : E ≠ 0) : deE d = E := by
  have h0 : n = 0 := by
    have e : rdN 400 (deS d).2 = (n, (l, E)) := h
    unfold rdN at e
    split at e
    · simp only [Prod.mk.injEq] at e; exact e.1.symm
    · split at e
      · simp only [Prod.mk.injEq] at e; exact e.1.symm
      · split at e
        · simp only [Prod.mk.injEq] at e; exact e.1.symm
        · simp only [Prod.mk.injEq] at e; exact absurd e.2.2.symm hE
  subst h0
  exact deE_r (by unfold deR; rw [h]; rfl) hE
theorem deE_s {d : List Int} {n : Nat} {l : List Int} {E : Nat} (h : deS d = (n, (l, E))) (hE : E ≠ 0) : deE d = E := by
  refine deE_n (n := 0) (l := l) ?_ hE
  unfold deN
  rw [h]
  exact rdN_err (s := (l, E)) hE
theorem deE_rest {d : List Int} {ops : List OpV} {l : List Int} (h : deR d = (ops, (l, 0))) (hl : 0 < l.length) : deE d = 3 := by
  unfold deE
  rw [h]
  have e : rdE (l, 0) = (l, 3) := by unfold rdE; rw [if_pos ⟨rfl, hl⟩]
  simp only [e]
  simp
theorem deE_may {d : List Int} {ops : List OpV} (h : deR d = (ops, ([], 0))) : deE d = mayB ((deS d).1 : Int) ops := by
  unfold deE
  rw [h]
  simp [rdE]
/-- Where the walk stands: the answer's place, the batch, the change under way. -/
structure TD (w wx : World) (s : Int) (v : Value) (ops : List OpV) : Prop where
  bR : wx.heap[w.heap.size]? = some (.cells #[.int .i64 0, .slice none 0 0] 24 (0, 0))
  bb : wx.heap[w.heap.size + 1]? = some (.cells #[.int .i64 s, v] 24 (0, 0))
  bo : ∃ c0 c1 c2 c3, wx.heap[w.heap.size + 2]? = some (.cells #[c0, c1, c2, c3] 42 (0, 0))
  row : RowF opE (w.heap.size + 3) (fun b => w.heap.size + 3 ≤ b) wx v ops
  bel : Below w.heap.size w wx
theorem TD.sz {w wx : World} {s : Int} {v : Value} {ops : List OpV} (h : TD w wx s v ops) : w.heap.size + 3 ≤ wx.heap.size := by
  obtain ⟨c0, c1, c2, c3, e⟩ := h.bo
  have := (Array.getElem?_eq_some_iff.1 e).1
  omega
theorem TD.later {w wx wy : World} {s : Int} {v : Value} {ops : List OpV} (h : TD w wx s v ops) (hb : Below wx.heap.size wx wy) : TD w wy s v ops := by
  obtain ⟨c0, c1, c2, c3, e⟩ := h.bo
  exact ⟨(hb.block _ (Array.getElem?_eq_some_iff.1 h.bR).1).trans h.bR, (hb.block _ (Array.getElem?_eq_some_iff.1 h.bb).1).trans h.bb, ⟨c0, c1, c2, c3, (hb.block _ (Array.getElem?_eq_some_iff.1 e).1).trans e⟩, h.row.later hb, h.bel.trans (hb.mono h.bel.size)⟩
theorem TD.facts {w wx : World} {s : Int} {v : Value} {ops : List OpV} (h : TD w wx s v ops) :
    wx.cell? ⟨w.heap.size, 0, none⟩ = some (.int .i64 0) ∧ wx.cell? ⟨w.heap.size, 1, none⟩ = some (.slice none 0 0) ∧ wx.frozen? ⟨w.heap.size, 0, none⟩ = false ∧ wx.frozen? ⟨w.heap.size, 1, none⟩ = false ∧
    wx.cell? ⟨w.heap.size + 1, 0, none⟩ = some (.int .i64 s) ∧ wx.cell? ⟨w.heap.size + 1, 1, none⟩ = some v ∧ wx.frozen? ⟨w.heap.size + 1, 0, none⟩ = false ∧ wx.frozen? ⟨w.heap.size + 1, 1, none⟩ = false :=
  ⟨by rw [cell_of h.bR]; rfl, by rw [cell_of h.bR]; rfl, frozen_of h.bR 0, frozen_of h.bR 1, by rw [cell_of h.bb]; rfl, by rw [cell_of h.bb]; rfl, frozen_of h.bb 0, frozen_of h.bb 1⟩
theorem TD.ofacts {w wx : World} {s : Int} {v : Value} {ops : List OpV} (h : TD w wx s v ops) : ∃ c0 c1 c2 c3,
    wx.cell? ⟨w.heap.size + 1 + 1, 0, none⟩ = some c0 ∧ wx.cell? ⟨w.heap.size + 1 + 1, 1, none⟩ = some c1 ∧ wx.cell? ⟨w.heap.size + 1 + 1, 2, none⟩ = some c2 ∧ wx.cell? ⟨w.heap.size + 1 + 1, 3, none⟩ = some c3 ∧
    wx.frozen? ⟨w.heap.size + 1 + 1, 0, none⟩ = false ∧ wx.frozen? ⟨w.heap.size + 1 + 1, 1, none⟩ = false ∧ wx.frozen? ⟨w.heap.size + 1 + 1, 2, none⟩ = false ∧ wx.frozen? ⟨w.heap.size + 1 + 1, 3, none⟩ = false := by
  obtain ⟨c0, c1, c2, c3, e⟩ := h.bo
  exact ⟨c0, c1, c2, c3, by rw [cell_of e]; rfl, by rw [cell_of e]; rfl, by rw [cell_of e]; rfl, by rw [cell_of e]; rfl, frozen_of e 0, frozen_of e 1, frozen_of e 2, frozen_of e 3⟩
theorem TD.keep {w wx wy : World} {s : Int} {v : Value} {ops : List OpV} (h : TD w wx s v ops) {p : Nat} (hg : wx.grownBy wy (some p)) (hp : w.heap.size ≤ p) (hp3 : p < w.heap.size + 3) : (∀ k, k ≠ p → k < w.heap.size + 3 → wy.heap[k]? = wx.heap[k]?) ∧ RowF opE (w.heap.size + 3) (fun b => w.heap.size + 3 ≤ b) wy v ops ∧ Below w.heap.size w wy := by
  have hs := h.sz
  refine ⟨fun k hk hl => hg.block k (by omega) (fun e => hk (by simpa using e)), h.row.grown hg (fun b e e' => ?_) (fun b e e' => ?_), Below.grown h.bel hg h.bel.size fun k e => ?_⟩
  · have := (h.row.own_lt e).1
    simp only [Option.some.injEq] at e'
    omega
  · simp only [Option.some.injEq] at e'
    omega
  · simp only [Option.some.injEq] at e
    omega
theorem TD.seq {w wx : World} {s : Int} {v : Value} {ops : List OpV} (h : TD w wx s v ops) (t : Int) : TD w (wx.setCell ⟨w.heap.size + 1, 0, none⟩ (.int .i64 t)) t v ops := by
  obtain ⟨c0, c1, c2, c3, e⟩ := h.bo
  obtain ⟨k1, k2, k3⟩ := h.keep (grown_set wx (w.heap.size + 1) 0 (.int .i64 t)) (by omega) (by omega)
  exact ⟨by rw [k1 _ (by omega) (by omega)]; exact h.bR, heap_set h.bb 0 _, ⟨c0, c1, c2, c3, by rw [k1 _ (by omega) (by omega)]; exact e⟩, k2, k3⟩
def lay4o (w wx : World) (x0 x1 x2 x3 : Value) : World := (((wx.setCell ⟨w.heap.size + 1 + 1, 0, none⟩ x0).setCell ⟨w.heap.size + 1 + 1, 1, none⟩ x1).setCell ⟨w.heap.size + 1 + 1, 2, none⟩ x2).setCell ⟨w.heap.size + 1 + 1, 3, none⟩ x3
theorem lay4o_grown (w wx : World) (x0 x1 x2 x3 : Value) : wx.grownBy (lay4o w wx x0 x1 x2 x3) (some (w.heap.size + 2)) :=
  grown_trans (grown_trans (grown_trans (grown_set _ _ _ _) (grown_set _ _ _ _)) (grown_set _ _ _ _)) (grown_set _ _ _ _)
theorem TD.op {w wx : World} {s : Int} {v : Value} {ops : List OpV} (h : TD w wx s v ops) (x0 x1 x2 x3 : Value) :
    TD w (lay4o w wx x0 x1 x2 x3) s v ops ∧ (lay4o w wx x0 x1 x2 x3).cell? ⟨w.heap.size + 1 + 1, 0, none⟩ = some x0 ∧ (lay4o w wx x0 x1 x2 x3).cell? ⟨w.heap.size + 1 + 1, 1, none⟩ = some x1 ∧ (lay4o w wx x0 x1 x2 x3).cell? ⟨w.heap.size + 1 + 1, 2, none⟩ = some x2 ∧ (lay4o w wx x0 x1 x2 x3).cell? ⟨w.heap.size + 1 + 1, 3, none⟩ = some x3 := by
  obtain ⟨c0, c1, c2, c3, e⟩ := h.bo
  obtain ⟨k1, k2, k3⟩ := h.keep (lay4o_grown w wx x0 x1 x2 x3) (by omega) (by omega)
  have hb : (lay4o w wx x0 x1 x2 x3).heap[w.heap.size + 2]? = some (.cells #[x0, x1, x2, x3] 42 (0, 0)) := heap_set (heap_set (heap_set (heap_set e 0 x0) 1 x1) 2 x2) 3 x3
  refine ⟨⟨by rw [k1 _ (by omega) (by omega)]; exact h.bR, by rw [k1 _ (by omega) (by omega)]; exact h.bb, ⟨x0, x1, x2, x3, hb⟩, k2, k3⟩, ?_, ?_, ?_, ?_⟩
  · rw [cell_of hb]; rfl
  · rw [cell_of hb]; rfl
  · rw [cell_of hb]; rfl
  · rw [cell_of hb]; rfl
/-- The change is put behind the others. -/
theorem TD.done {w wx wy : World} {s : Int} {v v' : Value} {ops ops' : List OpV} (h : TD w wx s v ops) (hg : wx.grownBy wy v.ownBlock) (hr : RowF opE (w.heap.size + 3) (fun b => w.heap.size + 3 ≤ b) wy v' ops') :
    TD w (wy.setCell ⟨w.heap.size + 1, 1, none⟩ v') s v' ops' ∧ wy.cell? ⟨w.heap.size + 1, 1, none⟩ = some v ∧ wy.frozen? ⟨w.heap.size + 1, 1, none⟩ = false := by
  obtain ⟨c0, c1, c2, c3, e⟩ := h.bo
  have hs := h.sz
  have ew : ∀ k, k < w.heap.size + 3 → wy.heap[k]? = wx.heap[k]? := fun k hk => hg.block k (by omega) (fun e => by have := (h.row.own_lt e.symm).1; omega)
  have hb : Below w.heap.size w wy := Below.grown h.bel hg h.bel.size fun k e => by have := (h.row.own_lt e).1; omega
  have hg2 := grown_set wy (w.heap.size + 1) 1 v'
  have e1 : wy.heap[w.heap.size + 1]? = some (.cells #[.int .i64 s, v] 24 (0, 0)) := by rw [ew _ (by omega)]; exact h.bb
  have hsy := hg.size
  refine ⟨⟨?_, heap_set e1 1 v', ⟨c0, c1, c2, c3, ?_⟩, hr.grown hg2 (fun b e e' => ?_) (fun b e e' => ?_), Below.grown hb hg2 hb.size fun k e => ?_⟩, by rw [cell_of e1]; rfl, frozen_of e1 1⟩
  · rw [hg2.block _ (by omega) (fun e => by simp only [Option.some.injEq] at e; omega), ew _ (by omega)]; exact h.bR
  · rw [hg2.block _ (by omega) (fun e => by simp only [Option.some.injEq] at e; omega), ew _ (by omega)]; exact e
  · have := (hr.own_lt e).1
    simp only [Option.some.injEq] at e'
    omega
  · simp only [Option.some.injEq] at e'
    omega
  · simp only [Option.some.injEq] at e
    omega
theorem TD.ready {w wr wx : World} {s : Int} {v : Value} {ops : List OpV} {ka va : Option Addr} {kc vc : Nat} {o : OpV} (h : TD w wx s v ops) (hr : w.heap.size + 3 ≤ wr.heap.size) (hown : ∀ b, v.ownBlock = some b → b < wr.heap.size) (hk : Sb (wr.heap.size + 1) wx ka kc o.key) (hv : Sb (wr.heap.size + 1) wx va vc o.val) (ht : In64 o.till) :
    RSu opE (wx.alloc (.cells #[.slice ka o.key.length kc, .bool o.gone, .int .i64 o.till, .slice va o.val.length vc] 42)) (some ⟨wx.heap.size, 0, none⟩) 1 1 [.slice ka o.key.length kc, .bool o.gone, .int .i64 o.till, .slice va o.val.length vc] [o] ∧
    (∀ u ∈ [Value.slice ka o.key.length kc, .bool o.gone, .int .i64 o.till, .slice va o.val.length vc], ∀ b, Refs u b → v.ownBlock ≠ some b) ∧
    (∀ u ∈ [Value.slice ka o.key.length kc, .bool o.gone, .int .i64 o.till, .slice va o.val.length vc], ∀ b, Refs u b → w.heap.size + 3 ≤ b) ∧
    TD w (wx.alloc (.cells #[.slice ka o.key.length kc, .bool o.gone, .int .i64 o.till, .slice va o.val.length vc] 42)) s v ops := by
  have hM : opE.M wx [.slice ka o.key.length kc, .bool o.gone, .int .i64 o.till, .slice va o.val.length vc] o := ⟨ka, kc, va, vc, rfl, hk.1, hv.1, ht⟩
  have hgt : ∀ u ∈ [Value.slice ka o.key.length kc, .bool o.gone, .int .i64 o.till, .slice va o.val.length vc], ∀ b, Refs u b → wr.heap.size + 1 < b := fun u hu b hr => by
    simp only [List.mem_cons, List.not_mem_nil, or_false] at hu
    rcases hu with rfl | rfl | rfl | rfl
    · exact hk.2 b hr
    · exact (refs_bool hr).elim
    · exact (refs_int hr).elim
    · exact hv.2 b hr
  refine ⟨rs_one hM, fun u hu b hr e => ?_, fun u hu b hr => ?_, h.later ((Below.refl _ _).alloc (Nat.le_refl _) _)⟩
  · have := hgt u hu b hr
    have := hown b e
    omega
  · have := hgt u hu b hr
    omega
theorem TD.rs {w wx : World} {s : Int} {a : Option Addr} {n c : Nat} {ops : List OpV} (h : TD w wx s (.slice a n c) ops) : RS opE wx a n c ops := by
  obtain ⟨a', c', e, hs⟩ := h.row.s.rs
  simp only [Value.slice.injEq] at e
  obtain ⟨rfl, rfl, rfl⟩ := e
  exact hs
theorem TD.fin {w wx : World} {s : Int} {v : Value} {ops : List OpV} (h : TD w wx s v ops) (x y : Value) :
    ((wx.setCell ⟨w.heap.size, 0, none⟩ x).setCell ⟨w.heap.size, 1, none⟩ y).cell? ⟨w.heap.size, 0, none⟩ = some x ∧ ((wx.setCell ⟨w.heap.size, 0, none⟩ x).setCell ⟨w.heap.size, 1, none⟩ y).cell? ⟨w.heap.size, 1, none⟩ = some y ∧ RowF opE (w.heap.size + 3) (fun b => w.heap.size + 3 ≤ b) ((wx.setCell ⟨w.heap.size, 0, none⟩ x).setCell ⟨w.heap.size, 1, none⟩ y) v ops ∧ Below w.heap.size w ((wx.setCell ⟨w.heap.size, 0, none⟩ x).setCell ⟨w.heap.size, 1, none⟩ y) := by
  obtain ⟨k1, k2, k3⟩ := h.keep (grown_trans (grown_set wx w.heap.size 0 x) (grown_set _ w.heap.size 1 y)) (Nat.le_refl _) (by omega)
  have hb := heap_set (heap_set h.bR 0 x) 1 y
  exact ⟨by rw [cell_of hb]; rfl, by rw [cell_of hb]; rfl, k2, k3⟩
theorem td_begin (w : World) : TD w (((w.alloc (.cells #[.int .i64 0, .slice none 0 0] 24)).alloc (.cells #[.int .i64 0, .slice none 0 0] 24)).alloc (.cells #[.slice none 0 0, .bool false, .int .i64 0, .slice none 0 0] 42)) 0 (.slice none 0 0) [] := by
  obtain ⟨w1, h1⟩ : ∃ x, x = w.alloc (.cells #[.int .i64 0, .slice none 0 0] 24) := ⟨_, rfl⟩
  obtain ⟨w2, h2⟩ : ∃ x, x = w1.alloc (.cells #[.int .i64 0, .slice none 0 0] 24) := ⟨_, rfl⟩
  obtain ⟨w3, h3⟩ : ∃ x, x = w2.alloc (.cells #[.slice none 0 0, .bool false, .int .i64 0, .slice none 0 0] 42) := ⟨_, rfl⟩
  have s1 : w1.heap.size = w.heap.size + 1 := by rw [h1]; simp
  have s2 : w2.heap.size = w.heap.size + 2 := by rw [h2]; simp [s1]
  have b1 : Below w.heap.size w w1 := by rw [h1]; exact (Below.refl _ _).alloc (Nat.le_refl _) _
  have b2 : Below w1.heap.size w1 w2 := by rw [h2]; exact (Below.refl _ _).alloc (Nat.le_refl _) _
  have b3 : Below w2.heap.size w2 w3 := by rw [h3]; exact (Below.refl _ _).alloc (Nat.le_refl _) _
  have e1 : w1.heap[w.heap.size]? = some (.cells #[.int .i64 0, .slice none 0 0] 24 (0, 0)) := by rw [h1]; exact heap_alloc_new _ _
  have e2 : w2.heap[w1.heap.size]? = some (.cells #[.int .i64 0, .slice none 0 0] 24 (0, 0)) := by rw [h2]; exact heap_alloc_new _ _
  have e3 : w3.heap[w2.heap.size]? = some (.cells #[.slice none 0 0, .bool false, .int .i64 0, .slice none 0 0] 42 (0, 0)) := by rw [h3]; exact heap_alloc_new _ _
  rw [← h1, ← h2, ← h3]
  refine ⟨?_, ?_, ⟨_, _, _, _, by rw [← s2]; exact e3⟩, RowF.nil _ _ _, (b1.trans (b2.mono (by omega))).trans (b3.mono (by omega))⟩
  · rw [b3.block _ (by omega), b2.block _ (by omega)]; exact e1
  · rw [b3.block _ (by omega), ← s1]; exact e2
theorem deO_len (s : Rd) : (deO s).2.1.length ≤ s.1.length := by
  have h1 := rdF_len s
  have h2 := rdB_len 512 (rdF s).2
  have h3 := rdN_len 4611686018427387904 (rdB 512 (rdF s).2).2
  have h4 := rdB_len 2048 (rdN 4611686018427387904 (rdB 512 (rdF s).2).2).2
  unfold deO
  split
  · simp only; omega
  · simp only; omega
theorem tkO_ok {d : List Int} (h : (deO (d, 0)).2.2 = 0) : tkO d = (deO (d, 0)).1 := by unfold tkO; rw [if_neg (by rw [h]; simp)]

set_option maxHeartbeats 4000000 in
set_option maxRecDepth 100000 in
theorem bdec_any {w : World} {ao : Option Addr} {len cap : Nat} {d : List Int} (h : Sl w ao len cap d) (hl : len ≤ 175921860444160) :
    Calls Try.prog 17 #[.slice ao len cap] w fun e w' => ∃ v, e = .returned (.tuple #[.agg #[.int .i64 (deB d).1.1, v], .int .i64 ((deB d).2 : Nat)]) ∧ RSV opE w' v (deB d).1.2 ∧ Below w.heap.size w w' := by
  obtain ⟨W, hW⟩ : ∃ W, W = (((w.alloc (.cells #[.int .i64 0, .slice none 0 0] 24)).alloc (.cells #[.int .i64 0, .slice none 0 0] 24)).alloc (.cells #[.slice none 0 0, .bool false, .int .i64 0, .slice none 0 0] 42)) := ⟨_, rfl⟩
  have HT0 : Hid (TD w W 0 (.slice none 0 0) []) := by have := td_begin w; rw [← hW] at this; exact this
  have HS0 : Hid (Sl w ao len cap d ∧ len ≤ 175921860444160 ∧ d.length = len) := ⟨h, hl, h.1⟩
  have HW : Hid (W = (((w.alloc (.cells #[.int .i64 0, .slice none 0 0] 24)).alloc (.cells #[.int .i64 0, .slice none 0 0] 24)).alloc (.cells #[.slice none 0 0, .bool false, .int .i64 0, .slice none 0 0] 42))) := hW
  obtain ⟨E, hE⟩ : ∃ E, E = (deB d).2 := ⟨_, rfl⟩
  have HE : Hid (E = (deB d).2) := hE
  rw [← hE]
  have hk := btnum_any (h.later HT0.out.bel) 4611686018427387904 (by omega)
  obtain ⟨⟨n1, l1, e1⟩, hF⟩ : ∃ x, deS d = x := ⟨_, rfl⟩
  have hn1 : n1 ≤ 4611686018427387904 := by
    have := rdN_le (most := 4611686018427387904) (s := (d, 0))
    rw [show rdN 4611686018427387904 (d, 0) = deS d from rfl, hF] at this
    exact this
  rw [show rdN 4611686018427387904 (d, 0) = deS d from rfl, hF] at hk
  have HF : Hid (deS d = (n1, l1, e1)) := hF
  simp only at hk
  have hn63 : n1 ≤ 2 ^ 63 - 1 := by omega
  have HN1 : Hid (n1 ≤ 4611686018427387904) := hn1
  clear h hl hE hF hW hn1
  go_enter Try.func17, Try.ntmps17
  go_wp2_with fail
  refine wp_scope_jumps 0 (fun a' w' => (E ≠ 0 ∧ ∃ s v ops, TD w w' s v ops) ∧ ∃ (u0 u1 u3 u4 u5 u6 u7 u8 u10 u11 u12 u13 u14 u15 u16 u17 u18 u19 u20 u21 u22 u23 u24 u25 u26 u27 u28 u29 u30 u31 u32 u33 u34 u35 u36 u37 u38 u39 u40 u41 u42 u43 u44 u45 u46 u47 u48 u49 u50 u51 u52 u53 u54 u55 : Value), a' = { tmps := #[u0, u1, .pointer (some ⟨w.heap.size, 0, none⟩), u3, u4, u5, u6, u7, u8, .int .i64 (E : Nat), u10, u11, u12, u13, u14, u15, u16, u17, u18, u19, u20, u21, u22, u23, u24, u25, u26, u27, u28, u29, u30, u31, u32, u33, u34, u35, u36, u37, u38, u39, u40, u41, u42, u43, u44, u45, u46, u47, u48, u49, u50, u51, u52, u53, u54, u55], defers := [] }) (fun _ _ => 0) rfl ?_ ?_
  · go_upto_region 4 with fail
    rw [← HW.out]
    by_cases q1 : e1 = 0
    · subst q1
      rw [show rst (l1, 0) = l1 from rfl] at hk
      obtain ⟨⟨n2, l2, e2⟩, hF2⟩ : ∃ x, deN d = x := ⟨_, rfl⟩
      have HF2 : Hid (deN d = (n2, l2, e2)) := hF2
      have HN2 : Hid (rdN 400 (l1, 0) = (n2, l2, e2) ∧ n2 ≤ 400 ∧ l1.length ≤ d.length ∧ l2.length ≤ d.length) := by
        have e : rdN 400 (l1, 0) = (n2, l2, e2) := by rw [← hF2]; unfold deN; rw [HF.out]
        have a1 := rdN_len 4611686018427387904 (d, 0)
        rw [show rdN 4611686018427387904 (d, 0) = deS d from rfl, HF.out] at a1
        have a2 := rdN_len 400 (l1, 0)
        rw [e] at a2
        have a3 := rdN_le (most := 400) (s := (l1, 0))
        rw [e] at a3
        simp only at a1 a2 a3
        exact ⟨e, a3, a1, by omega⟩
      clear hF2
      go_upto_region 7 with (go_at_call 29; refine hk.mono ?_; rintro e w1 ⟨r1, rfl, s1, b1⟩; obtain ⟨a1, c1, rfl, K1⟩ := s1 _ (HS0.out.1.later HT0.out.bel); have T1 := HT0.out.later b1; obtain ⟨y0, y1, y2, y3, y4, y5, y6, y7⟩ := T1.facts)
      have T1' := T1.seq (n1 : Int)
      have X1 : Hid (Rests ao len cap d (.slice a1 l1.length c1) l1) := s1
      have hB := btnum_any ((s1 w HS0.out.1).sl.later T1'.bel) 400 (by omega)
      rw [HN2.out.1] at hB
      simp only at hB
      obtain ⟨W1, hW1⟩ : ∃ W1, W1 = w1.setCell ⟨w.heap.size + 1, 0, none⟩ (.int .i64 (n1 : Int)) := ⟨_, rfl⟩
      rw [← hW1] at hB T1' ⊢
      have HT1 : Hid (TD w W1 (n1 : Int) (.slice none 0 0) []) := T1'
      have hn2 : n2 ≤ 2 ^ 63 - 1 := by have := HN2.out; omega
      clear T1 T1' K1 hk s1 b1 hW1 y0 y1 y2 y3 y4 y5 y6 y7 HT0
      by_cases q2 : e2 = 0
      · subst q2
        rw [show rst (l2, 0) = l2 from rfl] at hB
        go_upto_region 9 with (go_at_call 29; refine hB.mono ?_; rintro e w2 ⟨r2, rfl, s2, b2⟩; obtain ⟨a2, c2, rfl, K2⟩ := s2 _ (X1.out w HS0.out.1).sl)
        have H0 : Hid (TD w w2 (n1 : Int) (.slice none 0 0) [] ∧ Rests ao len cap d (.slice a2 l2.length c2) l2 ∧ deR d = ([] ++ (deOs n2 (l2, 0)).1, (deOs n2 (l2, 0)).2) ∧ l2.length ≤ d.length) := ⟨HT1.out.later b2, X1.out.trans s2, by unfold deR; rw [HF2.out]; rfl, HN2.out.2.2.2⟩
        clear b2 s2 hB K2 HT1 X1
        go_wp2_with fail
        go_loopg [8, 9, 29] n2 (fun g r _ i wr => ∃ (k : Nat) (v : Value) (acc : List OpV) (l : List Int) (a : Option Addr) (c : Nat), k + g = n2 ∧ i = .int .i64 (k : Int) ∧ r = .slice a l.length c ∧ Hid (TD w wr (n1 : Int) v acc ∧ Rests ao len cap d (.slice a l.length c) l ∧ deR d = (acc ++ (deOs g (l, 0)).1, (deOs g (l, 0)).2) ∧ acc.length = k ∧ l.length ≤ d.length))
        case atStart => exact ⟨0, _, [], l2, a2, c2, by omega, rfl, rfl, H0.out.1, H0.out.2.1, H0.out.2.2.1, rfl, H0.out.2.2.2⟩
        case round =>
          obtain ⟨k, v, acc, l, a, c, hk, rfl, rfl, HK⟩ := hrel
          by_cases hkl : k < n2
          · have hkl' : (k : Int) < (n2 : Int) := by omega
            obtain ⟨g, rfl⟩ : ∃ g, gk = g + 1 := ⟨gk - 1, by omega⟩
            have hop := btop_any ((HK.out.2.1 w HS0.out.1).sl.later HK.out.1.bel) (by have := HK.out.2.2.2.2; have := HS0.out; omega)
            obtain ⟨⟨o0, st⟩, hO⟩ : ∃ x, deO (l, 0) = x := ⟨_, rfl⟩
            have hst := deOs_step HK.out.2.2.1
            obtain ⟨l', er⟩ := st
            rw [hO] at hop hst
            simp only at hop hst
            obtain ⟨o, ho⟩ : ∃ o, o = tkO l := ⟨_, rfl⟩
            rw [← ho] at hop
            have HO : Hid (deO (l, 0) = (o0, l', er) ∧ o = tkO l) := ⟨hO, ho⟩
            have HST : Hid _ := Hid.mk' hst
            obtain ⟨v1, v2, v3, hv, hvn⟩ := HK.out.1.row.slice'
            subst hv
            have HKK := HK
            have HAL : Hid (k + 1 + g = n2 ∧ acc.length = k ∧ n2 ≤ 400) := ⟨by omega, HK.out.2.2.2.1, HN2.out.2.1⟩
            have hk62 : k ≤ 2 ^ 62 := by have := HN2.out; omega
            obtain ⟨key, gone, till, vl⟩ := o
            simp only at hop
            have hkey : Hid (key.length = key.length) := rfl
            clear hst hO ho hk hvn H0
            by_cases q : er = 0
            · subst q
              have HN : Hid (o0 = ⟨key, gone, till, vl⟩) := by show _ = _; rw [HO.out.2, tkO_ok (by rw [HO.out.1]), HO.out.1]
              rw [show rst (l', 0) = l' from rfl] at hop
              go_upto_region 13 with (go_at_call 30; refine hop.mono ?_; rintro e w3 ⟨ka, kc, va, vc, r3, rfl, S1, S2, I1, s3, b3⟩; obtain ⟨a3, c3, rfl, _⟩ := s3 _ (HK.out.2.1 w HS0.out.1).sl; have T3 := HK.out.1.later b3; obtain ⟨x0, x1, x2, x3, x4, x5, x6, x7⟩ := T3.facts; obtain ⟨p0, p1, p2, p3, z0, z1, z2, z3, z4, z5, z6, z7⟩ := T3.ofacts)
              obtain ⟨T4, t0, t1, t2, t3⟩ := T3.op (.slice ka key.length kc) (.bool gone) (.int .i64 till) (.slice va vl.length vc)
              have hsz := HK.out.1.sz
              have S3 := S1.grown (lay4o_grown w w3 (.slice ka key.length kc) (.bool gone) (.int .i64 till) (.slice va vl.length vc)) (by omega)
              have S4 := S2.grown (lay4o_grown w w3 (.slice ka key.length kc) (.bool gone) (.int .i64 till) (.slice va vl.length vc)) (by omega)
              obtain ⟨W4, hW4⟩ : ∃ W4, W4 = lay4o w w3 (.slice ka key.length kc) (.bool gone) (.int .i64 till) (.slice va vl.length vc) := ⟨_, rfl⟩
              rw [← hW4] at T4 t0 t1 t2 t3 S3 S4
              unfold lay4o at hW4
              rw [← hW4]
              obtain ⟨R1, R2, R3, R4⟩ := TD.ready (o := ⟨key, gone, till, vl⟩) T4 hsz (fun b e => (HK.out.1.row.own_lt e).2) S3 S4 I1
              obtain ⟨f0, f1, f2, f3, f4, f5, f6, f7⟩ := T4.facts
              have HR := Hid.mk' (And.intro R1 (And.intro R2 (And.intro R3 R4)))
              have HST2 : Hid (Rests ao len cap d (.slice a3 l'.length c3) l' ∧ deR d = (acc ++ [o0] ++ (deOs g (l', 0)).1, (deOs g (l', 0)).2) ∧ l'.length ≤ d.length) := by
                refine ⟨HK.out.2.1.trans s3, HST.out.2 (by first | exact trivial | rfl), ?_⟩
                have h1 := deO_len (l, 0)
                rw [HO.out.1] at h1
                have := HK.out.2.2.2.2
                simp only at h1
                omega
              clear R1 R2 R3 R4 T3 T4 S1 S2 S3 S4 hW4 hop b3 s3 x0 x1 x2 x3 x4 x5 x6 x7 z0 z1 z2 z3 z4 z5 z6 z7 hsz HKK
              go_wp2_with (at_builtin; refine wpList_appF opE (t := 22) (z := .agg #[.slice none 0 0, .bool false, .int .i64 0, .slice none 0 0]) (bytes := 64) Try.underlying22 opE_info rfl (by decide) rfl (.tmp 40) (.tmp 42) rfl rfl HR.out.2.2.2.row rfl HR.out.1 HR.out.2.1 HR.out.2.2.1 (by have := HAL.out; omega) (by have := HAL.out; omega) HR.out.2.2.2.sz ?_; intro v9 w9 r9 g9 m9; obtain ⟨T10, z1, z2⟩ := HR.out.2.2.2.done g9 r9; obtain ⟨a9, n9, c9, hv9, hs9⟩ := r9.slice'; subst hv9; have H10 := Hid.mk' T10; clear T10 r9 g9 m9 hs9)
              go_roundg g
              case measure => omega
              case rel => exact ⟨k + 1, _, _, l', a3, c3, HAL.out.1, by go_num, rfl, H10.out, HST2.out.1, by rw [HST2.out.2.1, HN.out], by have := HAL.out; simp; omega, HST2.out.2.2⟩
            · have hne : ((er : Int) != 0) = true := by simp; omega
              have HEE : Hid (deB d = ((0, []), er)) := deB_of (deE_r (HST.out.1 q) q) q
              obtain rfl : E = er := by rw [HE.out, HEE.out]
              have HQ : Hid (E ≠ 0) := q
              clear q
              go_wp2_with (go_at_call 30; refine hop.mono ?_; rintro e w3 ⟨ka, kc, va, vc, r3, rfl, S1, S2, I1, s3, b3⟩; have T3 := HK.out.1.later b3; obtain ⟨x0, x1, x2, x3, x4, x5, x6, x7⟩ := T3.facts; obtain ⟨p0, p1, p2, p3, z0, z1, z2, z3, z4, z5, z6, z7⟩ := T3.ofacts)
              go_step3
              exact ⟨rfl, ⟨HQ.out, _, _, _, (T3.op (.slice ka key.length kc) (.bool gone) (.int .i64 till) (.slice va vl.length vc)).1⟩, _, _, _, _, _, _, _, _, _, _, _, _, _, _, _, _, _, _, _, _, _, _, _, _, _, _, _, _, _, _, _, _, _, _, _, _, _, _, _, _, _, _, _, _, _, _, _, _, _, _, _, _, _, _, rfl⟩
          · have hkl' : (n2 : Int) ≤ (k : Int) := by omega
            obtain rfl : gk = 0 := by omega
            obtain ⟨v1, v2, v3, hv, hvn⟩ := HK.out.1.row.slice'
            clear hvn
            subst hv
            have HR : Hid (deR d = (acc, (l, 0))) := by show _ = _; rw [HK.out.2.2.1]; simp [deOs]
            have HT : Hid (TD w wr (n1 : Int) (.slice v1 v2 v3) acc) := HK.out.1
            have hl62 : l.length ≤ 2 ^ 62 := by have := HK.out.2.2.2.2; have := HS0.out; omega
            clear hk HK hkl H0
            by_cases q3 : 0 < l.length
            · have q3' : (0 : Int) < (l.length : Int) := by omega
              have HEE : Hid (deB d = ((0, []), 3)) := deB_of (deE_rest HR.out q3) (by decide)
              obtain rfl : E = 3 := by rw [HE.out, HEE.out]
              clear q3
              go_wp2_with fail
              go_step3
              exact ⟨rfl, ⟨by decide, _, _, _, HT.out⟩, _, _, _, _, _, _, _, _, _, _, _, _, _, _, _, _, _, _, _, _, _, _, _, _, _, _, _, _, _, _, _, _, _, _, _, _, _, _, _, _, _, _, _, _, _, _, _, _, _, _, _, _, _, _, rfl⟩
            · have q3' : (l.length : Int) ≤ 0 := by omega
              have hl0 : l = [] := List.eq_nil_of_length_eq_zero (by omega)
              have HDE : Hid (deE d = mayB (n1 : Int) acc) := by have := deE_may (d := d) (ops := acc) (by rw [HR.out, hl0]); rw [HF.out] at this; exact this
              have hmay := bmay_any (s := (n1 : Int)) HT.out.rs ⟨by omega, by have := HN1.out; omega⟩
              obtain ⟨m, hm⟩ : ∃ m, m = mayB (n1 : Int) acc := ⟨_, rfl⟩
              rw [← hm] at hmay
              have HM : Hid (m = mayB (n1 : Int) acc) := hm
              obtain ⟨y0, y1, y2, y3, y4, y5, y6, y7⟩ := HT.out.facts
              clear q3 hl0 hm
              by_cases q4 : m = 0
              · have hne : ((m : Int) != 0) = false := by simp; omega
                have HEE : Hid (deB d = (((n1 : Int), acc), 0)) := by show _ = _; unfold deB; rw [if_neg (by rw [HDE.out, ← HM.out]; simpa using q4), HR.out, HF.out]
                obtain rfl : E = 0 := by rw [HE.out, HEE.out]
                clear q4
                go_wp2_with (go_at_call 14; refine hmay.mono ?_; rintro e w3 ⟨rfl, b3⟩; have T3 := HT.out.later b3; obtain ⟨x0, x1, x2, x3, x4, x5, x6, x7⟩ := T3.facts)
                obtain ⟨o1, o2, o3, o4⟩ := T3.fin (.int .i64 (n1 : Int)) (.slice v1 v2 v3)
                simp only [Exit.jump]
                exact bodyPost_ret (v := .tuple #[.agg #[.int .i64 (n1 : Int), .slice v1 v2 v3], .int .i64 0]) (by simp [results, Try.results17, go_sem, o1, o2]) rfl ⟨.slice v1 v2 v3, by rw [HEE.out]; rfl, by rw [HEE.out]; exact RSV.ofRow o3.s, o4⟩
              · have hne : ((m : Int) != 0) = true := by simp; omega
                have HEE : Hid (deB d = ((0, []), m)) := deB_of (by rw [HDE.out, ← HM.out]) q4
                obtain rfl : E = m := by rw [HE.out, HEE.out]
                have HQ : Hid (E ≠ 0) := q4
                clear q4
                go_wp2_with (go_at_call 14; refine hmay.mono ?_; rintro e w3 ⟨rfl, b3⟩; have T3 := HT.out.later b3)
                go_step3
                exact ⟨rfl, ⟨HQ.out, _, _, _, T3⟩, _, _, _, _, _, _, _, _, _, _, _, _, _, _, _, _, _, _, _, _, _, _, _, _, _, _, _, _, _, _, _, _, _, _, _, _, _, _, _, _, _, _, _, _, _, _, _, _, _, _, _, _, _, _, rfl⟩
      · have hne : ((e2 : Int) != 0) = true := by simp; omega
        have HEE : Hid (deB d = ((0, []), e2)) := deB_of (deE_n HF2.out q2) q2
        obtain rfl : E = e2 := by rw [HE.out, HEE.out]
        have HQ : Hid (E ≠ 0) := q2
        clear q2
        go_wp2_with (go_at_call 29; refine hB.mono ?_; rintro e w2 ⟨r2, rfl, s2, b2⟩)
        go_step3
        exact ⟨rfl, ⟨HQ.out, _, _, _, HT1.out.later b2⟩, _, _, _, _, _, _, _, _, _, _, _, _, _, _, _, _, _, _, _, _, _, _, _, _, _, _, _, _, _, _, _, _, _, _, _, _, _, _, _, _, _, _, _, _, _, _, _, _, _, _, _, _, _, _, rfl⟩
    · have hne : ((e1 : Int) != 0) = true := by simp; omega
      have HEE : Hid (deB d = ((0, []), e1)) := deB_of (deE_s HF.out q1) q1
      obtain rfl : E = e1 := by rw [HE.out, HEE.out]
      have HQ : Hid (E ≠ 0) := q1
      clear q1
      go_wp2_with (go_at_call 29; refine hk.mono ?_; rintro e w1 ⟨r1, rfl, s1, b1⟩)
      go_step3
      exact ⟨rfl, ⟨HQ.out, _, _, _, HT0.out.later b1⟩, _, _, _, _, _, _, _, _, _, _, _, _, _, _, _, _, _, _, _, _, _, _, _, _, _, _, _, _, _, _, _, _, _, _, _, _, _, _, _, _, _, _, _, _, _, _, _, _, _, _, _, _, _, _, rfl⟩
  · rintro a' w' ⟨⟨hne, s, v, ops, T⟩, u0, u1, u3, u4, u5, u6, u7, u8, u10, u11, u12, u13, u14, u15, u16, u17, u18, u19, u20, u21, u22, u23, u24, u25, u26, u27, u28, u29, u30, u31, u32, u33, u34, u35, u36, u37, u38, u39, u40, u41, u42, u43, u44, u45, u46, u47, u48, u49, u50, u51, u52, u53, u54, u55, rfl⟩
    have HEE : Hid (deB d = ((0, []), E)) := by
      have h1 := HE.out
      show _ = _
      unfold deB at h1 ⊢
      split at h1
      · rename_i q; rw [if_pos q, h1]
      · exact absurd h1 hne
    obtain ⟨y0, y1, y2, y3, y4, y5, y6, y7⟩ := T.facts
    obtain ⟨o1, o2, o3, o4⟩ := T.fin (.int .i64 0) (.slice none 0 0)
    have HO := Hid.mk' o4
    clear T hne o3 o4
    go_wp2_with fail
    simp only [Exit.jump]
    exact bodyPost_ret (v := .tuple #[.agg #[.int .i64 0, .slice none 0 0], .int .i64 (E : Nat)]) (by simp [results, Try.results17, go_sem, o1, o2]) rfl ⟨.slice none 0 0, by rw [HEE.out], by rw [HEE.out]; exact RSV.nil _, HO.out⟩
end Go.Proofs.Ytcielnkkbccldaa
