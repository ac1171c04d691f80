/- An element of a row of one's own, set anew; a batch that is being made. -/
import Derived.Test.YtcielnkkbccldaaBlaw
import Derived.Deep.OwnRows
namespace Go.Proofs.Ytcielnkkbccldaa
open Go.RowKit
set_option linter.unusedVariables false
set_option linter.unusedSimpArgs false

theorem ownsRow_set {w : World} {base : Nat} {e : TypeId} {size : Nat} {v : Value} {n : Nat} {xs : List Value} {g : Nat} (h : w.ownsRow base e size v n xs) (hg : v.ownBlock = some g) (k : Nat) (u : Value) : (w.setCell ⟨g, k, none⟩ u).ownsRow base e size v n (xs.set k u) := by
  refine ⟨by rw [List.length_set]; exact h.1, ?_⟩
  rcases h.2 with ⟨rfl, _⟩ | ⟨g', cap, cur, rfl, hb, hgg, q1, q2, q3, q4⟩
  · simp [Value.ownBlock] at hg
  · simp [Value.ownBlock] at hg
    subst hg
    refine .inr ⟨g', cap, cur.setIfInBounds k u, rfl, hb, heap_set hgg k u, q1, q2, by simpa using q3, ?_⟩
    rw [Array.toList_setIfInBounds, ← q4, List.take_set]
theorem Lay.split {α : Type} {E : El α} {w : World} : ∀ {us : List Value} {xs ys : List α}, Lay E w us (xs ++ ys) → ∃ u1 u2, us = u1 ++ u2 ∧ Lay E w u1 xs ∧ Lay E w u2 ys
  | us, [], ys, h => ⟨[], us, rfl, rfl, h⟩
  | us, x :: xs, ys, h => by
    obtain ⟨vs, us', rfl, h1, h2⟩ := h
    obtain ⟨u1, u2, rfl, g1, g2⟩ := Lay.split h2
    exact ⟨vs ++ u1, u2, by rw [List.append_assoc], ⟨vs, u1, rfl, h1, g1⟩, g2⟩
theorem set_four (u1 : List Value) (a0 a1 a2 a3 b0 b1 b2 b3 : Value) (m : Nat) (hm : m = u1.length) : ((((u1 ++ [a0, a1, a2, a3]).set m b0).set (m + 1) b1).set (m + 2) b2).set (m + 3) b3 = u1 ++ [b0, b1, b2, b3] := by
  subst hm
  simp [List.set_append]
/-- The last change of a row of one's own, set anew. -/
theorem RowF.last {B : Nat} {F : Nat → Prop} {w : World} {v : Value} {xs : List OpV} {x o : OpV} {g : Nat} {b0 b1 b2 b3 : Value} (h : RowF opE B F w v (xs ++ [x])) (hg : v.ownBlock = some g) (hM : opE.M w [b0, b1, b2, b3] o) (hsep : ∀ u ∈ [b0, b1, b2, b3], ∀ b, Refs u b → v.ownBlock ≠ some b) (hF : ∀ u ∈ [b0, b1, b2, b3], ∀ b, Refs u b → F b) (m : Nat) (hm : m = xs.length * 4) :
    RowF opE B F ((((w.setCell ⟨g, m, none⟩ b0).setCell ⟨g, m + 1, none⟩ b1).setCell ⟨g, m + 2, none⟩ b2).setCell ⟨g, m + 3, none⟩ b3) v (xs ++ [o]) ∧ w.grownBy ((((w.setCell ⟨g, m, none⟩ b0).setCell ⟨g, m + 1, none⟩ b1).setCell ⟨g, m + 2, none⟩ b2).setCell ⟨g, m + 3, none⟩ b3) (some g) := by
  obtain ⟨us, hown, hlay, h3, h4⟩ := h
  obtain ⟨u1, u2, rfl, g1, g2⟩ := hlay.split
  obtain ⟨vs, us', rfl, k1, k2⟩ := g2
  obtain rfl : us' = [] := k2
  have hl4 : vs.length = 4 := opE.len k1
  obtain ⟨a0, a1, a2, a3, rfl⟩ : ∃ a b c d, vs = [a, b, c, d] := by
    match vs, hl4 with
    | [a, b, c, d], _ => exact ⟨a, b, c, d, rfl⟩
  have hu1 : m = u1.length := by rw [g1.len, hm]; rfl
  have hgr := grown_trans (grown_trans (grown_trans (grown_set w g m b0) (grown_set _ g (m + 1) b1)) (grown_set _ g (m + 2) b2)) (grown_set _ g (m + 3) b3)
  have ho := ownsRow_set (ownsRow_set (ownsRow_set (ownsRow_set hown hg m b0) hg (m + 1) b1) hg (m + 2) b2) hg (m + 3) b3
  rw [List.append_nil, set_four u1 a0 a1 a2 a3 b0 b1 b2 b3 m hu1] at ho
  have hne : ∀ u ∈ u1, ∀ b, Refs u b → some b ≠ some g := fun u hu b hr e => h3 u (List.mem_append.2 (.inl hu)) b hr (by rw [hg, ← e])
  have hne2 : ∀ u ∈ [b0, b1, b2, b3], ∀ b, Refs u b → some b ≠ some g := fun u hu b hr e => hsep u hu b hr (by rw [hg, ← e])
  have hxl : (xs ++ [x]).length = (xs ++ [o]).length := by simp
  rw [hxl] at ho
  refine ⟨⟨u1 ++ [b0, b1, b2, b3], ho, (g1.keep fun u hu b hr => hgr.block b (g1.lt u hu b hr) (hne u hu b hr)).app ⟨_, [], (List.append_nil _).symm, opE.keep hM fun u hu b hr => hgr.block b (opE.lt hM u hu b hr) (hne2 u hu b hr), rfl⟩, fun u hu b hr => ?_, fun u hu b hr => ?_⟩, hgr⟩
  · rcases List.mem_append.1 hu with q | q
    · exact h3 u (List.mem_append.2 (.inl q)) b hr
    · exact hsep u q b hr
  · rcases List.mem_append.1 hu with q | q
    · exact h4 u (List.mem_append.2 (.inl q)) b hr
    · exact hF u q b hr
/-- A batch that is being made, at q. -/
structure MB (w0 : World) (q : Nat) (wx : World) (s : Int) (v : Value) (ops : List OpV) : Prop where
  bq : wx.heap[q]? = some (.cells #[.int .i64 s, v] 24 (0, 0))
  row : RowF opE (q + 1) (fun b => q + 1 ≤ b) wx v ops
  bel : Below w0.heap.size w0 wx
  q0 : w0.heap.size ≤ q
theorem MB.later {w0 : World} {q : Nat} {wx wy : World} {s : Int} {v : Value} {ops : List OpV} (h : MB w0 q wx s v ops) (hb : Below wx.heap.size wx wy) : MB w0 q wy s v ops :=
  ⟨(hb.block q (Array.getElem?_eq_some_iff.1 h.bq).1).trans h.bq, h.row.later hb, h.bel.trans (hb.mono h.bel.size), h.q0⟩
theorem MB.facts {w0 : World} {q : Nat} {wx : World} {s : Int} {v : Value} {ops : List OpV} (h : MB w0 q wx s v ops) : wx.cell? ⟨q, 0, none⟩ = some (.int .i64 s) ∧ wx.cell? ⟨q, 1, none⟩ = some v ∧ wx.frozen? ⟨q, 1, none⟩ = false :=
  ⟨by rw [cell_of h.bq]; rfl, by rw [cell_of h.bq]; rfl, frozen_of h.bq 1⟩
/-- Its row has grown, and stands in it. -/
theorem MB.put {w0 : World} {q : Nat} {wx wy : World} {s : Int} {v v' : Value} {ops ops' : List OpV} (h : MB w0 q wx s v ops) (hg : wx.grownBy wy v.ownBlock) (hr : RowF opE (q + 1) (fun b => q + 1 ≤ b) wy v' ops') : MB w0 q (wy.setCell ⟨q, 1, none⟩ v') s v' ops' ∧ wy.cell? ⟨q, 1, none⟩ = some v ∧ wy.frozen? ⟨q, 1, none⟩ = false := by
  have hge : ∀ b, v.ownBlock = some b → q + 1 ≤ b := fun b e => (h.row.own_lt e).1
  have e : wy.heap[q]? = some (.cells #[.int .i64 s, v] 24 (0, 0)) := by
    rw [hg.block q (Array.getElem?_eq_some_iff.1 h.bq).1 (fun e => by have := hge q e.symm; omega)]
    exact h.bq
  have hg2 := grown_set wy q 1 v'
  have h0 := h.q0
  refine ⟨⟨heap_set e 1 v', hr.grown hg2 (fun b e e' => ?_) (fun b e e' => ?_), Below.grown (Below.grown h.bel hg h.bel.size fun k e => ?_) hg2 (Nat.le_trans h.bel.size hg.size) (fun k e => ?_), h.q0⟩, by rw [cell_of e]; rfl, frozen_of e 1⟩
  · have := (hr.own_lt e).1
    simp only [Option.some.injEq] at e'
    omega
  · simp only [Option.some.injEq] at e'
    omega
  · have := hge k e
    omega
  · simp only [Option.some.injEq] at e
    omega
/-- The changes that the law makes. -/
def opI (i : Nat) : OpV := ⟨[(i : Int) % 256, (i : Int) / 256], false, 0, []⟩
def opsN : Nat → List OpV
  | 0 => []
  | n + 1 => opsN n ++ [opI n]
theorem opsN_len : ∀ n, (opsN n).length = n
  | 0 => rfl
  | n + 1 => by rw [opsN, List.length_append, opsN_len n]; rfl
theorem sl_two (w : World) {c0 c1 : Int} (h0 : 0 ≤ c0 ∧ c0 < 256) (h1 : 0 ≤ c1 ∧ c1 < 256) : Sl (w.alloc (.cells #[.int .u8 c0, .int .u8 c1] 5)) (some ⟨w.heap.size, 0, none⟩) 2 2 [c0, c1] := by
  obtain ⟨n0, rfl⟩ := Int.eq_ofNat_of_zero_le h0.1
  obtain ⟨n1, rfl⟩ := Int.eq_ofNat_of_zero_le h1.1
  refine ⟨rfl, fun x hx => ?_, (fun e => by cases e), Nat.le_refl _, by unfold maxLen; omega, fun k hk => ?_⟩
  · simp only [List.mem_cons, List.not_mem_nil, or_false] at hx
    rcases hx with rfl | rfl <;> omega
  · have hc : ∀ j, (w.alloc (.cells #[.int .u8 (n0 : Int), .int .u8 (n1 : Int)] 5)).cell? ⟨w.heap.size, j, none⟩ = #[Value.int .u8 (n0 : Int), .int .u8 (n1 : Int)][j]? := fun j => cell_of (heap_alloc_new w _) j
    match k, hk with
    | 0, _ => exact ⟨by show (Int.toNat (n0 : Int)) < 256; omega, w.heap.size, 0, rfl, by rw [Nat.zero_add, hc]; simp [xof]⟩
    | 1, _ => exact ⟨by show (Int.toNat (n1 : Int)) < 256; omega, w.heap.size, 0, rfl, by rw [Nat.zero_add, hc]; simp [xof]⟩
theorem okb_zeros (n : Nat) : Okb (List.replicate n 0) := fun x hx => by
  have := List.eq_of_mem_replicate hx
  omega
theorem sl_zeros (w : World) (n : Nat) (hn : n ≤ 1099511627776) : Sl (w.alloc (.cells (madeCells #[.int .u8 0] n) 5)) (some ⟨w.heap.size, 0, none⟩) n n (List.replicate n 0) := by
  refine ⟨by simp, okb_zeros n, (fun e => by cases e), Nat.le_refl _, by unfold maxLen; omega, fun k hk => ?_⟩
  have e : (w.alloc (.cells (madeCells #[.int .u8 0] n) 5)).heap[w.heap.size]? = some (.cells (madeCells #[.int .u8 0] n) 5 (0, 0)) := heap_alloc_new w _
  have ex : xof (List.replicate n (0 : Int)) k = 0 := by simp [xof, List.getElem?_replicate, hk]
  refine ⟨by rw [ex]; decide, w.heap.size, 0, rfl, ?_⟩
  rw [ex, Nat.zero_add]
  unfold World.cell?
  rw [e]
  simp only [madeCells]
  simp [hk, Nat.mod_one]
/-- Where a row of one's own that is not empty lies. -/
theorem RowF.block {α : Type} {E : El α} {B : Nat} {F : Nat → Prop} {w : World} {v : Value} {xs : List α} (h : RowF E B F w v xs) (hne : 0 < xs.length) : ∃ g c cur, v = .slice (some ⟨g, 0, none⟩) xs.length c ∧ w.heap[g]? = some (.cells cur E.ty (0, 0)) ∧ g < w.heap.size := by
  obtain ⟨us, hown, _⟩ := h
  rcases hown.2 with ⟨rfl, h0⟩ | ⟨g, cap, cur, rfl, hb, hgg, q1, q2, q3, q4⟩
  · omega
  · exact ⟨g, cap, cur, rfl, hgg, (Array.getElem?_eq_some_iff.1 hgg).1⟩
/-- Its last change, set anew. -/
theorem MB.last {w0 : World} {q : Nat} {wx : World} {s : Int} {v : Value} {xs : List OpV} {x o : OpV} {g : Nat} {b0 b1 b2 b3 : Value} (h : MB w0 q wx s v (xs ++ [x])) (hg : v.ownBlock = some g) (hM : opE.M wx [b0, b1, b2, b3] o) (hsep : ∀ u ∈ [b0, b1, b2, b3], ∀ b, Refs u b → v.ownBlock ≠ some b) (hF : ∀ u ∈ [b0, b1, b2, b3], ∀ b, Refs u b → q + 1 ≤ b) (m : Nat) (hm : m = xs.length * 4) :
    MB w0 q ((((wx.setCell ⟨g, m, none⟩ b0).setCell ⟨g, m + 1, none⟩ b1).setCell ⟨g, m + 2, none⟩ b2).setCell ⟨g, m + 3, none⟩ b3) s v (xs ++ [o]) := by
  obtain ⟨hr, hgr⟩ := RowF.last h.row hg hM hsep hF m hm
  have hge : q + 1 ≤ g := (h.row.own_lt hg).1
  have h0 := h.q0
  refine ⟨?_, hr, Below.grown h.bel hgr h.bel.size fun k e => ?_, h.q0⟩
  · rw [hgr.block q (Array.getElem?_eq_some_iff.1 h.bq).1 (fun e => by simp only [Option.some.injEq] at e; omega)]
    exact h.bq
  · simp only [Option.some.injEq] at e
    omega
theorem MB.drew {w0 : World} {q : Nat} {wx : World} {s : Int} {v : Value} {ops : List OpV} (h : MB w0 q wx s v ops) : MB w0 q wx.drew s v ops := h.later (Below.refl _ _).drew
/-- What the law lays into it last. -/
theorem MB.made {w0 : World} {q : Nat} {wx : World} {s : Int} {g n c : Nat} {xs : List OpV} {x : OpV} (h : MB w0 q wx s (.slice (some ⟨g, 0, none⟩) n c) (xs ++ [x])) (hg : g < wx.heap.size) {K V : Nat} (hK : K ≤ 100000) (hV : V ≤ 100000) (gone : Bool) {till : Int} (ht : In64 till) (m : Nat) (hm : m = xs.length * 4) :
    MB w0 q (((((((wx.setCell ⟨g, m, none⟩ (.slice (some ⟨wx.heap.size, 0, none⟩) K K)).setCell ⟨g, m + 1, none⟩ (.bool gone)).setCell ⟨g, m + 2, none⟩ (.int .i64 till)).setCell ⟨g, m + 3, none⟩ (.slice (some ⟨wx.heap.size + 1, 0, none⟩) V V)).alloc (.cells (madeCells #[.int .u8 0] K) 5)).alloc (.cells (madeCells #[.int .u8 0] V) 5))).drew s (.slice (some ⟨g, 0, none⟩) n c) (xs ++ [⟨List.replicate K 0, gone, till, List.replicate V 0⟩]) ∧
    MB w0 q (((((((wx.setCell ⟨g, m, none⟩ (.slice (some ⟨wx.heap.size + 1, 0, none⟩) K K)).setCell ⟨g, m + 1, none⟩ (.bool gone)).setCell ⟨g, m + 2, none⟩ (.int .i64 till)).setCell ⟨g, m + 3, none⟩ (.slice (some ⟨wx.heap.size, 0, none⟩) V V)).alloc (.cells (madeCells #[.int .u8 0] V) 5)).alloc (.cells (madeCells #[.int .u8 0] K) 5))).drew s (.slice (some ⟨g, 0, none⟩) n c) (xs ++ [⟨List.replicate K 0, gone, till, List.replicate V 0⟩]) := by
  have key : ∀ (A B : Obj) (x3 x4 : Nat), x3 = wx.heap.size ∨ x3 = wx.heap.size + 1 → x4 = wx.heap.size ∨ x4 = wx.heap.size + 1 → Sl ((wx.alloc A).alloc B) (some ⟨x3, 0, none⟩) K K (List.replicate K 0) → Sl ((wx.alloc A).alloc B) (some ⟨x4, 0, none⟩) V V (List.replicate V 0) →
      MB w0 q (((((((wx.setCell ⟨g, m, none⟩ (.slice (some ⟨x3, 0, none⟩) K K)).setCell ⟨g, m + 1, none⟩ (.bool gone)).setCell ⟨g, m + 2, none⟩ (.int .i64 till)).setCell ⟨g, m + 3, none⟩ (.slice (some ⟨x4, 0, none⟩) V V)).alloc A).alloc B)).drew s (.slice (some ⟨g, 0, none⟩) n c) (xs ++ [⟨List.replicate K 0, gone, till, List.replicate V 0⟩]) := fun A B x3 x4 e3 e4 s3 s4 => by
    have hb : Below wx.heap.size wx ((wx.alloc A).alloc B) := ((Below.refl _ wx).alloc (Nat.le_refl _) _).alloc (by simp) _
    have h2 := h.later hb
    have hq := (Array.getElem?_eq_some_iff.1 h.bq).1
    have hrf : ∀ u ∈ [Value.slice (some ⟨x3, 0, none⟩) K K, .bool gone, .int .i64 till, .slice (some ⟨x4, 0, none⟩) V V], ∀ b, Refs u b → wx.heap.size ≤ b := fun u hu b hr => by
      simp only [List.mem_cons, List.not_mem_nil, or_false] at hu
      obtain ⟨off, l, c', e, hl0⟩ := hr
      rcases hu with rfl | rfl | rfl | rfl
      · simp only [Value.slice.injEq, Option.some.injEq, Addr.mk.injEq, and_true] at e
        omega
      · cases e
      · cases e
      · simp only [Value.slice.injEq, Option.some.injEq, Addr.mk.injEq, and_true] at e
        omega
    have h3 := (h2.last (g := g) (b0 := .slice (some ⟨x3, 0, none⟩) K K) (b1 := .bool gone) (b2 := .int .i64 till) (b3 := .slice (some ⟨x4, 0, none⟩) V V) (o := ⟨List.replicate K 0, gone, till, List.replicate V 0⟩) rfl ⟨some ⟨x3, 0, none⟩, K, some ⟨x4, 0, none⟩, V, by simp, by simpa using s3, by simpa using s4, ht⟩ (fun u hu b hr e => by
      have := hrf u hu b hr
      simp [Value.ownBlock] at e
      omega) (fun u hu b hr => by have := hrf u hu b hr; omega) m hm).drew
    have e : ∀ (a : Nat) (u : Value) (w1 : World), w1.heap.size = wx.heap.size → ((w1.alloc A).alloc B).setCell ⟨g, a, none⟩ u = ((w1.setCell ⟨g, a, none⟩ u).alloc A).alloc B := fun a u w1 hw1 => by
      rw [World.setCell_alloc_past _ _ _ _ (by simp; omega), World.setCell_alloc_past _ _ _ _ (by omega)]
    rw [e _ _ wx rfl, e _ _ _ (by simp), e _ _ _ (by simp), e _ _ _ (by simp)] at h3
    exact h3
  refine ⟨key _ _ _ _ (.inl rfl) (.inr rfl) ?_ ?_, key _ _ _ _ (.inr rfl) (.inl rfl) ?_ ?_⟩
  · exact (sl_zeros wx K (by omega)).later ((Below.refl _ _).alloc (Nat.le_refl _) _)
  · have := sl_zeros (wx.alloc (.cells (madeCells #[.int .u8 0] K) 5)) V (by omega)
    simpa using this
  · have := sl_zeros (wx.alloc (.cells (madeCells #[.int .u8 0] V) 5)) K (by omega)
    simpa using this
  · exact (sl_zeros wx V (by omega)).later ((Below.refl _ _).alloc (Nat.le_refl _) _)
end Go.Proofs.Ytcielnkkbccldaa
