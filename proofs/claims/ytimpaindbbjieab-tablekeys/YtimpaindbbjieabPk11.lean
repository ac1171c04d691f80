import Derived.Test.YtimpaindbbjieabPk10
/- The document's own List, Seen, Latest and Get. -/
namespace Go.Proofs.Ytimpaindbbjieab
open Go.RowKit
set_option linter.unusedVariables false
set_option linter.unusedSimpArgs false

theorem wpList_appG {α : Type} (E : El α) {t : TypeId} {z : Value} {bytes : Nat} (ht : Try.prog.underlying t = some (.slice E.ty)) (hinfo : (Try.prog.info? E.ty).map (fun i => (i.zero, i.size, i.bytes)) = some (some z, E.size, bytes)) (hz1 : z.cells.size = E.size) (hp : 0 < E.size)
    {w : World} {ops : Array Oper} {rest : List Oper} {o : Oper} {a : Act} {Q : Exit → Act → World → Prop} (hgd : o.guard = none) (s x : Operand)
    (ho : o.op = .call { callee := .builtin .append, args := #[s, x], argTypes := #[t, t] }) {B : Nat} {v : Value} {xs ys : List α} (hs : a.eval s = v) {G : Nat → Prop} (hrow : RowF E B G w v xs) {ao : Option Addr} {m c : Nat} (hx : a.eval x = .slice ao m c)
    (hr : RSG E G w ao m c ys) (hG : ∀ b, G b → b < B) (hb : (xs.length + m) * bytes ≤ 140737488355328) (h63 : xs.length + m ≤ 140737488355328) (hbase : B ≤ w.heap.size)
    (h : ∀ v' w', RowF E B G w' v' (xs ++ ys) → Below B w w' → wpList Try.prog ops Q rest (a.put o.dst v') w') : wpList Try.prog ops Q (o :: rest) a w := by
  obtain ⟨us, hru, hug⟩ := hr
  exact wpList_appF E ht hinfo hz1 hp hgd s x ho hs hrow hx hru (fun u hu b hrb e => by have := hG b (hug u hu b hrb); have := (hrow.own_lt e).1; omega) hug h63 hb hbase fun v' w' h2 h3 _ => h v' w' h2 (hrow.s.below h3 hbase)
/-- An entry of a row that leans on G: its cells, and what they lean on. -/
theorem RSG.ent {G : Nat → Prop} {w : World} {ao : Option Addr} {len cap : Nat} {os : List EntV} (h : RSG entE G w ao len cap os) {i : Nat} {o : EntV} (hx : os[i]? = some o) :
    ∃ b off ka kc va vc, ao = some ⟨b, off, none⟩ ∧ w.cell? ⟨b, off + i * 5, none⟩ = some (.slice ka o.key.length kc) ∧ w.cell? ⟨b, off + i * 5 + 1, none⟩ = some (.int .i64 o.seq) ∧ w.cell? ⟨b, off + i * 5 + 2, none⟩ = some (.bool o.gone) ∧ w.cell? ⟨b, off + i * 5 + 3, none⟩ = some (.int .i64 o.till) ∧ w.cell? ⟨b, off + i * 5 + 4, none⟩ = some (.slice va o.val.length vc) ∧
      EntM w [.slice ka o.key.length kc, .int .i64 o.seq, .bool o.gone, .int .i64 o.till, .slice va o.val.length vc] o ∧ Sl w ka o.key.length kc o.key ∧ ∀ u ∈ [Value.slice ka o.key.length kc, .int .i64 o.seq, .bool o.gone, .int .i64 o.till, .slice va o.val.length vc], ∀ b, Refs u b → G b := by
  obtain ⟨us, ⟨h1, h2, h3, h4, h5, h6⟩, hg⟩ := h
  obtain ⟨vs, g1, gm, g2⟩ := h5.at hx
  have g1' := g1
  obtain ⟨ka, kc, va, vc, rfl, s1, s2, s3, s4⟩ := g1'
  obtain ⟨b, off, e, _⟩ := h6 _ _ (g2 0 _ rfl)
  have hc : ∀ (j : Nat) (v : Value), [Value.slice ka o.key.length kc, .int .i64 o.seq, .bool o.gone, .int .i64 o.till, .slice va o.val.length vc][j]? = some v → w.cell? ⟨b, off + (i * 5 + j), none⟩ = some v := fun j v hv => by
    obtain ⟨b', off', e', hc⟩ := h6 _ _ (g2 j v hv)
    rw [e] at e'
    simp only [Option.some.injEq, Addr.mk.injEq, and_true] at e'
    obtain ⟨rfl, rfl⟩ := e'
    exact hc
  exact ⟨b, off, ka, kc, va, vc, e, hc 0 _ rfl, hc 1 _ rfl, hc 2 _ rfl, hc 3 _ rfl, hc 4 _ rfl, g1, s1, fun u hu b hr => hg u (gm u hu) b hr⟩
theorem box_cells (w : World) (a b c d e : Value) (t : TypeId) {wx : World} (hb : Below (w.alloc (.cells #[a, b, c, d, e] t)).heap.size (w.alloc (.cells #[a, b, c, d, e] t)) wx) :
    wx.cell? ⟨w.heap.size, 0, none⟩ = some a ∧ wx.cell? ⟨w.heap.size, 1, none⟩ = some b ∧ wx.cell? ⟨w.heap.size, 2, none⟩ = some c ∧ wx.cell? ⟨w.heap.size, 3, none⟩ = some d ∧ wx.cell? ⟨w.heap.size, 4, none⟩ = some e := by
  refine ⟨cell_later hb ?_, cell_later hb ?_, cell_later hb ?_, cell_later hb ?_, cell_later hb ?_⟩ <;> rw [cell_of (heap_alloc_new w _)] <;> rfl

end Go.Proofs.Ytimpaindbbjieab

/- The document's own Seen. -/
namespace Go.Proofs.Ytimpaindbbjieab
open Go.RowKit
set_option linter.unusedVariables false
set_option linter.unusedSimpArgs false

theorem seen1_yes {s : Int} {out : List EntV} {e : EntV} (h1 : e.seq ≤ s) (h2 : out = [] ∨ ∃ x, out.getLast? = some x ∧ cmp x.key e.key ≠ 0) : seen1 s out e = out ++ [e] := by unfold seen1; rw [if_pos ⟨h1, h2⟩]
theorem seen1_old {s : Int} {out : List EntV} {e : EntV} (h1 : ¬ e.seq ≤ s) : seen1 s out e = out := by unfold seen1; rw [if_neg (fun h => h1 h.1)]
theorem seen1_like {s : Int} {out : List EntV} {e x : EntV} (hx : out.getLast? = some x) (h : cmp x.key e.key = 0) : seen1 s out e = out := by
  unfold seen1
  rw [if_neg]
  rintro ⟨_, h2 | ⟨y, hy, hn⟩⟩
  · rw [h2] at hx; cases hx
  · rw [hx] at hy
    simp only [Option.some.injEq] at hy
    subst hy
    exact hn h
end Go.Proofs.Ytimpaindbbjieab

/- The document's own Latest, Get and Ordered. -/
namespace Go.Proofs.Ytimpaindbbjieab
open Go.RowKit
set_option linter.unusedVariables false
set_option linter.unusedSimpArgs false

def notGone (l : List EntV) : List EntV := l.filter fun e => !e.gone
theorem notGone_take {l : List EntV} {k : Nat} (h : k < l.length) : notGone (l.take (k + 1)) = notGone (l.take k) ++ (if l[k].gone then [] else [l[k]]) := by
  unfold notGone
  rw [List.take_add_one, List.getElem?_eq_getElem h, List.filter_append]
  simp only [Option.toList]
  congr 1
  cases hh : l[k].gone <;> simp [hh]
theorem notGone_len (l : List EntV) : (notGone l).length ≤ l.length := List.length_filter_le _ _
end Go.Proofs.Ytimpaindbbjieab
