import Derived.Test.YtjgfklbhagcbaabPk11
import Derived.Test.YtjgfklbhagcbaabPk13
import Derived.Test.YtjgfklbhagcbaabPk18
/- The document's own May, Weight and Ahead of entries. -/
namespace Go.Proofs.Ytjgfklbhagcbaab
open Go.RowKit
set_option linter.unusedVariables false
set_option linter.unusedSimpArgs false

end Go.Proofs.Ytjgfklbhagcbaab

/- The document's own SameOps, SameBatch, SameEntry, SameEntries, of what is the same. -/
namespace Go.Proofs.Ytjgfklbhagcbaab
open Go.RowKit
set_option linter.unusedVariables false
set_option linter.unusedSimpArgs false

end Go.Proofs.Ytjgfklbhagcbaab

/- The document's own Put: an entry into a row in order. -/
namespace Go.Proofs.Ytjgfklbhagcbaab
open Go.RowKit
set_option linter.unusedVariables false
set_option linter.unusedSimpArgs false

/-- Where a row of structs begins that is cut at i. -/
def cutS (ao : Option Addr) (cap i sz : Nat) : Option Addr := if cap - i = 0 then ao else ao.map (fun a => a.add (i * sz))
theorem sliced_cutS (ao : Option Addr) (cap i j sz : Nat) (h : i ≤ cap) : sliced ao i j cap sz = .slice (cutS ao cap i sz) (j - i) (cap - i) := by
  unfold sliced cutS
  congr 1
  by_cases q : cap = i
  · rw [if_pos q, if_pos (by omega)]
  · rw [if_neg q, if_neg (by omega)]
/-- Elements appended to a row of one's own, where an order is drawn. -/
theorem step_appG {α : Type} (E : El α) {t : TypeId} {z : Value} {bytes : Nat} (ht : Try.prog.underlying t = some (.slice E.ty)) (hinfo : (Try.prog.info? E.ty).map (fun i => (i.zero, i.size, i.bytes)) = some (some z, E.size, bytes)) (hz1 : z.cells.size = E.size) (hp : 0 < E.size)
    {ops : Array Oper} {w : World} {o : Oper} {a : Act} {K : Act → World → Prop} {Q : Exit → Act → World → Prop} {EE : Prop} (hgd : o.guard = none) (s x : Operand)
    (ho : o.op = .call { callee := .builtin .append, args := #[s, x], argTypes := #[t, t] }) {B : Nat} {v : Value} {xs ys : List α} (hs : a.eval s = v) {G : Nat → Prop} (hrow : RowF E B G w v xs) {ao : Option Addr} {m c : Nat} (hx : a.eval x = .slice ao m c)
    (hr : RSG E G w ao m c ys) (hG : ∀ b, G b → b < B) (hb : (xs.length + m) * bytes ≤ 140737488355328) (h63 : xs.length + m ≤ 140737488355328) (hbase : B ≤ w.heap.size)
    (h : ∀ v' w', RowF E B G w' v' (xs ++ ys) → w.grownBy w' v.ownBlock → Below B w w' → K (a.put o.dst v') w') : if Region.wanted o (yielded ops a.tmps) = true then Oper.wp Try.prog o a w K Q else EE := by
  have hw : Region.wanted o (yielded ops a.tmps) = true := by simp [Region.wanted, hgd]
  rw [if_pos hw]
  obtain ⟨us, hru, hug⟩ := hr
  obtain ⟨v', w', hr, h2, h3, h4⟩ := run_appF E t z bytes ht hinfo hz1 hp o.type hrow hru (fun u hu b hrb e => by have := hG b (hug u hu b hrb); have := (hrow.own_lt e).1; omega) hug h63 hb hbase
  unfold Oper.wp execOp
  simp only [ho, resolve, invoke, builtin, Sem.run_bind, Sem.run_pure, Result.andThen_ok, List.map_toArray, List.map_cons, List.map_nil, hs, hx, hr]
  exact h _ _ h2 h3 (hrow.s.below h3 hbase)
theorem rsg_one {α : Type} {E : El α} {G : Nat → Prop} {w : World} {vs : List Value} {x : α} (h : E.M w vs x) (hg : ∀ u ∈ vs, ∀ b, Refs u b → G b) : RSG E G (w.alloc (.cells vs.toArray E.ty)) (some ⟨w.heap.size, 0, none⟩) 1 1 [x] := ⟨vs, rs_one h, hg⟩
theorem RowF.base {α : Type} {E : El α} {B B' : Nat} {F : Nat → Prop} {w : World} {v : Value} {xs : List α} (h : RowF E B F w v xs) (hB : B' ≤ B) : RowF E B' F w v xs := by
  obtain ⟨us, hown, h2, h3, h4⟩ := h
  refine ⟨us, ⟨hown.1, ?_⟩, h2, h3, h4⟩
  rcases hown.2 with q | ⟨g, cap, cur, q1, q2, q3⟩
  · exact .inl q
  · exact .inr ⟨g, cap, cur, q1, by omega, q3⟩
theorem below_nil {w w' : World} (h : w.grownBy w' (Value.slice none 0 0).ownBlock) : Below w.heap.size w w' := Below.grown (Below.refl _ w) h (Nat.le_refl _) (fun k hk => by cases hk)
theorem RowF.alloc {α : Type} {E : El α} {B : Nat} {F : Nat → Prop} {w : World} {v : Value} {xs : List α} (h : RowF E B F w v xs) (o : Obj) : RowF E B F (w.alloc o) v xs := h.later ((Below.refl _ _).alloc (Nat.le_refl _) _)

end Go.Proofs.Ytjgfklbhagcbaab
