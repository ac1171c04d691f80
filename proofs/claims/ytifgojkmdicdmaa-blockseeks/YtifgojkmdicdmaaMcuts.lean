/- The law on what lies ahead of a key and behind it, of any mem. -/
import Derived.Test.YtifgojkmdicdmaaMlaw2
import Derived.Test.YtifgojkmdicdmaaMpur2
namespace Go.Proofs.Ytifgojkmdicdmaa
open Go.RowKit
set_option linter.unusedVariables false
set_option linter.unusedSimpArgs false

/-- A mem that is being filled. -/
def AddS (D : PM) (w : World) (p n : Nat) (wx : World) (L : List EntV) : Prop :=
  ∃ F, D.R wx p L F ∧ ordE L ∧ okE L ∧ L.length ≤ n ∧ (∀ k, F k → w.heap.size ≤ k) ∧ Below w.heap.size w wx
theorem AddS.later {D : PM} {w : World} {p n : Nat} {wx wy : World} {L : List EntV} (h : AddS D w p n wx L) (hb : Below wx.heap.size wx wy) : AddS D w p n wy L := by
  obtain ⟨F, a1, a2, a3, a4, a5, a6⟩ := h
  exact ⟨F, PM.later a1 hb, a2, a3, a4, a5, a6.trans (hb.mono a6.size)⟩
theorem wpList_appSw {α : Type} (E : El α) {t : TypeId} {z : Value} {bytes : Nat} (ht : Try.prog.underlying t = some (.slice E.ty)) (hinfo : (Try.prog.info? E.ty).map (fun i => (i.zero, i.size, i.bytes)) = some (some z, E.size, bytes)) (hz1 : z.cells.size = E.size) (hp : 0 < E.size)
    {w : World} {ops : Array Oper} {rest : List Oper} {o : Oper} {a : Act} {Q : Exit → Act → World → Prop} (hw : Region.wanted o (yielded ops a.tmps) = true) (s x : Operand)
    (ho : o.op = .call { callee := .builtin .append, args := #[s, x], argTypes := #[t, t] }) {B : Nat} {v : Value} {xs ys : List α} (hs : a.eval s = v) (hrow : RowS E B w v xs) {ao : Option Addr} {m c : Nat} {us : List Value} (hx : a.eval x = .slice ao m c)
    (hr : RSu E w ao m c us ys) (hsep : ∀ u ∈ us, ∀ b, Refs u b → v.ownBlock ≠ some b) (h63 : xs.length + m ≤ 140737488355328) (hb : (xs.length + m) * bytes ≤ 140737488355328) (hbase : B ≤ w.heap.size)
    (h : ∀ v' w', RowS E B w' v' (xs ++ ys) → w.grownBy w' v.ownBlock → wpList Try.prog ops Q rest (a.put o.dst v') w') : wpList Try.prog ops Q (o :: rest) a w :=
  wpList_step fun K hK => by
    rw [if_pos hw]
    obtain ⟨v', w', hr, h2, h3, h4⟩ := run_appS E t z bytes ht hinfo hz1 hp o.type hrow hr hsep h63 hb hbase
    unfold Oper.wp execOp
    simp only [ho, resolve, invoke, builtin, Sem.run_bind, Sem.run_pure, Result.andThen_ok, List.map_toArray, List.map_cons, List.map_nil, hs, hx, hr]
    exact hK _ _ (h v' w' h2 h3)
theorem getE_keep {l : List EntV} {key : List Int} {s : Int} {k : Nat} {x : EntV} (h : getE (l.take k) key s = some x) : getE (l.take (k + 1)) key s = some x := by
  unfold getE at h ⊢
  rw [List.take_add_one, List.find?_append, h]
  rfl
/-- What was wanted, in its box. -/
def WantS (q : Nat) (g : Option EntV) (wr : World) : Prop :=
  (g = none ∧ wr.heap[q]? = some (.cells #[.slice none 0 0, .int .i64 0, .bool false, .int .i64 0, .slice none 0 0] 35 (0, 0))) ∨ ∃ x ka kc va vc, g = some x ∧ wr.heap[q]? = some (.cells #[.slice ka x.key.length kc, .int .i64 x.seq, .bool x.gone, .int .i64 x.till, .slice va x.val.length vc] 35 (0, 0)) ∧ EntM wr (entL ka kc va vc x) x

theorem WantS.later {q : Nat} {g : Option EntV} {wr wx : World} (h : WantS q g wr) (hb : Below wr.heap.size wr wx) : WantS q g wx := by
  rcases h with ⟨h1, h2⟩ | ⟨x, ka, kc, va, vc, h1, h2, h3⟩
  · exact .inl ⟨h1, (hb.block q (Array.getElem?_eq_some_iff.1 h2).1).trans h2⟩
  · exact .inr ⟨x, ka, kc, va, vc, h1, (hb.block q (Array.getElem?_eq_some_iff.1 h2).1).trans h2, El.later (E := entE) h3 hb⟩

end Go.Proofs.Ytifgojkmdicdmaa
