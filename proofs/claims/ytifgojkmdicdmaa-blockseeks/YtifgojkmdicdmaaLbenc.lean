/- What the landed batch's Encode answers. -/
import Derived.Test.YtifgojkmdicdmaaLbmay
import Derived.Test.YtifgojkmdicdmaaBput
namespace Go.Proofs.Ytifgojkmdicdmaa
open Go.RowKit
set_option linter.unusedVariables false
set_option linter.unusedSimpArgs false

/-- vint's Put and PutBytes of nothing. -/
theorem vput_nil {w : World} {n : Nat} (hn : n < 18446744073709551616) : Calls Try.prog 46 #[.slice none 0 0, .int .u64 (n : Int)] w fun e w' => ∃ v', e = .returned v' ∧ Row w.heap.size w' v' (uv n) ∧ Below w.heap.size w w' :=
  put_any none 0 0 n (xof []) w (fun k hk => by cases hk) (fun _ => ⟨rfl, rfl⟩) (by omega) hn
theorem vpby_nil {w : World} {so : Option Addr} {ls cs : Nat} {rs : List Int} (h : Sl w so ls cs rs) (hl : ls ≤ 140737488351232) : Calls Try.prog 47 #[.slice none 0 0, .slice so ls cs] w fun e w' => ∃ v', e = .returned v' ∧ Row w.heap.size w' v' (lb rs) ∧ Below w.heap.size w w' := by
  refine (pby_any none so 0 0 ls cs (xof []) (xof rs) w (fun k hk => by cases hk) (fun _ => ⟨rfl, rfl⟩) h.2.2.2.2.2 h.2.2.1 (by omega)).mono ?_
  rintro e w' ⟨v', rfl, h1, h2⟩
  rw [← h.1, bs_xof h.2.1] at h1
  exact ⟨v', rfl, h1, h2⟩
/-- Bytes behind a row of one's own, as a step of a region that draws. -/
theorem step_appl {ops : Array Oper} {w : World} {o : Oper} {a : Act} {K : Act → World → Prop} {Q : Exit → Act → World → Prop} {E : Prop} {B : Nat} {v : Value} {xs ys : List Int} {ao : Option Addr} {m c : Nat} (hgd : o.guard = none) (s x : Operand)
    (ho : o.op = .call { callee := .builtin .append, args := #[s, x], argTypes := #[25, 25] }) (hs : a.eval s = v) (hrow : Row B w v xs) (hx : a.eval x = .slice ao m c) (hsl : Sl w ao m c ys) (hb : xs.length + m ≤ 140737488355328) (hB : B ≤ w.heap.size)
    (h : ∀ v' w', Row B w' v' (xs ++ ys) → w.grownBy w' v.ownBlock → Moved w v v' → K (a.put o.dst v') w') :
    if Region.wanted o (yielded ops a.tmps) = true then Oper.wp Try.prog o a w K Q else E := by
  have hw : Region.wanted o (yielded ops a.tmps) = true := by simp [Region.wanted, hgd]
  rw [if_pos hw]
  obtain ⟨v', w', hr, h2, h3, h4⟩ := run_app B w o.type v xs hrow ao m c (xof ys) hsl.2.2.1 hsl.2.2.2.2.2 hb hB
  rw [← hsl.1, bs_xof hsl.2.1] at h2
  unfold Oper.wp execOp
  simp only [ho, resolve, invoke, builtin, Sem.run_bind, Sem.run_pure, Result.andThen_ok, List.map_toArray, List.map_cons, List.map_nil, hs, hx, hr]
  exact h _ _ h2 h3 h4
theorem wpList_appl {w : World} {ops : Array Oper} {rest : List Oper} {o : Oper} {a : Act} {Q : Exit → Act → World → Prop} {B : Nat} {v : Value} {xs ys : List Int} {ao : Option Addr} {m c : Nat} (hgd : o.guard = none) (s x : Operand)
    (ho : o.op = .call { callee := .builtin .append, args := #[s, x], argTypes := #[25, 25] }) (hs : a.eval s = v) (hrow : Row B w v xs) (hx : a.eval x = .slice ao m c) (hsl : Sl w ao m c ys) (hb : xs.length + m ≤ 140737488355328) (hB : B ≤ w.heap.size)
    (h : ∀ v' w', Row B w' v' (xs ++ ys) → w.grownBy w' v.ownBlock → Moved w v v' → wpList Try.prog ops Q rest (a.put o.dst v') w') : wpList Try.prog ops Q (o :: rest) a w :=
  wpList_plain hgd fun K hK => by
    obtain ⟨v', w', hr, h2, h3, h4⟩ := run_app B w o.type v xs hrow ao m c (xof ys) hsl.2.2.1 hsl.2.2.2.2.2 hb hB
    rw [← hsl.1, bs_xof hsl.2.1] at h2
    unfold Oper.wp execOp
    simp only [ho, resolve, invoke, builtin, Sem.run_bind, Sem.run_pure, Result.andThen_ok, List.map_toArray, List.map_cons, List.map_nil, hs, hx, hr]
    exact hK _ _ (h v' w' h2 h3 h4)
theorem Mid.later {W : World} {ob : Nat} {C : Array Value} {t : TypeId} {wx wy : World} {v : Value} {ys : List Int} (h : Mid W ob C t wx v ys) (hb : Below wx.heap.size wx wy) : Mid W ob C t wy v ys :=
  ⟨h.row.later hb, h.bel.trans (hb.mono h.bel.size), (hb.block ob (Array.getElem?_eq_some_iff.1 h.blk).1).trans h.blk, h.ne⟩

end Go.Proofs.Ytifgojkmdicdmaa
