/- Steps on rows of bytes: an empty row, an append, a string. -/
import Derived.Test.YtgfkjbckhgndcaaStep
import Derived.Test.YtgfkjbckhgndcaaFresh
import Derived.Test.YtgfkjbckhgndcaaRtake
namespace Go.Proofs.Ytgfkjbckhgndcaa
open Go.RowKit

section
variable {Q : Exit → Act → World → Prop} {ops : Array Oper} {ks : List Kind} {i : Nat} {o : Oper} {a : Act} {w : World}

theorem goal_str {x : Operand} {ao : Option Addr} {len cap : Nat} {X : Nat → Nat} {s : ByteArray} (hw : Region.wanted o (yielded ops a.tmps) = true) (hop : o.op = .convert 22 9 x) (hx : a.eval x = .slice ao len cap) (hb : Byt w ao len X) (hnil : ao = none → len = 0 ∧ cap = 0)
    (hs : s = strOfNums (bs X len)) (hv : kOf ks i = .val (.string s)) : Goal Try.prog Q ops ks i o a w := by
  refine goal_val hw ?_ hv
  unfold execOp
  rw [hop]
  simp only [hx, Sem.run_bind, run_str hb hnil, Result.andThen_ok, Sem.run_pure, hs]

theorem goal_strRow {B : Nat} {x : Operand} {v : Value} {xs : List Int} (hw : Region.wanted o (yielded ops a.tmps) = true) (hop : o.op = .convert 22 9 x) (hx : a.eval x = v) (hr : Row B w v xs) (hok : Okb xs)
    (hv : kOf ks i = .val (.string (strOfNums xs))) : Goal Try.prog Q ops ks i o a w := by
  obtain ⟨ao, cap, rfl, hnil, _, _, hb⟩ := hr.byt hok
  exact goal_str hw hop hx hb hnil (by rw [bs_xof hok]) hv

theorem run_empty (w : World) : (Instr.buildSlice 22 0 #[]).run Try.prog w = .ok (.slice (some ⟨w.heap.size, 0, none⟩) 0 0) (w.alloc (.cells #[] 5)) := by
  simp [go_sem]

theorem goal_empty {B : Nat} {u : Option Nat} (hw : Region.wanted o (yielded ops a.tmps) = true) (hop : o.op = .buildSlice 22 0 #[]) (hB : B ≤ w.heap.size) (hv : kOf ks i = .own (fun w v => Row B w v []) u) : Goal Try.prog Q ops ks i o a w := by
  refine goal_run (v := .slice (some ⟨w.heap.size, 0, none⟩) 0 0) (w' := w.alloc (.cells #[] 5)) hw ?_ (out_new hv hB ((Below.refl _ _).alloc (Nat.le_refl _) _) ?_)
  · unfold execOp
    rw [hop]
    simp only [List.map_toArray, List.map_nil, Sem.run_bind, run_empty, Result.andThen_ok, Sem.run_pure]
  · exact World.ownsRow_made w #[] 0 (Nat.le_refl _) (Nat.zero_le _) rfl

/-- 'append' to a row that is the region's own. -/
theorem goal_app {B j : Nat} {s x : Operand} {ys : List Int} {u : Option Nat} {ao : Option Addr} {m c : Nat} {X : Nat → Nat} (hw : Region.wanted o (yielded ops a.tmps) = true)
    (hop : o.op = .call { callee := .builtin .append, args := #[s, x], argTypes := #[22, 22] }) (hs : a.eval s = slot ops a j) (hj : j < i) (hKj : kOf ks j = .own (fun w v => Row B w v ys) (some i)) (hy : Row B w (slot ops a j) ys)
    (hx : a.eval x = .slice ao m c) (hnil : ao = none → m = 0 ∧ c = 0) (hby : Byt w ao m X) (hb : ys.length + m ≤ 140737488355328) (hB : B ≤ w.heap.size)
    (hv : kOf ks i = .own (fun w v => Row B w v (ys ++ bs X m)) u) : Goal Try.prog Q ops ks i o a w :=
  .inl ⟨hw, fun _ hKk => wp_app s x hop B (slot ops a j) ys hs hy ao m c X hx hnil hby hb hB fun v' w' hr hg hm => hKk v' w' (out_over hv hj hKj hy hr hg hm)⟩
end
end Go.Proofs.Ytgfkjbckhgndcaa
