/- The document's own parts of keys: Part, TakePart. -/
import Derived.Test.YtifgojkmdicdmaaKslc
namespace Go.Proofs.Ytifgojkmdicdmaa
open Go.RowKit
set_option linter.unusedVariables false
set_option linter.unusedSimpArgs false

/-- One byte appended to a row of one's own. -/
theorem wpList_app1 {w : World} {ops : Array Oper} {rest : List Oper} {o : Oper} {a : Act} {Q : Exit → Act → World → Prop} {s x : Operand} {B : Nat} {v : Value} {xs : List Int} {c : Nat} (hgd : o.guard = none)
    (ho : o.op = .call { callee := .builtin .append, args := #[s, x], argTypes := #[25, 25] }) (hs : a.eval s = v) (hx : a.eval x = .slice (some ⟨w.heap.size, 0, none⟩) 1 1) (hrow : Row B w v xs) (hc : c < 256) (hb : xs.length + 1 ≤ 140737488355328) (hB : B ≤ w.heap.size)
    (h : ∀ v' w', Row B w' v' (xs ++ [(c : Int)]) → Below B w w' → (∀ {W0 : World} {v0 : Value}, W0.grownBy w v0.ownBlock → Moved W0 v0 v → W0.grownBy w' v0.ownBlock ∧ Moved W0 v0 v') → wpList Try.prog ops Q rest (a.put o.dst v') w') : wpList Try.prog ops Q (o :: rest) a (w.alloc (.cells #[.int .u8 (c : Int)] 5)) := by
  have hb0 : Below B w (w.alloc (.cells #[.int .u8 (c : Int)] 5)) := (Below.refl _ _).alloc hB _
  refine wpList_app hgd s x ho B v xs hs (hrow.alloc _) (some ⟨w.heap.size, 0, none⟩) 1 1 (fun _ => c) hx (fun e => by cases e) (byt_one w c hc) hb (Nat.le_trans hB hb0.size) fun v' w' q1 q2 q3 => h v' w' ?_ ?_ (fun g1 g2 => app_step g1 g2 q2 q3)
  · have e : bs (fun _ => c) 1 = [(c : Int)] := rfl
    rw [e] at q1
    exact q1
  · exact hb0.trans (grown_below (hrow.alloc _) q2 (Nat.le_trans hB hb0.size))
/-- Two bytes appended. -/
theorem wpList_app2 {w : World} {ops : Array Oper} {rest : List Oper} {o : Oper} {a : Act} {Q : Exit → Act → World → Prop} {s x : Operand} {B : Nat} {v : Value} {xs : List Int} {c d : Nat} (hgd : o.guard = none)
    (ho : o.op = .call { callee := .builtin .append, args := #[s, x], argTypes := #[25, 25] }) (hs : a.eval s = v) (hx : a.eval x = .slice (some ⟨w.heap.size, 0, none⟩) 2 2) (hrow : Row B w v xs) (hc : c < 256) (hd : d < 256) (hb : xs.length + 2 ≤ 140737488355328) (hB : B ≤ w.heap.size)
    (h : ∀ v' w', Row B w' v' (xs ++ [(c : Int), (d : Int)]) → Below B w w' → (∀ {W0 : World} {v0 : Value}, W0.grownBy w v0.ownBlock → Moved W0 v0 v → W0.grownBy w' v0.ownBlock ∧ Moved W0 v0 v') → wpList Try.prog ops Q rest (a.put o.dst v') w') : wpList Try.prog ops Q (o :: rest) a (w.alloc (.cells #[.int .u8 (c : Int), .int .u8 (d : Int)] 5)) := by
  have hb0 : Below B w (w.alloc (.cells #[.int .u8 (c : Int), .int .u8 (d : Int)] 5)) := (Below.refl _ _).alloc hB _
  refine wpList_app hgd s x ho B v xs hs (hrow.alloc _) (some ⟨w.heap.size, 0, none⟩) 2 2 (fun k => if k = 0 then c else d) hx (fun e => by cases e) (fun k hk => ?_) hb (Nat.le_trans hB hb0.size) fun v' w' q1 q2 q3 => h v' w' ?_ ?_ (fun g1 g2 => app_step g1 g2 q2 q3)
  · have : k = 0 ∨ k = 1 := by omega
    rcases this with e | e <;> subst e
    · exact ⟨hc, w.heap.size, 0, rfl, by simp⟩
    · exact ⟨hd, w.heap.size, 0, rfl, by simp⟩
  · have e : bs (fun k => if k = 0 then c else d) 2 = [(c : Int), (d : Int)] := rfl
    rw [e] at q1
    exact q1
  · exact hb0.trans (grown_below (hrow.alloc _) q2 (Nat.le_trans hB hb0.size))

theorem esc_app : ∀ a b : List Int, esc (a ++ b) = esc a ++ esc b
  | [], _ => rfl
  | x :: r, b => by
    rw [List.cons_append, esc, esc, esc_app r b]
    split <;> rfl
theorem esc_take {ps : List Int} {k : Nat} (h : k < ps.length) : esc (ps.take (k + 1)) = esc (ps.take k) ++ (if ps[k] = 0 then [0, 255] else [ps[k]]) := by
  rw [List.take_add_one, List.getElem?_eq_getElem h, esc_app]
  simp only [Option.toList_some, esc]
theorem xof_at {xs : List Int} (h : Okb xs) {k : Nat} (hk : k < xs.length) : xs[k] = (xof xs k : Int) := by
  have := h xs[k] (List.getElem_mem hk)
  simp [xof, List.getElem?_eq_getElem hk]
  omega

end Go.Proofs.Ytifgojkmdicdmaa
