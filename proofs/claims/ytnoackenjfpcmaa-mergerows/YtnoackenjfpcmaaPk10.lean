import Derived.Test.YtnoackenjfpcmaaPk03
import Derived.Test.YtnoackenjfpcmaaPk07
import Derived.Test.YtnoackenjfpcmaaPk09
/- What is asked of a program's mem: how it lies in memory is its own. -/
namespace Go.Proofs.Ytnoackenjfpcmaa
open Go.RowKit
set_option linter.unusedVariables false
set_option linter.unusedSimpArgs false

/-- All that is not of F stands. -/
structure Kept (F : Nat → Prop) (w w' : World) : Prop where
  os : w'.os = w.os
  tape : w'.tape = w.tape
  output : w'.output = w.output
  size : w.heap.size ≤ w'.heap.size
  block : ∀ k, k < w.heap.size → ¬ F k → w'.heap[k]? = w.heap[k]?
theorem Kept.below {F : Nat → Prop} {w w' : World} {B : Nat} (h : Kept F w w') (hB : B ≤ w.heap.size) (hF : ∀ k, F k → B ≤ k) : Below B w w' :=
  ⟨h.os, h.tape, h.output, h.size, fun k hk => h.block k (by omega) (fun q => by have := hF k q; omega)⟩
theorem Kept.refl (F : Nat → Prop) (w : World) : Kept F w w := ⟨rfl, rfl, rfl, Nat.le_refl _, fun _ _ _ => rfl⟩
/-- An entry as a value. -/
def entA (ka : Option Addr) (kc : Nat) (va : Option Addr) (vc : Nat) (e : EntV) : Value := .agg #[.slice ka e.key.length kc, .int .i64 e.seq, .bool e.gone, .int .i64 e.till, .slice va e.val.length vc]
def entL (ka : Option Addr) (kc : Nat) (va : Option Addr) (vc : Nat) (e : EntV) : List Value := [.slice ka e.key.length kc, .int .i64 e.seq, .bool e.gone, .int .i64 e.till, .slice va e.val.length vc]
/-- No entry. -/
def ent0 : Value := .agg #[.slice none 0 0, .int .i64 0, .bool false, .int .i64 0, .slice none 0 0]
/-- What a call that tells an entry tells: memory of the caller's own. -/
def GotE (B : Nat) (g : Option EntV) (r : Ending) (w' : World) : Prop :=
  (g = none ∧ r = .returned (.tuple #[ent0, .bool false])) ∨ ∃ x ka kc va vc, g = some x ∧ r = .returned (.tuple #[entA ka kc va vc x, .bool true]) ∧ EntM w' (entL ka kc va vc x) x ∧ ∀ u ∈ entL ka kc va vc x, ∀ b, Refs u b → B ≤ b
/-- The mem's pointer. -/
def pm (p : Nat) : Value := .pointer (some ⟨p, 0, none⟩)
/-- -/
structure PM where
  R : World → Nat → List EntV → (Nat → Prop) → Prop
  G : World → Prop
  N : Nat
  gk : ∀ {w w'}, G w → Below w.heap.size w w' → G w'
  gn : ∀ {w}, G w → N ≤ w.heap.size
  rn : ∀ {w p l F}, R w p l F → N ≤ w.heap.size
  lt : ∀ {w p l F}, R w p l F → ∀ k, F k → k < w.heap.size
  same : ∀ {w w' p l F}, R w p l F → (∀ k, F k → w'.heap[k]? = w.heap[k]?) → (∀ k, k < N → w'.heap[k]? = w.heap[k]?) → R w' p l F
/-- What List and All tell. -/
structure PML (D : PM) : Prop where
theorem PM.later {D : PM} {w w' : World} {p : Nat} {l : List EntV} {F : Nat → Prop} (h : D.R w p l F) (hb : Below w.heap.size w w') : D.R w' p l F := D.same h (fun k hk => hb.block k (D.lt h k hk)) (fun k hk => hb.block k (by have := D.rn h; omega))
end Go.Proofs.Ytnoackenjfpcmaa

/- Slices of bytes as lists, beside the keys' theory. -/
namespace Go.Proofs.Ytnoackenjfpcmaa
end Go.Proofs.Ytnoackenjfpcmaa

/- The document's own parts of keys: Part, TakePart. -/
namespace Go.Proofs.Ytnoackenjfpcmaa
open Go.RowKit
set_option linter.unusedVariables false
set_option linter.unusedSimpArgs false

/-- One byte appended to a row of one's own. -/
theorem wpList_app1 {w : World} {ops : Array Oper} {rest : List Oper} {o : Oper} {a : Act} {Q : Exit → Act → World → Prop} {s x : Operand} {B : Nat} {v : Value} {xs : List Int} {c : Nat} (hgd : o.guard = none)
    (ho : o.op = .call { callee := .builtin .append, args := #[s, x], argTypes := #[33, 33] }) (hs : a.eval s = v) (hx : a.eval x = .slice (some ⟨w.heap.size, 0, none⟩) 1 1) (hrow : Row B w v xs) (hc : c < 256) (hb : xs.length + 1 ≤ 140737488355328) (hB : B ≤ w.heap.size)
    (h : ∀ v' w', Row B w' v' (xs ++ [(c : Int)]) → Below B w w' → (∀ {W0 : World} {v0 : Value}, W0.grownBy w v0.ownBlock → Moved W0 v0 v → W0.grownBy w' v0.ownBlock ∧ Moved W0 v0 v') → wpList Try.prog ops Q rest (a.put o.dst v') w') : wpList Try.prog ops Q (o :: rest) a (w.alloc (.cells #[.int .u8 (c : Int)] 5)) := by
  have hb0 : Below B w (w.alloc (.cells #[.int .u8 (c : Int)] 5)) := (Below.refl _ _).alloc hB _
  refine wpList_app hgd s x ho B v xs hs (hrow.alloc _) (some ⟨w.heap.size, 0, none⟩) 1 1 (fun _ => c) hx (fun e => by cases e) (byt_one w c hc) hb (Nat.le_trans hB hb0.size) fun v' w' q1 q2 q3 => h v' w' ?_ ?_ (fun g1 g2 => app_step g1 g2 q2 q3)
  · have e : bs (fun _ => c) 1 = [(c : Int)] := rfl
    rw [e] at q1
    exact q1
  · exact hb0.trans (grown_below (hrow.alloc _) q2 (Nat.le_trans hB hb0.size))
/-- Two bytes appended. -/
theorem wpList_app2 {w : World} {ops : Array Oper} {rest : List Oper} {o : Oper} {a : Act} {Q : Exit → Act → World → Prop} {s x : Operand} {B : Nat} {v : Value} {xs : List Int} {c d : Nat} (hgd : o.guard = none)
    (ho : o.op = .call { callee := .builtin .append, args := #[s, x], argTypes := #[33, 33] }) (hs : a.eval s = v) (hx : a.eval x = .slice (some ⟨w.heap.size, 0, none⟩) 2 2) (hrow : Row B w v xs) (hc : c < 256) (hd : d < 256) (hb : xs.length + 2 ≤ 140737488355328) (hB : B ≤ w.heap.size)
    (h : ∀ v' w', Row B w' v' (xs ++ [(c : Int), (d : Int)]) → Below B w w' → (∀ {W0 : World} {v0 : Value}, W0.grownBy w v0.ownBlock → Moved W0 v0 v → W0.grownBy w' v0.ownBlock ∧ Moved W0 v0 v') → wpList Try.prog ops Q rest (a.put o.dst v') w') : wpList Try.prog ops Q (o :: rest) a (w.alloc (.cells #[.int .u8 (c : Int), .int .u8 (d : Int)] 5)) := by
  have hb0 : Below B w (w.alloc (.cells #[.int .u8 (c : Int), .int .u8 (d : Int)] 5)) := (Below.refl _ _).alloc hB _
  refine wpList_app hgd s x ho B v xs hs (hrow.alloc _) (some ⟨w.heap.size, 0, none⟩) 2 2 (fun k => if k = 0 then c else d) hx (fun e => by cases e) (fun k hk => ?_) hb (Nat.le_trans hB hb0.size) fun v' w' q1 q2 q3 => h v' w' ?_ ?_ (fun g1 g2 => app_step g1 g2 q2 q3)
  · have : k = 0 ∨ k = 1 := by omega
    rcases this with e | e <;> subst e
    · exact ⟨hc, w.heap.size, 0, rfl, by simp⟩
    · exact ⟨hd, w.heap.size, 0, rfl, by simp⟩
  · have e : bs (fun k => if k = 0 then c else d) 2 = [(c : Int), (d : Int)] := rfl
    rw [e] at q1
    exact q1
  · exact hb0.trans (grown_below (hrow.alloc _) q2 (Nat.le_trans hB hb0.size))

theorem esc_app : ∀ a b : List Int, esc (a ++ b) = esc a ++ esc b
  | [], _ => rfl
  | x :: r, b => by
    rw [List.cons_append, esc, esc, esc_app r b]
    split <;> rfl
theorem esc_take {ps : List Int} {k : Nat} (h : k < ps.length) : esc (ps.take (k + 1)) = esc (ps.take k) ++ (if ps[k] = 0 then [0, 255] else [ps[k]]) := by
  rw [List.take_add_one, List.getElem?_eq_getElem h, esc_app]
  simp only [Option.toList_some, esc]
theorem xof_at {xs : List Int} (h : Okb xs) {k : Nat} (hk : k < xs.length) : xs[k] = (xof xs k : Int) := by
  have := h xs[k] (List.getElem_mem hk)
  simp [xof, List.getElem?_eq_getElem hk]
  omega

end Go.Proofs.Ytnoackenjfpcmaa
