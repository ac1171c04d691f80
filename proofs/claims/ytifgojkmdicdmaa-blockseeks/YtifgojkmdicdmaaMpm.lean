/- What is asked of a program's mem: how it lies in memory is its own. -/
import Derived.Test.YtifgojkmdicdmaaMpur
import Derived.Test.YtifgojkmdicdmaaMrow
namespace Go.Proofs.Ytifgojkmdicdmaa
open Go.RowKit
set_option linter.unusedVariables false
set_option linter.unusedSimpArgs false

/-- All that is not of F stands. -/
structure Kept (F : Nat → Prop) (w w' : World) : Prop where
  os : w'.os = w.os
  tape : w'.tape = w.tape
  output : w'.output = w.output
  size : w.heap.size ≤ w'.heap.size
  block : ∀ k, k < w.heap.size → ¬ F k → w'.heap[k]? = w.heap[k]?
theorem Kept.below {F : Nat → Prop} {w w' : World} {B : Nat} (h : Kept F w w') (hB : B ≤ w.heap.size) (hF : ∀ k, F k → B ≤ k) : Below B w w' :=
  ⟨h.os, h.tape, h.output, h.size, fun k hk => h.block k (by omega) (fun q => by have := hF k q; omega)⟩
theorem Kept.refl (F : Nat → Prop) (w : World) : Kept F w w := ⟨rfl, rfl, rfl, Nat.le_refl _, fun _ _ _ => rfl⟩
/-- An entry as a value. -/
def entA (ka : Option Addr) (kc : Nat) (va : Option Addr) (vc : Nat) (e : EntV) : Value := .agg #[.slice ka e.key.length kc, .int .i64 e.seq, .bool e.gone, .int .i64 e.till, .slice va e.val.length vc]
def entL (ka : Option Addr) (kc : Nat) (va : Option Addr) (vc : Nat) (e : EntV) : List Value := [.slice ka e.key.length kc, .int .i64 e.seq, .bool e.gone, .int .i64 e.till, .slice va e.val.length vc]
/-- No entry. -/
def ent0 : Value := .agg #[.slice none 0 0, .int .i64 0, .bool false, .int .i64 0, .slice none 0 0]
/-- What a call that tells an entry tells: memory of the caller's own. -/
def GotE (B : Nat) (g : Option EntV) (r : Ending) (w' : World) : Prop :=
  (g = none ∧ r = .returned (.tuple #[ent0, .bool false])) ∨ ∃ x ka kc va vc, g = some x ∧ r = .returned (.tuple #[entA ka kc va vc x, .bool true]) ∧ EntM w' (entL ka kc va vc x) x ∧ ∀ u ∈ entL ka kc va vc x, ∀ b, Refs u b → B ≤ b
/-- The mem's pointer. -/
def pm (p : Nat) : Value := .pointer (some ⟨p, 0, none⟩)
/-- -/
structure PM where
  R : World → Nat → List EntV → (Nat → Prop) → Prop
  G : World → Prop
  N : Nat
  gk : ∀ {w w'}, G w → Below w.heap.size w w' → G w'
  gn : ∀ {w}, G w → N ≤ w.heap.size
  rn : ∀ {w p l F}, R w p l F → N ≤ w.heap.size
  lt : ∀ {w p l F}, R w p l F → ∀ k, F k → k < w.heap.size
  same : ∀ {w w' p l F}, R w p l F → (∀ k, F k → w'.heap[k]? = w.heap[k]?) → (∀ k, k < N → w'.heap[k]? = w.heap[k]?) → R w' p l F
  may : ∀ {w ka kc va vc e}, EntM w (entL ka kc va vc e) e → Calls Try.prog 43 #[entA ka kc va vc e] w fun r w' => r = .returned (.bool (mayE e)) ∧ Below w.heap.size w w'
/-- What List and All tell. -/
structure PML (D : PM) : Prop where
theorem PM.later {D : PM} {w w' : World} {p : Nat} {l : List EntV} {F : Nat → Prop} (h : D.R w p l F) (hb : Below w.heap.size w w') : D.R w' p l F := D.same h (fun k hk => hb.block k (D.lt h k hk)) (fun k hk => hb.block k (by have := D.rn h; omega))
end Go.Proofs.Ytifgojkmdicdmaa
