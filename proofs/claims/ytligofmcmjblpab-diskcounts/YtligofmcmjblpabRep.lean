/- How the document's own disk lies in memory. -/
import Derived.Test.YtligofmcmjblpabDsk
namespace Go.Proofs.Ytligofmcmjblpab
open Go.RowKit
set_option linter.unusedVariables false

/-- All that is not of F stands as it stood. -/
structure Kept (F : Nat → Prop) (w w' : World) : Prop where
  os : w'.os = w.os
  tape : w'.tape = w.tape
  output : w'.output = w.output
  size : w.heap.size ≤ w'.heap.size
  block : ∀ k, k < w.heap.size → ¬ F k → w'.heap[k]? = w.heap[k]?
theorem Kept.refl (F : Nat → Prop) (w : World) : Kept F w w := ⟨rfl, rfl, rfl, Nat.le_refl _, fun _ _ _ => rfl⟩
theorem Kept.trans {F G : Nat → Prop} {a b c : World} (h : Kept F a b) (k : Kept G b c) (hs : ∀ k, G k → F k ∨ a.heap.size ≤ k) : Kept F a c :=
  ⟨k.os.trans h.os, k.tape.trans h.tape, k.output.trans h.output, Nat.le_trans h.size k.size, fun i hi hn => (k.block i (Nat.lt_of_lt_of_le hi h.size) (fun g => by rcases hs i g with x | x; exact hn x; omega)).trans (h.block i hi hn)⟩
theorem Kept.grown {F : Nat → Prop} {w w' : World} {row : Option Nat} (h : w.grownBy w' row) (hr : ∀ k, row = some k → F k ∨ w.heap.size ≤ k) : Kept F w w' :=
  ⟨h.os, h.tape, h.output, h.size, fun k hk hn => h.block k hk fun e => by rcases hr k e.symm with x | x; exact hn x; omega⟩
theorem Kept.below {F : Nat → Prop} {w w' : World} {B : Nat} (h : Kept F w w') (hB : B ≤ w.heap.size) (hF : ∀ k, F k → B ≤ k) : Below B w w' :=
  ⟨h.os, h.tape, h.output, h.size, fun k hk => h.block k (by omega) fun g => by have := hF k g; omega⟩
theorem below_kept {F : Nat → Prop} {w w' : World} (h : Below w.heap.size w w') : Kept F w w' := ⟨h.os, h.tape, h.output, h.size, fun k hk _ => h.block k hk⟩
theorem below_grown {w w' : World} (h : Below w.heap.size w w') (row : Option Nat) : w.grownBy w' row := ⟨h.os, h.tape, h.output, h.size, fun k hk _ => h.block k hk⟩
theorem grown_none {w w' : World} (h : w.grownBy w' none) : Below w.heap.size w w' := ⟨h.os, h.tape, h.output, h.size, fun k hk => h.block k hk (by simp)⟩
theorem grown_trans {w w' w'' : World} {r : Option Nat} (h : w.grownBy w' r) (k : w'.grownBy w'' r) : w.grownBy w'' r :=
  ⟨k.os.trans h.os, k.tape.trans h.tape, k.output.trans h.output, Nat.le_trans h.size k.size, fun i hi hn => (k.block i (Nat.lt_of_lt_of_le hi h.size) hn).trans (h.block i hi hn)⟩
theorem grown_set (w : World) (p k : Nat) (v : Value) : w.grownBy (w.setCell ⟨p, k, none⟩ v) (some p) :=
  ⟨rfl, rfl, rfl, by simp [World.setCell], fun i hi hn => Below.heap_setCell _ _ _ _ (fun e => hn (by rw [e]))⟩

def TyOf (w : World) (g : Nat) (t : TypeId) : Prop := ∃ c f, w.heap[g]? = some (.cells c t f)
theorem TyOf.ne {w : World} {g h : Nat} {t u : TypeId} (a : TyOf w g t) (b : TyOf w h u) (n : t ≠ u) : g ≠ h := fun e => by
  obtain ⟨c, f, x⟩ := a
  obtain ⟨c', f', y⟩ := b
  subst e
  rw [x] at y
  simp only [Option.some.injEq, Obj.cells.injEq] at y
  exact n y.2.1
theorem TyOf.lt {w : World} {g : Nat} {t : TypeId} (a : TyOf w g t) : g < w.heap.size := by
  obtain ⟨c, f, x⟩ := a
  exact (Array.getElem?_eq_some_iff.1 x).1

/-- A row that stands where it stood. -/
theorem owns_same {w w' : World} {b : Nat} {e : TypeId} {size : Nat} {v : Value} {n : Nat} {xs : List Value} (h : w.ownsRow b e size v n xs) (hs : ∀ g, v.ownBlock = some g → w'.heap[g]? = w.heap[g]?) : w'.ownsRow b e size v n xs := by
  refine ⟨h.1, ?_⟩
  rcases h.2 with hn | ⟨g, cap, cur, rfl, hb, hgg, rest⟩
  · exact .inl hn
  · exact .inr ⟨g, cap, cur, rfl, hb, by rw [hs g rfl]; exact hgg, rest⟩
theorem owns_ty {w : World} {b : Nat} {e : TypeId} {size : Nat} {v : Value} {n : Nat} {xs : List Value} (h : w.ownsRow b e size v n xs) {g : Nat} (hg : v.ownBlock = some g) : TyOf w g e := by
  rcases h.2 with ⟨rfl, hn⟩ | ⟨g', cap, cur, rfl, hb, hgg, rest⟩
  · simp [Value.ownBlock] at hg
  · simp only [Value.ownBlock, Option.some.injEq] at hg
    subst hg
    exact ⟨_, _, hgg⟩
/-- A row of another kind than the one that was written. -/
theorem owns_grown {w w' : World} {b : Nat} {e : TypeId} {size : Nat} {v : Value} {n : Nat} {xs : List Value} {row : Option Nat} (h : w.ownsRow b e size v n xs) (hg : w.grownBy w' row) (hr : ∀ g, row = some g → ¬ TyOf w g e) : w'.ownsRow b e size v n xs :=
  owns_same h fun g e' => hg.block g (owns_ty h e').lt fun x => hr g x.symm (owns_ty h e')

def ptr (g : Nat) : Value := .pointer (some ⟨g, 0, none⟩)
def entC (loc : Nat → Nat) (l : List Ent) : List Value := l.flatMap fun e => [.string e.1, ptr (loc e.2)]
theorem entC_length (loc : Nat → Nat) (l : List Ent) : (entC loc l).length = l.length * 2 := by
  induction l with
  | nil => rfl
  | cons e r ih => simp only [entC, List.flatMap_cons, List.length_append, List.length_cons, List.length_nil] at ih ⊢; omega
theorem entC_app (loc : Nat → Nat) (l m : List Ent) : entC loc (l ++ m) = entC loc l ++ entC loc m := by simp [entC]
theorem entC_at (loc : Nat → Nat) (l : List Ent) (k : Nat) (h : k < l.length) : (entC loc l)[k * 2]? = some (.string l[k].1) ∧ (entC loc l)[k * 2 + 1]? = some (ptr (loc l[k].2)) := by
  induction l generalizing k with
  | nil => simp at h
  | cons e r ih =>
    cases k with
    | zero => exact ⟨rfl, rfl⟩
    | succ k =>
      have := ih k (by simpa using h)
      rw [show (k + 1) * 2 = k * 2 + 2 by omega, show k * 2 + 2 + 1 = k * 2 + 1 + 2 by omega]
      exact this

def Alive (σ : DS) (i : Nat) : Prop := (∃ s, (s, i) ∈ σ.dir) ∨ ∃ l ∈ σ.was, ∃ s, (s, i) ∈ l
theorem heap_set {w : World} {p : Nat} {C : Array Value} {t : TypeId} {f : Nat × Nat} (h : w.heap[p]? = some (.cells C t f)) (k : Nat) (v : Value) : (w.setCell ⟨p, k, none⟩ v).heap[p]? = some (.cells (C.setIfInBounds k v) t f) := by
  simp only [World.setCell, Array.getElem?_modify, if_true, h]
  rfl
theorem cell_of {w : World} {p : Nat} {C : Array Value} {t : TypeId} {f : Nat × Nat} (h : w.heap[p]? = some (.cells C t f)) (k : Nat) : w.cell? ⟨p, k, none⟩ = C[k]? := by
  simp [World.cell?, h]
theorem frozen_of {w : World} {p : Nat} {C : Array Value} {t : TypeId} (h : w.heap[p]? = some (.cells C t (0, 0))) (k : Nat) : w.frozen? ⟨p, k, none⟩ = false := by
  simp [World.frozen?, h]
end Go.Proofs.Ytligofmcmjblpab
