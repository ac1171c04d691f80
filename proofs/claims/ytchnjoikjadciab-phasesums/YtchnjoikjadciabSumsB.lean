/- What the law on sums leans on: the four of the four rows, on words. -/
import Derived.Test.YtchnjoikjadciabFrm
import Derived.Test.YtchnjoikjadciabLinear
namespace Go.Proofs.Ytchnjoikjadciab
open Go.RowKit
set_option linter.unusedVariables false

def sel (a b c d : Nat → Nat) (j : Nat) : Nat → Nat := if j = 0 then a else if j = 1 then b else if j = 2 then c else d

def rowR (k : Int) (X Y X' Y' : Nat → Int) (j : Nat) : Nat → Nat := sel (fr X) (fr X') (fun t => (cA (fr X t) (fr Y t) (fr X' t) (fr Y' t)).1) (fun t => (cT (k % 4) (fr X t) (fr Y t)).1) j
def rowI (k : Int) (X Y X' Y' : Nat → Int) (j : Nat) : Nat → Nat := sel (fr Y) (fr Y') (fun t => (cA (fr X t) (fr Y t) (fr X' t) (fr Y' t)).2) (fun t => (cT (k % 4) (fr X t) (fr Y t)).2) j
def sel' (a b c d : Nat → Int) (j : Nat) : Nat → Int := if j = 0 then a else if j = 1 then b else if j = 2 then c else d
def numR (k : Int) (X Y X' Y' : Nat → Int) (j : Nat) : Nat → Int := sel' X X' (fun t => X t + X' t) (fun t => mre (X t) (Y t) (k % 4)) j
def numI (k : Int) (X Y X' Y' : Nat → Int) (j : Nat) : Nat → Int := sel' Y Y' (fun t => Y t + Y' t) (fun t => mim (X t) (Y t) (k % 4)) j

def Fit (X Y X' Y' : Nat → Int) : Prop := (∀ j, j < 4 → Small (2 ^ 34) (X j) ∧ Small (2 ^ 34) (Y j) ∧ Small (2 ^ 34) (X' j) ∧ Small (2 ^ 34) (Y' j)) ∧ (∀ j, j < 4 → Whole (fr X j) (X j) ∧ Whole (fr Y j) (Y j) ∧ Whole (fr X' j) (X' j) ∧ Whole (fr Y' j) (Y' j))

theorem rows_whole {k : Int} {X Y X' Y' : Nat → Int} (h : Fit X Y X' Y') (j : Nat) : ∀ t, t < 4 → Whole (rowR k X Y X' Y' j t) (numR k X Y X' Y' j t) ∧ Whole (rowI k X Y X' Y' j t) (numI k X Y X' Y' j t) ∧ Small (2 ^ 36) (numR k X Y X' Y' j t) ∧ Small (2 ^ 36) (numI k X Y X' Y' j t) := by
  intro t ht
  obtain ⟨s1, s2, s3, s4⟩ := h.1 t ht
  obtain ⟨w1, w2, w3, w4⟩ := h.2 t ht
  have up : ∀ (n : Int), Small (2 ^ 34) n → Small (2 ^ 50) n := fun n h => by unfold Small at *; omega
  have up6 : ∀ (n : Int), Small (2 ^ 34) n → Small (2 ^ 36) n := fun n h => by unfold Small at *; omega
  unfold rowR rowI numR numI sel sel'
  by_cases h0 : j = 0
  · simp only [h0, if_true]; exact ⟨w1, w2, up6 _ s1, up6 _ s2⟩
  by_cases h1 : j = 1
  · simp only [h1, if_true, show ¬ (1 : Nat) = 0 by decide, if_false]; exact ⟨w3, w4, up6 _ s3, up6 _ s4⟩
  by_cases h2 : j = 2
  · simp only [h2, if_true, show ¬ (2 : Nat) = 0 by decide, show ¬ (2 : Nat) = 1 by decide, if_false]
    obtain ⟨_, g1, g2⟩ := cA_whole w1 w2 w3 w4 (up _ s1) (up _ s2) (up _ s3) (up _ s4)
    exact ⟨g1, g2, by unfold Small at *; omega, by unfold Small at *; omega⟩
  · simp only [h0, h1, h2, if_false]
    obtain ⟨_, g1, g2⟩ := cT_whole (k % 4) w1 w2 (up _ s1) (up _ s2)
    have m1 := mre_small (k % 4) s1 s2
    have m2 := mim_small (k % 4) s1 s2
    exact ⟨g1, g2, by unfold Small at *; omega, by unfold Small at *; omega⟩

theorem rows_forth {k : Int} {X Y X' Y' : Nat → Int} (h : Fit X Y X' Y') (j : Nat) (w : World) : Calls Try.prog 7 #[.agg (c4 (rowR k X Y X' Y' j) (rowI k X Y X' Y' j))] w fun e w' => e = .returned (.agg (c4 (fR (rowR k X Y X' Y' j) (rowI k X Y X' Y' j)) (fI (rowR k X Y X' Y' j) (rowI k X Y X' Y' j)))) ∧ Below w.heap.size w w' := by
  have hw := rows_whole (k := k) h j
  have up : ∀ (n : Int), Small (2 ^ 36) n → Small (2 ^ 40) n := fun n h => by unfold Small at *; omega
  refine (forth_any _ _ _ _ (fun t ht => (hw t ht).1) (fun t ht => (hw t ht).2.1) (fun t ht => up _ (hw t ht).2.2.1) (fun t ht => up _ (hw t ht).2.2.2) w).mono fun e w' ⟨he, n, hw⟩ => ⟨he, ?_⟩
  rw [hw]
  refine Below_drewN ?_ n
  repeat (first | exact Below.refl _ _ | (refine Below.alloc ?_ (by simp <;> omega) _))

/-- The four of the j-th row. -/
theorem rows_four {k : Int} {X Y X' Y' : Nat → Int} (h : Fit X Y X' Y') (j t : Nat) : Whole (fR (rowR k X Y X' Y' j) (rowI k X Y X' Y' j) t) (Sre (numR k X Y X' Y' j) (numI k X Y X' Y' j) (-1) t 4) ∧ Whole (fI (rowR k X Y X' Y' j) (rowI k X Y X' Y' j) t) (Sim (numR k X Y X' Y' j) (numI k X Y X' Y' j) (-1) t 4) := by
  have hw := rows_whole (k := k) h j
  have up : ∀ (n : Int), Small (2 ^ 36) n → Small (2 ^ 40) n := fun n h => by unfold Small at *; omega
  exact fR_whole (fun t ht => (hw t ht).1) (fun t ht => (hw t ht).2.1) (fun t ht => up _ (hw t ht).2.2.1) (fun t ht => up _ (hw t ht).2.2.2) t

theorem rows_end {k : Int} {X Y X' Y' : Nat → Int} (h : Fit X Y X' Y') (t : Nat) : ∃ sr si tr ti : Nat,
    cSumBits .add .f64 (fR (rowR k X Y X' Y' 0) (rowI k X Y X' Y' 0) t) (fI (rowR k X Y X' Y' 0) (rowI k X Y X' Y' 0) t) (fR (rowR k X Y X' Y' 1) (rowI k X Y X' Y' 1) t) (fI (rowR k X Y X' Y' 1) (rowI k X Y X' Y' 1) t) = some (sr, si) ∧
    cMulBits (fR (rowR k X Y X' Y' 0) (rowI k X Y X' Y' 0) t) (fI (rowR k X Y X' Y' 0) (rowI k X Y X' Y' 0) t) (tre (k % 4)) (tim (k % 4)) = some (tr, ti) ∧
    (FloatKind.f64.format.order (fR (rowR k X Y X' Y' 2) (rowI k X Y X' Y' 2) t) sr == some .eq) = true ∧ (FloatKind.f64.format.order (fI (rowR k X Y X' Y' 2) (rowI k X Y X' Y' 2) t) si == some .eq) = true ∧
    (FloatKind.f64.format.order (fR (rowR k X Y X' Y' 3) (rowI k X Y X' Y' 3) t) tr == some .eq) = true ∧ (FloatKind.f64.format.order (fI (rowR k X Y X' Y' 3) (rowI k X Y X' Y' 3) t) ti == some .eq) = true := by
  obtain ⟨a1, a2⟩ := rows_four (k := k) h 0 t
  obtain ⟨b1, b2⟩ := rows_four (k := k) h 1 t
  obtain ⟨c1, c2⟩ := rows_four (k := k) h 2 t
  obtain ⟨d1, d2⟩ := rows_four (k := k) h 3 t
  have sm : ∀ j, Small (2 ^ 50) (Sre (numR k X Y X' Y' j) (numI k X Y X' Y' j) (-1) t 4) ∧ Small (2 ^ 50) (Sim (numR k X Y X' Y' j) (numI k X Y X' Y' j) (-1) t 4) := fun j => by
    have hw := rows_whole (k := k) h j
    have := S_small (B := 2 ^ 36) (numR k X Y X' Y' j) (numI k X Y X' Y' j) (-1) t (fun t ht => (hw t ht).2.2.1) (fun t ht => (hw t ht).2.2.2) (by decide)
    have h4 := this 4 (by decide)
    unfold Small at *
    omega
  obtain ⟨e1, e2, e3⟩ := cA_whole a1 a2 b1 b2 (sm 0).1 (sm 0).2 (sm 1).1 (sm 1).2
  obtain ⟨f1, f2, f3⟩ := cT_whole (k % 4) a1 a2 (sm 0).1 (sm 0).2
  have hA := S_add X Y X' Y' (-1) t 4
  have hT := S_turn X Y (k % 4) (-1) t 4
  have g1 : Sre (numR k X Y X' Y' 2) (numI k X Y X' Y' 2) (-1) t 4 = Sre (numR k X Y X' Y' 0) (numI k X Y X' Y' 0) (-1) t 4 + Sre (numR k X Y X' Y' 1) (numI k X Y X' Y' 1) (-1) t 4 := hA.1
  have g2 : Sim (numR k X Y X' Y' 2) (numI k X Y X' Y' 2) (-1) t 4 = Sim (numR k X Y X' Y' 0) (numI k X Y X' Y' 0) (-1) t 4 + Sim (numR k X Y X' Y' 1) (numI k X Y X' Y' 1) (-1) t 4 := hA.2
  have g3 : Sre (numR k X Y X' Y' 3) (numI k X Y X' Y' 3) (-1) t 4 = mre (Sre (numR k X Y X' Y' 0) (numI k X Y X' Y' 0) (-1) t 4) (Sim (numR k X Y X' Y' 0) (numI k X Y X' Y' 0) (-1) t 4) (k % 4) := hT.1
  have g4 : Sim (numR k X Y X' Y' 3) (numI k X Y X' Y' 3) (-1) t 4 = mim (Sre (numR k X Y X' Y' 0) (numI k X Y X' Y' 0) (-1) t 4) (Sim (numR k X Y X' Y' 0) (numI k X Y X' Y' 0) (-1) t 4) (k % 4) := hT.2
  rw [g1] at c1
  rw [g2] at c2
  rw [g3] at d1
  rw [g4] at d2
  exact ⟨_, _, _, _, e1, f1, same c1 e2, same c2 e3, same d1 f2, same d2 f3⟩
end Go.Proofs.Ytchnjoikjadciab
