/- Four calls whose results go into four new blocks, in whatever order: what is known when some of the sixteen operations have come up. -/
import Derived.Test.YtchnjoikjadciabFour
import Derived.Test.YtchnjoikjadciabInv
namespace Go.Proofs.Ytchnjoikjadciab
open Go.RowKit

def upd {α : Type} (f : Nat → α) (i : Nat) (v : α) : Nat → α := fun n => if n = i then v else f n

def Core (wc : World) (U V : Nat → Array Value) (L : Nat → Bool) (s : Nat → Value) (G : Nat → Nat) (w : World) : Prop :=
  Below wc.heap.size wc w ∧ (∀ j, j < 4 → L (2 * j) = true → s (2 * j) = .agg (U j)) ∧ (∀ j, j < 4 → L (2 * j + 1) = true → s (2 * j + 1) = .agg (V j)) ∧
  (∀ j, j < 4 → L (8 + j) = true → s (8 + j) = .pointer (some ⟨G j, 0, none⟩) ∧ wc.heap.size ≤ G j ∧ w.heap[G j]? = some (.cells (if L (12 + j) = true then V j else c4 (fun _ => 0) (fun _ => 0)) 26 (0, 0))) ∧
  (∀ i j, i < 4 → j < 4 → i ≠ j → L (8 + i) = true → L (8 + j) = true → G i ≠ G j) ∧ (∀ j, j < 4 → L (12 + j) = true → L (8 + j) = true)

theorem lt_of_heap {w : World} {g : Nat} {o : Obj} (h : w.heap[g]? = some o) : g < w.heap.size := by
  rcases Nat.lt_or_ge g w.heap.size with k | k
  · exact k
  · simp [k] at h

theorem core_load {wc : World} {U V : Nat → Array Value} {L : Nat → Bool} {s : Nat → Value} {G : Nat → Nat} {w : World} (h : Core wc U V L s G w) (j : Nat) (hj : j < 4) : Core wc U V (upd L (2 * j) true) (upd s (2 * j) (.agg (U j))) G w := by
  obtain ⟨h1, h2, h3, h4, h5, h6⟩ := h
  refine ⟨h1, ?_, ?_, ?_, ?_, ?_⟩
  · intro i hi hL
    by_cases e : i = j
    · subst e; simp [upd]
    · simp only [upd, show ¬ 2 * i = 2 * j by omega, if_false] at hL ⊢; exact h2 i hi hL
  · intro i hi hL
    simp only [upd, show ¬ 2 * i + 1 = 2 * j by omega, if_false] at hL ⊢; exact h3 i hi hL
  · intro i hi hL
    simp only [upd, show ¬ 8 + i = 2 * j by omega, show ¬ 12 + i = 2 * j by omega, if_false] at hL ⊢; exact h4 i hi hL
  · intro a b ha hb hab hLa hLb
    simp only [upd, show ¬ 8 + a = 2 * j by omega, show ¬ 8 + b = 2 * j by omega, if_false] at hLa hLb; exact h5 a b ha hb hab hLa hLb
  · intro i hi hL
    simp only [upd, show ¬ 8 + i = 2 * j by omega, show ¬ 12 + i = 2 * j by omega, if_false] at hL ⊢; exact h6 i hi hL

theorem core_call {wc : World} {U V : Nat → Array Value} {L : Nat → Bool} {s : Nat → Value} {G : Nat → Nat} {w w' : World} (h : Core wc U V L s G w) (j : Nat) (hj : j < 4) (hb : Below w.heap.size w w') : Core wc U V (upd L (2 * j + 1) true) (upd s (2 * j + 1) (.agg (V j))) G w' := by
  obtain ⟨h1, h2, h3, h4, h5, h6⟩ := h
  refine ⟨h1.trans (hb.mono h1.size), ?_, ?_, ?_, ?_, ?_⟩
  · intro i hi hL
    simp only [upd, show ¬ 2 * i = 2 * j + 1 by omega, if_false] at hL ⊢; exact h2 i hi hL
  · intro i hi hL
    by_cases e : i = j
    · subst e; simp [upd]
    · simp only [upd, show ¬ 2 * i + 1 = 2 * j + 1 by omega, if_false] at hL ⊢; exact h3 i hi hL
  · intro i hi hL
    simp only [upd, show ¬ 8 + i = 2 * j + 1 by omega, show ¬ 12 + i = 2 * j + 1 by omega, if_false] at hL ⊢
    obtain ⟨k1, k2, k3⟩ := h4 i hi hL
    exact ⟨k1, k2, (hb.block _ (lt_of_heap k3)).trans k3⟩
  · intro a b ha hb' hab hLa hLb
    simp only [upd, show ¬ 8 + a = 2 * j + 1 by omega, show ¬ 8 + b = 2 * j + 1 by omega, if_false] at hLa hLb; exact h5 a b ha hb' hab hLa hLb
  · intro i hi hL
    simp only [upd, show ¬ 8 + i = 2 * j + 1 by omega, show ¬ 12 + i = 2 * j + 1 by omega, if_false] at hL ⊢; exact h6 i hi hL

theorem core_alloc {wc : World} {U V : Nat → Array Value} {L : Nat → Bool} {s : Nat → Value} {G : Nat → Nat} {w : World} (h : Core wc U V L s G w) (j : Nat) (hj : j < 4) (hL : L (8 + j) = false) :
    Core wc U V (upd L (8 + j) true) (upd s (8 + j) (.pointer (some ⟨w.heap.size, 0, none⟩))) (upd G j w.heap.size) (w.alloc (.cells (c4 (fun _ => 0) (fun _ => 0)) 26)) := by
  obtain ⟨h1, h2, h3, h4, h5, h6⟩ := h
  have hn : L (12 + j) = false := by
    cases e : L (12 + j) with
    | false => rfl
    | true => rw [h6 j hj e] at hL; cases hL
  refine ⟨h1.alloc h1.size _, ?_, ?_, ?_, ?_, ?_⟩
  · intro i hi hL'
    simp only [upd, show ¬ 2 * i = 8 + j by omega, if_false] at hL' ⊢; exact h2 i hi hL'
  · intro i hi hL'
    simp only [upd, show ¬ 2 * i + 1 = 8 + j by omega, if_false] at hL' ⊢; exact h3 i hi hL'
  · intro i hi hL'
    by_cases e : i = j
    · subst e
      simp only [upd, if_true, show ¬ 12 + i = 8 + i by omega, if_false, hn]
      refine ⟨trivial, h1.size, ?_⟩
      rw [_root_.Go.heap_alloc_new]
      simp
    · simp only [upd, show ¬ 8 + i = 8 + j by omega, show ¬ 12 + i = 8 + j by omega, e, if_false] at hL' ⊢
      obtain ⟨k1, k2, k3⟩ := h4 i hi hL'
      exact ⟨k1, k2, (Below.heap_alloc _ _ _ (lt_of_heap k3)).trans k3⟩
  · intro a b ha hb' hab hLa hLb
    by_cases ea : a = j
    · subst ea
      have eb : ¬ b = a := fun e => hab e.symm
      simp only [upd, eb, show ¬ 8 + b = 8 + a by omega, if_false] at hLb ⊢
      have := lt_of_heap (h4 b hb' hLb).2.2
      simp
      omega
    · by_cases eb : b = j
      · subst eb
        simp only [upd, ea, show ¬ 8 + a = 8 + b by omega, if_false] at hLa ⊢
        have := lt_of_heap (h4 a ha hLa).2.2
        simp
        omega
      · simp only [upd, ea, eb, show ¬ 8 + a = 8 + j by omega, show ¬ 8 + b = 8 + j by omega, if_false] at hLa hLb ⊢; exact h5 a b ha hb' hab hLa hLb
  · intro i hi hL'
    by_cases e : i = j
    · subst e; simp [upd]
    · simp only [upd, show ¬ 8 + i = 8 + j by omega, show ¬ 12 + i = 8 + j by omega, if_false] at hL' ⊢; exact h6 i hi hL'

theorem core_store {wc : World} {U V : Nat → Array Value} {L : Nat → Bool} {s : Nat → Value} {G : Nat → Nat} {w : World} (h : Core wc U V L s G w) (j : Nat) (hj : j < 4) (hL : L (8 + j) = true) :
    Core wc U V (upd L (12 + j) true) s G (w.setRow (G j) (V j)) := by
  obtain ⟨h1, h2, h3, h4, h5, h6⟩ := h
  have kj := h4 j hj hL
  refine ⟨⟨h1.os, h1.tape, h1.output, by rw [setRow_size]; exact h1.size, fun i hi => (setRow_other _ _ _ _ (by omega)).trans (h1.block i hi)⟩, ?_, ?_, ?_, ?_, ?_⟩
  · intro i hi hL'
    simp only [upd, show ¬ 2 * i = 12 + j by omega, if_false] at hL'; exact h2 i hi hL'
  · intro i hi hL'
    simp only [upd, show ¬ 2 * i + 1 = 12 + j by omega, if_false] at hL'; exact h3 i hi hL'
  · intro i hi hL'
    simp only [upd, show ¬ 8 + i = 12 + j by omega, if_false] at hL'
    obtain ⟨k1, k2, k3⟩ := h4 i hi hL'
    refine ⟨k1, k2, ?_⟩
    by_cases e : i = j
    · subst e
      rw [setRow_heap _ _ _ _ _ _ k3]
      simp [upd]
    · rw [setRow_other _ _ _ _ (h5 i j hi hj e hL' hL), k3]
      simp only [upd, show ¬ 12 + i = 12 + j by omega, if_false]
  · intro a b ha hb' hab hLa hLb
    simp only [upd, show ¬ 8 + a = 12 + j by omega, show ¬ 8 + b = 12 + j by omega, if_false] at hLa hLb; exact h5 a b ha hb' hab hLa hLb
  · intro i hi hL'
    by_cases e : i = j
    · subst e; simp only [upd, show ¬ 8 + i = 12 + i by omega, if_false]; exact hL
    · simp only [upd, show ¬ 8 + i = 12 + j by omega, show ¬ 12 + i = 12 + j by omega, if_false] at hL' ⊢; exact h6 i hi hL'

/-- Every edge that binds leads backwards: by reckoning. -/
def lowB (ops : Array Oper) : Bool := (List.range ops.size).all fun i => match ops[i]? with
  | some o => o.after.all fun e => !Region.binds .any e || decide (e.on < i)
  | none => true

theorem lowB_spec {ops : Array Oper} (h : lowB ops = true) : ∀ (i : Nat) o, ops[i]? = some o → ∀ e ∈ o.after, Region.binds .any e = true → e.on < i := by
  intro i o ho e he hb
  have hi : i < ops.size := by
    rcases Nat.lt_or_ge i ops.size with k | k
    · exact k
    · simp [k] at ho
  unfold lowB at h
  have h1 := List.all_eq_true.1 h i (List.mem_range.2 hi)
  rw [ho] at h1
  have h2 := (Array.all_eq_true_iff_forall_mem.1 h1) e he
  rw [hb] at h2
  simpa using h2
end Go.Proofs.Ytchnjoikjadciab
