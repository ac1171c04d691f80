/- What a crash keeps. -/
import Derived.Test.YtligofmcmjblpaaGreatInv
namespace Go.Proofs.YtligofmcmjblpaaGreat
open Go.RowKit
set_option linter.unusedVariables false

def renK (nx : Nat) : Nat → List Ent → List Ent
  | _, [] => []
  | j, e :: r => (e.1, nx + j) :: renK nx (j + 1) r
theorem renK_len (nx : Nat) : ∀ (l : List Ent) (j : Nat), (renK nx j l).length = l.length
  | [], _ => rfl
  | e :: r, j => by simp only [renK, List.length_cons, renK_len nx r]
theorem renK_at (nx : Nat) : ∀ (l : List Ent) (j k : Nat) (e : Ent), l[k]? = some e → (renK nx j l)[k]? = some (e.1, nx + (j + k))
  | [], _, k, e, h => by simp at h
  | x :: r, j, 0, e, h => by simp at h; subst h; rfl
  | x :: r, j, k + 1, e, h => by
    have := renK_at nx r (j + 1) k e (by simpa using h)
    simp only [renK, List.getElem?_cons_succ, this]
    rw [show j + 1 + k = j + (k + 1) by omega]
theorem renK_mem (nx : Nat) (l : List Ent) (j : Nat) {e : Ent} (h : e ∈ renK nx j l) : nx + j ≤ e.2 ∧ e.2 < nx + j + l.length := by
  induction l generalizing j with
  | nil => simp [renK] at h
  | cons x r ih =>
    simp only [renK, List.mem_cons] at h
    simp only [List.length_cons]
    rcases h with rfl | h
    · constructor <;> simp
    · have := ih (j + 1) h
      omega
/-- The kth file's bytes that are kept. -/
def fileQ (fl : Nat → List Int × Nat) (ps : List Int) (e : Ent) (k : Nat) : List Int × Nat :=
  ((fl e.2).1.take ((fl e.2).2 + pick ps (k + 1) ((fl e.2).1.length - (fl e.2).2)), (fl e.2).2 + pick ps (k + 1) ((fl e.2).1.length - (fl e.2).2))
theorem keeps_fst (fl : Nat → List Int × Nat) (ps : List Int) (nx : Nat) : ∀ (l : List Ent) (k : Nat) (g : Nat → List Int × Nat), (keeps fl ps nx k l g).1 = renK nx k l
  | [], _, _ => rfl
  | e :: r, k, g => by simp only [keeps, renK, keeps_fst fl ps nx r]
theorem keeps_low (fl : Nat → List Int × Nat) (ps : List Int) (nx : Nat) : ∀ (l : List Ent) (k : Nat) (g : Nat → List Int × Nat) (i : Nat), i < nx + k → (keeps fl ps nx k l g).2 i = g i
  | [], _, _, _, _ => rfl
  | e :: r, k, g, i, h => by
    simp only [keeps]
    rw [keeps_low fl ps nx r (k + 1) _ i (by omega)]
    simp only [upd]
    rw [if_neg (by omega)]
theorem keeps_at (fl : Nat → List Int × Nat) (ps : List Int) (nx : Nat) : ∀ (l : List Ent) (k : Nat) (g : Nat → List Int × Nat) (j : Nat) (e : Ent), l[j]? = some e → (keeps fl ps nx k l g).2 (nx + (k + j)) = fileQ fl ps e (k + j)
  | [], _, _, j, e, h => by simp at h
  | x :: r, k, g, 0, e, h => by
    simp at h
    subst h
    simp only [keeps]
    rw [keeps_low fl ps nx r (k + 1) _ _ (by omega)]
    simp only [upd, Nat.add_zero, if_true]
    rfl
  | x :: r, k, g, j + 1, e, h => by
    simp only [keeps]
    have := keeps_at fl ps nx r (k + 1) (upd g (nx + k) ((fl x.2).1.take ((fl x.2).2 + pick ps (k + 1) ((fl x.2).1.length - (fl x.2).2)), (fl x.2).2 + pick ps (k + 1) ((fl x.2).1.length - (fl x.2).2))) j e (by simpa using h)
    rw [show k + 1 + j = k + (j + 1) by omega] at this
    exact this
theorem pick_le (ps : List Int) (k n : Nat) : pick ps k n ≤ n := by
  unfold pick
  split
  · exact Nat.zero_le _
  · exact Nat.le_of_lt_succ (Nat.mod_lt _ (by omega))
theorem kept_mem {σ : DS} (h : Inv σ) (ps : List Int) : σ.kept ps ∈ σ.was := by
  have h1 := pick_le ps 0 (σ.was.length - 1)
  have h2 := h.w1
  unfold DS.kept
  have h3 : pick ps 0 (σ.was.length - 1) < σ.was.length := by omega
  rw [List.getD_eq_getElem?_getD, List.getElem?_eq_getElem h3]
  exact List.getElem_mem h3
theorem drp_le (l : List Ent) (s : ByteArray) : (drp l s).length ≤ l.length := List.length_filter_le _ _
theorem pt_le (l : List Ent) (s : ByteArray) (i : Nat) : (pt l s i).length ≤ l.length + 1 := by
  induction l with
  | nil => exact Nat.le_refl _
  | cons e r ih =>
    rw [pt]
    split
    · simp only [List.length_cons]; omega
    · have := drp_le (e :: r) s
      simp only [List.length_cons] at this ⊢
      omega
end Go.Proofs.YtligofmcmjblpaaGreat
