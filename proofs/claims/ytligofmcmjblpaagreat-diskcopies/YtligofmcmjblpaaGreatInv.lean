/- What holds of each state of a disk. -/
import Derived.Test.YtligofmcmjblpaaGreatRep
namespace Go.Proofs.YtligofmcmjblpaaGreat
open Go.RowKit
set_option linter.unusedVariables false

/-- What holds of each state that is met. -/
structure Inv (σ : DS) : Prop where
  ok : σ.c.Ok
  dl : (σ.dir.length : Int) ≤ σ.c.calls
  wl : (σ.was.length : Int) ≤ σ.c.calls + 1
  w1 : 1 ≤ σ.was.length
  wd : ∀ l ∈ σ.was, (l.length : Int) ≤ σ.c.calls
  room : 0 ≤ σ.room ∧ σ.room ≤ 9223372036854775807
  fl : ∀ i, (σ.fl i).1.length ≤ 4194304 ∧ (σ.fl i).2 ≤ (σ.fl i).1.length ∧ Okb (σ.fl i).1
theorem ce_cases (c : Cn) : c.ce = 10 ∨ c.ce = 9 ∨ c.ce = 0 := by
  unfold Cn.ce
  split
  · exact .inl rfl
  · split
    · split
      · exact .inl rfl
      · exact .inr (.inr rfl)
    · split
      · exact .inr (.inl rfl)
      · exact .inr (.inr rfl)
theorem fnd_mem : ∀ {l : List Ent} {s : ByteArray} {i : Nat}, fnd l s = some i → ∃ a, (a, i) ∈ l
  | e :: r, s, i, h => by
    rw [fnd] at h
    split at h
    · simp only [Option.some.injEq] at h
      subst h
      exact ⟨e.1, by simp⟩
    · obtain ⟨a, ha⟩ := fnd_mem h
      exact ⟨a, by simp [ha]⟩
end Go.Proofs.YtligofmcmjblpaaGreat
