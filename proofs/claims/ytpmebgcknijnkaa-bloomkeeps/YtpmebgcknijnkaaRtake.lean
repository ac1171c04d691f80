/- What the document's own Take answers. -/
import Derived.Test.YtpmebgcknijnkaaTake
namespace Go.Proofs.Ytpmebgcknijnkaa
open Go.RowKit

theorem good' {X : Nat → Nat} {E : Nat} : good X E ↔ ¬ (0 < E ∧ X E = 0) ∧ (E < 9 ∨ E = 9 ∧ X E ≤ 1) := by
  unfold good
  constructor
  · rintro ⟨h1, h2 | ⟨rfl, h2⟩⟩
    · exact ⟨h1, .inl h2⟩
    · exact ⟨h1, .inr ⟨rfl, h2⟩⟩
  · rintro ⟨h1, h2 | ⟨rfl, h2⟩⟩
    · exact ⟨h1, .inl h2⟩
    · exact ⟨h1, .inr ⟨rfl, h2⟩⟩

end Go.Proofs.Ytpmebgcknijnkaa
