import Derived.Test.YtligofmcmjblpaaGreatPk13
/- A disk that is copied. -/
namespace Go.Proofs.YtligofmcmjblpaaGreat
open Go.RowKit
set_option linter.unusedVariables false

/-- A disk that is copied. -/
structure Cps (D : PD) : Prop where
  copy : ∀ {w p σ F}, D.R w p σ F → Inv σ → Calls Tryz.prog 16 #[ptr p] w fun e w' => ∃ q G, e = .returned (ptr q) ∧ D.R w' q σ G ∧ (∀ k, G k → w.heap.size ≤ k) ∧ Below w.heap.size w w'
end Go.Proofs.YtligofmcmjblpaaGreat
