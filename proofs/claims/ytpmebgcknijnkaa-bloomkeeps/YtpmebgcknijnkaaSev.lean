/- What sevens and goodUvarint answer. -/
import Derived.Test.YtpmebgcknijnkaaBit
namespace Go.Proofs.Ytpmebgcknijnkaa
open Go.RowKit

instance (X : Nat → Nat) (E : Nat) : Decidable (good X E) := by unfold good; infer_instance
theorem good_iff {X : Nat → Nat} {E : Nat} {b : Bool} (h : b = true ↔ good X E) : b = decide (good X E) := by
  cases b with
  | true => exact (decide_eq_true (h.1 rfl)).symm
  | false => exact (decide_eq_false fun g => by cases h.2 g).symm

end Go.Proofs.Ytpmebgcknijnkaa
