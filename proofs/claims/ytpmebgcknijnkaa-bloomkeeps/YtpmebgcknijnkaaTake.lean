/- What Take answers. -/
import Derived.Test.YtpmebgcknijnkaaSev
namespace Go.Proofs.Ytpmebgcknijnkaa
open Go.RowKit

/-- What Take answers, where the number ends at E. -/
def takeV (X : Nat → Nat) (len E : Nat) : Value :=
  if E < len then (if good X E then .tuple #[.int .u64 (val X (E + 1) : Nat), .int .i64 ((E : Int) + 1), .int .i64 0] else .tuple #[.int .u64 0, .int .i64 0, .int .i64 3]) else .tuple #[.int .u64 0, .int .i64 0, .int .i64 5]

end Go.Proofs.Ytpmebgcknijnkaa
