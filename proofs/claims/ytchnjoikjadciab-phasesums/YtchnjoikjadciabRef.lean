/- What the reference's Of does, at every input. -/
import Derived.Test.YtchnjoikjadciabTurn
namespace Go.Proofs.Ytchnjoikjadciab
open Go.RowKit

set_option maxHeartbeats 400000 in
theorem of_any (x y : Int) (w : World) :
    Calls Try.prog 16 #[.agg #[.int .i64 x, .int .i64 y]] w fun e w' => e = .returned (.complex .f64 (floatOfInt .f64 x) (floatOfInt .f64 y)) ∧ w' = w.alloc (.cells #[.int .i64 x, .int .i64 y] 23) := by
  go_enter Try.func16, Try.ntmps16
  go_wp2
  go_ret
  exact ⟨rfl, rfl⟩
end Go.Proofs.Ytchnjoikjadciab
