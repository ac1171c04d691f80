/- The laws on sums and masks. -/
import Derived.Test.YtidkibefjcjkfaaMasks
namespace Go.Proofs.Ytidkibefjcjkfaa
open Go.RowKit
set_option linter.unusedVariables false

theorem sums_any (sum : Nat) (ao : Option Addr) (len cap : Nat) (X : Nat → Nat) (w : World) (hs : sum < 4294967296) (hb : Byt w ao len X) (hl : len ≤ maxLen) :
    Calls Try.prog 3 #[.int .u32 (sum : Int), .slice ao len cap] w fun e w' => e = .returned (.bool true) ∧ Below w.heap.size w w' := by
  have h1 := sum_any ao len cap X w hb hl
  have h2 := rsum_any ao len cap X w hb hl
  have h3 := more_any sum ao len cap X w hs hb hl
  have h4 := rmore_any sum ao len cap X w hs hb hl
  generalize more 0 (bl X len) = a at h1 h2
  generalize more sum (bl X len) = b at h3 h4
  clear hs hb hl
  go_enter Try.func3, Try.ntmps3
  go_wp2_with (first | (go_at_call 8; refine h1.mono ?_; rintro e w ⟨rfl, rfl⟩) | (go_at_call 9; refine h2.mono ?_; rintro e w ⟨rfl, rfl⟩) | (go_at_call 10; refine h3.mono ?_; rintro e w ⟨rfl, rfl⟩) | (go_at_call 11; refine h4.mono ?_; rintro e w ⟨rfl, rfl⟩) | (go_at_call 12; refine (awake_any _).mono ?_; rintro e w5 ⟨rfl, hb5⟩))
  go_ret
  exact ⟨rfl, hb5⟩

theorem masks_any (x : Nat) (w : World) (hx : x < 4294967296) : Calls Try.prog 4 #[.int .u32 (x : Int)] w fun e w' => e = .returned (.bool true) ∧ Below w.heap.size w w' := by
  have h1 := mask_any x w hx
  have h2 := rmask_any x w hx
  have h3 := unmask_any x w hx
  have h4 := runmask_any x w hx
  have h5 := unmask_any (mask x) w (mask_lt x)
  have h6 := mask_any (unmask x) w (unmask_lt hx)
  rw [unmask_mask hx] at h5
  rw [mask_unmask hx] at h6
  generalize mask x = a at h1 h2 h5
  generalize unmask x = b at h3 h4 h6
  clear hx
  go_enter Try.func4, Try.ntmps4
  go_wp2_with (first | (go_at_call 13; first | (refine h1.mono ?_; rintro e w ⟨rfl, rfl⟩) | (refine h6.mono ?_; rintro e w ⟨rfl, rfl⟩)) | (go_at_call 14; refine h2.mono ?_; rintro e w ⟨rfl, rfl⟩) | (go_at_call 15; first | (refine h3.mono ?_; rintro e w ⟨rfl, rfl⟩) | (refine h5.mono ?_; rintro e w ⟨rfl, rfl⟩)) | (go_at_call 16; refine h4.mono ?_; rintro e w ⟨rfl, rfl⟩) | (go_at_call 12; refine (awake_any _).mono ?_; rintro e w5 ⟨rfl, hb5⟩))
  go_ret
  exact ⟨rfl, hb5⟩
end Go.Proofs.Ytidkibefjcjkfaa
