/- Slices of bytes as lists: read, cut, summed, taken. -/
import Derived.Test.YtifgojkmdicdmaaFrm
import Derived.Test.YtifgojkmdicdmaaGrows
import Derived.Test.YtifgojkmdicdmaaMasks
import Derived.Test.YtifgojkmdicdmaaRtake
namespace Go.Proofs.Ytifgojkmdicdmaa
open Go.RowKit
set_option linter.unusedVariables false
set_option linter.unusedSimpArgs false

theorem nl_bl (xs : List Int) : bl (xof xs) xs.length = nl xs := by
  apply List.ext_getElem
  · simp [bl, nl]
  · intro i h1 h2
    have hi : i < xs.length := by simpa [nl] using h2
    simp [bl, nl, xof, List.getElem?_eq_getElem hi]
theorem rtake_l {w : World} {ao : Option Addr} {len cap : Nat} {xs : List Int} (h : Sl w ao len cap xs) : Calls Try.prog 51 #[.slice ao len cap] w fun e w' => e = .returned (takeV (xof xs) len (enL xs)) ∧ w' = w := by
  have he := end_enL xs h.2.1
  rw [h.1] at he
  exact rtake_any ao len cap _ _ w h.2.2.2.2.2 h.2.2.2.1 h.2.2.2.2.1 he
theorem take_l {w : World} {ao : Option Addr} {len cap : Nat} {xs : List Int} (h : Sl w ao len cap xs) : Calls Try.prog 64 #[.slice ao len cap] w fun e w' => e = .returned (takeV (xof xs) len (enL xs)) ∧ w' = w := by
  have he := end_enL xs h.2.1
  rw [h.1] at he
  exact take_any ao len cap _ _ w h.2.2.2.2.2 h.2.2.2.1 h.2.2.2.2.1 he
theorem in4 : InSize 4 := by unfold InSize; decide
theorem rread4_l {w : World} {ao : Option Addr} {len cap : Nat} {xs : List Int} (h : Sl w ao len cap xs) (h4 : 4 ≤ len) : Calls Try.prog 35 #[.slice ao len cap, .int .i64 4] w fun e w' => e = .returned (.tuple #[.int .u64 (fv (xof xs) 4 : Nat), .int .i64 0]) ∧ w' = w := by
  have := rread_any ao len cap _ 4 w h.2.2.2.2.2 h.2.2.2.1
  unfold readV at this
  rw [if_pos in4, if_neg (by omega)] at this
  exact this
theorem read4_l {w : World} {ao : Option Addr} {len cap : Nat} {xs : List Int} (h : Sl w ao len cap xs) (h4 : 4 ≤ len) : Calls Try.prog 50 #[.slice ao len cap, .int .i64 4] w fun e w' => e = .returned (.tuple #[.int .u64 (fv (xof xs) 4 : Nat), .int .i64 0]) ∧ w' = w := by
  have := read_any ao len cap _ 4 w h.2.2.2.2.2 h.2.2.2.1
  unfold readV at this
  rw [if_pos in4, if_neg (by omega)] at this
  exact this
theorem fv4_lt {xs : List Int} (h : Okb xs) (h4 : 4 ≤ xs.length) : fv (xof xs) 4 < 4294967296 := by
  have := fv_lt (xof xs) 4 (fun j hj => by
    have := h xs[j] (List.getElem_mem (by omega))
    simp [xof, List.getElem?_eq_getElem (show j < xs.length by omega)]
    omega)
  omega
theorem nl_lt {xs : List Int} (h : Okb xs) : ∀ x ∈ nl xs, x < 256 := fun x hx => by
  obtain ⟨y, hy, rfl⟩ := List.mem_map.1 hx
  have := h y hy
  omega
theorem more0_lt {xs : List Int} (h : Okb xs) : more 0 (nl xs) < 4294967296 := more_lt (by decide) (nl_lt h)
end Go.Proofs.Ytifgojkmdicdmaa
