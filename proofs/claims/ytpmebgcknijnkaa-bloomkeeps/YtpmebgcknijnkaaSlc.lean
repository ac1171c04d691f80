/- Slices of bytes as lists: read, cut, summed, taken. -/
import Derived.Test.YtpmebgcknijnkaaFrm
import Derived.Test.YtpmebgcknijnkaaGrows
import Derived.Test.YtpmebgcknijnkaaMasks
import Derived.Test.YtpmebgcknijnkaaRtake
namespace Go.Proofs.Ytpmebgcknijnkaa
open Go.RowKit
set_option linter.unusedVariables false
set_option linter.unusedSimpArgs false

theorem nl_bl (xs : List Int) : bl (xof xs) xs.length = nl xs := by
  apply List.ext_getElem
  · simp [bl, nl]
  · intro i h1 h2
    have hi : i < xs.length := by simpa [nl] using h2
    simp [bl, nl, xof, List.getElem?_eq_getElem hi]
theorem in4 : InSize 4 := by unfold InSize; decide
theorem fv4_lt {xs : List Int} (h : Okb xs) (h4 : 4 ≤ xs.length) : fv (xof xs) 4 < 4294967296 := by
  have := fv_lt (xof xs) 4 (fun j hj => by
    have := h xs[j] (List.getElem_mem (by omega))
    simp [xof, List.getElem?_eq_getElem (show j < xs.length by omega)]
    omega)
  omega
theorem nl_lt {xs : List Int} (h : Okb xs) : ∀ x ∈ nl xs, x < 256 := fun x hx => by
  obtain ⟨y, hy, rfl⟩ := List.mem_map.1 hx
  have := h y hy
  omega
theorem more0_lt {xs : List Int} (h : Okb xs) : more 0 (nl xs) < 4294967296 := more_lt (by decide) (nl_lt h)
end Go.Proofs.Ytpmebgcknijnkaa
