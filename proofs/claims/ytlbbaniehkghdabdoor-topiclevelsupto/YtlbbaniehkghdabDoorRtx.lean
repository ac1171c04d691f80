/- The document's own look at a character, and at a text. -/
import Derived.Test.YtlbbaniehkghdabDoorByt
import Derived.Test.YtlbbaniehkghdabDoorText
namespace Go.Proofs.YtlbbaniehkghdabDoor
open Go.RowKit
set_option linter.unusedVariables false

/-- The first n bytes that X tells. -/
def ul (X : Nat → Nat) (n : Nat) : List UInt8 := (List.range n).map fun k => UInt8.ofNat (X k)
theorem ul_length (X : Nat → Nat) (n : Nat) : (ul X n).length = n := by simp [ul]
theorem ul_get (X : Nat → Nat) (n i : Nat) (h : i < n) : (ul X n)[i]? = some (UInt8.ofNat (X i)) := by simp [ul, h]
theorem ul_none (X : Nat → Nat) (n i : Nat) (h : n ≤ i) : (ul X n)[i]? = none := by simp [ul, h]
theorem ofNat_le {a b : Nat} (ha : a < 256) (hb : b < 256) : (UInt8.ofNat a ≤ UInt8.ofNat b) ↔ a ≤ b := by
  rw [UInt8.le_iff_toNat_le, UInt8.toNat_ofNat', UInt8.toNat_ofNat']
  simp only [Nat.reducePow]
  rw [Nat.mod_eq_of_lt ha, Nat.mod_eq_of_lt hb]
theorem ofNat_eq {a b : Nat} (ha : a < 256) (hb : b < 256) : (UInt8.ofNat a = UInt8.ofNat b) ↔ a = b := by
  rw [← UInt8.toNat_inj, UInt8.toNat_ofNat', UInt8.toNat_ofNat']
  simp only [Nat.reducePow]
  rw [Nat.mod_eq_of_lt ha, Nat.mod_eq_of_lt hb]
theorem atB_ul {X : Nat → Nat} {n i lo hi : Nat} (hX : i < n → X i < 256) (hlo : lo < 256) (hhi : hi < 256) : atB (ul X n) i (UInt8.ofNat lo) (UInt8.ofNat hi) = (decide (i < n) && (decide (lo ≤ X i) && decide (X i ≤ hi))) := by
  unfold atB
  by_cases h : i < n
  · rw [ul_get X n i h]
    simp only [h, decide_true, Bool.true_and]
    congr 1
    · exact decide_eq_decide.2 (ofNat_le hlo (hX h))
    · exact decide_eq_decide.2 (ofNat_le (hX h) hhi)
  · rw [ul_none X n i (by omega)]
    simp [h]

end Go.Proofs.YtlbbaniehkghdabDoor
