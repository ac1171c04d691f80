/- How many bytes a character has. -/
import Derived.Test.YtlbbaniehkghdabDoorRtx
namespace Go.Proofs.YtlbbaniehkghdabDoor
open Go.RowKit
set_option linter.unusedVariables false

/-- The same by the first byte, and by what is known of the next. -/
def tszV (x : Nat) (A1 Aa Ab Ac Ad A2 A3 : Bool) : Nat :=
  if decide (1 ≤ x) && decide (x ≤ 127) then 1
  else if decide (194 ≤ x) && decide (x ≤ 223) && A1 then 2
  else if decide (x = 224) && Aa && A2 then 3
  else if decide (x = 237) && Ab && A2 then 3
  else if decide (225 ≤ x) && decide (x ≤ 239) && !decide (x = 237) && A1 && A2 then 3
  else if decide (x = 240) && Ac && A2 && A3 then 4
  else if decide (241 ≤ x) && decide (x ≤ 243) && A1 && A2 && A3 then 4
  else if decide (x = 244) && Ad && A2 && A3 then 4
  else 0
theorem tsz_ul (X : Nat → Nat) (len : Nat) (hp : 0 < len) (hx : X 0 < 256) : tsz (ul X len) = tszV (X 0) (atB (ul X len) 1 128 191) (atB (ul X len) 1 160 191) (atB (ul X len) 1 128 159) (atB (ul X len) 1 144 191) (atB (ul X len) 1 128 143) (atB (ul X len) 2 128 191) (atB (ul X len) 3 128 191) := by
  obtain ⟨t, ht⟩ : ∃ t, ul X len = UInt8.ofNat (X 0) :: t := by
    cases e : ul X len with
    | nil => have := ul_length X len; rw [e] at this; simp at this; omega
    | cons c t =>
      have := ul_get X len 0 hp
      rw [e] at this
      simp at this
      exact ⟨t, by rw [this]⟩
  have le1 : ∀ k : Nat, k < 256 → decide (UInt8.ofNat k ≤ UInt8.ofNat (X 0)) = decide (k ≤ X 0) := fun k hk => decide_eq_decide.2 (ofNat_le hk hx)
  have le2 : ∀ k : Nat, k < 256 → decide (UInt8.ofNat (X 0) ≤ UInt8.ofNat k) = decide (X 0 ≤ k) := fun k hk => decide_eq_decide.2 (ofNat_le hx hk)
  have eq1 : ∀ k : Nat, k < 256 → (UInt8.ofNat (X 0) == UInt8.ofNat k) = decide (X 0 = k) := fun k hk => by
    rw [Bool.eq_iff_iff, beq_iff_eq, ofNat_eq hx hk, decide_eq_true_eq]
  have l1 := le1 1 (by decide)
  have l127 := le2 127 (by decide)
  have l194 := le1 194 (by decide)
  have l223 := le2 223 (by decide)
  have l225 := le1 225 (by decide)
  have l239 := le2 239 (by decide)
  have l241 := le1 241 (by decide)
  have l243 := le2 243 (by decide)
  have q224 := eq1 224 (by decide)
  have q237 := eq1 237 (by decide)
  have q240 := eq1 240 (by decide)
  have q244 := eq1 244 (by decide)
  have bne237 : (UInt8.ofNat (X 0) != 237) = !decide (X 0 = 237) := by
    have : (UInt8.ofNat (X 0) == 237) = decide (X 0 = 237) := q237
    unfold bne
    rw [this]
  unfold tsz tszV
  rw [ht]
  simp only []
  have g1 : decide ((1 : UInt8) ≤ UInt8.ofNat (X 0)) = decide (1 ≤ X 0) := l1
  have g127 : decide (UInt8.ofNat (X 0) ≤ 127) = decide (X 0 ≤ 127) := l127
  have g194 : decide ((194 : UInt8) ≤ UInt8.ofNat (X 0)) = decide (194 ≤ X 0) := l194
  have g223 : decide (UInt8.ofNat (X 0) ≤ 223) = decide (X 0 ≤ 223) := l223
  have g225 : decide ((225 : UInt8) ≤ UInt8.ofNat (X 0)) = decide (225 ≤ X 0) := l225
  have g239 : decide (UInt8.ofNat (X 0) ≤ 239) = decide (X 0 ≤ 239) := l239
  have g241 : decide ((241 : UInt8) ≤ UInt8.ofNat (X 0)) = decide (241 ≤ X 0) := l241
  have g243 : decide (UInt8.ofNat (X 0) ≤ 243) = decide (X 0 ≤ 243) := l243
  have p224 : (UInt8.ofNat (X 0) == 224) = decide (X 0 = 224) := q224
  have p237 : (UInt8.ofNat (X 0) == 237) = decide (X 0 = 237) := q237
  have p240 : (UInt8.ofNat (X 0) == 240) = decide (X 0 = 240) := q240
  have p244 : (UInt8.ofNat (X 0) == 244) = decide (X 0 = 244) := q244
  rw [g1, g127, g194, g223, p224, p237, g225, g239, bne237, p240, g241, g243, p244]

end Go.Proofs.YtlbbaniehkghdabDoor
