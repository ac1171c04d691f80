/- The document's own meeting of levels. -/
import Derived.Test.YtlbbaniehkghdabDoorRlev
namespace Go.Proofs.YtlbbaniehkghdabDoor
open Go.RowKit
set_option linter.unusedVariables false

/-- What is read of a slice of strings. -/
def Strs (w : World) (ao : Option Addr) (len : Nat) (Y : Nat → ByteArray) : Prop :=
  ∀ k, k < len → ∃ b off, ao = some ⟨b, off, none⟩ ∧ w.cell? ⟨b, off + k, none⟩ = some (.string (Y k))
def sl (Y : Nat → ByteArray) (n : Nat) : List (List UInt8) := (List.range n).map fun k => (Y k).data.toList
theorem sl_zero (Y : Nat → ByteArray) : sl Y 0 = [] := rfl
theorem sl_succ (Y : Nat → ByteArray) (n : Nat) : sl Y (n + 1) = (Y 0).data.toList :: sl (fun k => Y (k + 1)) n := by
  simp [sl, List.range_succ_eq_map, List.map_map, Function.comp_def]
theorem Strs.cut {w : World} {ao : Option Addr} {len : Nat} {Y : Nat → ByteArray} (h : Strs w ao (len + 1) Y) (b off : Nat) (e : ao = some ⟨b, off, none⟩) : Strs w (some ⟨b, off + 1, none⟩) len (fun k => Y (k + 1)) := fun k hk => by
  obtain ⟨b', off', e', hc⟩ := h (k + 1) (by omega)
  rw [e] at e'
  simp only [Option.some.injEq, Addr.mk.injEq, and_true] at e'
  obtain ⟨rfl, rfl⟩ := e'
  exact ⟨b, off + 1, rfl, by rw [show off + 1 + k = off + (k + 1) by omega]; exact hc⟩
theorem Strs.drewN {w : World} {ao : Option Addr} {len : Nat} {Y : Nat → ByteArray} (h : Strs w ao len Y) (n : Nat) : Strs (w.drewN n) ao len Y := h
/-- What is left behind the first: where it lies, and what it holds. -/
theorem strs_rest {w : World} {b off len rc : Nat} {Y : Nat → ByteArray} (h : Strs w (some ⟨b, off, none⟩) (len + 1) Y) (hl : len ≤ rc) : ∃ b' off', (if rc = 0 then some (⟨b, off, none⟩ : Addr) else some ⟨b, off + 1, none⟩) = some ⟨b', off', none⟩ ∧ Strs w (some ⟨b', off', none⟩) len (fun k => Y (k + 1)) := by
  by_cases q : rc = 0
  · exact ⟨b, off, by simp [q], fun k hk => absurd hk (by omega)⟩
  · exact ⟨b, off + 1, by simp [q], h.cut b off rfl⟩
theorem tl_eq (x : ByteArray) : x.toList = x.data.toList := ByteArray.toList_eq x

end Go.Proofs.YtlbbaniehkghdabDoor
