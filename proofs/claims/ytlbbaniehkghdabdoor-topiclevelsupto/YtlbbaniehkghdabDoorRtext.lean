/- The document's own Text. -/
import Derived.Test.YtlbbaniehkghdabDoorRsz
namespace Go.Proofs.YtlbbaniehkghdabDoor
open Go.RowKit
set_option linter.unusedVariables false

theorem Byt.cut {w : World} {ao : Option Addr} {len l m : Nat} {X : Nat → Nat} (h : Byt w ao len X) (b off : Nat) (e : ao = some ⟨b, off, none⟩) (hl : l + m ≤ len) : Byt w (some ⟨b, off + l, none⟩) m (fun k => X (l + k)) := fun k hk => by
  obtain ⟨h1, b', off', e', hc⟩ := h (l + k) (by omega)
  rw [e] at e'
  simp only [Option.some.injEq, Addr.mk.injEq, and_true] at e'
  obtain ⟨rfl, rfl⟩ := e'
  exact ⟨h1, b, off + l, rfl, by rw [Nat.add_assoc]; exact hc⟩
theorem ul_drop (X : Nat → Nat) (n r : Nat) : (ul X (n + r)).drop n = ul (fun k => X (n + k)) r := by
  apply List.ext_getElem
  · simp [ul]
  · intro i h1 h2
    simp [ul]

end Go.Proofs.YtlbbaniehkghdabDoor
