/- What fresh and Put make, and the document's own Len; and that the program is awake. -/
import Derived.Test.YtpmebgcknijnkaaPut
import Derived.Test.YtpmebgcknijnkaaBwide
namespace Go.Proofs.Ytpmebgcknijnkaa
open Go.RowKit

theorem Byt.grown {w w' : World} {ao : Option Addr} {len : Nat} {X : Nat → Nat} {r : Option Nat} (h : Byt w ao len X) (hg : w.grownBy w' r) (hne : ∀ b off, ao = some ⟨b, off, none⟩ → some b ≠ r) : Byt w' ao len X := fun k hk => by
  obtain ⟨h1, b, off, e, hc⟩ := h k hk
  exact ⟨h1, b, off, e, hg.cell hc (hne b off e)⟩

end Go.Proofs.Ytpmebgcknijnkaa
