/- The landed key's contracts together, where rows are read. -/
import Derived.Test.YtgfkjbckhgndcabLktake
import Derived.Test.YtgfkjbckhgndcabKrow
namespace Go.Proofs.Ytgfkjbckhgndcab
open Go.RowKit
/-- The landed key keeps what is asked. -/
theorem theKey : PK where
  bytes := fun h1 h2 h3 => kbytes_any h1 h2 h3
  number := fun h1 h2 h3 => knumber_any h1 h2 h3
  take := fun h1 h2 => (ktake_any h1 h2).mono fun e w' ⟨v, he, hr, hb⟩ => ⟨v, he, SlV.ofRow hr (okb_tp _ _ (Nat.le_refl _) h1.2.1), hb⟩
  takeN := fun h1 => (ktakeN_any h1).mono fun e w' ⟨he, hw⟩ => ⟨he, by rw [hw]; exact Below.refl _ _⟩
end Go.Proofs.Ytgfkjbckhgndcab
