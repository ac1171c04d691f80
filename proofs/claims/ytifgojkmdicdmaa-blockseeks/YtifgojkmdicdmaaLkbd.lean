/- The landed block keeps what is asked of Decode. -/
import Derived.Test.YtifgojkmdicdmaaLkbk
import Derived.Test.YtifgojkmdicdmaaLk9
namespace Go.Proofs.Ytifgojkmdicdmaa
open Go.RowKit
set_option linter.unusedVariables false
set_option linter.unusedSimpArgs false

theorem theBd : PBd where
  decode := fun {w ao len cap d} h hl => (dec_k h hl).mono fun e w' ⟨v, he, hr, hb⟩ => ⟨v, tkEL d, he, (tkL d).1, by rw [← (tkL d).2]; exact hr, hb⟩
end Go.Proofs.Ytifgojkmdicdmaa
