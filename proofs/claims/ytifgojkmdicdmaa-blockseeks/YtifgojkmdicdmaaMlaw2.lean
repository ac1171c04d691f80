/- The laws on what a mem gets, and on a mem that there isn't, of any mem. -/
import Derived.Test.YtifgojkmdicdmaaMlaw
namespace Go.Proofs.Ytifgojkmdicdmaa
open Go.RowKit
set_option linter.unusedVariables false
set_option linter.unusedSimpArgs false

end Go.Proofs.Ytifgojkmdicdmaa
