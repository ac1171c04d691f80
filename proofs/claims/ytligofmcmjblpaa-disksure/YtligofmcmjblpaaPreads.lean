/- Any place of any file. -/
import Derived.Test.YtligofmcmjblpaaPplayw
namespace Go.Proofs.Ytligofmcmjblpaa
open Go.RowKit
set_option linter.unusedVariables false
set_option linter.unusedSimpArgs false

end Go.Proofs.Ytligofmcmjblpaa
