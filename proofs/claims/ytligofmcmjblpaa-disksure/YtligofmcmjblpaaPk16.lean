import Derived.Test.YtligofmcmjblpaaPk15
/- Any place of any file. -/
namespace Go.Proofs.Ytligofmcmjblpaa
open Go.RowKit
set_option linter.unusedVariables false
set_option linter.unusedSimpArgs false

end Go.Proofs.Ytligofmcmjblpaa
