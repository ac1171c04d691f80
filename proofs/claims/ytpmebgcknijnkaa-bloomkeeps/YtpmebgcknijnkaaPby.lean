/- What PutBytes makes, and the document's own. -/
import Derived.Test.YtpmebgcknijnkaaTby
namespace Go.Proofs.Ytpmebgcknijnkaa
open Go.RowKit
set_option linter.unusedVariables false

end Go.Proofs.Ytpmebgcknijnkaa
