/- What the document's own TakeBytes answers. -/
import Derived.Test.YtpmebgcknijnkaaTby
import Derived.Test.YtpmebgcknijnkaaRtake
namespace Go.Proofs.Ytpmebgcknijnkaa
open Go.RowKit
set_option linter.unusedVariables false

end Go.Proofs.Ytpmebgcknijnkaa
