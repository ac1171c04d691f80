/- The document's own covering of levels. -/
import Derived.Test.YtlbbaniehkghdabDoorRmeets
namespace Go.Proofs.YtlbbaniehkghdabDoor
open Go.RowKit
set_option linter.unusedVariables false

end Go.Proofs.YtlbbaniehkghdabDoor
