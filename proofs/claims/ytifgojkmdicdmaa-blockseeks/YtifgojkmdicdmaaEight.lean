/- The eight steps, by goto. -/
import Derived.Test.YtifgojkmdicdmaaRmore
namespace Go.Proofs.Ytifgojkmdicdmaa
open Go.RowKit
set_option linter.unusedVariables false

def cnt (v : Value) : Nat := match v with | .int _ n => n.toNat | _ => 0

end Go.Proofs.Ytifgojkmdicdmaa
