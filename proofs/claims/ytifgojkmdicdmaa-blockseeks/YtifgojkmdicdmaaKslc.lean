/- Slices of bytes as lists, beside the keys' theory. -/
import Derived.Test.YtifgojkmdicdmaaKey
import Derived.Test.YtifgojkmdicdmaaSli
namespace Go.Proofs.Ytifgojkmdicdmaa
end Go.Proofs.Ytifgojkmdicdmaa
