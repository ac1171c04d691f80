/- Slices of bytes as lists, beside the keys' theory. -/
import Derived.Test.YtgfkjbckhgndcaaKey
import Derived.Test.YtgfkjbckhgndcaaSli
namespace Go.Proofs.Ytgfkjbckhgndcaa
end Go.Proofs.Ytgfkjbckhgndcaa
