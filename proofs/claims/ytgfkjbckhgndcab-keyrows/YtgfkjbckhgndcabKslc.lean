/- Slices of bytes as lists, beside the keys' theory. -/
import Derived.Test.YtgfkjbckhgndcabKey
import Derived.Test.YtgfkjbckhgndcabSli
namespace Go.Proofs.Ytgfkjbckhgndcab
end Go.Proofs.Ytgfkjbckhgndcab
