/- Slices of bytes as lists, beside the keys' theory. -/
import Derived.Test.YtaefddnmldbgiaaDoorKey
import Derived.Test.YtaefddnmldbgiaaDoorSli
namespace Go.Proofs.YtaefddnmldbgiaaDoor
end Go.Proofs.YtaefddnmldbgiaaDoor
