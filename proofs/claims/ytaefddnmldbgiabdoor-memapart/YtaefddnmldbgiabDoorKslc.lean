/- Slices of bytes as lists, beside the keys' theory. -/
import Derived.Test.YtaefddnmldbgiabDoorKey
import Derived.Test.YtaefddnmldbgiabDoorSli
namespace Go.Proofs.YtaefddnmldbgiabDoor
end Go.Proofs.YtaefddnmldbgiabDoor
