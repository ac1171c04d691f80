/- The document's own names and clients. -/
import Derived.Test.YtlbbaniehkghdabDoorRsign
import Derived.Lib.ConvBytes
namespace Go.Proofs.YtlbbaniehkghdabDoor
open Go.RowKit
set_option linter.unusedVariables false

/-- The bytes of a string, laid anew. -/
theorem conv_str (w : World) (s : ByteArray) : (convert 9 33 (.string s)).run Tryd.prog w = .ok (.slice (some ⟨w.heap.size, 0, none⟩) s.size (grownCap w s.size 0 5)) (Lib.bytesWorld w 5 s) :=
  Lib.run_convert_string_bytes w 9 33 5 s Tryd.underlying9 Tryd.underlying33 Tryd.underlying5
theorem conv_below (w : World) (s : ByteArray) : Below w.heap.size w (Lib.bytesWorld w 5 s) :=
  ⟨rfl, rfl, rfl, by rw [Lib.bytesWorld_size]; omega, fun k hk => Lib.bytesWorld_at_old w 5 s k hk⟩
def sx (s : ByteArray) : Nat → Nat := fun k => (s.data.toList.getD k 0).toNat
theorem conv_byt (w : World) (s : ByteArray) : Byt (Lib.bytesWorld w 5 s) (some ⟨w.heap.size, 0, none⟩) s.size (sx s) := fun k hk =>
  ⟨by unfold sx; exact UInt8.toNat_lt _, w.heap.size, 0, rfl, by rw [Nat.zero_add]; exact Lib.bytesWorld_cell w 5 s k hk⟩
theorem ul_sx (s : ByteArray) : ul (sx s) s.size = s.data.toList := by
  have hsz : s.data.toList.length = s.size := Array.length_toList
  apply List.ext_getElem
  · rw [ul_length, hsz]
  · intro i h1 h2
    simp only [ul, List.getElem_map, List.getElem_range, sx]
    rw [List.getD_eq_getElem?_getD, List.getElem?_eq_getElem h2, Option.getD_some, UInt8.ofNat_toNat]
theorem len_data (s : ByteArray) : s.data.toList.length = s.size := Array.length_toList

end Go.Proofs.YtlbbaniehkghdabDoor
