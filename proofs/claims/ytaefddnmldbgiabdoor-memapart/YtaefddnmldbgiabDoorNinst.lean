/- The landed mem is a mem; and one that there isn't. -/
import Derived.Test.YtaefddnmldbgiabDoorNad2
import Derived.Test.YtaefddnmldbgiabDoorNlat
import Derived.Test.YtaefddnmldbgiabDoorMlaw2
namespace Go.Proofs.YtaefddnmldbgiabDoor
open Go.RowKit
set_option linter.unusedVariables false
set_option linter.unusedSimpArgs false

theorem rm_lt {w : World} {p : Nat} {l : List EntV} {F : Nat → Prop} (h : RM w p l F) : ∀ k, F k → k < w.heap.size := by
  obtain ⟨ns, hm, rfl, rfl⟩ := h
  exact fun k hk => hm.bas.lt hk
theorem rm_same {w w' : World} {p : Nat} {l : List EntV} {F : Nat → Prop} (h : RM w p l F) (h1 : ∀ k, F k → w'.heap[k]? = w.heap[k]?) (h2 : ∀ k, k < 2 → w'.heap[k]? = w.heap[k]?) : RM w' p l F := by
  obtain ⟨ns, hm, rfl, rfl⟩ := h
  exact ⟨ns, hm.keep h1 (h2 1 (by omega)), rfl, rfl⟩
theorem rm_rn {w : World} {p : Nat} {l : List EntV} {F : Nat → Prop} (h : RM w p l F) : 2 ≤ w.heap.size := by
  obtain ⟨ns, hm, rfl, rfl⟩ := h
  exact hm.bas.tab.lt
/-- -/
def theMem : PM where
  R := RM
  G := Tab
  N := 2
  gk := fun h hb => h.later hb
  gn := fun h => h.lt
  rn := fun h => rm_rn h
  lt := fun h => rm_lt h
  same := fun h h1 h2 => rm_same h h1 h2
  new := fun h => new_m h
  may := fun _ => @may_m _ _ _ _ _ _
  add := fun h _ h2 h3 h4 h5 h6 h7 => add_m h h2 h3 h4 h5 h6 h7
  get := fun h _ h2 h3 h4 h5 => get_m h h2 h3 h4 h5
  latest := fun h _ h2 h3 h4 h5 h6 => latest_m h h2 h3 h4 h5 h6
end Go.Proofs.YtaefddnmldbgiabDoor
