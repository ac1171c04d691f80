/- A disk is its calls: the walk. -/
import Derived.Test.YtligofmcmjblpaaPplays
import Derived.Deep.RegionHeld
namespace Go.Proofs.Ytligofmcmjblpaa
open Go.RowKit
set_option linter.unusedVariables false
set_option linter.unusedSimpArgs false

theorem both_new {D : PD} {room : Int} {w w1 w2 : World} {q p : Nat} {F G A : Nat → Prop} {loc : Nat → Nat} {lv wv : Value} (hr : room ≤ 9223372036854775807) (r1 : D.R w1 q (DS.new room) F) (f1 : ∀ k, F k → w.heap.size ≤ k) (b1 : Below w.heap.size w w1) (r2 : RefAt w2 p (DS.new room) G A loc lv wv) (g2 : ∀ k, G k → w1.heap.size ≤ k) (b2 : Below w1.heap.size w1 w2) :
    Both D w.heap.size q p (DS.new room) w2 := by
  refine ⟨⟨F, G, A, loc, lv, wv, PD.later r1 b2, r2, f1, fun k hk => Nat.le_trans b1.size (g2 k hk), fun k hk hG => ?_⟩, Inv.new room hr⟩
  have h1 := D.lt r1 k hk
  have h2 := g2 k hG
  omega

end Go.Proofs.Ytligofmcmjblpaa
