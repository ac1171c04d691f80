/- The landed batch keeps what is asked of a batch. -/
import Derived.Test.YtcielnkkbccldaaBlaw
import Derived.Test.YtcielnkkbccldaaLbmay
import Derived.Test.YtcielnkkbccldaaLbenc
import Derived.Test.YtcielnkkbccldaaLbdec
import Derived.Test.YtcielnkkbccldaaLbent
namespace Go.Proofs.Ytcielnkkbccldaa
open Go.RowKit

theorem okO_rs {w : World} {ao : Option Addr} {len cap : Nat} {os : List OpV} (h : RS opE w ao len cap os) : ∀ o ∈ os, OkO o := fun o ho => by
  obtain ⟨i, hi⟩ := List.getElem?_of_mem ho
  obtain ⟨b, off, ka, kc, va, vc, _, _, _, _, _, h1, h2, _⟩ := RS.op h hi
  exact ⟨h1.2.1, h2.2.1⟩
theorem okb_enV {s : Int} {os : List OpV} (h : ∀ o ∈ os, OkO o) : Okb (enV s os) := by
  unfold enV
  split
  · exact okb_enB h
  · exact fun x hx => by cases hx
theorem theBatch : PB where
  may := fun h hs => bmay_any h hs
  enc := fun h hs => (benc_any h hs).mono fun _ _ ⟨v, he, hr, hb⟩ => ⟨v, he, SlV.ofRow hr (okb_enV (okO_rs h)), hb⟩
  dec := fun h hl => bdec_any h hl
  ents := fun h hs => (bents_any h hs).mono fun _ _ ⟨v, he, hr, hb⟩ => ⟨v, he, RSV.ofRow hr, hb⟩
end Go.Proofs.Ytcielnkkbccldaa
