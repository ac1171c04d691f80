import Derived.Test.YtligofmcmjblpaaGreatPk13
import Derived.Test.YtligofmcmjblpaaGreatPk37
import Derived.Test.YtligofmcmjblpaaGreatPk38
import Derived.Test.YtligofmcmjblpaaGreatPk41
/- The landed disk is as the calls tell. -/
namespace Go.Proofs.YtligofmcmjblpaaGreat
open Go.RowKit
set_option linter.unusedVariables false
set_option linter.unusedSimpArgs false

def theDisk : PD where
  R := RL
  lt := fun {w p σ F} h k hk => by
    obtain ⟨A, loc, dv, nv, sv, cv, sd, ch, h⟩ := h
    exact h.lt k hk
  same := fun {w w' p σ F} h hs => by
    obtain ⟨A, loc, dv, nv, sv, cv, sd, ch, h⟩ := h
    exact ⟨A, loc, dv, nv, sv, cv, sd, ch, h.same hs⟩
  new := fun room w h1 h2 => new_any room w h1 h2
  create := fun {w p σ F} s h hi hs => create_any p σ F s w h hi hs
  append := fun {w p σ F} s bo len bc X h hi hb hn hF hl => append_any p σ F s bo len bc X w h hi hb hn hF hl
  sync := fun {w p σ F} s h hi => sync_any p σ F s w h hi
  rename := fun {w p σ F} s t h hi ht => rename_any p σ F s t w h hi ht
  remove := fun {w p σ F} s h hi => remove_any p σ F s w h hi
  syncDir := fun {w p σ F} h hi => syncDir_any p σ F w h hi
  fuse := fun {w p σ F} n h hi h1 h2 => fuse_any p σ F n w h h1 h2
  fault := fun {w p σ F} f n h hi h1 h2 => fault_any p σ F f n w h h1 h2
  crash := fun {w p σ F} po pl pc P h hi hP hF hl => crash_any p σ F po pl pc P w h hi hP hF hl
  spoil := fun {w p σ F} s at_ x h hi ha hx => spoil_any p σ F s at_ x w h hi ha hx
  read := fun {w p σ F} s h hi => read_any p σ F s w h hi
  listN := fun {w p σ F} h hi => list_any p σ F w h hi
  used := fun {w p σ F} h hi => used_any p σ F w h hi
  calls := fun {w p σ F} h hi => calls_any p σ F w h
  down := fun {w p σ F} h hi => down_any p σ F w h
  readAt := fun {w p σ F} s at_ n h hi ha hn => readAt_any p σ F s at_ n w h hi ha hn
  size := fun {w p σ F} s h hi => size_any p σ F s w h hi
end Go.Proofs.YtligofmcmjblpaaGreat
