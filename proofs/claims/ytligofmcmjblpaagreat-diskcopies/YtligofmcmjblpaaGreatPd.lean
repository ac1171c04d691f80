/- What is asked of a program's disk, beside the document's own. -/
import Derived.Test.YtligofmcmjblpaaGreatDcall
import Derived.Test.YtligofmcmjblpaaGreatPdS
namespace Go.Proofs.YtligofmcmjblpaaGreat
open Go.RowKit
set_option linter.unusedVariables false

theorem RefAt.kept {w w' : World} {p : Nat} {σ : DS} {F A G : Nat → Prop} {loc : Nat → Nat} {lv wv : Value} (h : RefAt w p σ F A loc lv wv) (hk : Kept G w w') (hd : ∀ k, F k → ¬ G k) : RefAt w' p σ F A loc lv wv := h.same fun k hF => hk.block k (h.lt k hF) (hd k hF)
end Go.Proofs.YtligofmcmjblpaaGreat
