/- The document's own TakeBatch: the walk. -/
import Derived.Test.YtifgojkmdicdmaaBtake
import Derived.Deep.RegionHeldLaw
namespace Go.Proofs.Ytifgojkmdicdmaa
open Go.RowKit
set_option linter.unusedVariables false
set_option linter.unusedSimpArgs false

theorem RowF.slice {α : Type} {E : El α} {B : Nat} {F : Nat → Prop} {w : World} {v : Value} {xs : List α} (h : RowF E B F w v xs) : ∃ a c, v = .slice a xs.length c ∧ RS E w a xs.length c xs := h.s.rs
theorem RowF.slice' {α : Type} {E : El α} {B : Nat} {F : Nat → Prop} {w : World} {v : Value} {xs : List α} (h : RowF E B F w v xs) : ∃ a n c, v = .slice a n c ∧ n = xs.length := by
  obtain ⟨a, c, e, _⟩ := h.s.rs
  exact ⟨a, _, c, e, rfl⟩
theorem Hid.mk' {p : Prop} (h : p) : Hid p := h
theorem in64_0 : In64 0 := ⟨by decide, by decide⟩
end Go.Proofs.Ytifgojkmdicdmaa
