import Derived.Test.YtjgfklbhagcbaabPk02
import Derived.Test.YtjgfklbhagcbaabPk03
/- What the document's own Take answers. -/
namespace Go.Proofs.Ytjgfklbhagcbaab
open Go.RowKit

theorem good' {X : Nat → Nat} {E : Nat} : good X E ↔ ¬ (0 < E ∧ X E = 0) ∧ (E < 9 ∨ E = 9 ∧ X E ≤ 1) := by
  unfold good
  constructor
  · rintro ⟨h1, h2 | ⟨rfl, h2⟩⟩
    · exact ⟨h1, .inl h2⟩
    · exact ⟨h1, .inr ⟨rfl, h2⟩⟩
  · rintro ⟨h1, h2 | ⟨rfl, h2⟩⟩
    · exact ⟨h1, .inl h2⟩
    · exact ⟨h1, .inr ⟨rfl, h2⟩⟩

end Go.Proofs.Ytjgfklbhagcbaab

/- What TakeBytes answers. -/
namespace Go.Proofs.Ytjgfklbhagcbaab
open Go.RowKit
set_option linter.unusedVariables false

/-- What TakeBytes answers, where the length's number ends at E: the bytes, how many are used, the error. -/
def tbR (X : Nat → Nat) (len E : Nat) (most : Int) : List Int × Int × Int :=
  if E < len then (if good X E then
    (if most < 0 ∨ most < (val X (E + 1) : Int) then ([], 0, 2) else if len < E + 1 + val X (E + 1) then ([], 0, 5) else (bs (fun k => X (E + 1 + k)) (val X (E + 1)), (E : Int) + 1 + (val X (E + 1) : Int), 0))
    else ([], 0, 3)) else ([], 0, 5)

/-- A slice of bytes that the callee made, or nil. -/
def Got (w w' : World) (e : Ending) (r : List Int × Int × Int) : Prop :=
  ∃ ao cap, e = .returned (.tuple #[.slice ao r.1.length cap, .int .i64 r.2.1, .int .i64 r.2.2]) ∧ (ao = none → r.1.length = 0 ∧ cap = 0) ∧ r.1.length ≤ cap ∧ cap ≤ maxLen ∧ Byt w' ao r.1.length (xof r.1) ∧ Below w.heap.size w w' ∧ Row w.heap.size w' (.slice ao r.1.length cap) r.1
theorem got_nil (w : World) (K F : Int) : Got w w (.returned (.tuple #[.slice none 0 0, .int .i64 K, .int .i64 F])) ([], K, F) :=
  ⟨none, 0, rfl, fun _ => ⟨rfl, rfl⟩, Nat.le_refl _, Nat.zero_le _, (fun k hk => by cases hk), Below.refl _ _, Row.nil _ _⟩

theorem Byt.cut {w : World} {ao : Option Addr} {len l m : Nat} {X : Nat → Nat} (h : Byt w ao len X) (b off : Nat) (e : ao = some ⟨b, off, none⟩) (hl : l + m ≤ len) : Byt w (some ⟨b, off + l, none⟩) m (fun k => X (l + k)) := fun k hk => by
  obtain ⟨h1, b', off', e', hc⟩ := h (l + k) (by omega)
  rw [e] at e'
  simp only [Option.some.injEq, Addr.mk.injEq, and_true] at e'
  obtain ⟨rfl, rfl⟩ := e'
  exact ⟨h1, b, off + l, rfl, by rw [Nat.add_assoc]; exact hc⟩

end Go.Proofs.Ytjgfklbhagcbaab

/- What the document's own TakeBytes answers. -/
namespace Go.Proofs.Ytjgfklbhagcbaab
open Go.RowKit
set_option linter.unusedVariables false

end Go.Proofs.Ytjgfklbhagcbaab
