/- Changes and entries in memory; a batch as a value. -/
import Derived.Test.YtifgojkmdicdmaaBat
import Derived.Test.YtifgojkmdicdmaaStrc
namespace Go.Proofs.Ytifgojkmdicdmaa
open Go.RowKit
set_option linter.unusedVariables false
set_option linter.unusedSimpArgs false

theorem cell_of {w : World} {p : Nat} {C : Array Value} {t : TypeId} {f : Nat × Nat} (h : w.heap[p]? = some (.cells C t f)) (k : Nat) : w.cell? ⟨p, k, none⟩ = C[k]? := by
  simp [World.cell?, h]
theorem cell_below {B : Nat} {w w' : World} {p k : Nat} {v : Value} (h : Below B w w') (hp : p < B) (hc : w.cell? ⟨p, k, none⟩ = some v) : w'.cell? ⟨p, k, none⟩ = some v := (h.cell (p := ⟨p, k, none⟩) hp).trans hc
def In64 (n : Int) : Prop := -9223372036854775808 ≤ n ∧ n ≤ 9223372036854775807
/-- A change in four cells. -/
def OpM (w : World) (vs : List Value) (o : OpV) : Prop :=
  ∃ ka kc va vc, vs = [.slice ka o.key.length kc, .bool o.gone, .int .i64 o.till, .slice va o.val.length vc] ∧ Sl w ka o.key.length kc o.key ∧ Sl w va o.val.length vc o.val ∧ In64 o.till
theorem RS.len {α : Type} {E : El α} {w : World} {ao : Option Addr} {len cap : Nat} {xs : List α} (h : RS E w ao len cap xs) : xs.length = len ∧ len ≤ cap ∧ cap ≤ maxLen := by
  obtain ⟨us, h1, h2, h3, h4, _⟩ := h
  exact ⟨h1, h3, h4⟩
theorem mayO_drop {os : List OpV} {k : Nat} {o : OpV} (h : os[k]? = some o) : mayO (os.drop k) = if may1 o ≠ 0 then may1 o else mayO (os.drop (k + 1)) := by
  obtain ⟨hk, rfl⟩ := List.getElem?_eq_some_iff.1 h
  rw [List.drop_eq_getElem_cons hk, mayO]

end Go.Proofs.Ytifgojkmdicdmaa
