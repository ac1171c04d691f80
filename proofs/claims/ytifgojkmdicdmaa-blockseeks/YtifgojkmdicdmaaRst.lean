/- What is left of bytes that are read: slices of slices, in any world. -/
import Derived.Test.YtifgojkmdicdmaaRrd
namespace Go.Proofs.Ytifgojkmdicdmaa
open Go.RowKit
set_option linter.unusedVariables false
set_option linter.unusedSimpArgs false

/-- What is left, where nothing is wrong. -/
def rst (s : Rd) : List Int := if s.2 ≠ 0 then [] else s.1
/-- A slice of a slice: what it holds, in any world. -/
def Rests (ao : Option Addr) (len cap : Nat) (d : List Int) (r : Value) (xs : List Int) : Prop := ∀ w, Sl w ao len cap d → SlV w r xs
theorem SlV.sl {w : World} {a : Option Addr} {n c : Nat} {xs : List Int} (h : SlV w (.slice a n c) xs) : Sl w a n c xs := by
  obtain ⟨a', c', e, hs⟩ := h
  simp only [Value.slice.injEq] at e
  obtain ⟨rfl, rfl, rfl⟩ := e
  exact hs
theorem Rests.trans {ao a : Option Addr} {len cap n c : Nat} {d xs ys : List Int} {r : Value} (h : Rests ao len cap d (.slice a n c) xs) (g : Rests a n c xs r ys) : Rests ao len cap d r ys := fun w hw => g w (h w hw).sl
theorem Rests.nil (ao : Option Addr) (len cap : Nat) (d : List Int) : Rests ao len cap d (.slice none 0 0) [] := fun w _ => slv_nil w
theorem Rests.from {ao : Option Addr} {len cap : Nat} {d : List Int} (i : Nat) (hi : i ≤ len) (hd : d.length = len) : Rests ao len cap d (.slice (cutA ao cap i) (len - i) (cap - i)) (d.drop i) := fun w h => by
  have e : (d.drop i).length = len - i := by rw [List.length_drop, hd]
  exact ⟨_, _, by rw [e], by rw [e]; exact h.from i hi⟩
end Go.Proofs.Ytifgojkmdicdmaa
