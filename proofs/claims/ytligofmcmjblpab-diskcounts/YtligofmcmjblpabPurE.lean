/- What speaks of no function. -/
import Derived.Test.YtligofmcmjblpabPdS
import Derived.Test.YtligofmcmjblpabDinv
namespace Go.Proofs.Ytligofmcmjblpab
open Go.RowKit
set_option linter.unusedVariables false
set_option linter.unusedSimpArgs false

theorem _root_.Go.RowKit.Hid.intro {p : Prop} (h : p) : Hid p := h
theorem wrapEq (n : Int) : IntKind.i64.wrap n = wrap64 n := by simp [IntKind.wrap_i64, wrap64]
theorem Row.slice {B : Nat} {w : World} {v : Value} {xs : List Int} (h : Row B w v xs) : ∃ ao n c, v = .slice ao n c := by
  rcases h.2 with ⟨rfl, _⟩ | ⟨g, cap, cur, rfl, _⟩
  · exact ⟨_, _, _, rfl⟩
  · exact ⟨_, _, _, rfl⟩
theorem Byt.kept {w w' : World} {F : Nat → Prop} {ao : Option Addr} {len : Nat} {X : Nat → Nat} (h : Byt w ao len X) (hk : Kept F w w') (hF : 0 < len → ∀ a, ao = some a → ¬ F a.block) : Byt w' ao len X := fun k hl => by
  obtain ⟨h1, b, off, e, hc⟩ := h k hl
  exact ⟨h1, b, off, e, (World.cell?_of_block (w := w) (hk.block b (World.block_lt_of_cell? w _ hc) (hF (by omega) _ e))).trans hc⟩
/-- A piece of a row that is read. -/
theorem bs_piece (xs : List Int) (h : Okb xs) (a n : Nat) (hl : a + n ≤ xs.length) : bs (fun k => xof xs (a + k)) n = (xs.drop a).take n := by
  apply List.ext_getElem
  · simp [bs_length]; omega
  · intro i h1 h2
    simp [bs_length] at h1
    have hx : a + i < xs.length := by omega
    have := h xs[a + i] (List.getElem_mem hx)
    simp [bs, xof, hx]
    omega
theorem byt_piece {w : World} {ao : Option Addr} {len : Nat} {X : Nat → Nat} (h : Byt w ao len X) (a n : Nat) (hl : a + n ≤ len) {b off : Nat} (he : ao = some ⟨b, off, none⟩) : Byt w (some ⟨b, off + a, none⟩) n (fun k => X (a + k)) := fun k hk => by
  obtain ⟨h1, b', off', e, hc⟩ := h (a + k) (by omega)
  rw [he] at e
  simp only [Option.some.injEq, Addr.mk.injEq, and_true] at e
  obtain ⟨rfl, rfl⟩ := e
  exact ⟨h1, b, off + a, rfl, by rw [Nat.add_assoc]; exact hc⟩
end Go.Proofs.Ytligofmcmjblpab
