import Derived.Test.YtligofmcmjblpaaGreatPk02
/- What a call leaves of a disk; what is read. -/
namespace Go.Proofs.YtligofmcmjblpaaGreat
open Go.RowKit
set_option linter.unusedVariables false

/-- What a call leaves of a disk that lies as R says. -/
def Nx (R : World → Nat → DS → (Nat → Prop) → Prop) (w : World) (p : Nat) (σ' : DS) (F : Nat → Prop) (w' : World) : Prop := ∃ F', R w' p σ' F' ∧ Kept F w w' ∧ ∀ k, F' k → F k ∨ w.heap.size ≤ k
/-- A row of strings that is read. -/
def StrsR (w : World) (v : Value) (xs : List ByteArray) : Prop :=
  ∃ ao cap, v = .slice ao xs.length cap ∧ ∀ (k : Nat) (s : ByteArray), xs[k]? = some s → ∃ b off, ao = some ⟨b, off, none⟩ ∧ w.cell? ⟨b, off + k, none⟩ = some (.string s)
/-- Bytes that are read. -/
def BytR (w : World) (v : Value) (xs : List Int) : Prop := ∃ ao m c Y, v = .slice ao m c ∧ (ao = none → m = 0 ∧ c = 0) ∧ Byt w ao m Y ∧ bs Y m = xs
theorem StrsR.later {w w' : World} {v : Value} {xs : List ByteArray} (h : StrsR w v xs) (hb : Below w.heap.size w w') : StrsR w' v xs := by
  obtain ⟨ao, cap, e, hc⟩ := h
  refine ⟨ao, cap, e, fun k s hk => ?_⟩
  obtain ⟨b, off, e, hc⟩ := hc k s hk
  exact ⟨b, off, e, cell_later hb hc⟩
theorem Row.bytR {B : Nat} {w : World} {v : Value} {xs : List Int} (h : Row B w v xs) (ho : Okb xs) : BytR w v xs := by
  obtain ⟨ao, cap, e, h1, h2, h3, h4⟩ := h.byt ho
  exact ⟨ao, xs.length, cap, xof xs, e, h1, h4, bs_xof ho⟩
theorem Nx.start {R : World → Nat → DS → (Nat → Prop) → Prop} {w w1 w2 : World} {p : Nat} {σ2 : DS} {F : Nat → Prop} (hb : Below w.heap.size w w1) (h : Nx R w1 p σ2 F w2) : Nx R w p σ2 F w2 := by
  obtain ⟨F', a, b, c⟩ := h
  refine ⟨F', a, (below_kept hb).trans b fun _ x => .inl x, fun k hF => ?_⟩
  rcases c k hF with x | x
  · exact .inl x
  · have := hb.size
    exact .inr (by omega)
/-- A row of strings that the call itself made. -/
def RowS (B : Nat) (w : World) (v : Value) (xs : List ByteArray) : Prop := w.ownsRow B 9 1 v xs.length (xs.map Value.string)
theorem RowS.strs {B : Nat} {w : World} {v : Value} {xs : List ByteArray} (h : RowS B w v xs) : StrsR w v xs := by
  have hcells : ∀ g, v.ownBlock = some g → _ := fun g hg => World.ownsRow.cells h (g := g) hg
  rcases h.2 with ⟨rfl, h0⟩ | ⟨g, cap, cur, rfl, _⟩
  · exact ⟨none, 0, by rw [h0], fun k s hk => by have := (List.getElem?_eq_some_iff.1 hk).1; omega⟩
  · refine ⟨some ⟨g, 0, none⟩, cap, rfl, fun k s hk => ⟨g, 0, rfl, ?_⟩⟩
    have := hcells g rfl k (.string s) (by rw [List.getElem?_map, hk]; rfl)
    rw [Addr.add_lit] at this
    exact this
/-- What is read of a slice of numbers. -/
def Ints (w : World) (ao : Option Addr) (len : Nat) (P : Nat → Int) : Prop :=
  ∀ k, k < len → (-9223372036854775808 ≤ P k ∧ P k ≤ 9223372036854775807) ∧ ∃ b off, ao = some ⟨b, off, none⟩ ∧ w.cell? ⟨b, off + k, none⟩ = some (.int .i64 (P k))
def is (P : Nat → Int) (n : Nat) : List Int := (List.range n).map P
theorem is_at (P : Nat → Int) (n k : Nat) : (is P n)[k]? = if k < n then some (P k) else none := by
  unfold is
  by_cases h : k < n
  · rw [if_pos h]
    simp [h]
  · rw [if_neg h]
    simp
    omega
theorem Ints.later {w w' : World} {ao : Option Addr} {len : Nat} {P : Nat → Int} (h : Ints w ao len P) (hb : Below w.heap.size w w') : Ints w' ao len P := fun k hk => by
  obtain ⟨h1, b, off, e, hc⟩ := h k hk
  exact ⟨h1, b, off, e, cell_later hb hc⟩
theorem Ints.kept {w w' : World} {F : Nat → Prop} {ao : Option Addr} {len : Nat} {P : Nat → Int} (h : Ints w ao len P) (hk : Kept F w w') (hF : 0 < len → ∀ a, ao = some a → ¬ F a.block) : Ints w' ao len P := fun k hl => by
  obtain ⟨h1, b, off, e, hc⟩ := h k hl
  exact ⟨h1, b, off, e, (World.cell?_of_block (w := w) (hk.block b (World.block_lt_of_cell? w _ hc) (hF (by omega) _ e))).trans hc⟩
end Go.Proofs.YtligofmcmjblpaaGreat
