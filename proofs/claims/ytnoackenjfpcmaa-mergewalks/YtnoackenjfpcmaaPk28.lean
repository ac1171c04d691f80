import Derived.Test.YtnoackenjfpcmaaPk24
import Derived.Test.YtnoackenjfpcmaaPk27
/- How a row of steps that came in is opened. -/
namespace Go.Proofs.Ytnoackenjfpcmaa
open Go.ChangeShapes Go.WideShapes Go.ChangeAt Go.RowKit Go.Deep
set_option linter.unusedVariables false
set_option linter.unusedSimpArgs false
section
variable {H : Type} {enc : TypeId × Value → H} {W : World} {spare : Nat → Bool} {held : Bool} {base : Nat}
theorem cellsStep : Try.prog.cellsOf 43 = 2 := by kernel_rfl
theorem list2 {α : Type} (l : List α) (h : l.length = 2) : ∃ a b, l = [a, b] := by
  match l, h with
  | [a, b], _ => exact ⟨a, b, rfl⟩
/-- A step: its two cells. -/
theorem open_stp {fuel : Nat} {cs : List Value} {x : DataW H × List MemPlace} (hf : DataW.trod enc Try.prog W base spare held fuel 43 cs = some x) : ∃ o : StpV, StpM W cs o := by
  obtain ⟨xs, n, _, _, hl, hxl, hc⟩ := DataW.trod_struct Try.underlying43 hf
  rw [cellsStep] at hl
  obtain ⟨a, b, rfl⟩ := list2 cs hl
  have g0 : DataW.trod enc Try.prog W base spare held n 4 (([a, b].drop 0).take (Try.prog.cellsOf 4)) = xs[0]? := hc 0 _ rfl
  rw [cells4, List.getElem?_eq_getElem (show 0 < xs.length by rw [hxl]; decide)] at g0
  have g1 : DataW.trod enc Try.prog W base spare held n 33 (([a, b].drop 1).take (Try.prog.cellsOf 33)) = xs[1]? := hc 1 _ rfl
  rw [cells33, List.getElem?_eq_getElem (show 1 < xs.length by rw [hxl]; decide)] at g1
  obtain ⟨sk, e0, _⟩ := DataW.trod_bool Try.underlying4 g0
  obtain ⟨ka, key, kc, e1, k1⟩ := cell_bytes g1
  have h0 : [a] = [Value.bool sk] := e0
  have h1 : [b] = [Value.slice ka key.length kc] := e1
  simp only [List.cons.injEq, and_true] at h0 h1
  subst h0 h1
  exact ⟨⟨sk, key⟩, ka, kc, rfl, k1⟩
set_option maxRecDepth 100000 in
/-- A slice of entries, as a cell. -/
theorem cell_stps {fuel : Nat} {cs : List Value} {x : DataW H × List MemPlace} (hf : DataW.trod enc Try.prog W base spare held fuel 37 cs = some x) :
    ∃ (ao : Option Addr) (len cap : Nat) (os : List StpV), cs = [.slice ao len cap] ∧ RS stpE W ao len cap os := by
  rcases open_slice Try.underlying37 hf with ⟨hcs, _⟩ | ⟨a, len, cap, m, n, D, Pl, hcs, hb, hl, hm, hmm, _, hc⟩
  · exact ⟨none, 0, 0, [], hcs, RS.nil W⟩
  · have hlm : len ≤ m := by rw [hmm]; split <;> omega
    rw [cellsStep] at hc
    by_cases h0 : len = 0
    · subst h0
      exact ⟨some a, 0, cap, [], hcs, [], rfl, (fun e => by cases e), hl, hm, rfl, fun j u hu => by simp at hu⟩
    obtain ⟨b, off, spot⟩ := a
    have hspot : spot = none := by
      obtain ⟨cs0, h10, h20⟩ := hc 0 (by omega)
      obtain ⟨_, hl40, hcell0⟩ := World.cells?_some h10
      have h0 := hcell0 0 (by decide)
      rw [List.getElem?_eq_getElem (by omega)] at h0
      simpa [Addr.add] using World.cell?_spot h0
    subst hspot
    obtain ⟨os, us, q1, q2, q3⟩ := lay_of (E := stpE) (w := W) (b := b) (off := off) len (fun k hk => by
      obtain ⟨cs', h1, h2⟩ := hc k (by omega)
      obtain ⟨_, hl4, hcell⟩ := World.cells?_some h1
      obtain ⟨o, ho⟩ := open_stp h2
      refine ⟨o, cs', ho, fun j v hj => ?_⟩
      have hj4 : j < 2 := by
        have := (List.getElem?_eq_some_iff.1 hj).1
        omega
      have := hcell j hj4
      rw [Addr.add_lit, Addr.add_lit] at this
      show W.cell? ⟨b, off + (k * 2 + j), none⟩ = some v
      rw [← Nat.add_assoc, this]
      exact hj)
    exact ⟨some ⟨b, off, none⟩, len, cap, os, hcs, us, q1, (fun e => by cases e), hl, hm, q2, fun j u hu => ⟨b, off, rfl, q3 j u hu⟩⟩
set_option maxRecDepth 100000 in
/-- A row of entries that came in. -/
theorem open37 {v : Value} {d : DataW H} {ps : List MemPlace} (hv : Value.okWide Try.prog W .any base 37 v) (h : DataW.Trod enc Try.prog W 0 (fun _ => true) true 37 v d ps) :
    ∃ (ao : Option Addr) (len cap : Nat) (os : List StpV), v = .slice ao len cap ∧ RS stpE W ao len cap os := by
  obtain ⟨a, len, cap, rfl⟩ := okWide_slice Try.underlying37 hv
  obtain ⟨fuel, hf⟩ := h
  obtain ⟨ao, len', cap', os, e, hr⟩ := cell_stps hf
  have e' : [Value.slice a len cap] = [Value.slice ao len' cap'] := e
  simp only [List.cons.injEq, and_true] at e'
  exact ⟨ao, len', cap', os, e', hr⟩
end
end Go.Proofs.Ytnoackenjfpcmaa
