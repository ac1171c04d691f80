/- How a batch that came in is opened. -/
import Derived.Test.YtcielnkkbccldaaBel
import Derived.Test.YtcielnkkbccldaaOpen
import Derived.Test.YtcielnkkbccldaaOpenB
import Derived.Deep.Slices
import Derived.ProofKit
import Derived.OpenShut
namespace Go.Proofs.Ytcielnkkbccldaa
open Go.ChangeShapes Go.WideShapes Go.ChangeAt Go.RowKit Go.Deep
set_option linter.unusedVariables false
set_option linter.unusedSimpArgs false

/-- Elements that lie side by side, told one by one. -/
theorem lay_of {α : Type} {E : El α} {w : World} {b off : Nat} : ∀ (len : Nat), (∀ k, k < len → ∃ x vs, E.M w vs x ∧ ∀ (j : Nat) (v : Value), vs[j]? = some v → w.cell? ⟨b, off + (k * E.size + j), none⟩ = some v) →
    ∃ xs us, xs.length = len ∧ Lay E w us xs ∧ ∀ (j : Nat) (u : Value), us[j]? = some u → w.cell? ⟨b, off + j, none⟩ = some u
  | 0, _ => ⟨[], [], rfl, rfl, fun j u hu => by simp at hu⟩
  | n + 1, h => by
    obtain ⟨xs, us, h1, h2, h3⟩ := lay_of n (fun k hk => h k (by omega))
    obtain ⟨x, vs, g1, g2⟩ := h n (by omega)
    have hl := h2.len
    rw [h1] at hl
    refine ⟨xs ++ [x], us ++ vs, by simp [h1], h2.app ⟨vs, [], by simp, g1, rfl⟩, fun j u hu => ?_⟩
    by_cases q : j < us.length
    · rw [List.getElem?_append_left q] at hu
      exact h3 j u hu
    · rw [List.getElem?_append_right (by omega)] at hu
      have := g2 _ u hu
      rw [show n * E.size + (j - us.length) = j by omega] at this
      exact this
section
variable {H : Type} {enc : TypeId × Value → H} {W : World} {spare : Nat → Bool} {held : Bool} {base : Nat}
theorem cells2 : Try.prog.cellsOf 2 = 1 := by kernel_rfl
theorem cells4 : Try.prog.cellsOf 4 = 1 := by kernel_rfl
theorem cellsOp : Try.prog.cellsOf 42 = 4 := by kernel_rfl
theorem cellsOps : Try.prog.cellsOf 22 = 1 := by kernel_rfl
theorem cellsBatch : Try.prog.cellsOf 24 = 2 := by kernel_rfl
/-- A slice of bytes, as a cell. -/
theorem cell_bytes {fuel : Nat} {cs : List Value} {x : DataW H × List MemPlace} (hf : DataW.trod enc Try.prog W base spare held fuel 27 cs = some x) :
    ∃ (ao : Option Addr) (xs : List Int) (cap : Nat), cs = [.slice ao xs.length cap] ∧ Sl W ao xs.length cap xs := by
  rcases open_slice1 Try.underlying27 cells5 hf with ⟨hcs, _⟩ | ⟨a, len, cap, m, n, V, D, Pl, hcs, hb, hl, hm, hmm, _, hc⟩
  · exact ⟨none, [], 0, hcs, Sl.nil W⟩
  · have hlm : len ≤ m := by rw [hmm]; split <;> omega
    have hB : Byt W (some a) len (fun k => (intOf (V k)).toNat) := fun k hk => by
      obtain ⟨c0, t0⟩ := hc k (by omega)
      obtain ⟨z, e0, _, wf⟩ := DataW.trod_int Try.underlying5 t0
      simp at e0
      have hr := wf_u8 wf
      obtain ⟨b, off, spot⟩ := a
      have hspot : spot = none := by
        have h0 := (hc 0 (by omega)).1
        simpa [Addr.add] using World.cell?_spot h0
      subst hspot
      rw [Addr.add_lit, e0] at c0
      simp only [e0, intOf]
      refine ⟨by omega, b, off, rfl, ?_⟩
      rw [c0]
      congr 2
      omega
    have hS := sl_bs (fun e => by cases e) hl hm hB
    have hlen := bs_length (fun k => (intOf (V k)).toNat) len
    refine ⟨some a, bs (fun k => (intOf (V k)).toNat) len, cap, by rw [hlen]; exact hcs, by rw [hlen]; exact hS⟩
theorem list4 {α : Type} (l : List α) (h : l.length = 4) : ∃ a b c d, l = [a, b, c, d] := by
  match l, h with
  | [a, b, c, d], _ => exact ⟨a, b, c, d, rfl⟩
theorem list2 {α : Type} (l : List α) (h : l.length = 2) : ∃ a b, l = [a, b] := by
  match l, h with
  | [a, b], _ => exact ⟨a, b, rfl⟩
/-- A change: its four cells. -/
theorem open_op {fuel : Nat} {cs : List Value} {x : DataW H × List MemPlace} (hf : DataW.trod enc Try.prog W base spare held fuel 42 cs = some x) : ∃ o : OpV, OpM W cs o := by
  obtain ⟨xs, n, _, _, hl, hxl, hc⟩ := DataW.trod_struct Try.underlying42 hf
  rw [cellsOp] at hl
  obtain ⟨a, b, c, d, rfl⟩ := list4 cs hl
  have g0 : DataW.trod enc Try.prog W base spare held n 27 (([a, b, c, d].drop 0).take (Try.prog.cellsOf 27)) = xs[0]? := hc 0 _ rfl
  rw [cells27, List.getElem?_eq_getElem (show 0 < xs.length by rw [hxl]; decide)] at g0
  have g1 : DataW.trod enc Try.prog W base spare held n 4 (([a, b, c, d].drop 1).take (Try.prog.cellsOf 4)) = xs[1]? := hc 1 _ rfl
  rw [cells4, List.getElem?_eq_getElem (show 1 < xs.length by rw [hxl]; decide)] at g1
  have g2 : DataW.trod enc Try.prog W base spare held n 2 (([a, b, c, d].drop 2).take (Try.prog.cellsOf 2)) = xs[2]? := hc 2 _ rfl
  rw [cells2, List.getElem?_eq_getElem (show 2 < xs.length by rw [hxl]; decide)] at g2
  have g3 : DataW.trod enc Try.prog W base spare held n 27 (([a, b, c, d].drop 3).take (Try.prog.cellsOf 27)) = xs[3]? := hc 3 _ rfl
  rw [cells27, List.getElem?_eq_getElem (show 3 < xs.length by rw [hxl]; decide)] at g3
  obtain ⟨ka, key, kc, e0, k1⟩ := cell_bytes g0
  obtain ⟨gone, e1, _⟩ := DataW.trod_bool Try.underlying4 g1
  obtain ⟨till, e2, _, w2⟩ := DataW.trod_int Try.underlying2 g2
  obtain ⟨va, vl, vc, e3, k2⟩ := cell_bytes g3
  have h0 : [a] = [Value.slice ka key.length kc] := e0
  have h1 : [b] = [Value.bool gone] := e1
  have h2 : [c] = [Value.int .i64 till] := e2
  have h3 : [d] = [Value.slice va vl.length vc] := e3
  simp only [List.cons.injEq, and_true] at h0 h1 h2 h3
  subst h0 h1 h2 h3
  exact ⟨⟨key, gone, till, vl⟩, ka, kc, va, vc, rfl, k1, k2, wf_i64 w2⟩
set_option maxRecDepth 100000 in
/-- A slice of changes, as a cell. -/
theorem cell_ops {fuel : Nat} {cs : List Value} {x : DataW H × List MemPlace} (hf : DataW.trod enc Try.prog W base spare held fuel 22 cs = some x) :
    ∃ (ao : Option Addr) (len cap : Nat) (os : List OpV), cs = [.slice ao len cap] ∧ RS opE W ao len cap os := by
  rcases open_slice Try.underlying22 hf with ⟨hcs, _⟩ | ⟨a, len, cap, m, n, D, Pl, hcs, hb, hl, hm, hmm, _, hc⟩
  · exact ⟨none, 0, 0, [], hcs, RS.nil W⟩
  · have hlm : len ≤ m := by rw [hmm]; split <;> omega
    rw [cellsOp] at hc
    by_cases h0 : len = 0
    · subst h0
      exact ⟨some a, 0, cap, [], hcs, [], rfl, (fun e => by cases e), hl, hm, rfl, fun j u hu => by simp at hu⟩
    obtain ⟨b, off, spot⟩ := a
    have hspot : spot = none := by
      obtain ⟨cs0, h10, h20⟩ := hc 0 (by omega)
      obtain ⟨_, hl40, hcell0⟩ := World.cells?_some h10
      have h0 := hcell0 0 (by decide)
      rw [List.getElem?_eq_getElem (by omega)] at h0
      simpa [Addr.add] using World.cell?_spot h0
    subst hspot
    obtain ⟨os, us, q1, q2, q3⟩ := lay_of (E := opE) (w := W) (b := b) (off := off) len (fun k hk => by
      obtain ⟨cs', h1, h2⟩ := hc k (by omega)
      obtain ⟨_, hl4, hcell⟩ := World.cells?_some h1
      obtain ⟨o, ho⟩ := open_op h2
      refine ⟨o, cs', ho, fun j v hj => ?_⟩
      have hj4 : j < 4 := by
        have := (List.getElem?_eq_some_iff.1 hj).1
        omega
      have := hcell j hj4
      rw [Addr.add_lit, Addr.add_lit] at this
      show W.cell? ⟨b, off + (k * 4 + j), none⟩ = some v
      rw [← Nat.add_assoc, this]
      exact hj)
    exact ⟨some ⟨b, off, none⟩, len, cap, os, hcs, us, q1, (fun e => by cases e), hl, hm, q2, fun j u hu => ⟨b, off, rfl, q3 j u hu⟩⟩
set_option maxRecDepth 100000 in
/-- A batch that came in. -/
theorem open24 {v : Value} {d : DataW H} {ps : List MemPlace} (hv : Value.okWide Try.prog W .any base 24 v) (h : DataW.Trod enc Try.prog W 0 (fun _ => true) true 24 v d ps) :
    ∃ (s : Int) (ao : Option Addr) (len cap : Nat) (os : List OpV), v = .agg #[.int .i64 s, .slice ao len cap] ∧ RS opE W ao len cap os ∧ In64 s := by
  obtain ⟨cs, rfl, _⟩ : ∃ cs, v = .agg cs ∧ cs.size = Try.prog.cellsOf 24 ∧ Row.okWide Try.prog W .any base 24 cs := by
    simpa [Value.okWide, Try.underlying24] using hv
  obtain ⟨fuel, hf⟩ := h
  obtain ⟨xs, n, _, _, hl, hxl, hc⟩ := DataW.trod_struct Try.underlying24 hf
  rw [cellsBatch] at hl
  obtain ⟨a, b, hcs⟩ := list2 _ hl
  rw [hcs] at hc
  have g0 : DataW.trod enc Try.prog W 0 (fun _ => true) true n 2 (([a, b].drop 0).take (Try.prog.cellsOf 2)) = xs[0]? := hc 0 _ rfl
  rw [cells2, List.getElem?_eq_getElem (show 0 < xs.length by rw [hxl]; decide)] at g0
  have g1 : DataW.trod enc Try.prog W 0 (fun _ => true) true n 22 (([a, b].drop 1).take (Try.prog.cellsOf 22)) = xs[1]? := hc 1 _ rfl
  rw [cellsOps, List.getElem?_eq_getElem (show 1 < xs.length by rw [hxl]; decide)] at g1
  obtain ⟨s, e0, _, w0⟩ := DataW.trod_int Try.underlying2 g0
  obtain ⟨ao, len, cap, os, e1, k1⟩ := cell_ops g1
  have h0 : [a] = [Value.int .i64 s] := e0
  have h1 : [b] = [Value.slice ao len cap] := e1
  simp only [List.cons.injEq, and_true] at h0 h1
  subst h0 h1
  have e2 : cs.toList = (#[Value.int .i64 s, Value.slice ao len cap] : Array Value).toList := by simpa [Value.cells] using hcs
  exact ⟨s, ao, len, cap, os, by rw [Array.toList_inj.1 e2], k1, wf_i64 w0⟩
end
end Go.Proofs.Ytcielnkkbccldaa
