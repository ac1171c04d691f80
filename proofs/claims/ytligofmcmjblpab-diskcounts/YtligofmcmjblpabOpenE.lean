/- How what comes in is opened: numbers, bytes, slices of numbers, slices of slices of bytes. -/
import Derived.Test.YtligofmcmjblpabPpie
import Derived.SizedLaws
import Derived.ChangeSlices
import Derived.Carry
import Derived.Deep.Slices
import Derived.Deep.Matrix
import Derived.ProofKit
import Derived.OpenShut
namespace Go.Proofs.Ytligofmcmjblpab
open Go.ChangeShapes Go.WideShapes Go.ChangeAt Go.RowKit Go.Deep
set_option linter.unusedVariables false
set_option linter.unusedSimpArgs false

theorem cells5 : Try.prog.cellsOf 5 = 1 := by kernel_rfl
theorem cells3 : Try.prog.cellsOf 3 = 1 := by kernel_rfl
theorem cells27 : Try.prog.cellsOf 27 = 1 := by kernel_rfl
theorem wf_u8 {n : Int} (h : (Lit.int .u8 n).wf = true) : 0 ≤ n ∧ n < 256 := by
  simp [Lit.wf, IntKind.min, IntKind.max, IntKind.bits, IntKind.signed] at h
  omega
theorem wf_i64 {n : Int} (h : (Lit.int .i64 n).wf = true) : -9223372036854775808 ≤ n ∧ n ≤ 9223372036854775807 := by
  simp [Lit.wf, IntKind.min, IntKind.max, IntKind.bits, IntKind.signed] at h
  omega
section
variable {H : Type} {enc : TypeId × Value → H} {W : World} {spare : Nat → Bool} {held : Bool} {base : Nat}
theorem cell_bytes {fuel : Nat} {cs : List Value} {x : DataW H × List MemPlace} (hf : DataW.trod enc Try.prog W base spare held fuel 27 cs = some x) :
    ∃ (ao : Option Addr) (len cap : Nat) (X : Nat → Nat), cs = [.slice ao len cap] ∧ (ao = none → len = 0 ∧ cap = 0) ∧ len ≤ maxLen ∧ Byt W ao len X := by
  rcases open_slice1 Try.underlying27 cells5 hf with ⟨hcs, _⟩ | ⟨a, len, cap, m, n, V, D, Pl, hcs, hb, hl, hm, hmm, _, hc⟩
  · exact ⟨none, 0, 0, fun _ => 0, hcs, fun _ => ⟨rfl, rfl⟩, Nat.zero_le _, fun k hk => absurd hk (by omega)⟩
  · have hlm : len ≤ m := by rw [hmm]; split <;> omega
    refine ⟨some a, len, cap, fun k => (intOf (V k)).toNat, hcs, (fun e => by cases e), Nat.le_trans hl hm, fun k hk => ?_⟩
    obtain ⟨c0, t0⟩ := hc k (by omega)
    obtain ⟨z, e0, _, wf⟩ := DataW.trod_int Try.underlying5 t0
    simp at e0
    have hr := wf_u8 wf
    obtain ⟨b, off, spot⟩ := a
    have hspot : spot = none := by
      have h0 := (hc 0 (by omega)).1
      simpa [Addr.add] using World.cell?_spot h0
    subst hspot
    rw [Addr.add_lit, e0] at c0
    simp only [e0, intOf]
    refine ⟨by omega, b, off, rfl, ?_⟩
    rw [c0]
    congr 2
    omega
theorem cell_ints {fuel : Nat} {cs : List Value} {x : DataW H × List MemPlace} (hf : DataW.trod enc Try.prog W base spare held fuel 37 cs = some x) :
    ∃ (ao : Option Addr) (len cap : Nat) (P : Nat → Int), cs = [.slice ao len cap] ∧ (len ≤ cap ∧ cap ≤ maxLen) ∧ Ints W ao len P := by
  rcases open_slice1 Try.underlying37 cells3 hf with ⟨hcs, _⟩ | ⟨a, len, cap, m, n, V, D, Pl, hcs, hb, hl, hm, hmm, _, hc⟩
  · exact ⟨none, 0, 0, fun _ => 0, hcs, ⟨Nat.le_refl _, Nat.zero_le _⟩, fun k hk => absurd hk (by omega)⟩
  · have hlm : len ≤ m := by rw [hmm]; split <;> omega
    refine ⟨some a, len, cap, fun k => intOf (V k), hcs, ⟨hl, hm⟩, fun k hk => ?_⟩
    obtain ⟨c0, t0⟩ := hc k (by omega)
    obtain ⟨z, e0, _, wf⟩ := DataW.trod_int Try.underlying3 t0
    simp at e0
    have hr := wf_i64 wf
    obtain ⟨b, off, spot⟩ := a
    have hspot : spot = none := by
      have h0 := (hc 0 (by omega)).1
      simpa [Addr.add] using World.cell?_spot h0
    subst hspot
    rw [Addr.add_lit, e0] at c0
    simp only [e0, intOf]
    exact ⟨hr, b, off, rfl, c0⟩
set_option maxRecDepth 100000 in
theorem open37 {v : Value} {d : DataW H} {ps : List MemPlace} (hv : Value.okWide Try.prog W .any base 37 v) (h : DataW.Trod enc Try.prog W 0 (fun _ => true) true 37 v d ps) : ∃ (po : Option Addr) (pl pc : Nat) (P : Nat → Int), v = .slice po pl pc ∧ (pl ≤ pc ∧ pc ≤ 2 ^ 63 - 1) ∧ Ints W po pl P := by
  obtain ⟨a, len, cap, rfl⟩ := okWide_slice Try.underlying37 hv
  obtain ⟨fuel, hf⟩ := h
  obtain ⟨po, pl, pc, P, e, hl, hi⟩ := cell_ints hf
  simp [Value.cells] at e
  obtain ⟨rfl, rfl, rfl⟩ := e
  unfold maxLen at hl
  exact ⟨_, _, _, P, rfl, hl, hi⟩
set_option maxRecDepth 100000 in
theorem open27 {v : Value} {d : DataW H} {ps : List MemPlace} (hv : Value.okWide Try.prog W .any base 27 v) (h : DataW.Trod enc Try.prog W 0 (fun _ => true) true 27 v d ps) : ∃ (ao : Option Addr) (len cap : Nat) (X : Nat → Nat), v = .slice ao len cap ∧ (ao = none → len = 0 ∧ cap = 0) ∧ len ≤ 2 ^ 63 - 1 ∧ Byt W ao len X := by
  obtain ⟨a, len, cap, rfl⟩ := okWide_slice Try.underlying27 hv
  obtain ⟨fuel, hf⟩ := h
  obtain ⟨ao, l, c, X, e, hn, hl, hi⟩ := cell_bytes hf
  simp [Value.cells] at e
  obtain ⟨rfl, rfl, rfl⟩ := e
  unfold maxLen at hl
  exact ⟨_, _, _, X, rfl, hn, by omega, hi⟩
end
set_option maxRecDepth 100000 in
theorem open22 {H : Type} {enc : TypeId × Value → H} {W : World} {base : Nat} {v : Value} {d : DataW H} {ps : List MemPlace} (hv : Value.okWide Try.prog W .any base 22 v) (h : DataW.Trod enc Try.prog W 0 (fun _ => true) true 22 v d ps) :
    ∃ (ao : Option Addr) (len cap : Nat) (A : Nat → Option Addr) (LN C : Nat → Nat) (S : Nat → Nat → Nat), v = .slice ao len cap ∧ len ≤ cap ∧ cap ≤ maxLen ∧ (∀ k, k < len → LN k ≤ maxLen) ∧ Rws W ao len A LN C S := by
  obtain ⟨a, len, cap, rfl⟩ := okWide_slice Try.underlying22 hv
  obtain ⟨fuel, hf⟩ := h
  rcases open_int_rows Try.underlying22 Try.underlying27 Try.underlying5 cells27 cells5 hf with ⟨hcs, _⟩ | ⟨x, l, cp, A, LN, C, Z, hcs, _, hl, hm, hd, hc⟩
  · simp [Value.cells] at hcs
    obtain ⟨rfl, rfl, rfl⟩ := hcs
    exact ⟨none, 0, 0, fun _ => none, fun _ => 0, fun _ => 0, fun _ _ => 0, rfl, Nat.le_refl _, Nat.zero_le _, fun k hk => absurd hk (by omega), fun k hk => absurd hk (by omega)⟩
  · simp [Value.cells] at hcs
    obtain ⟨rfl, rfl, rfl⟩ := hcs
    refine ⟨some x, len, cap, A, LN, C, fun r k => ((Z r).getD k 0).toNat, rfl, hl, hm, fun k hk => ?_, fun r hr => ?_⟩
    · obtain ⟨_, h1, h2, _⟩ := hc k (by omega)
      omega
    · obtain ⟨h0, h1, h2, h3, h4, h5, h6⟩ := hc r (by omega)
      obtain ⟨b, off, spot⟩ := x
      have hspot : spot = none := by
        have h0 := (hc 0 (by omega)).1
        simpa [Addr.add] using World.cell?_spot h0
      subst hspot
      rw [Addr.add_lit] at h0
      refine ⟨⟨b, off, rfl, h0⟩, fun k hk => ?_, fun e => ?_⟩
      · have hk' : k < (Z r).length := by omega
        have e : (Z r).getD k 0 = (Z r)[k] := by simp [List.getElem?_eq_getElem hk']
        have hr := wf_u8 (h4 _ (List.getElem_mem hk'))
        cases hA : A r with
        | none => have := h5 hA; omega
        | some a' =>
          obtain ⟨_, hcc⟩ := h6 a' hA
          have hcell := hcc k (by omega)
          obtain ⟨b', off', spot⟩ := a'
          have hspot : spot = none := by
            have h0 := hcc 0 (by omega)
            simpa [Addr.add] using World.cell?_spot h0
          subst hspot
          rw [Addr.add_lit, e] at hcell
          show ((Z r).getD k 0).toNat < 256 ∧ ∃ b2 off2, some (⟨b', off', none⟩ : Addr) = some ⟨b2, off2, none⟩ ∧ W.cell? ⟨b2, off2 + k, none⟩ = some (.int .u8 (((Z r).getD k 0).toNat : Int))
          rw [e]
          refine ⟨by omega, b', off', rfl, ?_⟩
          rw [hcell]
          congr 2
          omega
      · have := h5 e
        omega

end Go.Proofs.Ytligofmcmjblpab
