/- How a slice of numbers and a slice of slices of bytes that came in are opened. -/
import Derived.Test.YtjjmgfinapahcabRowsA
import Derived.Test.YtjjmgfinapahcabOpen
import Derived.Deep.Matrix
namespace Go.Proofs.Ytjjmgfinapahcab
open Go.ChangeShapes Go.WideShapes Go.ChangeAt Go.RowKit Go.Deep
set_option linter.unusedVariables false

theorem cells25 : Try.prog.cellsOf 25 = 1 := by kernel_rfl
theorem cells24 : Try.prog.cellsOf 24 = 1 := by kernel_rfl

theorem open22 {H : Type} {enc : TypeId × Value → H} {W : World} {base : Nat} {v : Value} {d : DataW H} {ps : List MemPlace} (hv : Value.okWide Try.prog W .any base 22 v) (h : DataW.Trod enc Try.prog W 0 (fun _ => true) true 22 v d ps) :
    ∃ (ao : Option Addr) (len cap : Nat) (L : Nat → Nat), v = .slice ao len cap ∧ len ≤ cap ∧ cap ≤ maxLen ∧ Nums W ao len L := by
  obtain ⟨a, len, cap, rfl⟩ := okWide_slice Try.underlying22 hv
  obtain ⟨fuel, hf⟩ := h
  rcases open_ints Try.underlying22 Try.underlying25 cells25 hf with ⟨hcs, _⟩ | ⟨x, l, cp, zs, hcs, _, hl, hm, hz, hd, hc, hwf⟩
  · simp [Value.cells] at hcs
    obtain ⟨rfl, rfl, rfl⟩ := hcs
    exact ⟨none, 0, 0, fun _ => 0, rfl, Nat.le_refl _, Nat.zero_le _, fun k hk => absurd hk (by omega)⟩
  · simp [Value.cells] at hcs
    obtain ⟨rfl, rfl, rfl⟩ := hcs
    simp only [if_true] at hz
    refine ⟨some x, len, cap, fun k => (zs.getD k 0).toNat, rfl, hl, hm, fun k hk => ?_⟩
    have hk' : k < zs.length := by omega
    have w1 := hwf _ (List.getElem_mem hk')
    have e : zs.getD k 0 = zs[k] := by simp [List.getElem?_eq_getElem hk']
    have hr := wf_u64 w1
    have hcell := hc k hk'
    obtain ⟨b, off, spot⟩ := x
    have hspot : spot = none := by
      have h0 := hc 0 (by omega)
      simpa [Addr.add] using World.cell?_spot h0
    subst hspot
    rw [Addr.add_lit, e] at hcell
    show (zs.getD k 0).toNat < 18446744073709551616 ∧ ∃ b' off', some (⟨b, off, none⟩ : Addr) = some ⟨b', off', none⟩ ∧ W.cell? ⟨b', off' + k, none⟩ = some (.int .u64 ((zs.getD k 0).toNat : Int))
    rw [e]
    refine ⟨by omega, b, off, rfl, ?_⟩
    rw [hcell]
    congr 2
    omega

theorem open23 {H : Type} {enc : TypeId × Value → H} {W : World} {base : Nat} {v : Value} {d : DataW H} {ps : List MemPlace} (hv : Value.okWide Try.prog W .any base 23 v) (h : DataW.Trod enc Try.prog W 0 (fun _ => true) true 23 v d ps) :
    ∃ (ao : Option Addr) (len cap : Nat) (A : Nat → Option Addr) (LN C : Nat → Nat) (S : Nat → Nat → Nat), v = .slice ao len cap ∧ len ≤ cap ∧ cap ≤ maxLen ∧ (∀ k, k < len → LN k ≤ maxLen) ∧ Rws W ao len A LN C S := by
  obtain ⟨a, len, cap, rfl⟩ := okWide_slice Try.underlying23 hv
  obtain ⟨fuel, hf⟩ := h
  rcases open_int_rows Try.underlying23 Try.underlying24 Try.underlying5 cells24 cells5 hf with ⟨hcs, _⟩ | ⟨x, l, cp, A, LN, C, Z, hcs, _, hl, hm, hd, hc⟩
  · simp [Value.cells] at hcs
    obtain ⟨rfl, rfl, rfl⟩ := hcs
    exact ⟨none, 0, 0, fun _ => none, fun _ => 0, fun _ => 0, fun _ _ => 0, rfl, Nat.le_refl _, Nat.zero_le _, fun k hk => absurd hk (by omega), fun k hk => absurd hk (by omega)⟩
  · simp [Value.cells] at hcs
    obtain ⟨rfl, rfl, rfl⟩ := hcs
    refine ⟨some x, len, cap, A, LN, C, fun r k => ((Z r).getD k 0).toNat, rfl, hl, hm, fun k hk => ?_, fun r hr => ?_⟩
    · obtain ⟨_, h1, h2, _⟩ := hc k (by omega)
      omega
    · obtain ⟨h0, h1, h2, h3, h4, h5, h6⟩ := hc r (by omega)
      obtain ⟨b, off, spot⟩ := x
      have hspot : spot = none := by
        have h0 := (hc 0 (by omega)).1
        simpa [Addr.add] using World.cell?_spot h0
      subst hspot
      rw [Addr.add_lit] at h0
      refine ⟨⟨b, off, rfl, h0⟩, fun k hk => ?_, fun e => ?_⟩
      · have hk' : k < (Z r).length := by omega
        have e : (Z r).getD k 0 = (Z r)[k] := by simp [List.getElem?_eq_getElem hk']
        have hr := wf_u8 (h4 _ (List.getElem_mem hk'))
        cases hA : A r with
        | none => have := h5 hA; omega
        | some a' =>
          obtain ⟨_, hcc⟩ := h6 a' hA
          have hcell := hcc k (by omega)
          obtain ⟨b', off', spot⟩ := a'
          have hspot : spot = none := by
            have h0 := hcc 0 (by omega)
            simpa [Addr.add] using World.cell?_spot h0
          subst hspot
          rw [Addr.add_lit, e] at hcell
          show ((Z r).getD k 0).toNat < 256 ∧ ∃ b2 off2, some (⟨b', off', none⟩ : Addr) = some ⟨b2, off2, none⟩ ∧ W.cell? ⟨b2, off2 + k, none⟩ = some (.int .u8 (((Z r).getD k 0).toNat : Int))
          rw [e]
          refine ⟨by omega, b', off', rfl, ?_⟩
          rw [hcell]
          congr 2
          omega
      · have := h5 e
        omega
end Go.Proofs.Ytjjmgfinapahcab
