/- How slices of bytes, and slices of slices of bytes, that came in are opened: as lists. -/
import Derived.Test.YtifgojkmdicdmaaSli
import Derived.Test.YtifgojkmdicdmaaOpen
import Derived.Deep.Matrix
namespace Go.Proofs.Ytifgojkmdicdmaa
open Go.ChangeShapes Go.WideShapes Go.ChangeAt Go.RowKit Go.Deep
set_option linter.unusedVariables false

theorem cells25 : Try.prog.cellsOf 25 = 1 := by kernel_rfl
theorem sl_bs {w : World} {ao : Option Addr} {len cap : Nat} {X : Nat → Nat} (h1 : ao = none → len = 0 ∧ cap = 0) (h2 : len ≤ cap) (h3 : cap ≤ maxLen) (h4 : Byt w ao len X) : Sl w ao len cap (bs X len) := by
  refine ⟨bs_length X len, okb_bs h4, h1, h2, h3, fun k hk => ?_⟩
  have e : xof (bs X len) k = X k := by
    unfold xof
    rw [bs_getD X len k hk]
    exact Int.toNat_natCast _
  rw [e]
  exact h4 k hk
theorem open70 {H : Type} {enc : TypeId × Value → H} {W : World} {base : Nat} {v : Value} {d : DataW H} {ps : List MemPlace} (hv : Value.okWide Try.prog W .any base 70 v) (h : DataW.Trod enc Try.prog W 0 (fun _ => true) true 70 v d ps) :
    ∃ (ao : Option Addr) (len cap : Nat) (rs : List (List Int)), v = .slice ao len cap ∧ RB W ao len cap rs := by
  obtain ⟨a, len, cap, rfl⟩ := okWide_slice Try.underlying70 hv
  obtain ⟨fuel, hf⟩ := h
  rcases open_int_rows Try.underlying70 Try.underlying25 Try.underlying5 cells25 cells5 hf with ⟨hcs, _⟩ | ⟨x, l, cp, A, LN, C, Z, hcs, _, hl, hm, hd, hc⟩
  · simp [Value.cells] at hcs
    obtain ⟨rfl, rfl, rfl⟩ := hcs
    exact ⟨none, 0, 0, [], rfl, rfl, fun _ => ⟨rfl, rfl⟩, Nat.le_refl _, Nat.zero_le _, fun i r hr => by simp at hr⟩
  · simp [Value.cells] at hcs
    obtain ⟨rfl, rfl, rfl⟩ := hcs
    refine ⟨some x, len, cap, (List.range len).map fun r => (Z r).take (LN r), rfl, by simp, (fun e => by cases e), hl, hm, fun i r hr => ?_⟩
    have hi : i < len := by
      have := (List.getElem?_eq_some_iff.1 hr).1
      simpa using this
    rw [List.getElem?_map, List.getElem?_range hi, Option.map_some, Option.some.injEq] at hr
    subst hr
    obtain ⟨h0, h1, h2, h3, h4, h5, h6⟩ := hc i (by omega)
    obtain ⟨b, off, spot⟩ := x
    have hspot : spot = none := by
      have h0 := (hc 0 (by omega)).1
      simpa [Addr.add] using World.cell?_spot h0
    subst hspot
    rw [Addr.add_lit] at h0
    have hlen : ((Z i).take (LN i)).length = LN i := by rw [List.length_take]; omega
    rw [hlen]
    refine ⟨b, off, A i, C i, rfl, h0, hlen, fun y hy => wf_u8 (h4 y (List.mem_of_mem_take hy)), fun e => ?_, h1, h2, fun k hk => ?_⟩
    · have := h5 e
      omega
    · have hk' : k < (Z i).length := by omega
      have e : xof ((Z i).take (LN i)) k = ((Z i)[k]).toNat := by
        unfold xof
        rw [List.getD_eq_getElem?_getD, List.getElem?_take_of_lt hk, List.getElem?_eq_getElem hk']
        rfl
      have hr := wf_u8 (h4 _ (List.getElem_mem hk'))
      rw [e]
      cases hA : A i with
      | none => have := h5 hA; omega
      | some a' =>
        obtain ⟨_, hcc⟩ := h6 a' hA
        have hcell := hcc k (by omega)
        obtain ⟨b', off', spot⟩ := a'
        have hspot : spot = none := by
          have h0 := hcc 0 (by omega)
          simpa [Addr.add] using World.cell?_spot h0
        subst hspot
        have e2 : (Z i).getD k 0 = (Z i)[k] := by simp [List.getElem?_eq_getElem hk']
        rw [Addr.add_lit, e2] at hcell
        refine ⟨by omega, b', off', rfl, ?_⟩
        rw [hcell]
        congr 2
        omega
end Go.Proofs.Ytifgojkmdicdmaa
