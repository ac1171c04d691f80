/- How what comes in is opened: an array of four bytes, a slice of slices of bytes, a number of 32 bits. -/
import Derived.Test.YtidkibefjcjkfaaGoesOn
import Derived.Test.YtidkibefjcjkfaaOpen
import Derived.Deep.Matrix
import Derived.ProofKit
import Derived.OpenShut
namespace Go.Proofs.Ytidkibefjcjkfaa
open Go.ChangeShapes Go.WideShapes Go.ChangeAt Go.RowKit Go.Deep
set_option linter.unusedVariables false

theorem wf_u32 {n : Int} (h : (Lit.int .u32 n).wf = true) : 0 ≤ n ∧ n < 4294967296 := by
  simp [Lit.wf, IntKind.min, IntKind.max, IntKind.bits, IntKind.signed] at h
  omega
theorem cells23 : Try.prog.cellsOf 23 = 1 := by kernel_rfl
theorem cells32 : Try.prog.cellsOf 32 = 4 := by kernel_rfl
theorem types32 : Try.prog.cellTypes Try.prog.depth 32 = some [5, 5, 5, 5] := by kernel_rfl
theorem cell_u8 {W : World} {r : Reach} {base : Nat} {v : Value} (h : Cell.okWide Try.prog W r base 5 v) : ∃ n : Nat, v = .int .u8 (n : Int) ∧ n < 256 := by
  simp only [Cell.okWide, Try.underlying5] at h
  cases v <;> simp_all [Cell.ok, Try.underlying5, IntKind.has, IntKind.min, IntKind.max, IntKind.bits, IntKind.signed]
  rename_i n
  exact ⟨n.toNat, by omega, by omega⟩
theorem list4 {α : Type} (l : List α) (h : (⟨l⟩ : Array α).size = 4) : ∃ a b c d, l = [a, b, c, d] := by
  match l, h with
  | [a, b, c, d], _ => exact ⟨a, b, c, d, rfl⟩
def nat4 (a b c d : Nat) : Nat → Nat := fun j => if j = 0 then a else if j = 1 then b else if j = 2 then c else d
theorem open32 {W : World} {base : Nat} {v : Value} (h : Value.okWide Try.prog W .any base 32 v) : ∃ z : Nat → Nat, v = .agg #[.int .u8 (z 0 : Int), .int .u8 (z 1 : Int), .int .u8 (z 2 : Int), .int .u8 (z 3 : Int)] ∧ ∀ j, j < 4 → z j < 256 := by
  obtain ⟨cs, rfl, hsz, ts, hts, _, hc⟩ : ∃ cs, v = .agg cs ∧ cs.size = Try.prog.cellsOf 32 ∧ Row.okWide Try.prog W .any base 32 cs := by
    simpa [Value.okWide, Try.underlying32] using h
  rw [types32] at hts
  cases hts
  rw [cells32] at hsz
  obtain ⟨l⟩ := cs
  obtain ⟨a, b, c, d, rfl⟩ := list4 l hsz
  have key : ∀ n v, (#[a, b, c, d] : Array Value)[n]? = some v → n < 4 → ∃ m : Nat, v = .int .u8 (m : Int) ∧ m < 256 := by
    intro n v hv hn
    obtain ⟨u, hu, ho⟩ := hc n v hv
    have h2 : u = 5 := by
      have : n = 0 ∨ n = 1 ∨ n = 2 ∨ n = 3 := by omega
      rcases this with h | h | h | h <;> subst h <;> simpa using hu.symm
    subst h2
    exact cell_u8 ho
  obtain ⟨m0, rfl, k0⟩ := key 0 a rfl (by decide)
  obtain ⟨m1, rfl, k1⟩ := key 1 b rfl (by decide)
  obtain ⟨m2, rfl, k2⟩ := key 2 c rfl (by decide)
  obtain ⟨m3, rfl, k3⟩ := key 3 d rfl (by decide)
  refine ⟨nat4 m0 m1 m2 m3, rfl, fun j hj => ?_⟩
  have : j = 0 ∨ j = 1 ∨ j = 2 ∨ j = 3 := by omega
  rcases this with h | h | h | h <;> subst h <;> assumption

theorem open30 {H : Type} {enc : TypeId × Value → H} {W : World} {base : Nat} {v : Value} {d : DataW H} {ps : List MemPlace} (hv : Value.okWide Try.prog W .any base 30 v) (h : DataW.Trod enc Try.prog W 0 (fun _ => true) true 30 v d ps) :
    ∃ (ao : Option Addr) (len cap : Nat) (A : Nat → Option Addr) (LN C : Nat → Nat) (S : Nat → Nat → Nat), v = .slice ao len cap ∧ len ≤ cap ∧ cap ≤ maxLen ∧ (∀ k, k < len → LN k ≤ maxLen) ∧ Rws W ao len A LN C S := by
  obtain ⟨a, len, cap, rfl⟩ := okWide_slice Try.underlying30 hv
  obtain ⟨fuel, hf⟩ := h
  rcases open_int_rows Try.underlying30 Try.underlying23 Try.underlying5 cells23 cells5 hf with ⟨hcs, _⟩ | ⟨x, l, cp, A, LN, C, Z, hcs, _, hl, hm, hd, hc⟩
  · simp [Value.cells] at hcs
    obtain ⟨rfl, rfl, rfl⟩ := hcs
    exact ⟨none, 0, 0, fun _ => none, fun _ => 0, fun _ => 0, fun _ _ => 0, rfl, Nat.le_refl _, Nat.zero_le _, fun k hk => absurd hk (by omega), fun k hk => absurd hk (by omega)⟩
  · simp [Value.cells] at hcs
    obtain ⟨rfl, rfl, rfl⟩ := hcs
    refine ⟨some x, len, cap, A, LN, C, fun r k => ((Z r).getD k 0).toNat, rfl, hl, hm, fun k hk => ?_, fun r hr => ?_⟩
    · obtain ⟨_, h1, h2, _⟩ := hc k (by omega)
      omega
    · obtain ⟨h0, h1, h2, h3, h4, h5, h6⟩ := hc r (by omega)
      obtain ⟨b, off, spot⟩ := x
      have hspot : spot = none := by
        have h0 := (hc 0 (by omega)).1
        simpa [Addr.add] using World.cell?_spot h0
      subst hspot
      rw [Addr.add_lit] at h0
      refine ⟨⟨b, off, rfl, h0⟩, fun k hk => ?_, fun e => ?_⟩
      · have hk' : k < (Z r).length := by omega
        have e : (Z r).getD k 0 = (Z r)[k] := by simp [List.getElem?_eq_getElem hk']
        have hr := wf_u8 (h4 _ (List.getElem_mem hk'))
        cases hA : A r with
        | none => have := h5 hA; omega
        | some a' =>
          obtain ⟨_, hcc⟩ := h6 a' hA
          have hcell := hcc k (by omega)
          obtain ⟨b', off', spot⟩ := a'
          have hspot : spot = none := by
            have h0 := hcc 0 (by omega)
            simpa [Addr.add] using World.cell?_spot h0
          subst hspot
          rw [Addr.add_lit, e] at hcell
          show ((Z r).getD k 0).toNat < 256 ∧ ∃ b2 off2, some (⟨b', off', none⟩ : Addr) = some ⟨b2, off2, none⟩ ∧ W.cell? ⟨b2, off2 + k, none⟩ = some (.int .u8 (((Z r).getD k 0).toNat : Int))
          rw [e]
          refine ⟨by omega, b', off', rfl, ?_⟩
          rw [hcell]
          congr 2
          omega
      · have := h5 e
        omega
end Go.Proofs.Ytidkibefjcjkfaa
