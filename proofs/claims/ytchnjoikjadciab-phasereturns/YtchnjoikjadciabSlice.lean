/- How a slice of additions that came in is opened: each element's two whole numbers. -/
import Derived.Test.YtchnjoikjadciabOpen
import Derived.Deep.SlicePairs
namespace Go.Proofs.Ytchnjoikjadciab
open Go.ChangeShapes Go.WideShapes Go.ChangeAt Go.RowKit Go.Deep

/-- What is known of the slice of additions: each element's two cells. -/
def Adds (w : World) (a : Option Addr) (len : Nat) (T N : Nat → Int) : Prop :=
  ∀ i, i < len → ∃ b off, a = some ⟨b, off, none⟩ ∧ w.cell? ⟨b, off + i * 2, none⟩ = some (.int .i64 (T i)) ∧ w.cell? ⟨b, off + i * 2 + 1, none⟩ = some (.int .i64 (N i))

theorem cells41 : Try.prog.cellsOf 41 = 2 := by kernel_rfl
theorem cells2 : Try.prog.cellsOf 2 = 1 := by kernel_rfl
theorem cells3 : Try.prog.cellsOf 3 = 1 := by kernel_rfl

theorem open38 {H : Type} {enc : TypeId × Value → H} {W : World} {base : Nat} {v : Value} {d : DataW H} {ps : List MemPlace} (hv : Value.okWide Try.prog W .any base 36 v) (h : DataW.Trod enc Try.prog W 0 (fun _ => true) true 36 v d ps) :
    ∃ (a : Option Addr) (len cap : Nat) (T N : Nat → Int), v = .slice a len cap ∧ len ≤ maxLen ∧ Adds W a len T N := by
  obtain ⟨a, len, cap, rfl⟩ := okWide_slice Try.underlying36 hv
  obtain ⟨fuel, hf⟩ := h
  rcases open_slice_pairs Try.underlying36 Try.underlying41 cells41 rfl rfl cells2 cells3 hf with ⟨hcs, _⟩ | ⟨x, l, cp, m, n, V0, V1, D0, D1, P0, P1, hcs, _, hl, hm, hmm, _, hc⟩
  · simp [Value.cells] at hcs
    obtain ⟨rfl, rfl, rfl⟩ := hcs
    exact ⟨none, 0, 0, fun _ => 0, fun _ => 0, rfl, Nat.zero_le _, fun i hi => absurd hi (by omega)⟩
  · simp [Value.cells] at hcs
    obtain ⟨rfl, rfl, rfl⟩ := hcs
    have hlm : len ≤ m := by rw [hmm]; simp; exact hl
    refine ⟨_, len, cap, fun i => intOf (V0 i), fun i => intOf (V1 i), rfl, Nat.le_trans hl hm, fun i hi => ?_⟩
    obtain ⟨c0, c1, t0, t1⟩ := hc i (by omega)
    obtain ⟨x0, e0, _, _⟩ := DataW.trod_int Try.underlying2 t0
    obtain ⟨x1, e1, _, _⟩ := DataW.trod_int Try.underlying3 t1
    simp at e0 e1
    obtain ⟨b, off, spot⟩ := x
    have hspot : spot = none := by
      have h0 := (hc 0 (by omega)).1
      simpa [Addr.add] using World.cell?_spot h0
    subst hspot
    rw [Addr.add_lit] at c0 c1
    refine ⟨b, off, rfl, ?_, ?_⟩
    · rw [e0] at c0; simp only [e0, intOf]; exact c0
    · rw [e1] at c1; simp only [e1, intOf]; exact c1
end Go.Proofs.Ytchnjoikjadciab
