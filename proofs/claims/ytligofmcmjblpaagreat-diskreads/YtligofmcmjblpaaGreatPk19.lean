import Derived.SizedLaws
import Derived.ChangeSlices
import Derived.Carry
import Derived.Deep.Slices
import Derived.ProofKit
import Derived.OpenShut
import Derived.Test.YtligofmcmjblpaaGreatPk15
/- How a call, and a slice of calls, that came in is opened. -/
namespace Go.Proofs.YtligofmcmjblpaaGreat
open Go.ChangeShapes Go.WideShapes Go.ChangeAt Go.RowKit Go.Deep
set_option linter.unusedVariables false
set_option linter.unusedSimpArgs false

theorem cells5 : Tryz.prog.cellsOf 5 = 1 := by kernel_rfl
theorem cells3 : Tryz.prog.cellsOf 3 = 1 := by kernel_rfl
theorem cells2 : Tryz.prog.cellsOf 2 = 1 := by kernel_rfl
theorem cells9 : Tryz.prog.cellsOf 9 = 1 := by kernel_rfl
theorem cells27 : Tryz.prog.cellsOf 27 = 1 := by kernel_rfl
theorem cells28 : Tryz.prog.cellsOf 28 = 1 := by kernel_rfl
theorem wf_u8 {n : Int} (h : (Lit.int .u8 n).wf = true) : 0 ≤ n ∧ n < 256 := by
  simp [Lit.wf, IntKind.min, IntKind.max, IntKind.bits, IntKind.signed] at h
  omega
theorem wf_i64 {n : Int} (h : (Lit.int .i64 n).wf = true) : -9223372036854775808 ≤ n ∧ n ≤ 9223372036854775807 := by
  simp [Lit.wf, IntKind.min, IntKind.max, IntKind.bits, IntKind.signed] at h
  omega
section
variable {H : Type} {enc : TypeId × Value → H} {W : World} {spare : Nat → Bool} {held : Bool} {base : Nat}
/-- A slice of bytes, as a cell. -/
theorem cell_bytes {fuel : Nat} {cs : List Value} {x : DataW H × List MemPlace} (hf : DataW.trod enc Tryz.prog W base spare held fuel 27 cs = some x) :
    ∃ (ao : Option Addr) (len cap : Nat) (X : Nat → Nat), cs = [.slice ao len cap] ∧ (ao = none → len = 0 ∧ cap = 0) ∧ len ≤ maxLen ∧ Byt W ao len X := by
  rcases open_slice1 Tryz.underlying27 cells5 hf with ⟨hcs, _⟩ | ⟨a, len, cap, m, n, V, D, Pl, hcs, hb, hl, hm, hmm, _, hc⟩
  · exact ⟨none, 0, 0, fun _ => 0, hcs, fun _ => ⟨rfl, rfl⟩, Nat.zero_le _, fun k hk => absurd hk (by omega)⟩
  · have hlm : len ≤ m := by rw [hmm]; split <;> omega
    refine ⟨some a, len, cap, fun k => (intOf (V k)).toNat, hcs, (fun e => by cases e), Nat.le_trans hl hm, fun k hk => ?_⟩
    obtain ⟨c0, t0⟩ := hc k (by omega)
    obtain ⟨z, e0, _, wf⟩ := DataW.trod_int Tryz.underlying5 t0
    simp at e0
    have hr := wf_u8 wf
    obtain ⟨b, off, spot⟩ := a
    have hspot : spot = none := by
      have h0 := (hc 0 (by omega)).1
      simpa [Addr.add] using World.cell?_spot h0
    subst hspot
    rw [Addr.add_lit, e0] at c0
    simp only [e0, intOf]
    refine ⟨by omega, b, off, rfl, ?_⟩
    rw [c0]
    congr 2
    omega
theorem cell_ints {fuel : Nat} {cs : List Value} {x : DataW H × List MemPlace} (hf : DataW.trod enc Tryz.prog W base spare held fuel 28 cs = some x) :
    ∃ (ao : Option Addr) (len cap : Nat) (P : Nat → Int), cs = [.slice ao len cap] ∧ (len ≤ cap ∧ cap ≤ maxLen) ∧ Ints W ao len P := by
  rcases open_slice1 Tryz.underlying28 cells3 hf with ⟨hcs, _⟩ | ⟨a, len, cap, m, n, V, D, Pl, hcs, hb, hl, hm, hmm, _, hc⟩
  · exact ⟨none, 0, 0, fun _ => 0, hcs, ⟨Nat.le_refl _, Nat.zero_le _⟩, fun k hk => absurd hk (by omega)⟩
  · have hlm : len ≤ m := by rw [hmm]; split <;> omega
    refine ⟨some a, len, cap, fun k => intOf (V k), hcs, ⟨hl, hm⟩, fun k hk => ?_⟩
    obtain ⟨c0, t0⟩ := hc k (by omega)
    obtain ⟨z, e0, _, wf⟩ := DataW.trod_int Tryz.underlying3 t0
    simp at e0
    have hr := wf_i64 wf
    obtain ⟨b, off, spot⟩ := a
    have hspot : spot = none := by
      have h0 := (hc 0 (by omega)).1
      simpa [Addr.add] using World.cell?_spot h0
    subst hspot
    rw [Addr.add_lit, e0] at c0
    simp only [e0, intOf]
    exact ⟨hr, b, off, rfl, c0⟩
theorem list8 {α : Type} (l : List α) (h : l.length = 8) : ∃ a b c d e f g i, l = [a, b, c, d, e, f, g, i] := by
  match l, h with
  | [a, b, c, d, e, f, g, i], _ => exact ⟨a, b, c, d, e, f, g, i, rfl⟩
/-- A call: its eight cells. -/
theorem open_call {fuel : Nat} {cs : List Value} {x : DataW H × List MemPlace} (hf : DataW.trod enc Tryz.prog W base spare held fuel 30 cs = some x) : ∃ c : CV, cs = c.cells.toList ∧ c.Ok W := by
  obtain ⟨xs, n, _, _, hl, hxl, hc⟩ := DataW.trod_struct Tryz.underlying30 hf
  rw [Tryz.cells30] at hl
  obtain ⟨a, b, c, d, e, f, g, i, rfl⟩ := list8 cs hl
  have g0 : DataW.trod enc Tryz.prog W base spare held n 3 (([a, b, c, d, e, f, g, i].drop 0).take (Tryz.prog.cellsOf 3)) = xs[0]? := hc 0 _ rfl
  rw [cells3, List.getElem?_eq_getElem (show 0 < xs.length by rw [hxl]; decide)] at g0
  have g1 : DataW.trod enc Tryz.prog W base spare held n 9 (([a, b, c, d, e, f, g, i].drop 1).take (Tryz.prog.cellsOf 9)) = xs[1]? := hc 1 _ rfl
  rw [cells9, List.getElem?_eq_getElem (show 1 < xs.length by rw [hxl]; decide)] at g1
  have g2 : DataW.trod enc Tryz.prog W base spare held n 9 (([a, b, c, d, e, f, g, i].drop 2).take (Tryz.prog.cellsOf 9)) = xs[2]? := hc 2 _ rfl
  rw [cells9, List.getElem?_eq_getElem (show 2 < xs.length by rw [hxl]; decide)] at g2
  have g3 : DataW.trod enc Tryz.prog W base spare held n 27 (([a, b, c, d, e, f, g, i].drop 3).take (Tryz.prog.cellsOf 27)) = xs[3]? := hc 3 _ rfl
  rw [cells27, List.getElem?_eq_getElem (show 3 < xs.length by rw [hxl]; decide)] at g3
  have g4 : DataW.trod enc Tryz.prog W base spare held n 2 (([a, b, c, d, e, f, g, i].drop 4).take (Tryz.prog.cellsOf 2)) = xs[4]? := hc 4 _ rfl
  rw [cells2, List.getElem?_eq_getElem (show 4 < xs.length by rw [hxl]; decide)] at g4
  have g5 : DataW.trod enc Tryz.prog W base spare held n 2 (([a, b, c, d, e, f, g, i].drop 5).take (Tryz.prog.cellsOf 2)) = xs[5]? := hc 5 _ rfl
  rw [cells2, List.getElem?_eq_getElem (show 5 < xs.length by rw [hxl]; decide)] at g5
  have g6 : DataW.trod enc Tryz.prog W base spare held n 3 (([a, b, c, d, e, f, g, i].drop 6).take (Tryz.prog.cellsOf 3)) = xs[6]? := hc 6 _ rfl
  rw [cells3, List.getElem?_eq_getElem (show 6 < xs.length by rw [hxl]; decide)] at g6
  have g7 : DataW.trod enc Tryz.prog W base spare held n 28 (([a, b, c, d, e, f, g, i].drop 7).take (Tryz.prog.cellsOf 28)) = xs[7]? := hc 7 _ rfl
  rw [cells28, List.getElem?_eq_getElem (show 7 < xs.length by rw [hxl]; decide)] at g7
  obtain ⟨n0, e0, _, w0⟩ := DataW.trod_int Tryz.underlying3 g0
  obtain ⟨s1, e1, _, w1⟩ := DataW.trod_string Tryz.underlying9 g1
  obtain ⟨s2, e2, _, w2⟩ := DataW.trod_string Tryz.underlying9 g2
  obtain ⟨ao, len, cap, X, e3, m3, l3, y3⟩ := cell_bytes g3
  obtain ⟨n4, e4, _, w4⟩ := DataW.trod_int Tryz.underlying2 g4
  obtain ⟨n5, e5, _, w5⟩ := DataW.trod_int Tryz.underlying2 g5
  obtain ⟨n6, e6, _, w6⟩ := DataW.trod_int Tryz.underlying3 g6
  obtain ⟨po, pl, pc, P, e7, l7, y7⟩ := cell_ints g7
  have h0 : [a] = [Value.int .i64 n0] := e0
  have h1 : [b] = [Value.string s1] := e1
  have h2 : [c] = [Value.string s2] := e2
  have h3 : [d] = [Value.slice ao len cap] := e3
  have h4 : [e] = [Value.int .i64 n4] := e4
  have h5 : [f] = [Value.int .i64 n5] := e5
  have h6 : [g] = [Value.int .i64 n6] := e6
  have h7 : [i] = [Value.slice po pl pc] := e7
  simp only [List.cons.injEq, and_true] at h0 h1 h2 h3 h4 h5 h6 h7
  subst h0 h1 h2 h3 h4 h5 h6 h7
  unfold maxLen at *
  exact ⟨⟨n0, s1, s2, ao, len, cap, X, n4, n5, n6, po, pl, pc, P⟩, rfl, ⟨w1, w2, y3, m3, l3, wf_i64 w4, wf_i64 w5, wf_i64 w6, y7, l7⟩⟩
set_option maxRecDepth 100000 in
/-- A call that came in. -/
theorem open30 {v : Value} {d : DataW H} {ps : List MemPlace} (hv : Value.okWide Tryz.prog W .any base 30 v) (h : DataW.Trod enc Tryz.prog W 0 (fun _ => true) true 30 v d ps) : ∃ c : CV, v = c.val ∧ c.Ok W := by
  obtain ⟨cs, rfl, _⟩ : ∃ cs, v = .agg cs ∧ cs.size = Tryz.prog.cellsOf 30 ∧ Row.okWide Tryz.prog W .any base 30 cs := by
    simpa [Value.okWide, Tryz.underlying30] using hv
  obtain ⟨fuel, hf⟩ := h
  obtain ⟨c, e, hok⟩ := open_call hf
  refine ⟨c, ?_, hok⟩
  have e2 : cs.toList = c.cells.toList := by simpa [Value.cells] using e
  unfold CV.val
  rw [Array.toList_inj.1 e2]
set_option maxRecDepth 100000 in
/-- A slice of numbers that came in. -/
theorem open28 {v : Value} {d : DataW H} {ps : List MemPlace} (hv : Value.okWide Tryz.prog W .any base 28 v) (h : DataW.Trod enc Tryz.prog W 0 (fun _ => true) true 28 v d ps) : ∃ (po : Option Addr) (pl pc : Nat) (P : Nat → Int), v = .slice po pl pc ∧ (pl ≤ pc ∧ pc ≤ 2 ^ 63 - 1) ∧ Ints W po pl P := by
  obtain ⟨a, len, cap, rfl⟩ := okWide_slice Tryz.underlying28 hv
  obtain ⟨fuel, hf⟩ := h
  obtain ⟨po, pl, pc, P, e, hl, hi⟩ := cell_ints hf
  simp [Value.cells] at e
  obtain ⟨rfl, rfl, rfl⟩ := e
  unfold maxLen at hl
  exact ⟨_, _, _, P, rfl, hl, hi⟩
set_option maxRecDepth 100000 in
/-- A slice of calls. -/
theorem open22 {v : Value} {d : DataW H} {ps : List MemPlace} (hv : Value.okWide Tryz.prog W .any base 22 v) (h : DataW.Trod enc Tryz.prog W 0 (fun _ => true) true 22 v d ps) :
    ∃ (so : Option Addr) (sl sc : Nat) (C : Nat → CV), v = .slice so sl sc ∧ sl ≤ 2 ^ 63 - 1 ∧ CallsR W so sl C := by
  obtain ⟨a, len, cap, rfl⟩ := okWide_slice Tryz.underlying22 hv
  obtain ⟨fuel, hf⟩ := h
  rcases open_slice Tryz.underlying22 hf with ⟨hcs, _⟩ | ⟨x, l, cp, m, n, D, Pl, hcs, hb, hl, hm, hmm, _, hc⟩
  · simp [Value.cells] at hcs
    obtain ⟨rfl, rfl, rfl⟩ := hcs
    exact ⟨none, 0, 0, fun _ => ⟨0, ⟨#[]⟩, ⟨#[]⟩, none, 0, 0, fun _ => 0, 0, 0, 0, none, 0, 0, fun _ => 0⟩, rfl, by omega, fun k hk => absurd hk (by omega)⟩
  · simp [Value.cells] at hcs
    obtain ⟨rfl, rfl, rfl⟩ := hcs
    have hlm : len ≤ m := by rw [hmm]; simp; exact hl
    rw [Tryz.cells30] at hc
    have key : ∀ k, k < len → ∃ c : CV, c.Ok W ∧ ∃ b off, (some x) = some (⟨b, off, none⟩ : Addr) ∧ CellsAt W b (off + k * 8) c := fun k hk => by
      obtain ⟨cs', h1, h2⟩ := hc k (by omega)
      obtain ⟨_, hl8, hcell⟩ := World.cells?_some h1
      obtain ⟨c, e, hok⟩ := open_call h2
      obtain ⟨b, off, spot⟩ := x
      have hspot : spot = none := by
        obtain ⟨cs0, h10, h20⟩ := hc 0 (by omega)
        obtain ⟨_, hl80, hcell0⟩ := World.cells?_some h10
        have h0 := hcell0 0 (by decide)
        rw [List.getElem?_eq_getElem (by omega)] at h0
        simpa [Addr.add] using World.cell?_spot h0
      subst hspot
      refine ⟨c, hok, b, off, rfl, fun j v hj => ?_⟩
      have hj8 : j < 8 := by
        have := (Array.getElem?_eq_some_iff.1 hj).1
        simpa [CV.cells] using this
      have := hcell j hj8
      rw [Addr.add_lit, Addr.add_lit] at this
      rw [this, e, Array.getElem?_toList]
      exact hj
    have : Inhabited CV := ⟨⟨0, ⟨#[]⟩, ⟨#[]⟩, none, 0, 0, fun _ => 0, 0, 0, 0, none, 0, 0, fun _ => 0⟩⟩
    obtain ⟨C, hC⟩ := choose_lt (α := CV) key
    refine ⟨some x, len, cap, C, rfl, ?_, hC⟩
    unfold maxLen at hm
    omega
end
end Go.Proofs.YtligofmcmjblpaaGreat
