import Derived.Deep.Slices
import Derived.ProofKit
import Derived.OpenShut
import Derived.Test.YtjgfklbhagcbaabPk11
import Derived.Test.YtjgfklbhagcbaabPk13
import Derived.Test.YtjgfklbhagcbaabPk17
import Derived.Test.YtjgfklbhagcbaabPk22
import Derived.Test.YtjgfklbhagcbaabPk28
/- How a batch that came in is opened. -/
namespace Go.Proofs.Ytjgfklbhagcbaab
open Go.ChangeShapes Go.WideShapes Go.ChangeAt Go.RowKit Go.Deep
set_option linter.unusedVariables false
set_option linter.unusedSimpArgs false

/-- Elements that lie side by side, told one by one. -/
theorem lay_ofB {α : Type} {E : El α} {w : World} {b off : Nat} : ∀ (len : Nat), (∀ k, k < len → ∃ x vs, E.M w vs x ∧ ∀ (j : Nat) (v : Value), vs[j]? = some v → w.cell? ⟨b, off + (k * E.size + j), none⟩ = some v) →
    ∃ xs us, xs.length = len ∧ Lay E w us xs ∧ ∀ (j : Nat) (u : Value), us[j]? = some u → w.cell? ⟨b, off + j, none⟩ = some u
  | 0, _ => ⟨[], [], rfl, rfl, fun j u hu => by simp at hu⟩
  | n + 1, h => by
    obtain ⟨xs, us, h1, h2, h3⟩ := lay_ofB n (fun k hk => h k (by omega))
    obtain ⟨x, vs, g1, g2⟩ := h n (by omega)
    have hl := h2.len
    rw [h1] at hl
    refine ⟨xs ++ [x], us ++ vs, by simp [h1], h2.app ⟨vs, [], by simp, g1, rfl⟩, fun j u hu => ?_⟩
    by_cases q : j < us.length
    · rw [List.getElem?_append_left q] at hu
      exact h3 j u hu
    · rw [List.getElem?_append_right (by omega)] at hu
      have := g2 _ u hu
      rw [show n * E.size + (j - us.length) = j by omega] at this
      exact this
section
variable {H : Type} {enc : TypeId × Value → H} {W : World} {spare : Nat → Bool} {held : Bool} {base : Nat}
theorem cells2 : Try.prog.cellsOf 2 = 1 := by kernel_rfl
theorem cells4 : Try.prog.cellsOf 4 = 1 := by kernel_rfl
/-- A slice of bytes, as a cell. -/
theorem cell_bytes {fuel : Nat} {cs : List Value} {x : DataW H × List MemPlace} (hf : DataW.trod enc Try.prog W base spare held fuel 23 cs = some x) :
    ∃ (ao : Option Addr) (xs : List Int) (cap : Nat), cs = [.slice ao xs.length cap] ∧ Sl W ao xs.length cap xs := by
  rcases open_slice1 Try.underlying23 cells5 hf with ⟨hcs, _⟩ | ⟨a, len, cap, m, n, V, D, Pl, hcs, hb, hl, hm, hmm, _, hc⟩
  · exact ⟨none, [], 0, hcs, Sl.nil W⟩
  · have hlm : len ≤ m := by rw [hmm]; split <;> omega
    have hB : Byt W (some a) len (fun k => (intOf (V k)).toNat) := fun k hk => by
      obtain ⟨c0, t0⟩ := hc k (by omega)
      obtain ⟨z, e0, _, wf⟩ := DataW.trod_int Try.underlying5 t0
      simp at e0
      have hr := wf_u8 wf
      obtain ⟨b, off, spot⟩ := a
      have hspot : spot = none := by
        have h0 := (hc 0 (by omega)).1
        simpa [Addr.add] using World.cell?_spot h0
      subst hspot
      rw [Addr.add_lit, e0] at c0
      simp only [e0, intOf]
      refine ⟨by omega, b, off, rfl, ?_⟩
      rw [c0]
      congr 2
      omega
    have hS := sl_bs (fun e => by cases e) hl hm hB
    have hlen := bs_length (fun k => (intOf (V k)).toNat) len
    refine ⟨some a, bs (fun k => (intOf (V k)).toNat) len, cap, by rw [hlen]; exact hcs, by rw [hlen]; exact hS⟩
theorem list4 {α : Type} (l : List α) (h : l.length = 4) : ∃ a b c d, l = [a, b, c, d] := by
  match l, h with
  | [a, b, c, d], _ => exact ⟨a, b, c, d, rfl⟩
theorem list2 {α : Type} (l : List α) (h : l.length = 2) : ∃ a b, l = [a, b] := by
  match l, h with
  | [a, b], _ => exact ⟨a, b, rfl⟩
end
end Go.Proofs.Ytjgfklbhagcbaab

/- How an edit and a line of a table that came in are opened. -/
namespace Go.Proofs.Ytjgfklbhagcbaab
open Go.ChangeShapes Go.WideShapes Go.ChangeAt Go.RowKit Go.Deep
set_option linter.unusedVariables false
set_option linter.unusedSimpArgs false

section
variable {H : Type} {enc : TypeId × Value → H} {W : World} {spare : Nat → Bool} {held : Bool} {base : Nat}
theorem cells3 : Try.prog.cellsOf 3 = 1 := by kernel_rfl
theorem cellsTable : Try.prog.cellsOf 30 = 5 := by kernel_rfl
theorem cellsTables : Try.prog.cellsOf 24 = 1 := by kernel_rfl
theorem cellsI64s : Try.prog.cellsOf 35 = 1 := by kernel_rfl
theorem cellsEdit : Try.prog.cellsOf 37 = 5 := by kernel_rfl
theorem list5 {α : Type} (l : List α) (h : l.length = 5) : ∃ a b c d e, l = [a, b, c, d, e] := by
  match l, h with
  | [a, b, c, d, e], _ => exact ⟨a, b, c, d, e, rfl⟩
set_option maxRecDepth 100000 in
/-- A line: its five cells. -/
theorem open_ln {fuel : Nat} {cs : List Value} {x : DataW H × List MemPlace} (hf : DataW.trod enc Try.prog W base spare held fuel 30 cs = some x) : ∃ o : LnV, LnM W cs o := by
  obtain ⟨xs, n, _, _, hl, hxl, hc⟩ := DataW.trod_struct Try.underlying30 hf
  rw [cellsTable] at hl
  obtain ⟨a, b, c, d, e, rfl⟩ := list5 cs hl
  have g0 : DataW.trod enc Try.prog W base spare held n 2 (([a, b, c, d, e].drop 0).take (Try.prog.cellsOf 2)) = xs[0]? := hc 0 _ rfl
  rw [cells2, List.getElem?_eq_getElem (show 0 < xs.length by rw [hxl]; decide)] at g0
  have g1 : DataW.trod enc Try.prog W base spare held n 3 (([a, b, c, d, e].drop 1).take (Try.prog.cellsOf 3)) = xs[1]? := hc 1 _ rfl
  rw [cells3, List.getElem?_eq_getElem (show 1 < xs.length by rw [hxl]; decide)] at g1
  have g2 : DataW.trod enc Try.prog W base spare held n 2 (([a, b, c, d, e].drop 2).take (Try.prog.cellsOf 2)) = xs[2]? := hc 2 _ rfl
  rw [cells2, List.getElem?_eq_getElem (show 2 < xs.length by rw [hxl]; decide)] at g2
  have g3 : DataW.trod enc Try.prog W base spare held n 23 (([a, b, c, d, e].drop 3).take (Try.prog.cellsOf 23)) = xs[3]? := hc 3 _ rfl
  rw [cells23, List.getElem?_eq_getElem (show 3 < xs.length by rw [hxl]; decide)] at g3
  have g4 : DataW.trod enc Try.prog W base spare held n 23 (([a, b, c, d, e].drop 4).take (Try.prog.cellsOf 23)) = xs[4]? := hc 4 _ rfl
  rw [cells23, List.getElem?_eq_getElem (show 4 < xs.length by rw [hxl]; decide)] at g4
  obtain ⟨num, e0, _, w0⟩ := DataW.trod_int Try.underlying2 g0
  obtain ⟨lvl, e1, _, w1⟩ := DataW.trod_int Try.underlying3 g1
  obtain ⟨size, e2, _, w2⟩ := DataW.trod_int Try.underlying2 g2
  obtain ⟨ka, key, kc, e3, k1⟩ := cell_bytes g3
  obtain ⟨va, vl, vc, e4, k2⟩ := cell_bytes g4
  have h0 : [a] = [Value.int .i64 num] := e0
  have h1 : [b] = [Value.int .i64 lvl] := e1
  have h2 : [c] = [Value.int .i64 size] := e2
  have h3 : [d] = [Value.slice ka key.length kc] := e3
  have h4 : [e] = [Value.slice va vl.length vc] := e4
  simp only [List.cons.injEq, and_true] at h0 h1 h2 h3 h4
  subst h0 h1 h2 h3 h4
  exact ⟨⟨num, lvl, size, key, vl⟩, ka, kc, va, vc, rfl, k1, k2, wf_i64 w0, wf_i64 w1, wf_i64 w2⟩
set_option maxRecDepth 100000 in
/-- A slice of lines, as a cell. -/
theorem cell_lns {fuel : Nat} {cs : List Value} {x : DataW H × List MemPlace} (hf : DataW.trod enc Try.prog W base spare held fuel 24 cs = some x) :
    ∃ (ao : Option Addr) (len cap : Nat) (os : List LnV), cs = [.slice ao len cap] ∧ RS lnE W ao len cap os := by
  rcases open_slice Try.underlying24 hf with ⟨hcs, _⟩ | ⟨a, len, cap, m, n, D, Pl, hcs, hb, hl, hm, hmm, _, hc⟩
  · exact ⟨none, 0, 0, [], hcs, RS.nil W⟩
  · have hlm : len ≤ m := by rw [hmm]; split <;> omega
    rw [cellsTable] at hc
    by_cases h0 : len = 0
    · subst h0
      exact ⟨some a, 0, cap, [], hcs, [], rfl, (fun e => by cases e), hl, hm, rfl, fun j u hu => by simp at hu⟩
    obtain ⟨b, off, spot⟩ := a
    have hspot : spot = none := by
      obtain ⟨cs0, h10, h20⟩ := hc 0 (by omega)
      obtain ⟨_, hl40, hcell0⟩ := World.cells?_some h10
      have h0 := hcell0 0 (by decide)
      rw [List.getElem?_eq_getElem (by omega)] at h0
      simpa [Addr.add] using World.cell?_spot h0
    subst hspot
    obtain ⟨os, us, q1, q2, q3⟩ := lay_ofB (E := lnE) (w := W) (b := b) (off := off) len (fun k hk => by
      obtain ⟨cs', h1, h2⟩ := hc k (by omega)
      obtain ⟨_, hl5, hcell⟩ := World.cells?_some h1
      obtain ⟨o, ho⟩ := open_ln h2
      refine ⟨o, cs', ho, fun j v hj => ?_⟩
      have hj5 : j < 5 := by
        have := (List.getElem?_eq_some_iff.1 hj).1
        omega
      have := hcell j hj5
      rw [Addr.add_lit, Addr.add_lit] at this
      show W.cell? ⟨b, off + (k * 5 + j), none⟩ = some v
      rw [← Nat.add_assoc, this]
      exact hj)
    exact ⟨some ⟨b, off, none⟩, len, cap, os, hcs, us, q1, (fun e => by cases e), hl, hm, q2, fun j u hu => ⟨b, off, rfl, q3 j u hu⟩⟩
set_option maxRecDepth 100000 in
/-- A slice of numbers, as a cell. -/
theorem cell_i64s {fuel : Nat} {cs : List Value} {x : DataW H × List MemPlace} (hf : DataW.trod enc Try.prog W base spare held fuel 35 cs = some x) :
    ∃ (ao : Option Addr) (len cap : Nat) (os : List Int), cs = [.slice ao len cap] ∧ RS i64E W ao len cap os := by
  rcases open_slice Try.underlying35 hf with ⟨hcs, _⟩ | ⟨a, len, cap, m, n, D, Pl, hcs, hb, hl, hm, hmm, _, hc⟩
  · exact ⟨none, 0, 0, [], hcs, RS.nil W⟩
  · have hlm : len ≤ m := by rw [hmm]; split <;> omega
    rw [cells2] at hc
    by_cases h0 : len = 0
    · subst h0
      exact ⟨some a, 0, cap, [], hcs, [], rfl, (fun e => by cases e), hl, hm, rfl, fun j u hu => by simp at hu⟩
    obtain ⟨b, off, spot⟩ := a
    have hspot : spot = none := by
      obtain ⟨cs0, h10, h20⟩ := hc 0 (by omega)
      obtain ⟨_, hl40, hcell0⟩ := World.cells?_some h10
      have h0 := hcell0 0 (by decide)
      rw [List.getElem?_eq_getElem (by omega)] at h0
      simpa [Addr.add] using World.cell?_spot h0
    subst hspot
    obtain ⟨os, us, q1, q2, q3⟩ := lay_ofB (E := i64E) (w := W) (b := b) (off := off) len (fun k hk => by
      obtain ⟨cs', h1, h2⟩ := hc k (by omega)
      obtain ⟨_, hl5, hcell⟩ := World.cells?_some h1
      obtain ⟨z, e0, _, w0⟩ := DataW.trod_int Try.underlying2 h2
      refine ⟨z, cs', ⟨e0, wf_i64 w0⟩, fun j v hj => ?_⟩
      have hj5 : j < 1 := by
        have := (List.getElem?_eq_some_iff.1 hj).1
        omega
      have := hcell j hj5
      rw [Addr.add_lit, Addr.add_lit] at this
      show W.cell? ⟨b, off + (k * 1 + j), none⟩ = some v
      rw [← Nat.add_assoc, this]
      exact hj)
    exact ⟨some ⟨b, off, none⟩, len, cap, os, hcs, us, q1, (fun e => by cases e), hl, hm, q2, fun j u hu => ⟨b, off, rfl, q3 j u hu⟩⟩
set_option maxRecDepth 100000 in
/-- A line that came in. -/
theorem open30 {v : Value} {d : DataW H} {ps : List MemPlace} (hv : Value.okWide Try.prog W .any base 30 v) (h : DataW.Trod enc Try.prog W 0 (fun _ => true) true 30 v d ps) :
    ∃ (t : LnV) (la : Option Addr) (lc : Nat) (ma : Option Addr) (mc : Nat), v = .agg #[.int .i64 t.num, .int .i64 t.lvl, .int .i64 t.size, .slice la t.least.length lc, .slice ma t.most.length mc] ∧ Sl W la t.least.length lc t.least ∧ Sl W ma t.most.length mc t.most := by
  obtain ⟨cs, rfl, _⟩ : ∃ cs, v = .agg cs ∧ cs.size = Try.prog.cellsOf 30 ∧ Row.okWide Try.prog W .any base 30 cs := by
    simpa [Value.okWide, Try.underlying30] using hv
  obtain ⟨fuel, hf⟩ := h
  obtain ⟨o, la, lc, ma, mc, e, h1, h2, -⟩ := open_ln hf
  have e2 : cs.toList = (#[.int .i64 o.num, .int .i64 o.lvl, .int .i64 o.size, .slice la o.least.length lc, .slice ma o.most.length mc] : Array Value).toList := by simpa [Value.cells] using e
  exact ⟨o, la, lc, ma, mc, by rw [Array.toList_inj.1 e2], h1, h2⟩
set_option maxRecDepth 100000 in
/-- An edit that came in. -/
theorem open37 {v : Value} {d : DataW H} {ps : List MemPlace} (hv : Value.okWide Try.prog W .any base 37 v) (h : DataW.Trod enc Try.prog W 0 (fun _ => true) true 37 v d ps) :
    ∃ (e : EdV) (aa : Option Addr) (ac : Nat) (ra : Option Addr) (rc : Nat), v = edV e aa ac ra rc ∧ EdM W e aa ac ra rc := by
  obtain ⟨cs, rfl, _⟩ : ∃ cs, v = .agg cs ∧ cs.size = Try.prog.cellsOf 37 ∧ Row.okWide Try.prog W .any base 37 cs := by
    simpa [Value.okWide, Try.underlying37] using hv
  obtain ⟨fuel, hf⟩ := h
  obtain ⟨xs, n, _, _, hl, hxl, hc⟩ := DataW.trod_struct Try.underlying37 hf
  rw [cellsEdit] at hl
  obtain ⟨a, b, c, d, e, hcs⟩ := list5 _ hl
  rw [hcs] at hc
  have g0 : DataW.trod enc Try.prog W 0 (fun _ => true) true n 2 (([a, b, c, d, e].drop 0).take (Try.prog.cellsOf 2)) = xs[0]? := hc 0 _ rfl
  rw [cells2, List.getElem?_eq_getElem (show 0 < xs.length by rw [hxl]; decide)] at g0
  have g1 : DataW.trod enc Try.prog W 0 (fun _ => true) true n 2 (([a, b, c, d, e].drop 1).take (Try.prog.cellsOf 2)) = xs[1]? := hc 1 _ rfl
  rw [cells2, List.getElem?_eq_getElem (show 1 < xs.length by rw [hxl]; decide)] at g1
  have g2 : DataW.trod enc Try.prog W 0 (fun _ => true) true n 2 (([a, b, c, d, e].drop 2).take (Try.prog.cellsOf 2)) = xs[2]? := hc 2 _ rfl
  rw [cells2, List.getElem?_eq_getElem (show 2 < xs.length by rw [hxl]; decide)] at g2
  have g3 : DataW.trod enc Try.prog W 0 (fun _ => true) true n 24 (([a, b, c, d, e].drop 3).take (Try.prog.cellsOf 24)) = xs[3]? := hc 3 _ rfl
  rw [cellsTables, List.getElem?_eq_getElem (show 3 < xs.length by rw [hxl]; decide)] at g3
  have g4 : DataW.trod enc Try.prog W 0 (fun _ => true) true n 35 (([a, b, c, d, e].drop 4).take (Try.prog.cellsOf 35)) = xs[4]? := hc 4 _ rfl
  rw [cellsI64s, List.getElem?_eq_getElem (show 4 < xs.length by rw [hxl]; decide)] at g4
  obtain ⟨lg, e0, _, w0⟩ := DataW.trod_int Try.underlying2 g0
  obtain ⟨nx, e1, _, w1⟩ := DataW.trod_int Try.underlying2 g1
  obtain ⟨sq, e2, _, w2⟩ := DataW.trod_int Try.underlying2 g2
  obtain ⟨aa, an, ac, ad, e3, k1⟩ := cell_lns g3
  obtain ⟨ra, rn, rc, rm, e4, k2⟩ := cell_i64s g4
  have h0 : [a] = [Value.int .i64 lg] := e0
  have h1 : [b] = [Value.int .i64 nx] := e1
  have h2 : [c] = [Value.int .i64 sq] := e2
  have h3 : [d] = [Value.slice aa an ac] := e3
  have h4 : [e] = [Value.slice ra rn rc] := e4
  simp only [List.cons.injEq, and_true] at h0 h1 h2 h3 h4
  subst h0 h1 h2 h3 h4
  have l1 := k1.len.1
  have l2 := k2.len.1
  subst l1 l2
  have ee : cs.toList = (#[.int .i64 lg, .int .i64 nx, .int .i64 sq, .slice aa ad.length ac, .slice ra rm.length rc] : Array Value).toList := by simpa [Value.cells] using hcs
  exact ⟨⟨lg, nx, sq, ad, rm⟩, aa, ac, ra, rc, by rw [Array.toList_inj.1 ee]; rfl, ⟨wf_i64 w0, wf_i64 w1, wf_i64 w2, k1, k2⟩⟩
end
end Go.Proofs.Ytjgfklbhagcbaab

/- How a row of edits that came in is opened. -/
namespace Go.Proofs.Ytjgfklbhagcbaab
open Go.ChangeShapes Go.WideShapes Go.ChangeAt Go.RowKit Go.Deep
set_option linter.unusedVariables false
set_option linter.unusedSimpArgs false

theorem rows_of {w : World} {b off : Nat} : ∀ (len : Nat), (∀ k, k < len → ∃ (e : EdV) (aa : Option Addr) (ac : Nat) (ra : Option Addr) (rc : Nat), (w.cell? ⟨b, off + k * 5, none⟩ = some (.int .i64 e.log) ∧ w.cell? ⟨b, off + k * 5 + 1, none⟩ = some (.int .i64 e.next) ∧ w.cell? ⟨b, off + k * 5 + 2, none⟩ = some (.int .i64 e.seq) ∧ w.cell? ⟨b, off + k * 5 + 3, none⟩ = some (.slice aa e.add.length ac) ∧ w.cell? ⟨b, off + k * 5 + 4, none⟩ = some (.slice ra e.rem.length rc)) ∧ EdM w e aa ac ra rc) →
    ∃ es : List EdV, es.length = len ∧ ∀ (k : Nat) (e : EdV), es[k]? = some e → ∃ aa ac ra rc, (w.cell? ⟨b, off + k * 5, none⟩ = some (.int .i64 e.log) ∧ w.cell? ⟨b, off + k * 5 + 1, none⟩ = some (.int .i64 e.next) ∧ w.cell? ⟨b, off + k * 5 + 2, none⟩ = some (.int .i64 e.seq) ∧ w.cell? ⟨b, off + k * 5 + 3, none⟩ = some (.slice aa e.add.length ac) ∧ w.cell? ⟨b, off + k * 5 + 4, none⟩ = some (.slice ra e.rem.length rc)) ∧ EdM w e aa ac ra rc
  | 0, _ => ⟨[], rfl, fun k e h => by simp at h⟩
  | len + 1, h => by
    obtain ⟨es, h1, h2⟩ := rows_of len fun k hk => h k (by omega)
    obtain ⟨e, aa, ac, ra, rc, hc, hm⟩ := h len (Nat.lt_succ_self _)
    refine ⟨es ++ [e], by simp [h1], fun k x hx => ?_⟩
    by_cases q : k < len
    · rw [List.getElem?_append_left (by omega)] at hx
      exact h2 k x hx
    · have hk : k < (es ++ [e]).length := (List.getElem?_eq_some_iff.1 hx).1
      rw [List.length_append, h1, List.length_singleton] at hk
      obtain rfl : k = len := by omega
      rw [List.getElem?_append_right (by omega), h1, Nat.sub_self] at hx
      obtain rfl : e = x := by simpa using hx
      exact ⟨aa, ac, ra, rc, hc, hm⟩
section
variable {H : Type} {enc : TypeId × Value → H} {W : World} {spare : Nat → Bool} {held : Bool} {base : Nat}
theorem cellsEdits : Try.prog.cellsOf 22 = 1 := by kernel_rfl
set_option maxRecDepth 100000 in
/-- An edit: its five cells. -/
theorem open_ed {fuel : Nat} {cs : List Value} {x : DataW H × List MemPlace} (hf : DataW.trod enc Try.prog W base spare held fuel 37 cs = some x) :
    ∃ (e : EdV) (aa : Option Addr) (ac : Nat) (ra : Option Addr) (rc : Nat), cs = [.int .i64 e.log, .int .i64 e.next, .int .i64 e.seq, .slice aa e.add.length ac, .slice ra e.rem.length rc] ∧ EdM W e aa ac ra rc := by
  obtain ⟨xs, n, _, _, hl, hxl, hc⟩ := DataW.trod_struct Try.underlying37 hf
  rw [cellsEdit] at hl
  obtain ⟨a, b, c, d, e, hcs⟩ := list5 _ hl
  subst hcs
  have g0 : DataW.trod enc Try.prog W base spare held n 2 (([a, b, c, d, e].drop 0).take (Try.prog.cellsOf 2)) = xs[0]? := hc 0 _ rfl
  rw [cells2, List.getElem?_eq_getElem (show 0 < xs.length by rw [hxl]; decide)] at g0
  have g1 : DataW.trod enc Try.prog W base spare held n 2 (([a, b, c, d, e].drop 1).take (Try.prog.cellsOf 2)) = xs[1]? := hc 1 _ rfl
  rw [cells2, List.getElem?_eq_getElem (show 1 < xs.length by rw [hxl]; decide)] at g1
  have g2 : DataW.trod enc Try.prog W base spare held n 2 (([a, b, c, d, e].drop 2).take (Try.prog.cellsOf 2)) = xs[2]? := hc 2 _ rfl
  rw [cells2, List.getElem?_eq_getElem (show 2 < xs.length by rw [hxl]; decide)] at g2
  have g3 : DataW.trod enc Try.prog W base spare held n 24 (([a, b, c, d, e].drop 3).take (Try.prog.cellsOf 24)) = xs[3]? := hc 3 _ rfl
  rw [cellsTables, List.getElem?_eq_getElem (show 3 < xs.length by rw [hxl]; decide)] at g3
  have g4 : DataW.trod enc Try.prog W base spare held n 35 (([a, b, c, d, e].drop 4).take (Try.prog.cellsOf 35)) = xs[4]? := hc 4 _ rfl
  rw [cellsI64s, List.getElem?_eq_getElem (show 4 < xs.length by rw [hxl]; decide)] at g4
  obtain ⟨lg, e0, _, w0⟩ := DataW.trod_int Try.underlying2 g0
  obtain ⟨nx, e1, _, w1⟩ := DataW.trod_int Try.underlying2 g1
  obtain ⟨sq, e2, _, w2⟩ := DataW.trod_int Try.underlying2 g2
  obtain ⟨aa, an, ac, ad, e3, k1⟩ := cell_lns g3
  obtain ⟨ra, rn, rc, rm, e4, k2⟩ := cell_i64s g4
  have h0 : [a] = [Value.int .i64 lg] := e0
  have h1 : [b] = [Value.int .i64 nx] := e1
  have h2 : [c] = [Value.int .i64 sq] := e2
  have h3 : [d] = [Value.slice aa an ac] := e3
  have h4 : [e] = [Value.slice ra rn rc] := e4
  simp only [List.cons.injEq, and_true] at h0 h1 h2 h3 h4
  subst h0 h1 h2 h3 h4
  have l1 := k1.len.1
  have l2 := k2.len.1
  subst l1 l2
  exact ⟨⟨lg, nx, sq, ad, rm⟩, aa, ac, ra, rc, rfl, ⟨wf_i64 w0, wf_i64 w1, wf_i64 w2, k1, k2⟩⟩
set_option maxRecDepth 100000 in
/-- A row of edits that came in. -/
theorem open22 {v : Value} {d : DataW H} {ps : List MemPlace} (hv : Value.okWide Try.prog W .any base 22 v) (h : DataW.Trod enc Try.prog W 0 (fun _ => true) true 22 v d ps) :
    ∃ (ao : Option Addr) (n cap : Nat) (es : List EdV), v = .slice ao n cap ∧ EdRow W ao n cap es := by
  obtain ⟨a0, len0, cap0, rfl⟩ := okWide_slice Try.underlying22 hv
  obtain ⟨fuel, hf⟩ := h
  rcases open_slice Try.underlying22 hf with ⟨hcs, _⟩ | ⟨a, len, cap, m, n, D, Pl, hcs, hb, hl, hm, hmm, _, hc⟩
  · have e : Value.slice a0 len0 cap0 = .slice none 0 0 := by simpa [Value.cells] using hcs
    exact ⟨none, 0, 0, [], e, ⟨rfl, Nat.le_refl _, Nat.zero_le _⟩, fun _ => ⟨rfl, rfl⟩, fun k e h => by simp at h⟩
  · have hlm : len ≤ m := by rw [hmm]; split <;> omega
    have e : Value.slice a0 len0 cap0 = .slice (some a) len cap := by simpa [Value.cells] using hcs
    rw [cellsEdit] at hc
    by_cases h0 : len = 0
    · subst h0
      exact ⟨some a, 0, cap, [], e, ⟨rfl, hl, hm⟩, (fun q => by cases q), fun k e h => by simp at h⟩
    obtain ⟨b, off, spot⟩ := a
    have hspot : spot = none := by
      obtain ⟨cs0, h10, h20⟩ := hc 0 (by omega)
      obtain ⟨_, hl40, hcell0⟩ := World.cells?_some h10
      have h0 := hcell0 0 (by decide)
      rw [List.getElem?_eq_getElem (by omega)] at h0
      simpa [Addr.add] using World.cell?_spot h0
    subst hspot
    obtain ⟨es, q1, q2⟩ := rows_of (w := W) (b := b) (off := off) len (fun k hk => by
      obtain ⟨cs', h1, h2⟩ := hc k (by omega)
      obtain ⟨_, hl5, hcell⟩ := World.cells?_some h1
      obtain ⟨ed, aa, ac, ra, rc, rfl, hM⟩ := open_ed h2
      have key : ∀ (j : Nat) (v : Value), j < 5 → [Value.int .i64 ed.log, .int .i64 ed.next, .int .i64 ed.seq, .slice aa ed.add.length ac, .slice ra ed.rem.length rc][j]? = some v → W.cell? ⟨b, off + k * 5 + j, none⟩ = some v := fun j v hj hv => by
        have := hcell j hj
        rw [Addr.add_lit, Addr.add_lit] at this
        rw [this]
        exact hv
      exact ⟨ed, aa, ac, ra, rc, ⟨key 0 _ (by omega) rfl, key 1 _ (by omega) rfl, key 2 _ (by omega) rfl, key 3 _ (by omega) rfl, key 4 _ (by omega) rfl⟩, hM⟩)
    refine ⟨some ⟨b, off, none⟩, len, cap, es, e, ⟨q1, hl, hm⟩, (fun q => by cases q), fun k x hx => ?_⟩
    obtain ⟨aa, ac, ra, rc, hcc, hM⟩ := q2 k x hx
    exact ⟨b, off, aa, ac, ra, rc, rfl, hcc, hM⟩
end
end Go.Proofs.Ytjgfklbhagcbaab
