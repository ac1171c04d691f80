import Derived.Deep.Matrix
import Derived.Deep.Slices
import Derived.ProofKit
import Derived.OpenShut
import Derived.Test.YtnoackenjfpcmaaPk03
import Derived.Test.YtnoackenjfpcmaaPk07
import Derived.Test.YtnoackenjfpcmaaPk15
import Derived.Test.YtnoackenjfpcmaaPk26
/- How slices of bytes, and slices of slices of bytes, that came in are opened: as lists. -/
namespace Go.Proofs.Ytnoackenjfpcmaa
open Go.ChangeShapes Go.WideShapes Go.ChangeAt Go.RowKit Go.Deep
set_option linter.unusedVariables false

theorem cells33 : Try.prog.cellsOf 33 = 1 := by kernel_rfl
theorem sl_bs {w : World} {ao : Option Addr} {len cap : Nat} {X : Nat → Nat} (h1 : ao = none → len = 0 ∧ cap = 0) (h2 : len ≤ cap) (h3 : cap ≤ maxLen) (h4 : Byt w ao len X) : Sl w ao len cap (bs X len) := by
  refine ⟨bs_length X len, okb_bs h4, h1, h2, h3, fun k hk => ?_⟩
  have e : xof (bs X len) k = X k := by
    unfold xof
    rw [bs_getD X len k hk]
    exact Int.toNat_natCast _
  rw [e]
  exact h4 k hk
end Go.Proofs.Ytnoackenjfpcmaa

/- How a row of entries that came in is opened. -/
namespace Go.Proofs.Ytnoackenjfpcmaa
open Go.ChangeShapes Go.WideShapes Go.ChangeAt Go.RowKit Go.Deep
set_option linter.unusedVariables false
set_option linter.unusedSimpArgs false

/-- Elements that lie side by side, told one by one. -/
theorem lay_of {α : Type} {E : El α} {w : World} {b off : Nat} : ∀ (len : Nat), (∀ k, k < len → ∃ x vs, E.M w vs x ∧ ∀ (j : Nat) (v : Value), vs[j]? = some v → w.cell? ⟨b, off + (k * E.size + j), none⟩ = some v) →
    ∃ xs us, xs.length = len ∧ Lay E w us xs ∧ ∀ (j : Nat) (u : Value), us[j]? = some u → w.cell? ⟨b, off + j, none⟩ = some u
  | 0, _ => ⟨[], [], rfl, rfl, fun j u hu => by simp at hu⟩
  | n + 1, h => by
    obtain ⟨xs, us, h1, h2, h3⟩ := lay_of n (fun k hk => h k (by omega))
    obtain ⟨x, vs, g1, g2⟩ := h n (by omega)
    have hl := h2.len
    rw [h1] at hl
    refine ⟨xs ++ [x], us ++ vs, by simp [h1], h2.app ⟨vs, [], by simp, g1, rfl⟩, fun j u hu => ?_⟩
    by_cases q : j < us.length
    · rw [List.getElem?_append_left q] at hu
      exact h3 j u hu
    · rw [List.getElem?_append_right (by omega)] at hu
      have := g2 _ u hu
      rw [show n * E.size + (j - us.length) = j by omega] at this
      exact this
section
variable {H : Type} {enc : TypeId × Value → H} {W : World} {spare : Nat → Bool} {held : Bool} {base : Nat}
theorem cells2 : Try.prog.cellsOf 2 = 1 := by kernel_rfl
theorem cells4 : Try.prog.cellsOf 4 = 1 := by kernel_rfl
theorem cellsEntry : Try.prog.cellsOf 35 = 5 := by kernel_rfl
/-- A slice of bytes, as a cell. -/
theorem cell_bytes {fuel : Nat} {cs : List Value} {x : DataW H × List MemPlace} (hf : DataW.trod enc Try.prog W base spare held fuel 33 cs = some x) :
    ∃ (ao : Option Addr) (xs : List Int) (cap : Nat), cs = [.slice ao xs.length cap] ∧ Sl W ao xs.length cap xs := by
  rcases open_slice1 Try.underlying33 cells5 hf with ⟨hcs, _⟩ | ⟨a, len, cap, m, n, V, D, Pl, hcs, hb, hl, hm, hmm, _, hc⟩
  · exact ⟨none, [], 0, hcs, Sl.nil W⟩
  · have hlm : len ≤ m := by rw [hmm]; split <;> omega
    have hB : Byt W (some a) len (fun k => (intOf (V k)).toNat) := fun k hk => by
      obtain ⟨c0, t0⟩ := hc k (by omega)
      obtain ⟨z, e0, _, wf⟩ := DataW.trod_int Try.underlying5 t0
      simp at e0
      have hr := wf_u8 wf
      obtain ⟨b, off, spot⟩ := a
      have hspot : spot = none := by
        have h0 := (hc 0 (by omega)).1
        simpa [Addr.add] using World.cell?_spot h0
      subst hspot
      rw [Addr.add_lit, e0] at c0
      simp only [e0, intOf]
      refine ⟨by omega, b, off, rfl, ?_⟩
      rw [c0]
      congr 2
      omega
    have hS := sl_bs (fun e => by cases e) hl hm hB
    have hlen := bs_length (fun k => (intOf (V k)).toNat) len
    refine ⟨some a, bs (fun k => (intOf (V k)).toNat) len, cap, by rw [hlen]; exact hcs, by rw [hlen]; exact hS⟩
theorem list5 {α : Type} (l : List α) (h : l.length = 5) : ∃ a b c d e, l = [a, b, c, d, e] := by
  match l, h with
  | [a, b, c, d, e], _ => exact ⟨a, b, c, d, e, rfl⟩
/-- An entry: its five cells. -/
theorem open_ent {fuel : Nat} {cs : List Value} {x : DataW H × List MemPlace} (hf : DataW.trod enc Try.prog W base spare held fuel 35 cs = some x) : ∃ o : EntV, EntM W cs o := by
  obtain ⟨xs, n, _, _, hl, hxl, hc⟩ := DataW.trod_struct Try.underlying35 hf
  rw [cellsEntry] at hl
  obtain ⟨a, b, c, d, e, rfl⟩ := list5 cs hl
  have g0 : DataW.trod enc Try.prog W base spare held n 33 (([a, b, c, d, e].drop 0).take (Try.prog.cellsOf 33)) = xs[0]? := hc 0 _ rfl
  rw [cells33, List.getElem?_eq_getElem (show 0 < xs.length by rw [hxl]; decide)] at g0
  have g1 : DataW.trod enc Try.prog W base spare held n 2 (([a, b, c, d, e].drop 1).take (Try.prog.cellsOf 2)) = xs[1]? := hc 1 _ rfl
  rw [cells2, List.getElem?_eq_getElem (show 1 < xs.length by rw [hxl]; decide)] at g1
  have g2 : DataW.trod enc Try.prog W base spare held n 4 (([a, b, c, d, e].drop 2).take (Try.prog.cellsOf 4)) = xs[2]? := hc 2 _ rfl
  rw [cells4, List.getElem?_eq_getElem (show 2 < xs.length by rw [hxl]; decide)] at g2
  have g3 : DataW.trod enc Try.prog W base spare held n 2 (([a, b, c, d, e].drop 3).take (Try.prog.cellsOf 2)) = xs[3]? := hc 3 _ rfl
  rw [cells2, List.getElem?_eq_getElem (show 3 < xs.length by rw [hxl]; decide)] at g3
  have g4 : DataW.trod enc Try.prog W base spare held n 33 (([a, b, c, d, e].drop 4).take (Try.prog.cellsOf 33)) = xs[4]? := hc 4 _ rfl
  rw [cells33, List.getElem?_eq_getElem (show 4 < xs.length by rw [hxl]; decide)] at g4
  obtain ⟨ka, key, kc, e0, k1⟩ := cell_bytes g0
  obtain ⟨seq, e1, _, w1⟩ := DataW.trod_int Try.underlying2 g1
  obtain ⟨gone, e2, _⟩ := DataW.trod_bool Try.underlying4 g2
  obtain ⟨till, e3, _, w3⟩ := DataW.trod_int Try.underlying2 g3
  obtain ⟨va, vl, vc, e4, k2⟩ := cell_bytes g4
  have h0 : [a] = [Value.slice ka key.length kc] := e0
  have h1 : [b] = [Value.int .i64 seq] := e1
  have h2 : [c] = [Value.bool gone] := e2
  have h3 : [d] = [Value.int .i64 till] := e3
  have h4 : [e] = [Value.slice va vl.length vc] := e4
  simp only [List.cons.injEq, and_true] at h0 h1 h2 h3 h4
  subst h0 h1 h2 h3 h4
  exact ⟨⟨key, seq, gone, till, vl⟩, ka, kc, va, vc, rfl, k1, k2, wf_i64 w1, wf_i64 w3⟩
set_option maxRecDepth 100000 in
/-- A slice of entries, as a cell. -/
theorem cell_ents {fuel : Nat} {cs : List Value} {x : DataW H × List MemPlace} (hf : DataW.trod enc Try.prog W base spare held fuel 27 cs = some x) :
    ∃ (ao : Option Addr) (len cap : Nat) (os : List EntV), cs = [.slice ao len cap] ∧ RS entE W ao len cap os := by
  rcases open_slice Try.underlying27 hf with ⟨hcs, _⟩ | ⟨a, len, cap, m, n, D, Pl, hcs, hb, hl, hm, hmm, _, hc⟩
  · exact ⟨none, 0, 0, [], hcs, RS.nil W⟩
  · have hlm : len ≤ m := by rw [hmm]; split <;> omega
    rw [cellsEntry] at hc
    by_cases h0 : len = 0
    · subst h0
      exact ⟨some a, 0, cap, [], hcs, [], rfl, (fun e => by cases e), hl, hm, rfl, fun j u hu => by simp at hu⟩
    obtain ⟨b, off, spot⟩ := a
    have hspot : spot = none := by
      obtain ⟨cs0, h10, h20⟩ := hc 0 (by omega)
      obtain ⟨_, hl40, hcell0⟩ := World.cells?_some h10
      have h0 := hcell0 0 (by decide)
      rw [List.getElem?_eq_getElem (by omega)] at h0
      simpa [Addr.add] using World.cell?_spot h0
    subst hspot
    obtain ⟨os, us, q1, q2, q3⟩ := lay_of (E := entE) (w := W) (b := b) (off := off) len (fun k hk => by
      obtain ⟨cs', h1, h2⟩ := hc k (by omega)
      obtain ⟨_, hl4, hcell⟩ := World.cells?_some h1
      obtain ⟨o, ho⟩ := open_ent h2
      refine ⟨o, cs', ho, fun j v hj => ?_⟩
      have hj4 : j < 5 := by
        have := (List.getElem?_eq_some_iff.1 hj).1
        omega
      have := hcell j hj4
      rw [Addr.add_lit, Addr.add_lit] at this
      show W.cell? ⟨b, off + (k * 5 + j), none⟩ = some v
      rw [← Nat.add_assoc, this]
      exact hj)
    exact ⟨some ⟨b, off, none⟩, len, cap, os, hcs, us, q1, (fun e => by cases e), hl, hm, q2, fun j u hu => ⟨b, off, rfl, q3 j u hu⟩⟩
set_option maxRecDepth 100000 in
/-- A row of entries that came in. -/
theorem open27 {v : Value} {d : DataW H} {ps : List MemPlace} (hv : Value.okWide Try.prog W .any base 27 v) (h : DataW.Trod enc Try.prog W 0 (fun _ => true) true 27 v d ps) :
    ∃ (ao : Option Addr) (len cap : Nat) (os : List EntV), v = .slice ao len cap ∧ RS entE W ao len cap os := by
  obtain ⟨a, len, cap, rfl⟩ := okWide_slice Try.underlying27 hv
  obtain ⟨fuel, hf⟩ := h
  obtain ⟨ao, len', cap', os, e, hr⟩ := cell_ents hf
  have e' : [Value.slice a len cap] = [Value.slice ao len' cap'] := e
  simp only [List.cons.injEq, and_true] at e'
  exact ⟨ao, len', cap', os, e', hr⟩
end
end Go.Proofs.Ytnoackenjfpcmaa

/- How a row of rows of entries that came in is opened. -/
namespace Go.Proofs.Ytnoackenjfpcmaa
open Go.ChangeShapes Go.WideShapes Go.ChangeAt Go.RowKit Go.Deep
set_option linter.unusedVariables false
set_option linter.unusedSimpArgs false

theorem rrows_of {w : World} {b off : Nat} : ∀ (len : Nat), (∀ k, k < len → ∃ (l : List EntV) (la : Option Addr) (lc : Nat), w.cell? ⟨b, off + k, none⟩ = some (.slice la l.length lc) ∧ RS entE w la l.length lc l) →
    ∃ rs : List (List EntV), rs.length = len ∧ ∀ (k : Nat) (l : List EntV), rs[k]? = some l → ∃ la lc, w.cell? ⟨b, off + k, none⟩ = some (.slice la l.length lc) ∧ RS entE w la l.length lc l
  | 0, _ => ⟨[], rfl, fun k e h => by simp at h⟩
  | len + 1, h => by
    obtain ⟨rs, h1, h2⟩ := rrows_of len fun k hk => h k (by omega)
    obtain ⟨l, la, lc, hc, hm⟩ := h len (Nat.lt_succ_self _)
    refine ⟨rs ++ [l], by simp [h1], fun k x hx => ?_⟩
    by_cases q : k < len
    · rw [List.getElem?_append_left (by omega)] at hx
      exact h2 k x hx
    · have hk : k < (rs ++ [l]).length := (List.getElem?_eq_some_iff.1 hx).1
      rw [List.length_append, h1, List.length_singleton] at hk
      obtain rfl : k = len := by omega
      rw [List.getElem?_append_right (by omega), h1, Nat.sub_self] at hx
      obtain rfl : l = x := by simpa using hx
      exact ⟨la, lc, hc, hm⟩
section
variable {H : Type} {enc : TypeId × Value → H} {W : World} {spare : Nat → Bool} {held : Bool} {base : Nat}
theorem cellsEnts : Try.prog.cellsOf 27 = 1 := by kernel_rfl
set_option maxRecDepth 100000 in
/-- A row of rows of entries that came in. -/
theorem open22 {v : Value} {d : DataW H} {ps : List MemPlace} (hv : Value.okWide Try.prog W .any base 22 v) (h : DataW.Trod enc Try.prog W 0 (fun _ => true) true 22 v d ps) :
    ∃ (ao : Option Addr) (n cap : Nat) (rs : List (List EntV)), v = .slice ao n cap ∧ ErRow W ao n cap rs := by
  obtain ⟨a0, len0, cap0, rfl⟩ := okWide_slice Try.underlying22 hv
  obtain ⟨fuel, hf⟩ := h
  rcases open_slice Try.underlying22 hf with ⟨hcs, _⟩ | ⟨a, len, cap, m, n, D, Pl, hcs, hb, hl, hm, hmm, _, hc⟩
  · have e : Value.slice a0 len0 cap0 = .slice none 0 0 := by simpa [Value.cells] using hcs
    exact ⟨none, 0, 0, [], e, ⟨rfl, Nat.le_refl _, Nat.zero_le _⟩, fun _ => ⟨rfl, rfl⟩, fun k e h => by simp at h⟩
  · have hlm : len ≤ m := by rw [hmm]; split <;> omega
    have e : Value.slice a0 len0 cap0 = .slice (some a) len cap := by simpa [Value.cells] using hcs
    rw [cellsEnts] at hc
    by_cases h0 : len = 0
    · subst h0
      exact ⟨some a, 0, cap, [], e, ⟨rfl, hl, hm⟩, (fun q => by cases q), fun k e h => by simp at h⟩
    obtain ⟨b, off, spot⟩ := a
    have hspot : spot = none := by
      obtain ⟨cs0, h10, h20⟩ := hc 0 (by omega)
      obtain ⟨_, hl40, hcell0⟩ := World.cells?_some h10
      have h0 := hcell0 0 (by decide)
      rw [List.getElem?_eq_getElem (by omega)] at h0
      simpa [Addr.add] using World.cell?_spot h0
    subst hspot
    obtain ⟨rs, q1, q2⟩ := rrows_of (w := W) (b := b) (off := off) len (fun k hk => by
      obtain ⟨cs', h1, h2⟩ := hc k (by omega)
      obtain ⟨_, hl5, hcell⟩ := World.cells?_some h1
      obtain ⟨la, ln, lc, l, rfl, hM⟩ := cell_ents h2
      have l1 := hM.len.1
      subst l1
      have := hcell 0 (by decide)
      rw [Addr.add_lit, Addr.add_lit] at this
      refine ⟨l, la, lc, ?_, hM⟩
      rw [Nat.mul_one, Nat.add_zero] at this
      exact this)
    refine ⟨some ⟨b, off, none⟩, len, cap, rs, e, ⟨q1, hl, hm⟩, (fun q => by cases q), fun k x hx => ?_⟩
    obtain ⟨la, lc, hcc, hM⟩ := q2 k x hx
    exact ⟨b, off, la, lc, rfl, hcc, hM⟩
end
end Go.Proofs.Ytnoackenjfpcmaa
