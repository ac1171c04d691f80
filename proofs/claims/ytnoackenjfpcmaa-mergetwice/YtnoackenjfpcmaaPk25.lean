import Derived.Test.YtnoackenjfpcmaaPk15
import Derived.Test.YtnoackenjfpcmaaPk24
/- How a row of rows of entries that came in is opened. -/
namespace Go.Proofs.Ytnoackenjfpcmaa
open Go.ChangeShapes Go.WideShapes Go.ChangeAt Go.RowKit Go.Deep
set_option linter.unusedVariables false
set_option linter.unusedSimpArgs false

theorem rrows_of {w : World} {b off : Nat} : ∀ (len : Nat), (∀ k, k < len → ∃ (l : List EntV) (la : Option Addr) (lc : Nat), w.cell? ⟨b, off + k, none⟩ = some (.slice la l.length lc) ∧ RS entE w la l.length lc l) →
    ∃ rs : List (List EntV), rs.length = len ∧ ∀ (k : Nat) (l : List EntV), rs[k]? = some l → ∃ la lc, w.cell? ⟨b, off + k, none⟩ = some (.slice la l.length lc) ∧ RS entE w la l.length lc l
  | 0, _ => ⟨[], rfl, fun k e h => by simp at h⟩
  | len + 1, h => by
    obtain ⟨rs, h1, h2⟩ := rrows_of len fun k hk => h k (by omega)
    obtain ⟨l, la, lc, hc, hm⟩ := h len (Nat.lt_succ_self _)
    refine ⟨rs ++ [l], by simp [h1], fun k x hx => ?_⟩
    by_cases q : k < len
    · rw [List.getElem?_append_left (by omega)] at hx
      exact h2 k x hx
    · have hk : k < (rs ++ [l]).length := (List.getElem?_eq_some_iff.1 hx).1
      rw [List.length_append, h1, List.length_singleton] at hk
      obtain rfl : k = len := by omega
      rw [List.getElem?_append_right (by omega), h1, Nat.sub_self] at hx
      obtain rfl : l = x := by simpa using hx
      exact ⟨la, lc, hc, hm⟩
section
variable {H : Type} {enc : TypeId × Value → H} {W : World} {spare : Nat → Bool} {held : Bool} {base : Nat}
theorem cellsEnts : Try.prog.cellsOf 27 = 1 := by kernel_rfl
set_option maxRecDepth 100000 in
/-- A row of rows of entries that came in. -/
theorem open22 {v : Value} {d : DataW H} {ps : List MemPlace} (hv : Value.okWide Try.prog W .any base 22 v) (h : DataW.Trod enc Try.prog W 0 (fun _ => true) true 22 v d ps) :
    ∃ (ao : Option Addr) (n cap : Nat) (rs : List (List EntV)), v = .slice ao n cap ∧ ErRow W ao n cap rs := by
  obtain ⟨a0, len0, cap0, rfl⟩ := okWide_slice Try.underlying22 hv
  obtain ⟨fuel, hf⟩ := h
  rcases open_slice Try.underlying22 hf with ⟨hcs, _⟩ | ⟨a, len, cap, m, n, D, Pl, hcs, hb, hl, hm, hmm, _, hc⟩
  · have e : Value.slice a0 len0 cap0 = .slice none 0 0 := by simpa [Value.cells] using hcs
    exact ⟨none, 0, 0, [], e, ⟨rfl, Nat.le_refl _, Nat.zero_le _⟩, fun _ => ⟨rfl, rfl⟩, fun k e h => by simp at h⟩
  · have hlm : len ≤ m := by rw [hmm]; split <;> omega
    have e : Value.slice a0 len0 cap0 = .slice (some a) len cap := by simpa [Value.cells] using hcs
    rw [cellsEnts] at hc
    by_cases h0 : len = 0
    · subst h0
      exact ⟨some a, 0, cap, [], e, ⟨rfl, hl, hm⟩, (fun q => by cases q), fun k e h => by simp at h⟩
    obtain ⟨b, off, spot⟩ := a
    have hspot : spot = none := by
      obtain ⟨cs0, h10, h20⟩ := hc 0 (by omega)
      obtain ⟨_, hl40, hcell0⟩ := World.cells?_some h10
      have h0 := hcell0 0 (by decide)
      rw [List.getElem?_eq_getElem (by omega)] at h0
      simpa [Addr.add] using World.cell?_spot h0
    subst hspot
    obtain ⟨rs, q1, q2⟩ := rrows_of (w := W) (b := b) (off := off) len (fun k hk => by
      obtain ⟨cs', h1, h2⟩ := hc k (by omega)
      obtain ⟨_, hl5, hcell⟩ := World.cells?_some h1
      obtain ⟨la, ln, lc, l, rfl, hM⟩ := cell_ents h2
      have l1 := hM.len.1
      subst l1
      have := hcell 0 (by decide)
      rw [Addr.add_lit, Addr.add_lit] at this
      refine ⟨l, la, lc, ?_, hM⟩
      rw [Nat.mul_one, Nat.add_zero] at this
      exact this)
    refine ⟨some ⟨b, off, none⟩, len, cap, rs, e, ⟨q1, hl, hm⟩, (fun q => by cases q), fun k x hx => ?_⟩
    obtain ⟨la, lc, hcc, hM⟩ := q2 k x hx
    exact ⟨b, off, la, lc, rfl, hcc, hM⟩
end
end Go.Proofs.Ytnoackenjfpcmaa
