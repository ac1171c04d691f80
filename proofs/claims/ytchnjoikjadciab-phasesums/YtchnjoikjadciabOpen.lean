/- How a row of four pairs that came in is opened: eight whole numbers. -/
import Derived.Test.YtchnjoikjadciabFour
import Derived.ProofKit
import Derived.OpenShut
namespace Go.Proofs.Ytchnjoikjadciab
open Go.ChangeShapes Go.WideShapes Go.ChangeAt Go.RowKit

theorem cell_int {P : Program} {W : World} {r : Reach} {base : Nat} {t : TypeId} {k : IntKind} {v : Value} (ht : P.underlying t = some (.int k)) (h : Cell.okWide P W r base t v) : ∃ n, v = .int k n := by
  simp only [Cell.okWide, ht] at h
  cases v <;> simp_all [Cell.ok]

theorem list8 {α : Type} (l : List α) (h : (⟨l⟩ : Array α).size = 8) : ∃ a b c d e f g i, l = [a, b, c, d, e, f, g, i] := by
  match l, h with
  | [a, b, c, d, e, f, g, i], _ => exact ⟨a, b, c, d, e, f, g, i, rfl⟩

theorem cells24 : Try.prog.cellsOf 24 = 8 := by kernel_rfl
theorem types24 : Try.prog.cellTypes Try.prog.depth 24 = some [2, 2, 2, 2, 2, 2, 2, 2] := by kernel_rfl

def at4 (a b c d : Int) : Nat → Int := fun j => if j = 0 then a else if j = 1 then b else if j = 2 then c else d

theorem open30 {W : World} {base : Nat} {v : Value} (h : Value.okWide Try.prog W .any base 24 v) : ∃ x y : Nat → Int, v = .agg #[.int .i64 (x 0), .int .i64 (y 0), .int .i64 (x 1), .int .i64 (y 1), .int .i64 (x 2), .int .i64 (y 2), .int .i64 (x 3), .int .i64 (y 3)] := by
  obtain ⟨cs, rfl, hsz, ts, hts, _, hc⟩ : ∃ cs, v = .agg cs ∧ cs.size = Try.prog.cellsOf 24 ∧ Row.okWide Try.prog W .any base 24 cs := by
    simpa [Value.okWide, Try.underlying24] using h
  rw [types24] at hts
  cases hts
  rw [cells24] at hsz
  obtain ⟨l⟩ := cs
  obtain ⟨a, b, c, d, e, f, g, i, rfl⟩ := list8 l hsz
  have key : ∀ n v, (#[a, b, c, d, e, f, g, i] : Array Value)[n]? = some v → n < 8 → ∃ m, v = .int .i64 m := by
    intro n v hv hn
    obtain ⟨u, hu, ho⟩ := hc n v hv
    have h2 : u = 2 := by
      have : n = 0 ∨ n = 1 ∨ n = 2 ∨ n = 3 ∨ n = 4 ∨ n = 5 ∨ n = 6 ∨ n = 7 := by omega
      rcases this with h | h | h | h | h | h | h | h <;> subst h <;> simpa using hu.symm
    subst h2
    exact cell_int Try.underlying2 ho
  obtain ⟨m0, rfl⟩ := key 0 a rfl (by decide)
  obtain ⟨m1, rfl⟩ := key 1 b rfl (by decide)
  obtain ⟨m2, rfl⟩ := key 2 c rfl (by decide)
  obtain ⟨m3, rfl⟩ := key 3 d rfl (by decide)
  obtain ⟨m4, rfl⟩ := key 4 e rfl (by decide)
  obtain ⟨m5, rfl⟩ := key 5 f rfl (by decide)
  obtain ⟨m6, rfl⟩ := key 6 g rfl (by decide)
  obtain ⟨m7, rfl⟩ := key 7 i rfl (by decide)
  exact ⟨at4 m0 m2 m4 m6, at4 m1 m3 m5 m7, rfl⟩

theorem tmod_small (m x : Int) (hm : 0 < m) : Small (m - 1) (x.tmod m) := by
  have h1 := Int.tmod_lt_of_pos x hm
  have h2 : -x.tmod m < m := by rw [← Int.neg_tmod]; exact Int.tmod_lt_of_pos (-x) hm
  unfold Small; omega

theorem fr_whole {x : Nat → Int} (j : Nat) (h : Small (2 ^ 50) (x j)) : Whole (fr x j) (x j) := whole_int _ (by unfold Small at h; omega)
end Go.Proofs.Ytchnjoikjadciab
