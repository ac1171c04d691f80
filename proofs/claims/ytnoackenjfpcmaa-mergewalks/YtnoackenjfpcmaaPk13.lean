import Derived.Test.YtnoackenjfpcmaaPk06
import Derived.Test.YtnoackenjfpcmaaPk12
/- The document's own Latest, Get and Ordered. -/
namespace Go.Proofs.Ytnoackenjfpcmaa
open Go.RowKit
set_option linter.unusedVariables false
set_option linter.unusedSimpArgs false

def notGone (l : List EntV) : List EntV := l.filter fun e => !e.gone
theorem notGone_take {l : List EntV} {k : Nat} (h : k < l.length) : notGone (l.take (k + 1)) = notGone (l.take k) ++ (if l[k].gone then [] else [l[k]]) := by
  unfold notGone
  rw [List.take_add_one, List.getElem?_eq_getElem h, List.filter_append]
  simp only [Option.toList]
  congr 1
  cases hh : l[k].gone <;> simp [hh]
theorem notGone_len (l : List EntV) : (notGone l).length ≤ l.length := List.length_filter_le _ _
end Go.Proofs.Ytnoackenjfpcmaa

/- The document's own reader: Number, Bytes, Flag, End. -/
namespace Go.Proofs.Ytnoackenjfpcmaa
open Go.RowKit
set_option linter.unusedVariables false
set_option linter.unusedSimpArgs false

theorem heap_set {w : World} {p : Nat} {C : Array Value} {t : TypeId} {f : Nat × Nat} (h : w.heap[p]? = some (.cells C t f)) (k : Nat) (v : Value) : (w.setCell ⟨p, k, none⟩ v).heap[p]? = some (.cells (C.setIfInBounds k v) t f) := by
  simp only [World.setCell, Array.getElem?_modify, if_true, h]
  rfl
theorem frozen_of {w : World} {p : Nat} {C : Array Value} {t : TypeId} (h : w.heap[p]? = some (.cells C t (0, 0))) (k : Nat) : w.frozen? ⟨p, k, none⟩ = false := by
  simp [World.frozen?, h]
theorem grown_set (w : World) (p k : Nat) (v : Value) : w.grownBy (w.setCell ⟨p, k, none⟩ v) (some p) :=
  ⟨rfl, rfl, rfl, by simp [World.setCell], fun i hi hn => Below.heap_setCell _ _ _ _ (fun e => hn (by rw [e]))⟩
theorem below_grown {w w' : World} (h : Below w.heap.size w w') (r : Option Nat) : w.grownBy w' r := ⟨h.os, h.tape, h.output, h.size, fun k hk _ => h.block k hk⟩
theorem grown_trans {w w' w'' : World} {r : Option Nat} (h : w.grownBy w' r) (g : w'.grownBy w'' r) : w.grownBy w'' r :=
  ⟨g.os.trans h.os, g.tape.trans h.tape, g.output.trans h.output, Nat.le_trans h.size g.size, fun k hk hn => (g.block k (Nat.lt_of_lt_of_le hk h.size) hn).trans (h.block k hk hn)⟩
theorem refs_cut {w : World} {ao : Option Addr} {len cap i j : Nat} {xs : List Int} {b : Nat} (hs : Sl w ao len cap xs) (hj : j ≤ len) (h : Refs (.slice (cutA ao cap i) (j - i) (cap - i)) b) : Refs (.slice ao len cap) b := by
  obtain ⟨off, l, c, e, h0⟩ := h
  simp only [Value.slice.injEq] at e
  obtain ⟨e1, rfl, rfl⟩ := e
  have hl := hs.2.2.2.1
  obtain ⟨_, b', off', e', _⟩ := hs.2.2.2.2.2 0 (by omega)
  subst e'
  unfold cutA at e1
  rw [if_neg (by omega)] at e1
  have e2 : (some ((⟨b', off', none⟩ : Addr).add i)) = some (⟨b, off, none⟩ : Addr) := e1
  rw [Addr.add_lit] at e2
  simp only [Option.some.injEq, Addr.mk.injEq, and_true] at e2
  obtain ⟨rfl, _⟩ := e2
  exact ⟨off', len, cap, rfl, by omega⟩
theorem rdB_okb {most : Nat} {s : Rd} (h : Okb s.1) : Okb (rdB most s).1 := by
  unfold rdB
  split
  · exact fun x hx => by cases hx
  · split
    · exact fun x hx => by cases hx
    · exact tb_okb h
theorem rdN_le {most : Nat} {s : Rd} : (rdN most s).1 ≤ most := by
  unfold rdN
  split
  · exact Nat.zero_le _
  · split
    · exact Nat.zero_le _
    · split
      · exact Nat.zero_le _
      · rename_i h; exact Nat.le_of_not_lt h

end Go.Proofs.Ytnoackenjfpcmaa

/- The document's own Get. -/
namespace Go.Proofs.Ytnoackenjfpcmaa
open Go.RowKit
set_option linter.unusedVariables false
set_option linter.unusedSimpArgs false

theorem cells_set5 {w : World} {p : Nat} {c0 c1 c2 c3 c4 : Value} {t : TypeId} (h : w.heap[p]? = some (.cells #[c0, c1, c2, c3, c4] t (0, 0))) (a b c d e : Value) :
    let wf := ((((w.setCell ⟨p, 0, none⟩ a).setCell ⟨p, 1, none⟩ b).setCell ⟨p, 2, none⟩ c).setCell ⟨p, 3, none⟩ d).setCell ⟨p, 4, none⟩ e
    wf.cell? ⟨p, 0, none⟩ = some a ∧ wf.cell? ⟨p, 1, none⟩ = some b ∧ wf.cell? ⟨p, 2, none⟩ = some c ∧ wf.cell? ⟨p, 3, none⟩ = some d ∧ wf.cell? ⟨p, 4, none⟩ = some e := by
  have hs := heap_set (heap_set (heap_set (heap_set (heap_set h 0 a) 1 b) 2 c) 3 d) 4 e
  refine ⟨?_, ?_, ?_, ?_, ?_⟩ <;> rw [cell_of hs] <;> rfl
theorem below_set5 {w wx : World} (h : Below w.heap.size w wx) (a b c d e : Value) : Below w.heap.size w (((((wx.setCell ⟨w.heap.size, 0, none⟩ a).setCell ⟨w.heap.size, 1, none⟩ b).setCell ⟨w.heap.size, 2, none⟩ c).setCell ⟨w.heap.size, 3, none⟩ d).setCell ⟨w.heap.size, 4, none⟩ e) :=
  Below.grown h (grown_trans (grown_trans (grown_trans (grown_trans (grown_set wx w.heap.size 0 a) (grown_set _ w.heap.size 1 b)) (grown_set _ w.heap.size 2 c)) (grown_set _ w.heap.size 3 d)) (grown_set _ w.heap.size 4 e)) h.size (fun k hk => by simp only [Option.some.injEq] at hk; omega)
end Go.Proofs.Ytnoackenjfpcmaa
