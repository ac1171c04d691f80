/- Slices of bytes as lists: read, cut, summed, taken. -/
import Derived.Test.YtbinabegiikcaaaFrm
import Derived.Test.YtbinabegiikcaaaGrows
import Derived.Test.YtbinabegiikcaaaMasks
import Derived.Test.YtbinabegiikcaaaRtake
namespace Go.Proofs.Ytbinabegiikcaaa
open Go.RowKit
set_option linter.unusedVariables false
set_option linter.unusedSimpArgs false

/-- A slice of bytes: its shape and what it holds. -/
def Sl (w : World) (ao : Option Addr) (len cap : Nat) (xs : List Int) : Prop :=
  xs.length = len ∧ Okb xs ∧ (ao = none → len = 0 ∧ cap = 0) ∧ len ≤ cap ∧ cap ≤ maxLen ∧ Byt w ao len (xof xs)
theorem Sl.later {w w' : World} {ao : Option Addr} {len cap : Nat} {xs : List Int} (h : Sl w ao len cap xs) (hb : Below w.heap.size w w') : Sl w' ao len cap xs :=
  ⟨h.1, h.2.1, h.2.2.1, h.2.2.2.1, h.2.2.2.2.1, h.2.2.2.2.2.later hb⟩
theorem Sl.nil (w : World) : Sl w none 0 0 [] := ⟨rfl, (fun x hx => by cases hx), fun _ => ⟨rfl, rfl⟩, Nat.le_refl _, Nat.zero_le _, fun k hk => by cases hk⟩
theorem Sl.ofRow {B : Nat} {w : World} {v : Value} {xs : List Int} (h : Row B w v xs) (hok : Okb xs) : ∃ ao cap, v = .slice ao xs.length cap ∧ Sl w ao xs.length cap xs := by
  obtain ⟨ao, cap, rfl, q1, q2, q3, q4⟩ := h.byt hok
  exact ⟨ao, cap, rfl, rfl, hok, q1, q2, q3, q4⟩
/-- Where a slice begins that is cut at i. -/
def cutA (ao : Option Addr) (cap i : Nat) : Option Addr := if cap - i = 0 then ao else ao.map (fun a => a.add i)
theorem elem22 : Try.prog.elem 22 = 5 := by kernel_rfl
theorem under22 : Try.prog.underlying 22 = some (.slice (Try.prog.elem 22)) := by rw [elem22]; exact Try.underlying22
theorem sliced_cut (ao : Option Addr) (cap i j : Nat) (h : i ≤ cap) : sliced ao i j cap 1 = .slice (cutA ao cap i) (j - i) (cap - i) := by
  unfold sliced cutA
  rw [Nat.mul_one]
  congr 1
  by_cases q : cap = i
  · rw [if_pos q, if_pos (by omega)]
  · rw [if_neg q, if_neg (by omega)]
theorem run_cut (w : World) (ao : Option Addr) (len cap i j : Nat) (h1 : i ≤ j) (h2 : j ≤ cap) : (Instr.slice 22 (.slice ao len cap) (some (.int .i64 (i : Int))) (some (.int .i64 (j : Int))) none).run Try.prog w = .ok (.slice (cutA ao cap i) (j - i) (cap - i)) w := by
  rw [run_slice_lh (P := Try.prog) (w := w) 22 ao len cap under22 .i64 .i64 (i : Int) (j : Int) (by omega) (by omega) (by omega), elem22, Try.sizeOf5]
  simp only [Result.andThen, Int.toNat_natCast]
  rw [sliced_cut _ _ _ _ (by omega)]
theorem run_from (w : World) (ao : Option Addr) (len cap i : Nat) (h1 : i ≤ len) (h2 : len ≤ cap) : (Instr.slice 22 (.slice ao len cap) (some (.int .i64 (i : Int))) none none).run Try.prog w = .ok (.slice (cutA ao cap i) (len - i) (cap - i)) w := by
  rw [run_slice_l (P := Try.prog) (w := w) 22 ao len cap under22 .i64 (i : Int) (by omega) (by omega), elem22, Try.sizeOf5]
  simp only [Result.andThen, Int.toNat_natCast]
  rw [sliced_cut _ _ _ _ (by omega)]
/-- What a cut slice holds. -/
theorem Sl.cut {w : World} {ao : Option Addr} {len cap : Nat} {xs : List Int} (h : Sl w ao len cap xs) (i j : Nat) (h1 : i ≤ j) (h2 : j ≤ len) : Sl w (cutA ao cap i) (j - i) (cap - i) ((xs.drop i).take (j - i)) := by
  obtain ⟨e1, e2, e3, e4, e5, e6⟩ := h
  refine ⟨by rw [List.length_take, List.length_drop]; omega, fun x hx => e2 x (List.mem_of_mem_drop (List.mem_of_mem_take hx)), fun hn => ?_, by omega, by omega, fun k hk => ?_⟩
  · unfold cutA at hn
    by_cases q : cap - i = 0
    · exact ⟨by omega, q⟩
    · rw [if_neg q] at hn
      have := e3 (by simpa using hn)
      omega
  · obtain ⟨hb, b, off, rfl, hc⟩ := e6 (i + k) (by omega)
    have ex : xof ((xs.drop i).take (j - i)) k = xof xs (i + k) := by
      unfold xof
      rw [List.getD_eq_getElem?_getD, List.getElem?_take_of_lt hk, List.getElem?_drop, List.getD_eq_getElem?_getD]
    refine ⟨by rw [ex]; exact hb, b, off + i, ?_, by rw [ex, Nat.add_assoc]; exact hc⟩
    unfold cutA
    rw [if_neg (by omega)]
    simp [Addr.add]
theorem Sl.from {w : World} {ao : Option Addr} {len cap : Nat} {xs : List Int} (h : Sl w ao len cap xs) (i : Nat) (h2 : i ≤ len) : Sl w (cutA ao cap i) (len - i) (cap - i) (xs.drop i) := by
  have := h.cut i len h2 (Nat.le_refl _)
  rw [List.take_of_length_le (by rw [List.length_drop, h.1]; omega)] at this
  exact this
theorem nl_bl (xs : List Int) : bl (xof xs) xs.length = nl xs := by
  apply List.ext_getElem
  · simp [bl, nl]
  · intro i h1 h2
    have hi : i < xs.length := by simpa [nl] using h2
    simp [bl, nl, xof, List.getElem?_eq_getElem hi]
theorem rtake_l {w : World} {ao : Option Addr} {len cap : Nat} {xs : List Int} (h : Sl w ao len cap xs) : Calls Try.prog 28 #[.slice ao len cap] w fun e w' => e = .returned (takeV (xof xs) len (enL xs)) ∧ w' = w := by
  have he := end_enL xs h.2.1
  rw [h.1] at he
  exact rtake_any ao len cap _ _ w h.2.2.2.2.2 h.2.2.2.1 h.2.2.2.2.1 he
theorem take_l {w : World} {ao : Option Addr} {len cap : Nat} {xs : List Int} (h : Sl w ao len cap xs) : Calls Try.prog 37 #[.slice ao len cap] w fun e w' => e = .returned (takeV (xof xs) len (enL xs)) ∧ w' = w := by
  have he := end_enL xs h.2.1
  rw [h.1] at he
  exact take_any ao len cap _ _ w h.2.2.2.2.2 h.2.2.2.1 h.2.2.2.2.1 he
theorem rsum_l {w : World} {ao : Option Addr} {len cap : Nat} {xs : List Int} (h : Sl w ao len cap xs) : Calls Try.prog 25 #[.slice ao len cap] w fun e w' => e = .returned (.int .u32 (more 0 (nl xs) : Nat)) ∧ w' = w := by
  have := rsum_any ao len cap _ w h.2.2.2.2.2 (by have := h.2.2.2; omega)
  rw [← h.1, nl_bl, h.1] at this
  exact this
theorem sum_l {w : World} {ao : Option Addr} {len cap : Nat} {xs : List Int} (h : Sl w ao len cap xs) : Calls Try.prog 34 #[.slice ao len cap] w fun e w' => e = .returned (.int .u32 (more 0 (nl xs) : Nat)) ∧ w' = w := by
  have := sum_any ao len cap _ w h.2.2.2.2.2 (by have := h.2.2.2; omega)
  rw [← h.1, nl_bl, h.1] at this
  exact this
theorem in4 : InSize 4 := by unfold InSize; decide
theorem rread4_l {w : World} {ao : Option Addr} {len cap : Nat} {xs : List Int} (h : Sl w ao len cap xs) (h4 : 4 ≤ len) : Calls Try.prog 29 #[.slice ao len cap, .int .i64 4] w fun e w' => e = .returned (.tuple #[.int .u64 (fv (xof xs) 4 : Nat), .int .i64 0]) ∧ w' = w := by
  have := rread_any ao len cap _ 4 w h.2.2.2.2.2 h.2.2.2.1
  unfold readV at this
  rw [if_pos in4, if_neg (by omega)] at this
  exact this
theorem read4_l {w : World} {ao : Option Addr} {len cap : Nat} {xs : List Int} (h : Sl w ao len cap xs) (h4 : 4 ≤ len) : Calls Try.prog 26 #[.slice ao len cap, .int .i64 4] w fun e w' => e = .returned (.tuple #[.int .u64 (fv (xof xs) 4 : Nat), .int .i64 0]) ∧ w' = w := by
  have := read_any ao len cap _ 4 w h.2.2.2.2.2 h.2.2.2.1
  unfold readV at this
  rw [if_pos in4, if_neg (by omega)] at this
  exact this
theorem fv4_lt {xs : List Int} (h : Okb xs) (h4 : 4 ≤ xs.length) : fv (xof xs) 4 < 4294967296 := by
  have := fv_lt (xof xs) 4 (fun j hj => by
    have := h xs[j] (List.getElem_mem (by omega))
    simp [xof, List.getElem?_eq_getElem (show j < xs.length by omega)]
    omega)
  omega
theorem nl_lt {xs : List Int} (h : Okb xs) : ∀ x ∈ nl xs, x < 256 := fun x hx => by
  obtain ⟨y, hy, rfl⟩ := List.mem_map.1 hx
  have := h y hy
  omega
theorem more0_lt {xs : List Int} (h : Okb xs) : more 0 (nl xs) < 4294967296 := more_lt (by decide) (nl_lt h)
end Go.Proofs.Ytbinabegiikcaaa
