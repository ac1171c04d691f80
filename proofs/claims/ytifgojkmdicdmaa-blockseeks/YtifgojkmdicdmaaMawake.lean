/- The law's own mem that every program must know. -/
import Derived.Test.YtifgojkmdicdmaaMpm
import Derived.Lib.SlBytesConst
namespace Go.Proofs.Ytifgojkmdicdmaa
open Go.RowKit
set_option linter.unusedVariables false
set_option linter.unusedSimpArgs false

theorem sl_byte (w : World) (c : Nat) (hc : c < 256) : Sl (w.alloc (.cells #[.int .u8 (c : Int)] 5 (1, 2))) (some ⟨w.heap.size, 0, none⟩) 1 1 [(c : Int)] := by
  refine ⟨rfl, fun x hx => by simp at hx; omega, (fun e => by cases e), Nat.le_refl _, by unfold maxLen; omega, fun k hk => ?_⟩
  obtain rfl : k = 0 := by omega
  refine ⟨by simpa [xof] using hc, w.heap.size, 0, rfl, ?_⟩
  have e : (w.alloc (.cells #[.int .u8 (c : Int)] 5 (1, 2))).heap[w.heap.size]? = some (.cells #[.int .u8 (c : Int)] 5 (1, 2)) := heap_alloc_new w _
  unfold World.cell?
  rw [e]
  simp [xof]
def eA : EntV := ⟨[97], 5, false, 0, [120]⟩
def eB : EntV := ⟨[97], 7, true, 0, []⟩
theorem add_a : addE [] eA = (0, [eA]) := by simp [addE, mayE, hasE, putE, atE, eA]
theorem ahead_ab : ahead eA eB = 1 := by simp [ahead, eA, eB, cmp]
theorem add_b : addE [eA] eB = (0, [eB, eA]) := by simp [addE, mayE, hasE, putE, atE, ahead_ab]; simp [eB]
theorem get_ab : getE [eB, eA] [97] 6 = some eA := by simp [getE, eA, eB, cmp]
theorem ord_nil : ordE [] := List.Pairwise.nil
theorem ok_nil : okE [] := fun e he => by cases he
theorem ord_a : ordE [eA] := List.pairwise_singleton _ _
theorem ok_a : okE [eA] := by have := addE_ok ok_nil eA; rw [add_a] at this; exact this
theorem ord_ab : ordE [eB, eA] := by have := addE_ord ord_a eB; rw [add_b] at this; exact this
theorem ok_ab : okE [eB, eA] := by have := addE_ok ok_a eB; rw [add_b] at this; exact this
theorem in64_of {n : Int} (h1 : -9223372036854775808 ≤ n) (h2 : n ≤ 9223372036854775807) : In64 n := ⟨h1, h2⟩
theorem refs_pair {a b : Nat} {k v : Value} {s t : Int} {g : Bool} (hk : ∀ x, Refs k x → x = a) (hv : ∀ x, Refs v x → x = b) : ∀ u ∈ [k, .int .i64 s, .bool g, .int .i64 t, v], ∀ x, Refs u x → x = a ∨ x = b := fun u hu x hx => by
  simp only [List.mem_cons, List.not_mem_nil, or_false] at hu
  rcases hu with rfl | rfl | rfl | rfl | rfl
  · exact .inl (hk x hx)
  · exact (refs_int hx).elim
  · exact (refs_bool hx).elim
  · exact (refs_int hx).elim
  · exact .inr (hv x hx)
theorem refs_at {a l c x : Nat} (h : Refs (.slice (some ⟨a, 0, none⟩) l c) x) : x = a := by
  obtain ⟨off, l', c', e, _⟩ := h
  simp only [Value.slice.injEq, Option.some.injEq, Addr.mk.injEq, and_true] at e
  exact e.1.1.symm
theorem refs_none {a x : Nat} (h : Refs (.slice none 0 0) x) : x = a := by
  obtain ⟨off, l', c', e, _⟩ := h
  cases e

end Go.Proofs.Ytifgojkmdicdmaa
