/- The document's own Get. -/
import Derived.Test.YtifgojkmdicdmaaMlat
import Derived.Test.YtifgojkmdicdmaaRrd
namespace Go.Proofs.Ytifgojkmdicdmaa
open Go.RowKit
set_option linter.unusedVariables false
set_option linter.unusedSimpArgs false

theorem cells_set5 {w : World} {p : Nat} {c0 c1 c2 c3 c4 : Value} {t : TypeId} (h : w.heap[p]? = some (.cells #[c0, c1, c2, c3, c4] t (0, 0))) (a b c d e : Value) :
    let wf := ((((w.setCell ⟨p, 0, none⟩ a).setCell ⟨p, 1, none⟩ b).setCell ⟨p, 2, none⟩ c).setCell ⟨p, 3, none⟩ d).setCell ⟨p, 4, none⟩ e
    wf.cell? ⟨p, 0, none⟩ = some a ∧ wf.cell? ⟨p, 1, none⟩ = some b ∧ wf.cell? ⟨p, 2, none⟩ = some c ∧ wf.cell? ⟨p, 3, none⟩ = some d ∧ wf.cell? ⟨p, 4, none⟩ = some e := by
  have hs := heap_set (heap_set (heap_set (heap_set (heap_set h 0 a) 1 b) 2 c) 3 d) 4 e
  refine ⟨?_, ?_, ?_, ?_, ?_⟩ <;> rw [cell_of hs] <;> rfl
theorem below_set5 {w wx : World} (h : Below w.heap.size w wx) (a b c d e : Value) : Below w.heap.size w (((((wx.setCell ⟨w.heap.size, 0, none⟩ a).setCell ⟨w.heap.size, 1, none⟩ b).setCell ⟨w.heap.size, 2, none⟩ c).setCell ⟨w.heap.size, 3, none⟩ d).setCell ⟨w.heap.size, 4, none⟩ e) :=
  Below.grown h (grown_trans (grown_trans (grown_trans (grown_trans (grown_set wx w.heap.size 0 a) (grown_set _ w.heap.size 1 b)) (grown_set _ w.heap.size 2 c)) (grown_set _ w.heap.size 3 d)) (grown_set _ w.heap.size 4 e)) h.size (fun k hk => by simp only [Option.some.injEq] at hk; omega)
end Go.Proofs.Ytifgojkmdicdmaa
