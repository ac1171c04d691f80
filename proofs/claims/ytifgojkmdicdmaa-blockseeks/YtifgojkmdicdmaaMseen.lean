/- The document's own Seen. -/
import Derived.Test.YtifgojkmdicdmaaMlist
namespace Go.Proofs.Ytifgojkmdicdmaa
open Go.RowKit
set_option linter.unusedVariables false
set_option linter.unusedSimpArgs false

theorem seen1_yes {s : Int} {out : List EntV} {e : EntV} (h1 : e.seq ≤ s) (h2 : out = [] ∨ ∃ x, out.getLast? = some x ∧ cmp x.key e.key ≠ 0) : seen1 s out e = out ++ [e] := by unfold seen1; rw [if_pos ⟨h1, h2⟩]
theorem seen1_old {s : Int} {out : List EntV} {e : EntV} (h1 : ¬ e.seq ≤ s) : seen1 s out e = out := by unfold seen1; rw [if_neg (fun h => h1 h.1)]
theorem seen1_like {s : Int} {out : List EntV} {e x : EntV} (hx : out.getLast? = some x) (h : cmp x.key e.key = 0) : seen1 s out e = out := by
  unfold seen1
  rw [if_neg]
  rintro ⟨_, h2 | ⟨y, hy, hn⟩⟩
  · rw [h2] at hx; cases hx
  · rw [hx] at hy
    simp only [Option.some.injEq] at hy
    subst hy
    exact hn h
end Go.Proofs.Ytifgojkmdicdmaa
