/- What a bound on the bulk says of a slice of bytes that came in. -/
import Derived.Test.YtgfkjbckhgndcaaOpen
namespace Go.Proofs.Ytgfkjbckhgndcaa
open Go.RowKit
set_option linter.unusedVariables false

theorem bulk_pos {H : Type} (d : DataW H) : 0 < Rows.uptoBulk d := by
  cases d with
  | lit l => cases l <;> simp [Rows.uptoBulk]
  | _ => simp [Rows.uptoBulk]
theorem bulk_len {H : Type} : ∀ l : List (DataW H), l.length ≤ Rows.uptoBulkAll l
  | [] => Nat.zero_le _
  | d :: l => by
    have h1 := bulk_pos d
    have h2 := bulk_len l
    simp only [Rows.uptoBulkAll, List.length_cons]
    omega
theorem bulk_slice {H : Type} {d : DataW H} {cap : Nat} (h : cap = 0 ∨ ∃ e s, d = .slice e s ∧ e.length + s.length = cap) : cap ≤ Rows.uptoBulk d := by
  rcases h with h | ⟨e, s, rfl, hs⟩
  · omega
  · have h1 := bulk_len e
    have h2 := bulk_len s
    simp only [Rows.uptoBulk]
    omega
end Go.Proofs.Ytgfkjbckhgndcaa
