/- What sevens and goodUvarint answer. -/
import Derived.Test.YtifgojkmdicdmaaBit
namespace Go.Proofs.Ytifgojkmdicdmaa
open Go.RowKit

set_option maxHeartbeats 1000000 in
theorem sevens_any (ao : Option Addr) (len cap : Nat) (X : Nat → Nat) (w : World) (hb : Byt w ao len X) (hl : len ≤ 10) (hv : val X len < 18446744073709551616) :
    Calls Try.prog 67 #[.slice ao len cap] w fun e w' => e = .returned (.int .u64 ((val X len : Nat) : Int)) ∧ w' = w := by
  have HB : Hid (Byt w ao len X) := hb
  have HV : Hid (val X len < 18446744073709551616) := hv
  clear hb hv
  go_enter Try.func67, Try.ntmps67
  go_wp2
  go_loopg [3, 8] len (fun g n i wr => ∃ (k : Nat), k + g = len ∧ n = .int .u64 ((val X k : Nat) : Int) ∧ i = .int .i64 (k : Int) ∧ wr = w)
  case atStart => exact ⟨0, by omega, rfl, rfl, rfl⟩
  case round =>
    obtain ⟨k, hk, rfl, rfl, rfl⟩ := hrel
    by_cases h : k < len
    · obtain ⟨hx, b, off, rfl, hc⟩ := HB.out k h
      have h' : (k : Int) < (len : Int) := by omega
      have hk10 : (k : Int) < 10 := by omega
      obtain ⟨GK, HG⟩ : ∃ g, Hid (g < gk ∧ k + 1 + g = len) := ⟨gk - 1, by omega, by omega⟩
      clear hk
      go_wp2
      go_roundg GK
      case measure => exact HG.out.1
      case rel => exact ⟨k + 1, HG.out.2, by rw [sev_step X k hx (Nat.lt_of_le_of_lt (val_mono X (by omega)) HV.out)], by go_num, rfl⟩
    · have h' : (len : Int) ≤ (k : Int) := by omega
      obtain rfl : k = len := by omega
      clear hk HB
      go_wp2
      go_ret
      exact ⟨rfl, rfl⟩

instance (X : Nat → Nat) (E : Nat) : Decidable (good X E) := by unfold good; infer_instance
theorem good_iff {X : Nat → Nat} {E : Nat} {b : Bool} (h : b = true ↔ good X E) : b = decide (good X E) := by
  cases b with
  | true => exact (decide_eq_true (h.1 rfl)).symm
  | false => exact (decide_eq_false fun g => by cases h.2 g).symm

set_option maxHeartbeats 1000000 in
theorem goodU_any (ao : Option Addr) (E cap : Nat) (X : Nat → Nat) (w : World) (hb : Byt w ao (E + 1) X) (hl : E + 1 ≤ maxLen) :
    Calls Try.prog 66 #[.slice ao (E + 1) cap] w fun e w' => e = .returned (.bool (decide (good X E))) ∧ w' = w := by
  obtain ⟨hx, b, off, rfl, hc⟩ := hb E (by omega)
  clear hb
  unfold maxLen at hl
  go_enter Try.func66, Try.ntmps66
  go_wp2
  all_goals
    go_ret
    refine ⟨congrArg (fun b => Ending.returned (.bool b)) (good_iff ?_), rfl⟩
    simp [good]
    first
      | omega
      | (obtain rfl : E = 9 := by omega
         omega)

end Go.Proofs.Ytifgojkmdicdmaa
