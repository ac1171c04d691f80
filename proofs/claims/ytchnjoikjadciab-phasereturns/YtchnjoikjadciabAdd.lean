/- What Add does to a meter: taken, or refused by the number, or refused by the count. -/
import Derived.Test.YtchnjoikjadciabFour
namespace Go.Proofs.Ytchnjoikjadciab
open Go.RowKit

set_option maxHeartbeats 1000000 in
theorem add_out (g : Nat) (t n : Int) (w : World) (hn : n < 0 ∨ 1048576 < n) : Calls Try.prog 11 #[.pointer (some ⟨g, 0, none⟩), .int .i64 t, .int .i64 n] w fun e w' => e = .returned (.bool false) ∧ w' = w := by
  rcases hn with hn | hn
  · have hd : decide (n < 0) = true := decide_eq_true hn
    go_enter Try.func11, Try.ntmps11
    go_wp2
    go_ret
    exact ⟨rfl, rfl⟩
  · have hd : decide (n < 0) = false := decide_eq_false (by omega)
    have h0 : ¬ n < 0 := by omega
    go_enter Try.func11, Try.ntmps11
    go_wp2
    go_ret
    exact ⟨rfl, rfl⟩

set_option maxHeartbeats 1000000 in
theorem add_full (g : Nat) (t n v : Int) (w : World) (h0 : 0 ≤ n) (h1 : n ≤ 1048576) (hv : 0 ≤ v ∧ v ≤ 274877906944) (hc : w.cell? ⟨g, (t % 4).toNat, none⟩ = some (.int .i64 v)) (hs : 274877906944 < v + n) :
    Calls Try.prog 11 #[.pointer (some ⟨g, 0, none⟩), .int .i64 t, .int .i64 n] w fun e w' => e = .returned (.bool false) ∧ ∃ m, w' = w.drewN m := by
  have hd : decide (n < 0) = false := decide_eq_false (by omega)
  have hn : ¬ n < 0 := by omega
  have hn2 : ¬ 1048576 < n := by omega
  have t0 : 0 ≤ t % 4 := by omega
  have t4 : t % 4 < 4 := by omega
  have hw : wrap64 (v + n) = v + n := by unfold wrap64; omega
  clear h0 h1 hv
  go_enter Try.func11, Try.ntmps11
  go_wp2
  go_quiet (first | (go_at_call 18; refine Calls.quiet_of_same (place_any _ _)))
  go_wp2
  go_ret
  exact ⟨rfl, _, rfl⟩

set_option maxHeartbeats 1000000 in
theorem add_take (g : Nat) (t n v : Int) (w : World) (h0 : 0 ≤ n) (h1 : n ≤ 1048576) (hv : 0 ≤ v ∧ v ≤ 274877906944) (hc : w.cell? ⟨g, (t % 4).toNat, none⟩ = some (.int .i64 v)) (hf : w.frozen? ⟨g, (t % 4).toNat, none⟩ = false) (hs : v + n ≤ 274877906944) :
    Calls Try.prog 11 #[.pointer (some ⟨g, 0, none⟩), .int .i64 t, .int .i64 n] w fun e w' => e = .returned (.bool true) ∧ ∃ m, w' = (w.setCell ⟨g, (t % 4).toNat, none⟩ (.int .i64 (v + n))).drewN m := by
  have hd : decide (n < 0) = false := decide_eq_false (by omega)
  have hn : ¬ n < 0 := by omega
  have hn2 : ¬ 1048576 < n := by omega
  have t0 : 0 ≤ t % 4 := by omega
  have t4 : t % 4 < 4 := by omega
  have hw : wrap64 (v + n) = v + n := by unfold wrap64; omega
  have hs' : ¬ 274877906944 < v + n := by omega
  clear h0 h1 hv
  go_enter Try.func11, Try.ntmps11
  go_wp2
  go_quiet (first | (go_at_call 18; refine Calls.quiet_of_same (place_any _ _)))
  go_wp2
  go_ret
  exact ⟨rfl, _, rfl⟩
end Go.Proofs.Ytchnjoikjadciab
