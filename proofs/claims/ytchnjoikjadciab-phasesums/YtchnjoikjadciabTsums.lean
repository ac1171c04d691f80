/- What turnedSums does at every row of whole numbers between -2^40 and 2^40, both ways: the four sums of turned terms; all that it writes is new memory. -/
import Derived.Test.YtchnjoikjadciabTurn
import Derived.BigRegion
import Derived.BigQuiet
import Derived.Deep.LoopGhost
import Derived.Deep.RegionWith
namespace Go.Proofs.Ytchnjoikjadciab
open Go.RowKit

def c4 (a b : Nat → Nat) : Array Value := #[.complex .f64 (a 0) (b 0), .complex .f64 (a 1) (b 1), .complex .f64 (a 2) (b 2), .complex .f64 (a 3) (b 3)]
theorem c4_get (a b : Nat → Nat) (j : Nat) (hj : j < 4) : (c4 a b)[j]? = some (.complex .f64 (a j) (b j)) := by
  have : j = 0 ∨ j = 1 ∨ j = 2 ∨ j = 3 := by omega
  rcases this with h | h | h | h <;> subst h <;> rfl
theorem c4_set (a b : Nat → Nat) (j : Nat) (hj : j < 4) (r i : Nat) : (c4 a b).setIfInBounds j (.complex .f64 r i) = c4 (fun t => if t = j then r else a t) (fun t => if t = j then i else b t) := by
  have : j = 0 ∨ j = 1 ∨ j = 2 ∨ j = 3 := by omega
  rcases this with h | h | h | h <;> subst h <;> rfl
@[go_sem] theorem c4_0 (a b : Nat → Nat) : (c4 a b)[0]? = some (.complex .f64 (a 0) (b 0)) := rfl
@[go_sem] theorem c4_1 (a b : Nat → Nat) : (c4 a b)[1]? = some (.complex .f64 (a 1) (b 1)) := rfl
@[go_sem] theorem c4_2 (a b : Nat → Nat) : (c4 a b)[2]? = some (.complex .f64 (a 2) (b 2)) := rfl
@[go_sem] theorem c4_3 (a b : Nat → Nat) : (c4 a b)[3]? = some (.complex .f64 (a 3) (b 3)) := rfl
@[go_sem] theorem c4_size (a b : Nat → Nat) : (c4 a b).size = 4 := rfl
@[go_sem] theorem c4_toList (a b : Nat → Nat) : (c4 a b).toList = [.complex .f64 (a 0) (b 0), .complex .f64 (a 1) (b 1), .complex .f64 (a 2) (b 2), .complex .f64 (a 3) (b 3)] := rfl
@[go_sem] theorem c4_over (a b c d : Nat → Nat) : ((((c4 a b).setIfInBounds 0 (.complex .f64 (c 0) (d 0))).setIfInBounds 1 (.complex .f64 (c 1) (d 1))).setIfInBounds 2 (.complex .f64 (c 2) (d 2))).setIfInBounds 3 (.complex .f64 (c 3) (d 3)) = c4 c d := rfl
theorem c4_idx (a b : Nat → Nat) (j : Nat) (hj : j < 4) (w : World) : (Instr.index 26 (.agg #[.complex .f64 (a 0) (b 0), .complex .f64 (a 1) (b 1), .complex .f64 (a 2) (b 2), .complex .f64 (a 3) (b 3)]) (.int .i64 (j : Int))).run Try.prog w = .ok (.complex .f64 (a j) (b j)) w := by
  have : j = 0 ∨ j = 1 ∨ j = 2 ∨ j = 3 := by omega
  rcases this with h | h | h | h <;> subst h
  · show (Instr.index 26 _ (.int .i64 0)).run Try.prog w = _
    kernel_rfl
  · show (Instr.index 26 _ (.int .i64 1)).run Try.prog w = _
    kernel_rfl
  · show (Instr.index 26 _ (.int .i64 2)).run Try.prog w = _
    kernel_rfl
  · show (Instr.index 26 _ (.int .i64 3)).run Try.prog w = _
    kernel_rfl

theorem wrapT (way : Int) (j k : Nat) (hw : way = 1 ∨ way = -1) (hj : j < 4) (hk : k < 4) : IntKind.i64.wrap (IntKind.i64.wrap (way * (j : Int)) * (k : Int)) % 4 = way * j * k % 4 := by
  have h1 : j = 0 ∨ j = 1 ∨ j = 2 ∨ j = 3 := by omega
  have h2 : k = 0 ∨ k = 1 ∨ k = 2 ∨ k = 3 := by omega
  rcases hw with h | h <;> rcases h1 with g | g | g | g <;> rcases h2 with f | f | f | f <;> subst h g f <;> decide

/-- The words of the four sums. -/
def tsR (a b : Nat → Nat) (way : Int) : Nat → Nat := fun t => (SB a b way t 4).1
def tsI (a b : Nat → Nat) (way : Int) : Nat → Nat := fun t => (SB a b way t 4).2

set_option maxHeartbeats 4000000 in
theorem ts_any (way : Int) (hw : way = 1 ∨ way = -1) (a b : Nat → Nat) (p q : Nat → Int) (ha : ∀ j, j < 4 → Whole (a j) (p j)) (hb : ∀ j, j < 4 → Whole (b j) (q j)) (hp : ∀ j, j < 4 → Small (2 ^ 40) (p j)) (hq : ∀ j, j < 4 → Small (2 ^ 40) (q j)) (w : World) :
    Calls Try.prog 17 #[.agg (c4 a b), .int .i64 way] w fun e w' => e = .returned (.agg (c4 (tsR a b way) (tsI a b way))) ∧ ∃ n, w' = (((w.alloc (.cells (c4 a b) 26)).alloc (.cells (c4 (tsR a b way) (tsI a b way)) 26)).alloc (.cells (c4 (tsR a b way) (tsI a b way)) 26)).drewN n := by
  have HS : Hid (∀ j k : Nat, j < 4 → k < 4 → ∃ mr mi, cMulBits (a j) (b j) (tre (IntKind.i64.wrap (IntKind.i64.wrap (way * (j : Int)) * (k : Int)) % 4)) (tim (IntKind.i64.wrap (IntKind.i64.wrap (way * (j : Int)) * (k : Int)) % 4)) = some (mr, mi) ∧ cSumBits .add .f64 (SB a b way k j).1 (SB a b way k j).2 mr mi = some ((SB a b way k (j + 1)).1, (SB a b way k (j + 1)).2)) :=
    fun j k hj hk => by rw [wrapT way j k hw hj hk]; exact SB_step way k j hj ha hb hp hq
  clear ha hb hp hq hw
  go_enter Try.func17, Try.ntmps17
  go_wp2
  go_loopg [9] 4 (fun g i wr => ∃ (k n : Nat), k + g = 4 ∧ i = .int .i64 (k : Int) ∧ wr = (((w.alloc (.cells (c4 a b) 26)).alloc (.cells (c4 (fun _ => 0) (fun _ => 0)) 26)).alloc (.cells (c4 (fun t => (SB a b way t (dn k 0 t)).1) (fun t => (SB a b way t (dn k 0 t)).2)) 26)).drewN n)
  case atStart =>
    refine ⟨0, 0, by omega, rfl, ?_⟩
    rfl
  case round =>
    obtain ⟨k, n, hk, rfl, rfl⟩ := hrel
    by_cases hk4 : k = 4
    · subst hk4
      clear hk HS
      go_wp2
      refine bodyPost_ret (v := .agg (c4 (tsR a b way) (tsI a b way))) (by simp [results, Try.results17, go_sem]; rfl) rfl ⟨rfl, n, rfl⟩
    have hk3 : k < 4 := by omega
    have hk3' : (k : Int) < 4 := by omega
    obtain ⟨GK, HG⟩ : ∃ g, Hid (g < gk ∧ k + 1 + g = 4) := ⟨gk - 1, by omega, by omega⟩
    clear hk hk4
    go_wp2
    go_loopg [13] 4 (fun g i wr => ∃ (j n : Nat), j + g = 4 ∧ i = .int .i64 (j : Int) ∧ wr = (((w.alloc (.cells (c4 a b) 26)).alloc (.cells (c4 (fun _ => 0) (fun _ => 0)) 26)).alloc (.cells (c4 (fun t => (SB a b way t (dn k j t)).1) (fun t => (SB a b way t (dn k j t)).2)) 26)).drewN n)
    case atStart => exact ⟨0, n, by omega, rfl, rfl⟩
    case round =>
      obtain ⟨j, n, hj, rfl, rfl⟩ := hrel
      by_cases hj4 : j = 4
      · subst hj4
        clear hj HS
        go_wp2
        go_roundg GK
        case measure => exact HG.out.1
        case rel => exact ⟨k + 1, n, HG.out.2, by go_num, by simp only [dn_next]⟩
      have hj3 : j < 4 := by omega
      have hj3' : (j : Int) < 4 := by omega
      obtain ⟨GJ, HJ⟩ : ∃ g, Hid (g < gk ∧ j + 1 + g = 4) := ⟨gk - 1, by omega, by omega⟩
      clear hj hj4
      obtain ⟨mr, mi, e1, e2⟩ := HS.out j k hj3 hk3
      have hmul := fun t w => run_complex_mul (P := Try.prog) w t _ _ _ _ _ _ e1
      have hadd := fun t w => run_complex_sum (P := Try.prog) w .add (Or.inl rfl) t _ _ _ _ _ _ _ e2
      clear e1 e2 HS
      have hidx := fun w => c4_idx a b j hj3 w
      have hget : (c4 (fun t => (SB a b way t (dn k j t)).1) (fun t => (SB a b way t (dn k j t)).2))[k]? = some (.complex .f64 (SB a b way k j).1 (SB a b way k j).2) := by
        rw [c4_get _ _ k hk3]; simp [dn]
      have hset : (c4 (fun t => (SB a b way t (dn k j t)).1) (fun t => (SB a b way t (dn k j t)).2)).setIfInBounds k (.complex .f64 (SB a b way k (j + 1)).1 (SB a b way k (j + 1)).2) = c4 (fun t => (SB a b way t (dn k (j + 1) t)).1) (fun t => (SB a b way t (dn k (j + 1) t)).2) := by
        rw [c4_set _ _ k hk3]
        exact congr (congrArg c4 (SB_upd (fun x => x.1) a b way k j)) (SB_upd (fun x => x.2) a b way k j)
      go_wp2
      go_region_with (go_at_call 9; refine (turn_any _ _).mono ?_; rintro e w' ⟨rfl, rfl⟩)
      all_goals
        go_wp2
        go_roundg GJ
        case measure => exact HJ.out.1
        case rel => exact ⟨j + 1, _, HJ.out.2, by go_num, rfl⟩
end Go.Proofs.Ytchnjoikjadciab
