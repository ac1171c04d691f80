/- What the reference's Times and Forth do at whole numbers between -2^40 and 2^40. -/
import Derived.Test.YtchnjoikjadciaaFour
import Derived.Deep.Cut
import Derived.Deep.CutRange
namespace Go.Proofs.Ytchnjoikjadciaa
open Go.RowKit

theorem wrap64_small (n : Int) (h : Small (2 ^ 50) n) : wrap64 n = n := by unfold Small at h; unfold wrap64; omega

theorem unit_small {B p : Int} (hp : Small B p) (u : Int) (hu : u = 0 ∨ u = 1 ∨ u = -1) : Small B (p * u) := by
  unfold Small at *
  rcases hu with h | h | h <;> rw [h] <;> omega

set_option maxHeartbeats 1000000 in
theorem times_any (a b t : Int) (ha : Small (2 ^ 40) a) (hb : Small (2 ^ 40) b) (w : World) :
    Calls Try.prog 26 #[.agg #[.int .i64 a, .int .i64 b], .agg #[.int .i64 (rre t), .int .i64 (rim t)]] w fun e w' => e = .returned (.agg #[.int .i64 (mre a b t), .int .i64 (mim a b t)]) ∧
      w' = ((w.alloc (.cells #[.int .i64 a, .int .i64 b] 26)).alloc (.cells #[.int .i64 (rre t), .int .i64 (rim t)] 26)).alloc (.cells #[.int .i64 (mre a b t), .int .i64 (mim a b t)] 26) := by
  have big : ∀ n, Small (2 ^ 40) n → Small (2 ^ 50) n := fun n h => by unfold Small at *; omega
  have e1 : wrap64 (a * rre t) = a * rre t := wrap64_small _ (big _ (unit_small ha _ (rre_cases t)))
  have e2 : wrap64 (b * rim t) = b * rim t := wrap64_small _ (big _ (unit_small hb _ (rim_cases t)))
  have e3 : wrap64 (a * rim t) = a * rim t := wrap64_small _ (big _ (unit_small ha _ (rim_cases t)))
  have e4 : wrap64 (b * rre t) = b * rre t := wrap64_small _ (big _ (unit_small hb _ (rre_cases t)))
  have e5 : wrap64 (a * rre t - b * rim t) = mre a b t := wrap64_small _ (by have := mre_small t ha hb; unfold Small mre at *; omega)
  have e6 : wrap64 (a * rim t + b * rre t) = mim a b t := wrap64_small _ (by have := mim_small t ha hb; unfold Small mim at *; omega)
  clear ha hb big
  go_enter Try.func26, Try.ntmps26
  go_wp2
  refine bodyPost_ret (v := .agg #[.int .i64 (mre a b t), .int .i64 (mim a b t)]) (by simp [results, Try.results26, go_sem]) rfl ⟨rfl, rfl⟩

theorem t8_re (x y : Nat → Int) (j : Nat) (hj : j < 4) : (t8 x y)[j * 2]? = some (.int .i64 (x j)) := by
  have : j = 0 ∨ j = 1 ∨ j = 2 ∨ j = 3 := by omega
  rcases this with h | h | h | h <;> subst h <;> rfl
theorem t8_im (x y : Nat → Int) (j : Nat) (hj : j < 4) : (t8 x y)[j * 2 + 1]? = some (.int .i64 (y j)) := by
  have : j = 0 ∨ j = 1 ∨ j = 2 ∨ j = 3 := by omega
  rcases this with h | h | h | h <;> subst h <;> rfl
theorem t8_set (x y : Nat → Int) (k : Nat) (hk : k < 4) (r i : Int) : ((t8 x y).setIfInBounds (k * 2) (.int .i64 r)).setIfInBounds (k * 2 + 1) (.int .i64 i) = t8 (fun t => if t = k then r else x t) (fun t => if t = k then i else y t) := by
  have : k = 0 ∨ k = 1 ∨ k = 2 ∨ k = 3 := by omega
  rcases this with h | h | h | h <;> subst h <;> rfl

theorem t8_one (x y : Nat → Int) : (t8 x y).all (·.oneCell') = true := by simp [t8, Value.oneCell']

/-- What the loops of the reference's Forth hold of memory: the row, the result's place, the sums so far; nothing that was there has turned. -/
def Own (x y U V : Nat → Int) (w wr : World) : Prop :=
  wr.heap[w.heap.size]? = some (.cells (t8 x y) 30 (0, 0)) ∧ wr.heap[w.heap.size + 1]? = some (.cells (t8 (fun _ => 0) (fun _ => 0)) 30 (0, 0)) ∧ wr.heap[w.heap.size + 1 + 1]? = some (.cells (t8 U V) 30 (0, 0)) ∧ Below w.heap.size w wr

theorem Own.size {x y U V : Nat → Int} {w wr : World} (h : Own x y U V w wr) : w.heap.size + 1 + 1 < wr.heap.size := by
  rcases Nat.lt_or_ge (w.heap.size + 1 + 1) wr.heap.size with g | g
  · exact g
  · have := h.2.2.1; simp [g] at this

theorem Own.alloc {x y U V : Nat → Int} {w wr : World} (h : Own x y U V w wr) (o : Obj) : Own x y U V w (wr.alloc o) := by
  have hs := h.size
  refine ⟨?_, ?_, ?_, h.2.2.2.alloc (by omega) o⟩
  · rw [Below.heap_alloc _ _ _ (by omega)]; exact h.1
  · rw [Below.heap_alloc _ _ _ (by omega)]; exact h.2.1
  · rw [Below.heap_alloc _ _ _ (by omega)]; exact h.2.2.1

theorem Own.drewN {x y U V : Nat → Int} {w wr : World} (h : Own x y U V w wr) (n : Nat) : Own x y U V w (wr.drewN n) := ⟨h.1, h.2.1, h.2.2.1, Below_drewN h.2.2.2 n⟩

theorem Own.drew {x y U V : Nat → Int} {w wr : World} (h : Own x y U V w wr) : Own x y U V w wr.drew := ⟨h.1, h.2.1, h.2.2.1, h.2.2.2.drew⟩

theorem Own.other {x y U V : Nat → Int} {w wr : World} (h : Own x y U V w wr) (g i : Nat) (hg : w.heap.size + 1 + 1 < g) (v : Value) : Own x y U V w (wr.setCell ⟨g, i, none⟩ v) := by
  refine ⟨?_, ?_, ?_, h.2.2.2.setCell (by show _ ≤ g; omega) v⟩
  · rw [heap_setCell_other _ _ _ _ (by show _ ≠ g; omega)]; exact h.1
  · rw [heap_setCell_other _ _ _ _ (by show _ ≠ g; omega)]; exact h.2.1
  · rw [heap_setCell_other _ _ _ _ (by show _ ≠ g; omega)]; exact h.2.2.1

theorem Own.set {x y U V : Nat → Int} {w wr : World} (h : Own x y U V w wr) (k : Nat) (hk : k < 4) (r i : Int) (m : Nat) :
    Own x y (fun t => if t = k then r else U t) (fun t => if t = k then i else V t) w (((wr.setCell ⟨w.heap.size + 1 + 1, k * 2, none⟩ (.int .i64 r)).drewN m).setCell ⟨w.heap.size + 1 + 1, k * 2 + 1, none⟩ (.int .i64 i)) := by
  have h1 := heap_setCell_same wr (w.heap.size + 1 + 1) (k * 2) (t8 U V) 30 (.int .i64 r) h.2.2.1
  have h2 := heap_setCell_same ((wr.setCell ⟨w.heap.size + 1 + 1, k * 2, none⟩ (.int .i64 r)).drewN m) (w.heap.size + 1 + 1) (k * 2 + 1) _ 30 (.int .i64 i) h1
  rw [t8_set U V k hk] at h2
  refine ⟨?_, ?_, h2, ?_⟩
  · rw [heap_setCell_other _ _ _ _ (by show _ ≠ w.heap.size + 1 + 1; omega)]
    show (wr.setCell _ _).heap[_]? = _
    rw [heap_setCell_other _ _ _ _ (by show _ ≠ w.heap.size + 1 + 1; omega)]; exact h.1
  · rw [heap_setCell_other _ _ _ _ (by show _ ≠ w.heap.size + 1 + 1; omega)]
    show (wr.setCell _ _).heap[_]? = _
    rw [heap_setCell_other _ _ _ _ (by show _ ≠ w.heap.size + 1 + 1; omega)]; exact h.2.1
  · exact (Below_drewN (h.2.2.2.setCell (by show _ ≤ w.heap.size + 1 + 1; omega) _) m).setCell (by show _ ≤ w.heap.size + 1 + 1; omega) _

theorem S_upd (F : Nat → Nat → Int) (k j : Nat) : (fun t => if t = k then F k (j + 1) else F t (dn k j t)) = fun t => F t (dn k (j + 1) t) := by
  funext t
  by_cases h : t = k
  · subst h; simp [dn]
  · simp [dn, h]

theorem wrapEq (n : Int) : IntKind.i64.wrap n = wrap64 n := by simp [IntKind.wrap_i64, wrap64]

set_option maxHeartbeats 1000000 in
theorem rforth_any (x y : Nat → Int) (w : World) (hx : ∀ j, j < 4 → Small (2 ^ 40) (x j)) (hy : ∀ j, j < 4 → Small (2 ^ 40) (y j)) :
    Calls Try.prog 15 #[.agg (t8 x y)] w fun e w' => e = .returned (.agg (t8 (fun k => Sre x y (-1) k 4) (fun k => Sim x y (-1) k 4))) ∧ Below w.heap.size w w' := by
  have HX : Hid (∀ j, j < 4 → Small (2 ^ 40) (x j) ∧ Small (2 ^ 40) (y j)) := fun j hj => ⟨hx j hj, hy j hj⟩
  clear hx hy
  go_enter Try.func15, Try.ntmps15
  go_wp2
  go_loopg [7] 4 (fun g i wr => ∃ k : Nat, k + g = 4 ∧ i = .int .i64 (k : Int) ∧ Hid (Own x y (fun t => Sre x y (-1) t (dn k 0 t)) (fun t => Sim x y (-1) t (dn k 0 t)) w wr))
  case atStart =>
    refine ⟨0, by omega, rfl, ?_⟩
    have hz : ∀ t, dn 0 0 t = 0 := fun t => by unfold dn; split; omega; split <;> rfl
    simp only [hz, Sre, Sim]
    refine ⟨?_, ?_, ?_, ?_⟩
    · rw [Below.heap_alloc _ _ _ (by simp <;> omega), Below.heap_alloc _ _ _ (by simp)]; exact _root_.Go.heap_alloc_new w _
    · rw [Below.heap_alloc _ _ _ (by simp)]; exact heap_alloc2_new w _ _
    · have h := heap_alloc2_new (w.alloc (.cells (t8 x y) 30)) (.cells (t8 (fun _ => 0) (fun _ => 0)) 30) (.cells (t8 (fun _ => 0) (fun _ => 0)) 30)
      have e : (w.alloc (.cells (t8 x y) 30)).heap.size = w.heap.size + 1 := by simp
      rw [e] at h
      exact h
    · exact (((Below.refl _ _).alloc (Nat.le_refl _) _).alloc (by simp) _).alloc (by simp <;> omega) _
  case round =>
    obtain ⟨k, hk, rfl, hO⟩ := hrel
    by_cases hk4 : k = 4
    · subst hk4
      clear hk HX
      have hi : (Try.prog.info? 30).map (·.size) = some 8 := by kernel_rfl
      go_wp2_with (first | (refine wpList_load_row rfl 30 _ rfl (w.heap.size + 1 + 1) rfl 30 _ (0, 0) _ hO.out.2.2.1 Try.underlying30 rfl (by kernel_rfl) ?_) | (refine wpList_store_row rfl 30 _ _ rfl (w.heap.size + 1) _ rfl rfl 30 _ hO.out.2.1 hi rfl (t8_one _ _) ?_))
      refine bodyPost_ret (v := .agg (t8 (fun k => Sre x y (-1) k 4) (fun k => Sim x y (-1) k 4))) (results_cell_row Try.results15 _ _ (w.heap.size + 1) 30 _ (0, 0) _ rfl (setRow_heap _ _ _ _ _ _ hO.out.2.1) Try.underlying30 rfl hi) rfl ⟨rfl, ?_⟩
      have hb := hO.out.2.2.2
      exact ⟨hb.os, hb.tape, hb.output, by rw [setRow_size]; exact hb.size, fun i hi => (setRow_other _ _ _ _ (by omega)).trans (hb.block i hi)⟩
    have hk3 : k < 4 := by omega
    have hk3' : (k : Int) < 4 := by omega
    obtain ⟨GK, HG⟩ : ∃ g, Hid (g < gk ∧ k + 1 + g = 4) := ⟨gk - 1, by omega, by omega⟩
    clear hk hk4
    go_wp2
    go_loopg [10] 4 (fun g i wr => ∃ j : Nat, j + g = 4 ∧ i = .int .i64 (j : Int) ∧ Hid (Own x y (fun t => Sre x y (-1) t (dn k j t)) (fun t => Sim x y (-1) t (dn k j t)) w wr))
    case atStart => exact ⟨0, by omega, rfl, hO⟩
    case round =>
      clear hO
      obtain ⟨j, hj, rfl, hO⟩ := hrel
      by_cases hj4 : j = 4
      · subst hj4
        clear hj HX
        go_wp2
        go_roundg GK
        case measure => exact HG.out.1
        case rel => exact ⟨k + 1, HG.out.2, by go_num, by simpa only [dn_next] using hO⟩
      have hj3 : j < 4 := by omega
      have hj3' : (j : Int) < 4 := by omega
      obtain ⟨GJ, HJ⟩ : ∃ g, Hid (g < gk ∧ j + 1 + g = 4) := ⟨gk - 1, by omega, by omega⟩
      clear hj hj4
      have hsz := hO.out.size
      have hsz0 : w.heap.size < wr.heap.size := by omega
      obtain ⟨T, hT0⟩ : ∃ T : Int, Hid (T = -1 * (j : Int) * k % 4) := ⟨_, rfl⟩
      have hT : IntKind.i64.wrap (IntKind.i64.wrap (-(j : Int)) * (k : Int)) % 4 = T := by
        have h := wrapT (-1) j k (Or.inr rfl) hj3 hk3
        rw [hT0.out, ← h, Int.neg_mul, Int.one_mul]
      have hcx : wr.cell? ⟨w.heap.size, j * 2, none⟩ = some (.int .i64 (x j)) := by rw [cell_of_row _ _ _ _ _ _ hO.out.1]; exact t8_re x y j hj3
      have hcy : wr.cell? ⟨w.heap.size, j * 2 + 1, none⟩ = some (.int .i64 (y j)) := by rw [cell_of_row _ _ _ _ _ _ hO.out.1]; exact t8_im x y j hj3
      go_wp2
      go_cut [6, 10] from 10 to 40 (fun s6 s10 wx => s10 = .int .i64 (j : Int) ∧ ∃ g, s6 = .pointer (some ⟨g, 0, none⟩) ∧ Hid (w.heap.size + 1 + 1 < g ∧ g < wx.heap.size ∧ wx.cell? ⟨g, 0, none⟩ = some (.int .i64 (mre (x j) (y j) T)) ∧ wx.cell? ⟨g, 1, none⟩ = some (.int .i64 (mim (x j) (y j) T)) ∧ Own x y (fun t => Sre x y (-1) t (dn k j t)) (fun t => Sim x y (-1) t (dn k j t)) w wx))
      case first =>
        go_region_with (first | (go_at_call 11; refine (rturn_any _ _).mono ?_; rintro e w' ⟨rfl, rfl⟩) | (go_at_call 26; refine (times_any _ _ _ (HX.out j hj3).1 (HX.out j hj3).2 _).mono ?_; rintro e w' ⟨rfl, rfl⟩))
        all_goals
          go_wp2_with fail
          go_meet
          refine ⟨rfl, _, rfl, ?_, ?_, ?_, ?_, ?_⟩
          · clear hT; omega
          · simp [go_sem]
          · simp [go_sem]
          · simp [go_sem]
          · repeat (first | with_reducible exact hO.out | with_reducible refine Own.alloc ?_ _ | with_reducible refine Own.drew ?_ | with_reducible refine Own.drewN ?_ _)
      case rest =>
        clear hO hsz hsz0 hcx hcy
        obtain ⟨rfl, g, rfl, hC⟩ := hcut
        have r1 : wrap64 (Sre x y (-1) k j + mre (x j) (y j) T) = Sre x y (-1) k (j + 1) := by
          rw [hT0.out]
          exact wrap64_small _ (by have := (S_small x y (-1) k (fun j hj => (HX.out j hj).1) (fun j hj => (HX.out j hj).2) (by decide) (j + 1) (by omega)).1; unfold Small at *; simp only [Sre] at this ⊢; omega)
        have r2 : wrap64 (Sim x y (-1) k j + mim (x j) (y j) T) = Sim x y (-1) k (j + 1) := by
          rw [hT0.out]
          exact wrap64_small _ (by have := (S_small x y (-1) k (fun j hj => (HX.out j hj).1) (fun j hj => (HX.out j hj).2) (by decide) (j + 1) (by omega)).2; unfold Small at *; simp only [Sim] at this ⊢; omega)
        have r3 : IntKind.i64.wrap (Sre x y (-1) k j + mre (x j) (y j) T) = Sre x y (-1) k (j + 1) := (wrapEq _).trans r1
        have r4 : IntKind.i64.wrap (Sim x y (-1) k j + mim (x j) (y j) T) = Sim x y (-1) k (j + 1) := (wrapEq _).trans r2
        have hsz := hC.out.1
        have hszg := hC.out.2.1
        have p0 := hC.out.2.2.1
        have p1 := hC.out.2.2.2.1
        have hO := hC.out.2.2.2.2
        have u0 : wc.cell? ⟨w.heap.size + 1 + 1, k * 2, none⟩ = some (.int .i64 (Sre x y (-1) k j)) := by rw [cell_of_row _ _ _ _ _ _ hO.2.2.1, t8_re _ _ k hk3]; simp [dn]
        have u1 : wc.cell? ⟨w.heap.size + 1 + 1, k * 2 + 1, none⟩ = some (.int .i64 (Sim x y (-1) k j)) := by rw [cell_of_row _ _ _ _ _ _ hO.2.2.1, t8_im _ _ k hk3]; simp [dn]
        have z0 : wc.frozen? ⟨w.heap.size + 1 + 1, k * 2, none⟩ = false := frozen_of_row _ _ _ _ _ hO.2.2.1
        have z1 : wc.frozen? ⟨w.heap.size + 1 + 1, k * 2 + 1, none⟩ = false := frozen_of_row _ _ _ _ _ hO.2.2.1
        have HO : Hid (Own x y (fun t => Sre x y (-1) t (dn k j t)) (fun t => Sim x y (-1) t (dn k j t)) w wc) := hO
        clear hO hC
        have hne : ¬ g = w.heap.size + 1 + 1 := by omega
        have hne' : ¬ w.heap.size + 1 + 1 = g := by omega
        go_wp2
        go_region
        go_wp2
        go_region
        go_wp2
        go_roundg GJ
        case measure => exact HJ.out.1
        case rel =>
          refine ⟨j + 1, HJ.out.2, by go_num, ?_⟩
          have h := HO.out.set k hk3 (Sre x y (-1) k (j + 1)) (Sim x y (-1) k (j + 1)) 0
          rw [S_upd (fun t n => Sre x y (-1) t n), S_upd (fun t n => Sim x y (-1) t n)] at h
          exact Own.drew (Own.drew h)
end Go.Proofs.Ytchnjoikjadciaa
