/- The first loop of the law on meters: whatever is added, the meter's counts are the law's own. -/
import Derived.Test.YtchnjoikjadciaaAdd
import Derived.Test.YtchnjoikjadciaaSlice
import Derived.Deep.CutBlock
namespace Go.Proofs.Ytchnjoikjadciaa
open Go.RowKit

theorem k4_set (c : Nat → Int) (p : Nat) (hp : p < 4) (v : Int) : (k4 c).setIfInBounds p (.int .i64 v) = k4 (fun t => if t = p then v else c t) := by
  have : p = 0 ∨ p = 1 ∨ p = 2 ∨ p = 3 := by omega
  rcases this with h | h | h | h <;> subst h <;> rfl

def Counted (c : Nat → Int) : Prop := ∀ t, t < 4 → 0 ≤ c t ∧ c t ≤ 274877906944

theorem later_at {P : Program} {f : FuncId} {args : Array Value} {W : World} {v : Value} (h : ∀ z : Later W, Calls P f args z.val fun e w' => e = .returned v ∧ Below z.val.heap.size z.val w') (x : Later W) :
    Calls P f args x.val fun e w'' => e = .returned v ∧ ∃ y : Later W, w'' = y.val :=
  (h x).mono fun _ w' ⟨he, hw⟩ => ⟨he, ⟨w', x.2.trans (hw.mono x.2.size)⟩, rfl⟩

/-- The least phase of those with the most among the first k. -/
def pkn (c : Nat → Int) : Nat → Nat
  | 0 => 0
  | k + 1 => if c (pkn c k) < c k then k else pkn c k

theorem pkn_lt (c : Nat → Int) : ∀ k, k ≤ 4 → pkn c k < 4 := by
  intro k
  induction k with
  | zero => intro _; exact Nat.zero_lt_succ 3
  | succ k ih => intro h; unfold pkn; split; omega; exact ih (by omega)

theorem pkn_pk (c : Nat → Int) : ((pkn c 4 : Nat) : Int) = pk c := by simp [pkn, pk]

theorem t8_put (c : Nat → Int) (k : Nat) (hk : k < 4) : (t8 (fun t => if t < k then c t else 0) (fun _ => 0)).setIfInBounds (k * 2) (.int .i64 (c k)) = t8 (fun t => if t < k + 1 then c t else 0) (fun _ => 0) := by
  have : k = 0 ∨ k = 1 ∨ k = 2 ∨ k = 3 := by omega
  rcases this with h | h | h | h <;> subst h <;> rfl

theorem t8_done (c : Nat → Int) : t8 (fun t => if t < 4 then c t else 0) (fun _ => 0) = t8 c (fun _ => 0) := rfl

/-- The world of the law on meters: the meter's counts, and the law's own. -/
theorem meter_cell (w : World) (c d : Nat → Int) (m p : Nat) (hp : p < 4) : (((w.alloc (.cells (k4 c) 57)).alloc (.cells (k4 d) 41)).drewN m).cell? ⟨w.heap.size, p, none⟩ = some (.int .i64 (c p)) := by
  rw [World.cell?_drewN, World.cell?_alloc_past _ _ _ (by simp), World.cell?_alloc_at _ _ _ _ rfl]
  exact k4_get c p hp

theorem meter_frozen (w : World) (c d : Nat → Int) (m p : Nat) : (((w.alloc (.cells (k4 c) 57)).alloc (.cells (k4 d) 41)).drewN m).frozen? ⟨w.heap.size, p, none⟩ = false := by
  rw [World.frozen?_drewN, World.frozen?_alloc_past _ _ _ (by simp), World.frozen?_alloc_at _ _ _ _ rfl]

theorem meter_set (w : World) (c d : Nat → Int) (m p : Nat) (hp : p < 4) (v : Int) : (((w.alloc (.cells (k4 c) 57)).alloc (.cells (k4 d) 41)).drewN m).setCell ⟨w.heap.size, p, none⟩ (.int .i64 v) = ((w.alloc (.cells (k4 (fun t => if t = p then v else c t)) 57)).alloc (.cells (k4 d) 41)).drewN m := by
  rw [setCell_drewN, World.setCell_alloc_past _ _ _ _ (by simp), World.setCell_alloc_at _ _ _ _ _ rfl, k4_set c p hp]

set_option maxHeartbeats 1000000 in
set_option maxRecDepth 100000 in
theorem walkA (a : Option Addr) (len cap : Nat) (T N : Nat → Int) (k : Int) (w : World) (hl : len ≤ maxLen) (hA : Adds w a len T N) :
    Calls Try.prog 5 #[.slice a len cap, .int .i64 k] w fun e w' => e = .returned (.bool true) ∧ Below w.heap.size w w' := by
  have HA : Hid (Adds w a len T N) := hA
  unfold maxLen at hl
  clear hA
  go_enter Try.func5, Try.ntmps5
  go_upto_block 0 with (go_at_call 16; refine (new_any _).mono ?_; rintro e w' ⟨rfl, rfl⟩)
  go_cut [] from 17 (fun wx => ∃ (c : Nat → Int) (n : Nat), wx = ((w.alloc (.cells (k4 c) 57)).alloc (.cells (k4 c) 41)).drewN n ∧ Hid (Counted c))
  case first =>
    go_wp2_with fail
    go_loopg [7] 200 (fun g i wr => ∃ (j n : Nat) (c : Nat → Int), j + g = 200 ∧ i = .int .i64 (j : Int) ∧ wr = ((w.alloc (.cells (k4 c) 57)).alloc (.cells (k4 c) 41)).drewN n ∧ Hid (Counted c))
    case atStart => exact ⟨0, 0, fun _ => 0, by omega, rfl, rfl, fun t _ => by show (0 : Int) ≤ 0 ∧ (0 : Int) ≤ 274877906944; decide⟩
    case round =>
      obtain ⟨j, n, c, hj, rfl, rfl, hc⟩ := hrel
      by_cases h1 : j < len
      · by_cases h2 : j = 200
        · subst h2
          have h1' : ((200 : Nat) : Int) < (len : Int) := by omega
          clear HA
          go_wp2
          go_meet
          exact ⟨c, n, rfl, hc⟩
        · have h2' : (j : Int) < 200 := by omega
          have h1' : (j : Int) < (len : Int) := by omega
          obtain ⟨b, off, rfl, ct, cn⟩ := HA.out j h1
          have hb1 : b < w.heap.size := block_lt_of_cell ct
          have hb2 : b < w.heap.size + 1 := by omega
          obtain ⟨GK, HG⟩ : ∃ g, Hid (g < gk ∧ j + 1 + g = 200) := ⟨gk - 1, by omega, by omega⟩
          clear hj h2
          have p4 : (T j % 4).toNat < 4 := by omega
          have pi : 0 ≤ T j % 4 ∧ T j % 4 < 4 := by omega
          have hp := hc.out _ p4
          have hkp := k4_get c _ p4
          go_wp2_with (go_at_call 17; refine (phase_any _ _).mono ?_; rintro e w' ⟨rfl, rfl⟩)
          by_cases n1 : N j < 0
          · have g1 : decide (0 ≤ N j) = false := decide_eq_false (by omega)
            go_quiet (fail)
            go_wp2
            go_region_with (go_at_call 18; refine (add_out _ _ _ _ (Or.inl n1)).mono ?_; rintro e w' ⟨rfl, rfl⟩)
            all_goals
              go_wp2
              go_roundg GK
              case measure => exact HG.out.1
              case rel => exact ⟨j + 1, _, c, HG.out.2, by go_num, rfl, hc⟩
          · have g1 : 0 ≤ N j := by omega
            by_cases n2 : 1048576 < N j
            · have g2 : decide (N j ≤ 1048576) = false := decide_eq_false (by omega)
              go_quiet (fail)
              go_wp2
              go_region_with (go_at_call 18; refine (add_out _ _ _ _ (Or.inr n2)).mono ?_; rintro e w' ⟨rfl, rfl⟩)
              all_goals
                go_wp2
                go_roundg GK
                case measure => exact HG.out.1
                case rel => exact ⟨j + 1, _, c, HG.out.2, by go_num, rfl, hc⟩
            · have g2 : N j ≤ 1048576 := by omega
              have wN : wrap64 (274877906944 - N j) = 274877906944 - N j := by unfold wrap64; omega
              by_cases n3 : c (T j % 4).toNat + N j ≤ 274877906944
              · have g3 : c (T j % 4).toNat ≤ 274877906944 - N j := by omega
                have hadd : ∀ m, Calls Try.prog 18 #[.pointer (some ⟨w.heap.size, 0, none⟩), .int .i64 (T j), .int .i64 (N j)] (((w.alloc (.cells (k4 c) 57)).alloc (.cells (k4 c) 41)).drewN m) fun e w' => e = .returned (.bool true) ∧ ∃ m', w' = ((w.alloc (.cells (k4 (fun t => if t = (T j % 4).toNat then c (T j % 4).toNat + N j else c t)) 57)).alloc (.cells (k4 c) 41)).drewN m' := fun m =>
                  (add_take _ _ _ _ _ g1 g2 hp (meter_cell w c c m _ p4) (meter_frozen w c c m _) n3).mono fun e w' ⟨he, m', hw⟩ => ⟨he, m + m', by rw [hw, meter_set w c c m _ p4, World.drewN_drewN]⟩
                have hset := k4_set c _ p4 (c (T j % 4).toNat + N j)
                have r1 : wrap64 (c (T j % 4).toNat + N j) = c (T j % 4).toNat + N j := by unfold wrap64; omega
                have r2 : IntKind.i64.wrap (c (T j % 4).toNat + N j) = c (T j % 4).toNat + N j := (wrapEq _).trans r1
                have HC : Hid (Counted fun t => if t = (T j % 4).toNat then c (T j % 4).toNat + N j else c t) := fun t ht => by
                  by_cases h : t = (T j % 4).toNat
                  · simp only [h, if_true]; omega
                  · simp only [h, if_false]; exact hc.out t ht
                go_quiet (fail)
                go_wp2
                go_region_with (go_at_call 18; refine (hadd _).mono ?_; rintro e w' ⟨rfl, m', rfl⟩)
                all_goals
                  go_wp2
                  go_region
                  all_goals
                    go_wp2
                    go_roundg GK
                    case measure => exact HG.out.1
                    case rel => exact ⟨j + 1, _, _, HG.out.2, by go_num, rfl, HC⟩
              · have g3 : decide (c (T j % 4).toNat ≤ 274877906944 - N j) = false := decide_eq_false (by omega)
                have hadd : ∀ m, Calls Try.prog 18 #[.pointer (some ⟨w.heap.size, 0, none⟩), .int .i64 (T j), .int .i64 (N j)] (((w.alloc (.cells (k4 c) 57)).alloc (.cells (k4 c) 41)).drewN m) fun e w' => e = .returned (.bool false) ∧ ∃ m', w' = ((w.alloc (.cells (k4 c) 57)).alloc (.cells (k4 c) 41)).drewN m' := fun m =>
                  (add_full _ _ _ _ _ g1 g2 hp (meter_cell w c c m _ p4) (by omega)).mono fun e w' ⟨he, m', hw⟩ => ⟨he, m + m', by rw [hw, World.drewN_drewN]⟩
                go_quiet (fail)
                go_wp2
                go_region_with (go_at_call 18; refine (hadd _).mono ?_; rintro e w' ⟨rfl, m', rfl⟩)
                all_goals
                  go_wp2
                  go_roundg GK
                  case measure => exact HG.out.1
                  case rel => exact ⟨j + 1, _, c, HG.out.2, by go_num, rfl, hc⟩
      · have h1' : (len : Int) ≤ (j : Int) := by omega
        clear HA hj
        go_wp2
        go_meet
        exact ⟨c, n, rfl, hc⟩
  case rest =>
    obtain ⟨c, n, rfl, hc⟩ := hcut
    clear HA hl
    go_wp2
    go_loopg [11, 84] 4 (fun g pv i wr => ∃ (j n : Nat), j + g = 4 ∧ pv = .int .i64 ((pkn c j : Nat) : Int) ∧ i = .int .i64 (j : Int) ∧ wr = (((w.alloc (.cells (k4 c) 57)).alloc (.cells (k4 c) 41)).alloc (.cells (t8 (fun t => if t < j then c t else 0) (fun _ => 0)) 30)).drewN n)
    case atStart => exact ⟨0, n, by omega, rfl, rfl, rfl⟩
    case round =>
      obtain ⟨j, n, hj, rfl, rfl, rfl⟩ := hrel
      by_cases h4 : j = 4
      · subst h4
        clear hj
        have cs : ∀ j, j < 4 → Small (2 ^ 40) (c j) := fun j hj => by have := hc.out j hj; unfold Small; omega
        have hr := fun w => rforth_any c (fun _ => 0) w cs (fun _ _ => by unfold Small; decide)
        go_wp2_with (go_at_call 15; refine (hr _).mono ?_; rintro e w2 ⟨rfl, hB⟩)
        have hb2 : Below w.heap.size w w2 ∧ w.heap.size + 1 + 1 < w2.heap.size ∧ (∀ t, t < 4 → w2.cell? ⟨w.heap.size, t, none⟩ = some (.int .i64 (c t))) ∧ (∀ t, t < 4 → w2.cell? ⟨w.heap.size + 1, t, none⟩ = some (.int .i64 (c t))) := by
          refine ⟨Below.trans (b := _) ?_ (hB.mono ?_), ?_, ?_, ?_⟩
          · refine Below_drewN ?_ _
            repeat (first | exact Below.refl _ _ | (refine Below.alloc ?_ (by simp <;> omega) _))
          · simp; omega
          · have := hB.size; simp at this; omega
          · intro t ht
            refine cell_later hB ?_
            have : t = 0 ∨ t = 1 ∨ t = 2 ∨ t = 3 := by omega
            rcases this with h | h | h | h <;> subst h <;> simp [go_sem]
          · intro t ht
            refine cell_later hB ?_
            have : t = 0 ∨ t = 1 ∨ t = 2 ∨ t = 3 := by omega
            rcases this with h | h | h | h <;> subst h <;> simp [go_sem]
        obtain ⟨b1, b2, b3, b4⟩ := hb2
        have mz : ∀ z : Later (w2.alloc (.cells #[.int .i64 (Sre c (fun _ => 0) (-1) 0 4), .int .i64 (Sim c (fun _ => 0) (-1) 0 4), .int .i64 (Sre c (fun _ => 0) (-1) 1 4), .int .i64 (Sim c (fun _ => 0) (-1) 1 4), .int .i64 (Sre c (fun _ => 0) (-1) 2 4), .int .i64 (Sim c (fun _ => 0) (-1) 2 4), .int .i64 (Sre c (fun _ => 0) (-1) 3 4), .int .i64 (Sim c (fun _ => 0) (-1) 3 4)] 30)), ∀ t, t < 4 → z.val.cell? ⟨w.heap.size, t, none⟩ = some (.int .i64 (c t)) := fun z t ht => z.cell (by rw [World.cell?_alloc_past _ _ _ (by omega)]; exact b3 t ht)
        have sz : ∀ z : Later (w2.alloc (.cells #[.int .i64 (Sre c (fun _ => 0) (-1) 0 4), .int .i64 (Sim c (fun _ => 0) (-1) 0 4), .int .i64 (Sre c (fun _ => 0) (-1) 1 4), .int .i64 (Sim c (fun _ => 0) (-1) 1 4), .int .i64 (Sre c (fun _ => 0) (-1) 2 4), .int .i64 (Sim c (fun _ => 0) (-1) 2 4), .int .i64 (Sre c (fun _ => 0) (-1) 3 4), .int .i64 (Sim c (fun _ => 0) (-1) 3 4)] 30)), w.heap.size < z.val.heap.size := fun z => by have := z.2.size; simp at this; omega
        have hcnt : ∀ z : Later (w2.alloc (.cells #[.int .i64 (Sre c (fun _ => 0) (-1) 0 4), .int .i64 (Sim c (fun _ => 0) (-1) 0 4), .int .i64 (Sre c (fun _ => 0) (-1) 1 4), .int .i64 (Sim c (fun _ => 0) (-1) 1 4), .int .i64 (Sre c (fun _ => 0) (-1) 2 4), .int .i64 (Sim c (fun _ => 0) (-1) 2 4), .int .i64 (Sre c (fun _ => 0) (-1) 3 4), .int .i64 (Sim c (fun _ => 0) (-1) 3 4)] 30)), Calls Try.prog 19 #[(.pointer (some ⟨w.heap.size, 0, none⟩))] z.val fun e w' => e = .returned (.agg (k4 c)) ∧ Below z.val.heap.size z.val w' := fun z =>
          (counts_any w.heap.size c z.val (mz z 0 (by decide)) (mz z 1 (by decide)) (mz z 2 (by decide)) (mz z 3 (by decide)) (sz z)).mono fun e w' ⟨he, hw⟩ => ⟨he, by rw [hw]; exact (Below.refl _ _).alloc (Nat.le_refl _) _⟩
        have hwav : ∀ z : Later (w2.alloc (.cells #[.int .i64 (Sre c (fun _ => 0) (-1) 0 4), .int .i64 (Sim c (fun _ => 0) (-1) 0 4), .int .i64 (Sre c (fun _ => 0) (-1) 1 4), .int .i64 (Sim c (fun _ => 0) (-1) 1 4), .int .i64 (Sre c (fun _ => 0) (-1) 2 4), .int .i64 (Sim c (fun _ => 0) (-1) 2 4), .int .i64 (Sre c (fun _ => 0) (-1) 3 4), .int .i64 (Sim c (fun _ => 0) (-1) 3 4)] 30)), Calls Try.prog 20 #[(.pointer (some ⟨w.heap.size, 0, none⟩)), .int .i64 k] z.val fun e w' => e = .returned (.complex .f64 (fR (fr c) (fun _ => 0) (k % 4).toNat) (fI (fr c) (fun _ => 0) (k % 4).toNat)) ∧ Below z.val.heap.size z.val w' := fun z =>
          (wave_of (.pointer (some ⟨w.heap.size, 0, none⟩)) c k z.val (counts_any w.heap.size c _ (by rw [World.cell?_alloc_past _ _ _ (sz z)]; exact mz z 0 (by decide)) (by rw [World.cell?_alloc_past _ _ _ (sz z)]; exact mz z 1 (by decide)) (by rw [World.cell?_alloc_past _ _ _ (sz z)]; exact mz z 2 (by decide)) (by rw [World.cell?_alloc_past _ _ _ (sz z)]; exact mz z 3 (by decide)) (by have := sz z; simp; omega)) cs).mono fun e w' ⟨he, n, hw⟩ => ⟨he, by
            rw [hw]
            refine Below_drewN ?_ _
            repeat (first | exact Below.refl _ _ | (refine Below.alloc ?_ (by simp <;> omega) _))⟩
        have hpk : ∀ z : Later (w2.alloc (.cells #[.int .i64 (Sre c (fun _ => 0) (-1) 0 4), .int .i64 (Sim c (fun _ => 0) (-1) 0 4), .int .i64 (Sre c (fun _ => 0) (-1) 1 4), .int .i64 (Sim c (fun _ => 0) (-1) 1 4), .int .i64 (Sre c (fun _ => 0) (-1) 2 4), .int .i64 (Sim c (fun _ => 0) (-1) 2 4), .int .i64 (Sre c (fun _ => 0) (-1) 3 4), .int .i64 (Sim c (fun _ => 0) (-1) 3 4)] 30)), Calls Try.prog 21 #[(.pointer (some ⟨w.heap.size, 0, none⟩))] z.val fun e w' => e = .returned (.int .i64 (pk c)) ∧ Below z.val.heap.size z.val w' := fun z =>
          (peak_of (.pointer (some ⟨w.heap.size, 0, none⟩)) c z.val (counts_any w.heap.size c z.val (mz z 0 (by decide)) (mz z 1 (by decide)) (mz z 2 (by decide)) (mz z 3 (by decide)) (sz z))).mono fun e w' ⟨he, hw⟩ => ⟨he, by
            rw [hw]
            repeat (first | exact Below.refl _ _ | (refine Below.alloc ?_ (by simp <;> omega) _))⟩
        have his : ∀ w, Calls Try.prog 9 #[.complex .f64 (fR (fr c) (fun _ => 0) (k % 4).toNat) (fI (fr c) (fun _ => 0) (k % 4).toNat), .agg #[.int .i64 (Sre c (fun _ => 0) (-1) (k % 4).toNat 4), .int .i64 (Sim c (fun _ => 0) (-1) (k % 4).toNat 4)]] w fun e w' => e = .returned (.bool true) ∧ Below w.heap.size w w' := fun w =>
          (is_any _ _ _ _ w).mono fun e w' ⟨he, hw⟩ => by
            have h := wave_whole cs (k % 4).toNat
            have q := S_small c (fun _ => 0) (-1) (k % 4).toNat cs (fun _ _ => by unfold Small; decide) (by decide) 4 (by decide)
            have h1 := same h.1 (whole_int _ (by have := q.1; unfold Small at this; omega))
            have h2 := same h.2 (whole_int _ (by have := q.2; unfold Small at this; omega))
            have h' : ((Ieee.double.order (fR (fr c) (fun _ => 0) (k % 4).toNat) (floatOfInt .f64 (Sre c (fun _ => 0) (-1) (k % 4).toNat 4)) == some .eq) && (Ieee.double.order (fI (fr c) (fun _ => 0) (k % 4).toNat) (floatOfInt .f64 (Sim c (fun _ => 0) (-1) (k % 4).toNat 4)) == some .eq)) = true := by
              rw [show (Ieee.double.order (fR (fr c) (fun _ => 0) (k % 4).toNat) (floatOfInt .f64 (Sre c (fun _ => 0) (-1) (k % 4).toNat 4)) == some .eq) = true from h1, show (Ieee.double.order (fI (fr c) (fun _ => 0) (k % 4).toNat) (floatOfInt .f64 (Sim c (fun _ => 0) (-1) (k % 4).toNat 4)) == some .eq) = true from h2]; rfl
            rw [h'] at he
            exact ⟨he, by rw [hw]; exact (Below.refl _ _).alloc (Nat.le_refl _) _⟩
        have heq : ∀ w, (Op.equalIn 10000 41 (.agg (k4 c)) (.agg #[.int .i64 (c 0), .int .i64 (c 1), .int .i64 (c 2), .int .i64 (c 3)])).run Try.prog w = .ok true w := fun w => (eq_k4 c c w).trans (by simp)
        have hm := mod4 k
        have m0 : 0 ≤ k % 4 := by omega
        have m4 : k % 4 < 4 := by omega
        have hp : ((pkn c 4 : Nat) : Int) = pk c := pkn_pk c
        have nz0 : ∀ z : Later (w2.alloc (.cells #[.int .i64 (Sre c (fun _ => 0) (-1) 0 4), .int .i64 (Sim c (fun _ => 0) (-1) 0 4), .int .i64 (Sre c (fun _ => 0) (-1) 1 4), .int .i64 (Sim c (fun _ => 0) (-1) 1 4), .int .i64 (Sre c (fun _ => 0) (-1) 2 4), .int .i64 (Sim c (fun _ => 0) (-1) 2 4), .int .i64 (Sre c (fun _ => 0) (-1) 3 4), .int .i64 (Sim c (fun _ => 0) (-1) 3 4)] 30)), z.val.cell? ⟨w.heap.size + 1, 0, none⟩ = some (.int .i64 (c 0)) := fun z => z.cell (by rw [World.cell?_alloc_past _ _ _ (by omega)]; exact b4 0 (by decide))
        have nz1 : ∀ z : Later (w2.alloc (.cells #[.int .i64 (Sre c (fun _ => 0) (-1) 0 4), .int .i64 (Sim c (fun _ => 0) (-1) 0 4), .int .i64 (Sre c (fun _ => 0) (-1) 1 4), .int .i64 (Sim c (fun _ => 0) (-1) 1 4), .int .i64 (Sre c (fun _ => 0) (-1) 2 4), .int .i64 (Sim c (fun _ => 0) (-1) 2 4), .int .i64 (Sre c (fun _ => 0) (-1) 3 4), .int .i64 (Sim c (fun _ => 0) (-1) 3 4)] 30)), z.val.cell? ⟨w.heap.size + 1, 1, none⟩ = some (.int .i64 (c 1)) := fun z => z.cell (by rw [World.cell?_alloc_past _ _ _ (by omega)]; exact b4 1 (by decide))
        have nz2 : ∀ z : Later (w2.alloc (.cells #[.int .i64 (Sre c (fun _ => 0) (-1) 0 4), .int .i64 (Sim c (fun _ => 0) (-1) 0 4), .int .i64 (Sre c (fun _ => 0) (-1) 1 4), .int .i64 (Sim c (fun _ => 0) (-1) 1 4), .int .i64 (Sre c (fun _ => 0) (-1) 2 4), .int .i64 (Sim c (fun _ => 0) (-1) 2 4), .int .i64 (Sre c (fun _ => 0) (-1) 3 4), .int .i64 (Sim c (fun _ => 0) (-1) 3 4)] 30)), z.val.cell? ⟨w.heap.size + 1, 2, none⟩ = some (.int .i64 (c 2)) := fun z => z.cell (by rw [World.cell?_alloc_past _ _ _ (by omega)]; exact b4 2 (by decide))
        have nz3 : ∀ z : Later (w2.alloc (.cells #[.int .i64 (Sre c (fun _ => 0) (-1) 0 4), .int .i64 (Sim c (fun _ => 0) (-1) 0 4), .int .i64 (Sre c (fun _ => 0) (-1) 1 4), .int .i64 (Sim c (fun _ => 0) (-1) 1 4), .int .i64 (Sre c (fun _ => 0) (-1) 2 4), .int .i64 (Sim c (fun _ => 0) (-1) 2 4), .int .i64 (Sre c (fun _ => 0) (-1) 3 4), .int .i64 (Sim c (fun _ => 0) (-1) 3 4)] 30)), z.val.cell? ⟨w.heap.size + 1, 3, none⟩ = some (.int .i64 (c 3)) := fun z => z.cell (by rw [World.cell?_alloc_past _ _ _ (by omega)]; exact b4 3 (by decide))
        have lz0 : ∀ z : Later (w2.alloc (.cells #[.int .i64 (Sre c (fun _ => 0) (-1) 0 4), .int .i64 (Sim c (fun _ => 0) (-1) 0 4), .int .i64 (Sre c (fun _ => 0) (-1) 1 4), .int .i64 (Sim c (fun _ => 0) (-1) 1 4), .int .i64 (Sre c (fun _ => 0) (-1) 2 4), .int .i64 (Sim c (fun _ => 0) (-1) 2 4), .int .i64 (Sre c (fun _ => 0) (-1) 3 4), .int .i64 (Sim c (fun _ => 0) (-1) 3 4)] 30)), z.val.cell? ⟨w2.heap.size, (k % 4).toNat * 2, none⟩ = some (.int .i64 (Sre c (fun _ => 0) (-1) (k % 4).toNat 4)) := fun z => z.cell (by rw [World.cell?_alloc_at _ _ _ _ rfl]; exact t8_re (fun k => Sre c (fun _ => 0) (-1) k 4) (fun k => Sim c (fun _ => 0) (-1) k 4) _ (by omega))
        have lz1 : ∀ z : Later (w2.alloc (.cells #[.int .i64 (Sre c (fun _ => 0) (-1) 0 4), .int .i64 (Sim c (fun _ => 0) (-1) 0 4), .int .i64 (Sre c (fun _ => 0) (-1) 1 4), .int .i64 (Sim c (fun _ => 0) (-1) 1 4), .int .i64 (Sre c (fun _ => 0) (-1) 2 4), .int .i64 (Sim c (fun _ => 0) (-1) 2 4), .int .i64 (Sre c (fun _ => 0) (-1) 3 4), .int .i64 (Sim c (fun _ => 0) (-1) 3 4)] 30)), z.val.cell? ⟨w2.heap.size, (k % 4).toNat * 2 + 1, none⟩ = some (.int .i64 (Sim c (fun _ => 0) (-1) (k % 4).toNat 4)) := fun z => z.cell (by rw [World.cell?_alloc_at _ _ _ _ rfl]; exact t8_im (fun k => Sre c (fun _ => 0) (-1) k 4) (fun k => Sim c (fun _ => 0) (-1) k 4) _ (by omega))
        clear mz sz b3 b4 cs hr hB
        refine wp_region_later (by kernel_rfl) (by kernel_rfl) ?_
        repeat (go_big_quiet_step (first | exact rfl | (go_at_call 19; exact later_at hcnt _) | (go_at_call 20; exact later_at hwav _) | (go_at_call 21; exact later_at hpk _) | (go_at_call 9; exact later_call his _) | (go_at_call 12; exact later_same (fun w => awake_any w) _)))
        refine wpQuiet_nil ?_
        rintro _ ⟨z, rfl⟩
        go_wp2
        go_ret
        exact ⟨rfl, (b1.alloc b1.size _).trans (z.2.mono (by have := b1.size; simp; omega))⟩
      have hj3 : j < 4 := by omega
      have hj3' : (j : Int) < 4 := by omega
      obtain ⟨GK, HG⟩ : ∃ g, Hid (g < gk ∧ j + 1 + g = 4) := ⟨gk - 1, by omega, by omega⟩
      clear hj h4
      have hk1 := k4_get c j hj3
      have hk2 := k4_get c (pkn c j) (pkn_lt c j (by omega))
      have hp4 : ((pkn c j : Nat) : Int) < 4 := by have := pkn_lt c j (by omega); omega
      have hput := t8_put c j hj3
      have hre := t8_re (fun t => if t < j then c t else 0) (fun _ => 0) j hj3
      go_wp2
      by_cases hlt : c (pkn c j) < c j
      · have hd : decide (c (pkn c j) < c j) = true := decide_eq_true hlt
        have HP : Hid (pkn c (j + 1) = j) := by show _ = _; unfold pkn; rw [if_pos hlt]
        go_quiet (fail)
        go_wp2
        go_roundg GK
        case measure => exact HG.out.1
        case rel => exact ⟨j + 1, _, HG.out.2, by rw [HP.out], by go_num, rfl⟩
      · have hd : decide (c (pkn c j) < c j) = false := decide_eq_false hlt
        have HP : Hid (pkn c (j + 1) = pkn c j) := by show _ = _; rw [pkn, if_neg hlt]
        go_quiet (fail)
        go_wp2
        go_roundg GK
        case measure => exact HG.out.1
        case rel => exact ⟨j + 1, _, HG.out.2, by rw [HP.out], by go_num, rfl⟩
end Go.Proofs.Ytchnjoikjadciaa
