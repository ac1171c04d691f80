/- The walk of the law on meters that come one phase later: the loop keeps the two meters one phase apart; the waves behind it. -/
import Derived.Test.YtchnjoikjadciaaNeg
namespace Go.Proofs.Ytchnjoikjadciaa
open Go.RowKit

theorem later_at {P : Program} {f : FuncId} {args : Array Value} {W : World} {v : Value} (h : ∀ z : Later W, Calls P f args z.val fun e w' => e = .returned v ∧ Below z.val.heap.size z.val w') (x : Later W) :
    Calls P f args x.val fun e w'' => e = .returned v ∧ ∃ y : Later W, w'' = y.val :=
  (h x).mono fun _ w' ⟨he, hw⟩ => ⟨he, ⟨w', x.2.trans (hw.mono x.2.size)⟩, rfl⟩

theorem wave_later (W : World) (g : Nat) (c : Nat → Int) (k : Int) (cs : ∀ j, j < 4 → Small (2 ^ 40) (c j)) (hm : ∀ z : Later W, ∀ t, t < 4 → z.val.cell? ⟨g, t, none⟩ = some (.int .i64 (c t))) (hg : ∀ z : Later W, g < z.val.heap.size) (z : Later W) :
    Calls Try.prog 20 #[.pointer (some ⟨g, 0, none⟩), .int .i64 k] z.val fun e w' => e = .returned (.complex .f64 (fR (fr c) (fun _ => 0) (k % 4).toNat) (fI (fr c) (fun _ => 0) (k % 4).toNat)) ∧ ∃ y : Later W, w' = y.val := by
  refine later_at (fun z => ?_) z
  refine (wave_of (.pointer (some ⟨g, 0, none⟩)) c k z.val (counts_any g c _ (by rw [World.cell?_alloc_past _ _ _ (hg z)]; exact hm z 0 (by decide)) (by rw [World.cell?_alloc_past _ _ _ (hg z)]; exact hm z 1 (by decide)) (by rw [World.cell?_alloc_past _ _ _ (hg z)]; exact hm z 2 (by decide)) (by rw [World.cell?_alloc_past _ _ _ (hg z)]; exact hm z 3 (by decide)) (by have := hg z; simp; omega)) cs).mono fun e w' ⟨he, n, hw⟩ => ⟨he, ?_⟩
  rw [hw]
  refine Below_drewN ?_ _
  repeat (first | exact Below.refl _ _ | (refine Below.alloc ?_ (by simp <;> omega) _))

set_option maxHeartbeats 1000000 in
set_option maxRecDepth 100000 in
theorem walkL (a : Option Addr) (len cap : Nat) (T N : Nat → Int) (w : World) (hl : len ≤ maxLen) (hA : Adds w a len T N) :
    Calls Try.prog 8 #[.slice a len cap] w fun e w' => e = .returned (.bool true) ∧ Below w.heap.size w w' := by
  have HA : Hid (Adds w a len T N) := hA
  unfold maxLen at hl
  clear hA
  go_enter Try.func8, Try.ntmps8
  go_upto_block 0 with (go_at_call 16; refine (new_any _).mono ?_; rintro e w' ⟨rfl, rfl⟩)
  go_cut [5] from 10 (fun tot wx => ∃ (c : Nat → Int) (n : Nat), tot = .int .i64 (sum4 c) ∧ wx = ((w.alloc (.cells (k4 c) 57)).alloc (.cells (k4 (sh c)) 57)).drewN n ∧ Hid (Counted c))
  case first =>
    go_wp2_with fail
    go_loopg [5, 6] 100 (fun g tot i wr => ∃ (j n : Nat) (c : Nat → Int), j + g = 100 ∧ tot = .int .i64 (sum4 c) ∧ i = .int .i64 (j : Int) ∧ wr = ((w.alloc (.cells (k4 c) 57)).alloc (.cells (k4 (sh c)) 57)).drewN n ∧ Hid (Counted c))
    case atStart => exact ⟨0, 0, fun _ => 0, by omega, rfl, rfl, rfl, fun t _ => by show (0 : Int) ≤ 0 ∧ (0 : Int) ≤ 274877906944; decide⟩
    case round =>
      obtain ⟨j, n, c, hj, rfl, rfl, rfl, hc⟩ := hrel
      by_cases h1 : j < len
      · by_cases h2 : j = 100
        · subst h2
          have h1' : ((100 : Nat) : Int) < (len : Int) := by omega
          clear HA
          go_wp2
          go_meet
          exact ⟨c, n, rfl, rfl, hc⟩
        · have h2' : (j : Int) < 100 := by omega
          have h1' : (j : Int) < (len : Int) := by omega
          obtain ⟨b, off, rfl, ct, cn⟩ := HA.out j h1
          have hb1 : b < w.heap.size := block_lt_of_cell ct
          have hb2 : b < w.heap.size + 1 := by omega
          obtain ⟨GK, HG⟩ : ∃ g, Hid (g < gk ∧ j + 1 + g = 100) := ⟨gk - 1, by omega, by omega⟩
          clear hj h2
          by_cases t1 : T j < -1099511627776
          · go_wp2
            go_roundg GK
            case measure => exact HG.out.1
            case rel => exact ⟨j + 1, n, c, HG.out.2, rfl, by go_num, rfl, hc⟩
          · by_cases t2 : 1099511627776 < T j
            · go_wp2
              go_roundg GK
              case measure => exact HG.out.1
              case rel => exact ⟨j + 1, n, c, HG.out.2, rfl, by go_num, rfl, hc⟩
            · have p4 : (T j % 4).toNat < 4 := by omega
              have hp := hc.out _ p4
              by_cases n1 : N j < 0 ∨ 1048576 < N j
              · go_wp2
                go_region_with (go_at_call 18; refine (add_out _ _ _ _ n1).mono ?_; rintro e w' ⟨rfl, rfl⟩)
                all_goals
                  go_wp2
                  go_roundg GK
                  case measure => exact HG.out.1
                  case rel => exact ⟨j + 1, _, c, HG.out.2, rfl, by go_num, rfl, hc⟩
              · have g1 : 0 ≤ N j := by omega
                have g2 : N j ≤ 1048576 := by omega
                clear n1
                by_cases n3 : c (T j % 4).toNat + N j ≤ 274877906944
                · have hadd : ∀ m, Calls Try.prog 18 #[.pointer (some ⟨w.heap.size, 0, none⟩), .int .i64 (T j), .int .i64 (N j)] (((w.alloc (.cells (k4 c) 57)).alloc (.cells (k4 (sh c)) 57)).drewN m) fun e w' => e = .returned (.bool true) ∧ ∃ m', w' = ((w.alloc (.cells (k4 (fun t => if t = (T j % 4).toNat then c (T j % 4).toNat + N j else c t)) 57)).alloc (.cells (k4 (sh c)) 57)).drewN m' := fun m =>
                    (add_take _ _ _ _ _ g1 g2 hp (two_cell w c (sh c) m _ p4) (two_frozen w c (sh c) m _) n3).mono fun e w' ⟨he, m', hw⟩ => ⟨he, m + m', by rw [hw, two_set w c (sh c) m _ p4, World.drewN_drewN]⟩
                  obtain ⟨c', hc'⟩ : ∃ c' : Nat → Int, Hid (c' = fun t => if t = (T j % 4).toNat then c (T j % 4).toNat + N j else c t) := ⟨_, rfl⟩
                  rw [← hc'.out] at hadd
                  have hadd2 : ∀ m, Calls Try.prog 18 #[.pointer (some ⟨w.heap.size + 1, 0, none⟩), .int .i64 (T j + 1), .int .i64 (N j)] (((w.alloc (.cells (k4 c') 57)).alloc (.cells (k4 (sh c)) 57)).drewN m) fun e w' => e = .returned (.bool true) ∧ ∃ m', w' = ((w.alloc (.cells (k4 c') 57)).alloc (.cells (k4 (sh c')) 57)).drewN m' := fun m =>
                    (add_take _ _ _ (c (T j % 4).toNat) _ g1 g2 hp (by rw [two_cell' w c' (sh c) m _ (by omega), sh_at]) (two_frozen' w c' (sh c) m _) n3).mono fun e w' ⟨he, m', hw⟩ => ⟨he, m + m', by rw [hw, two_set' w c' (sh c) m _ (by omega), World.drewN_drewN, sh_set, ← hc'.out]⟩
                  have HC : Hid (Counted c') := fun t ht => by
                    rw [hc'.out]
                    by_cases h : t = (T j % 4).toNat
                    · simp only [h, if_true]; omega
                    · simp only [h, if_false]; exact hc.out t ht
                  have s0 : sum4 c + N j = sum4 c' := by rw [hc'.out]; exact (sum4_set c _ p4 (N j)).symm
                  have hbnd := hc.out
                  have r1 : wrap64 (sum4 c + N j) = sum4 c' := by
                    rw [← s0]
                    have q0 := hbnd 0 (by decide)
                    have q1 := hbnd 1 (by decide)
                    have q2 := hbnd 2 (by decide)
                    have q3 := hbnd 3 (by decide)
                    unfold wrap64 sum4; omega
                  have r2 : IntKind.i64.wrap (T j + 1) = T j + 1 := by rw [wrapEq]; unfold wrap64; omega
                  have r3 : wrap64 (T j + 1) = T j + 1 := by unfold wrap64; omega
                  clear s0 hbnd hp
                  go_wp2
                  go_region_with (go_at_call 18; refine (hadd _).mono ?_; rintro e w' ⟨rfl, m', rfl⟩)
                  all_goals
                    go_wp2
                    go_region_with (go_at_call 18; refine (hadd2 _).mono ?_; rintro e w' ⟨rfl, m'', rfl⟩)
                    all_goals
                      go_wp2
                      go_roundg GK
                      case measure => exact HG.out.1
                      case rel => exact ⟨j + 1, _, c', HG.out.2, rfl, by go_num, rfl, HC⟩
                · have hadd : ∀ m, Calls Try.prog 18 #[.pointer (some ⟨w.heap.size, 0, none⟩), .int .i64 (T j), .int .i64 (N j)] (((w.alloc (.cells (k4 c) 57)).alloc (.cells (k4 (sh c)) 57)).drewN m) fun e w' => e = .returned (.bool false) ∧ ∃ m', w' = ((w.alloc (.cells (k4 c) 57)).alloc (.cells (k4 (sh c)) 57)).drewN m' := fun m =>
                    (add_full _ _ _ _ _ g1 g2 hp (two_cell w c (sh c) m _ p4) (by omega)).mono fun e w' ⟨he, m', hw⟩ => ⟨he, m + m', by rw [hw, World.drewN_drewN]⟩
                  go_wp2
                  go_region_with (go_at_call 18; refine (hadd _).mono ?_; rintro e w' ⟨rfl, m', rfl⟩)
                  all_goals
                    go_wp2
                    go_roundg GK
                    case measure => exact HG.out.1
                    case rel => exact ⟨j + 1, _, c, HG.out.2, rfl, by go_num, rfl, hc⟩
      · have h1' : (len : Int) ≤ (j : Int) := by omega
        clear HA hj
        go_wp2
        go_meet
        exact ⟨c, n, rfl, rfl, hc⟩
  case rest =>
    obtain ⟨c, n, rfl, rfl, hc⟩ := hcut
    clear HA hl
    have c1 : ∀ j, j < 4 → Small (2 ^ 40) (c j) := fun j hj => by have := hc.out j hj; unfold Small; omega
    have c2 : ∀ j, j < 4 → Small (2 ^ 40) (sh c j) := fun j hj => by have := hc.out.sh j hj; unfold Small; omega
    have hM := fun k => wave_later (((w.alloc (.cells (k4 c) 57)).alloc (.cells (k4 (sh c)) 57)).drewN n) w.heap.size c k c1 (fun z t ht => z.cell (two_cell w c (sh c) n t ht)) (fun z => by have := z.2.size; simp at this; omega)
    have hL := fun k => wave_later (((w.alloc (.cells (k4 c) 57)).alloc (.cells (k4 (sh c)) 57)).drewN n) (w.heap.size + 1) (sh c) k c2 (fun z t ht => z.cell (two_cell' w c (sh c) n t ht)) (fun z => by have := z.2.size; simp at this; omega)
    have m1 := hM 1
    have m3 := hM 3
    have m0 := hM 0
    have l1 := hL 1
    have l0 := hL 0
    rw [show ((1 : Int) % 4).toNat = 1 by decide] at m1 l1
    rw [show ((3 : Int) % 4).toNat = 3 by decide] at m3
    rw [show ((0 : Int) % 4).toNat = 0 by decide] at m0 l0
    have v := waves c
    have q := fun t => wave_whole c1 t
    have q' := fun t => wave_whole c2 t
    have sS := S_small c (fun _ => 0) (-1) 1 c1 (fun _ _ => by unfold Small; decide) (by decide) 4 (by decide)
    have sT := S_small c (fun _ => 0) (-1) 0 c1 (fun _ _ => by unfold Small; decide) (by decide) 4 (by decide)
    obtain ⟨mr, mi, em, wr1, wi1⟩ := unit_mul (q 1).1 (q 1).2 whole_zero whole_minus (by have := sS.1; unfold Small at *; omega) (by have := sS.2; unfold Small at *; omega) (Or.inl rfl) (Or.inr (Or.inr rfl))
    have hmul := fun t w => run_complex_mul (P := Try.prog) w t _ _ _ _ _ _ em
    have e1 := same (q' 1).1 (by rw [v.1]; have := wr1; rwa [show Sre c (fun _ => 0) (-1) 1 4 * 0 - Sim c (fun _ => 0) (-1) 1 4 * -1 = Sim c (fun _ => 0) (-1) 1 4 by omega] at this)
    have e2 := same (q' 1).2 (by rw [v.2.1]; have := wi1; rwa [show Sre c (fun _ => 0) (-1) 1 4 * -1 + Sim c (fun _ => 0) (-1) 1 4 * 0 = -Sre c (fun _ => 0) (-1) 1 4 by omega] at this)
    have e3 := same (q 3).1 (by rw [v.2.2.1]; exact (q 1).1)
    have e4 := same (q 3).2 (by rw [v.2.2.2.1]; exact whole_neg (q 1).2)
    have e5 := same (q 0).1 (by rw [v.2.2.2.2.1]; exact whole_int (sum4 c) (by have := sT.1; rw [v.2.2.2.2.1] at this; unfold Small at this; omega))
    have e6 := same (q 0).2 (by rw [v.2.2.2.2.2.1]; exact whole_zero)
    have e7 := same (q' 0).1 (by rw [v.2.2.2.2.2.2.1]; have := (q 0).1; rwa [v.2.2.2.2.1] at this)
    have e8 := same (q' 0).2 (by rw [v.2.2.2.2.2.2.2]; have := (q 0).2; rwa [v.2.2.2.2.2.1] at this)
    clear hM hL v q q' sS sT em wr1 wi1 c1 c2 hc
    go_wp2_with fail
    refine (m1 (⟨_, Below.refl _ _⟩ : Later _)).mono ?_
    rintro e w' ⟨rfl, za, rfl⟩
    go_wp2_with fail
    refine (l1 za).mono ?_
    rintro e w' ⟨rfl, zb, rfl⟩
    go_wp2_with fail
    refine (m3 zb).mono ?_
    rintro e w' ⟨rfl, zc, rfl⟩
    go_wp2_with fail
    refine (m0 zc).mono ?_
    rintro e w' ⟨rfl, zd, rfl⟩
    go_wp2_with fail
    refine (l0 zd).mono ?_
    rintro e w' ⟨rfl, ze, rfl⟩
    go_wp2_with fail
    refine (m0 ze).mono ?_
    rintro e w' ⟨rfl, zf, rfl⟩
    go_wp2_with fail
    refine (awake_any _).mono ?_
    rintro e w' ⟨rfl, hw⟩
    subst hw
    go_wp2_with fail
    go_ret
    exact ⟨rfl, (Below_drewN (((Below.refl _ _).alloc (Nat.le_refl _) _).alloc (by simp) _) n).trans (zf.2.mono (by simp; omega))⟩
end Go.Proofs.Ytchnjoikjadciaa
