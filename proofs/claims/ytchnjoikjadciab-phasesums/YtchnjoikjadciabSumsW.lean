/- The walk of the law on sums. -/
import Derived.Test.YtchnjoikjadciabOpen
import Derived.Test.YtchnjoikjadciabLinear
import Derived.Test.YtchnjoikjadciabSumsB
import Derived.Deep.Cut
import Derived.Deep.CutRange
import Derived.Deep.CutBlock
namespace Go.Proofs.Ytchnjoikjadciab.phaseSums
open Go.ChangeShapes Go.WideShapes Go.ChangeAt Go.RowKit
set_option linter.unusedVariables false

theorem c4_one (a b : Nat → Nat) : (c4 a b).all (·.oneCell') = true := by simp [c4, Value.oneCell']

theorem c4_put (f g : Nat → Nat) (j : Nat) (hj : j < 4) : (c4 (fun t => if t < j then f t else 0) (fun t => if t < j then g t else 0)).setIfInBounds j (.complex .f64 (f j) (g j)) = c4 (fun t => if t < j + 1 then f t else 0) (fun t => if t < j + 1 then g t else 0) := by
  have : j = 0 ∨ j = 1 ∨ j = 2 ∨ j = 3 := by omega
  rcases this with h | h | h | h <;> subst h <;> rfl

set_option maxRecDepth 100000 in
set_option maxHeartbeats 1000000 in
theorem walk (x y x' y' : Nat → Int) (k : Int) (w : World) :
    Calls Try.prog 4 #[.agg #[.int .i64 (x 0), .int .i64 (y 0), .int .i64 (x 1), .int .i64 (y 1), .int .i64 (x 2), .int .i64 (y 2), .int .i64 (x 3), .int .i64 (y 3)], .agg #[.int .i64 (x' 0), .int .i64 (y' 0), .int .i64 (x' 1), .int .i64 (y' 1), .int .i64 (x' 2), .int .i64 (y' 2), .int .i64 (x' 3), .int .i64 (y' 3)], .int .i64 k] w fun e w' => e = .returned (.bool true) ∧ Below w.heap.size w w' := by
  have hfour := fun w => four34_b x y w
  have hfour' := fun w => four34_b x' y' w
  obtain ⟨X, hX⟩ : ∃ X, X = rm 17179869184 x := ⟨_, rfl⟩
  obtain ⟨Y, hY⟩ : ∃ Y, Y = rm 17179869184 y := ⟨_, rfl⟩
  obtain ⟨X', hX'⟩ : ∃ X, X = rm 17179869184 x' := ⟨_, rfl⟩
  obtain ⟨Y', hY'⟩ : ∃ Y, Y = rm 17179869184 y' := ⟨_, rfl⟩
  rw [← hX, ← hY] at hfour
  rw [← hX', ← hY'] at hfour'
  have sX : ∀ j, j < 4 → Small (2 ^ 34) (X j) := fun j _ => by subst hX; have := tmod_small 17179869184 (x j) (by decide); unfold Small rm at *; omega
  have sY : ∀ j, j < 4 → Small (2 ^ 34) (Y j) := fun j _ => by subst hY; have := tmod_small 17179869184 (y j) (by decide); unfold Small rm at *; omega
  have sX' : ∀ j, j < 4 → Small (2 ^ 34) (X' j) := fun j _ => by subst hX'; have := tmod_small 17179869184 (x' j) (by decide); unfold Small rm at *; omega
  have sY' : ∀ j, j < 4 → Small (2 ^ 34) (Y' j) := fun j _ => by subst hY'; have := tmod_small 17179869184 (y' j) (by decide); unfold Small rm at *; omega
  clear hX hY hX' hY'
  have up : ∀ (n : Int), Small (2 ^ 34) n → Small (2 ^ 50) n := fun n h => by unfold Small at *; omega
  have hXw : ∀ j, j < 4 → Whole (fr X j) (X j) := fun j hj => fr_whole j (up _ (sX j hj))
  have hYw : ∀ j, j < 4 → Whole (fr Y j) (Y j) := fun j hj => fr_whole j (up _ (sY j hj))
  have hXw' : ∀ j, j < 4 → Whole (fr X' j) (X' j) := fun j hj => fr_whole j (up _ (sX' j hj))
  have hYw' : ∀ j, j < 4 → Whole (fr Y' j) (Y' j) := fun j hj => fr_whole j (up _ (sY' j hj))
  have HA : Hid (∀ j, j < 4 → cSumBits .add .f64 (fr X j) (fr Y j) (fr X' j) (fr Y' j) = some ((cA (fr X j) (fr Y j) (fr X' j) (fr Y' j)).1, (cA (fr X j) (fr Y j) (fr X' j) (fr Y' j)).2)) := fun j hj => (cA_whole (hXw j hj) (hYw j hj) (hXw' j hj) (hYw' j hj) (up _ (sX j hj)) (up _ (sY j hj)) (up _ (sX' j hj)) (up _ (sY' j hj))).1
  have HT : Hid (∀ j, j < 4 → cMulBits (fr X j) (fr Y j) (tre (k % 4)) (tim (k % 4)) = some ((cT (k % 4) (fr X j) (fr Y j)).1, (cT (k % 4) (fr X j) (fr Y j)).2)) := fun j hj => (cT_whole (k % 4) (hXw j hj) (hYw j hj) (up _ (sX j hj)) (up _ (sY j hj))).1
  have HW : Hid ((∀ j, j < 4 → Small (2 ^ 34) (X j) ∧ Small (2 ^ 34) (Y j) ∧ Small (2 ^ 34) (X' j) ∧ Small (2 ^ 34) (Y' j)) ∧ (∀ j, j < 4 → Whole (fr X j) (X j) ∧ Whole (fr Y j) (Y j) ∧ Whole (fr X' j) (X' j) ∧ Whole (fr Y' j) (Y' j))) := ⟨fun j hj => ⟨sX j hj, sY j hj, sX' j hj, sY' j hj⟩, fun j hj => ⟨hXw j hj, hYw j hj, hXw' j hj, hYw' j hj⟩⟩
  clear sX sY sX' sY' up hXw hYw hXw' hYw'
  go_enter Try.func4, Try.ntmps4
  go_wp2_with fail
  refine (hfour _).mono ?_
  rintro e w1 ⟨rfl, hB1⟩
  have yb0 : w1.cell? ⟨w.heap.size + 1, 0, none⟩ = some (.int .i64 (x' 0)) := cell_later hB1 (by simp [go_sem])
  have yb1 : w1.cell? ⟨w.heap.size + 1, 1, none⟩ = some (.int .i64 (y' 0)) := cell_later hB1 (by simp [go_sem])
  have yb2 : w1.cell? ⟨w.heap.size + 1, 2, none⟩ = some (.int .i64 (x' 1)) := cell_later hB1 (by simp [go_sem])
  have yb3 : w1.cell? ⟨w.heap.size + 1, 3, none⟩ = some (.int .i64 (y' 1)) := cell_later hB1 (by simp [go_sem])
  have yb4 : w1.cell? ⟨w.heap.size + 1, 4, none⟩ = some (.int .i64 (x' 2)) := cell_later hB1 (by simp [go_sem])
  have yb5 : w1.cell? ⟨w.heap.size + 1, 5, none⟩ = some (.int .i64 (y' 2)) := cell_later hB1 (by simp [go_sem])
  have yb6 : w1.cell? ⟨w.heap.size + 1, 6, none⟩ = some (.int .i64 (x' 3)) := cell_later hB1 (by simp [go_sem])
  have yb7 : w1.cell? ⟨w.heap.size + 1, 7, none⟩ = some (.int .i64 (y' 3)) := cell_later hB1 (by simp [go_sem])
  have hs1 : w.heap.size + 1 < w1.heap.size := by have := hB1.size; simp at this; omega
  have hbw1 : Below w.heap.size w w1 := Below.trans (b := _) (((Below.refl _ _).alloc (Nat.le_refl _) _).alloc (by simp) _) (hB1.mono (by simp; omega))
  have hs1' : w.heap.size + 1 < w1.heap.size + 1 := by omega
  clear hB1
  go_wp2_with fail
  refine (hfour' _).mono ?_
  rintro e w2 ⟨rfl, hB2⟩
  have ab0 : w2.cell? ⟨w1.heap.size + 1, 0, none⟩ = some (.complex .f64 (fr X 0) (fr Y 0)) := cell_later hB2 (by simp [go_sem])
  have ab1 : w2.cell? ⟨w1.heap.size + 1, 1, none⟩ = some (.complex .f64 (fr X 1) (fr Y 1)) := cell_later hB2 (by simp [go_sem])
  have ab2 : w2.cell? ⟨w1.heap.size + 1, 2, none⟩ = some (.complex .f64 (fr X 2) (fr Y 2)) := cell_later hB2 (by simp [go_sem])
  have ab3 : w2.cell? ⟨w1.heap.size + 1, 3, none⟩ = some (.complex .f64 (fr X 3) (fr Y 3)) := cell_later hB2 (by simp [go_sem])
  have hs2 : w1.heap.size + 1 < w2.heap.size := by have := hB2.size; simp at this; omega
  have hbw2 : Below w.heap.size w w2 := Below.trans (b := _) ((hbw1.alloc hbw1.size _).alloc (by have := hbw1.size; simp; omega) _) (hB2.mono (by have := hbw1.size; simp; omega))
  have HBK : Hid (w2.heap[w1.heap.size + 1]? = some (.cells (c4 (fr X) (fr Y)) 26 (0, 0))) := (hB2.block _ (by simp)).trans (heap_alloc2_new w1 _ _)
  clear hB2 yb0 yb1 yb2 yb3 yb4 yb5 yb6 yb7 hfour hfour'
  go_upto_block 0 with fail
  have haj : ∀ t, t < 4 → w2.cell? ⟨w1.heap.size + 1, t, none⟩ = some (.complex .f64 (fr X t) (fr Y t)) := fun t ht => by
    have : t = 0 ∨ t = 1 ∨ t = 2 ∨ t = 3 := by omega
    rcases this with h | h | h | h <;> subst h <;> assumption
  clear ab0 ab1 ab2 ab3
  go_cut [] from 29 (fun wx => Hid (Below w.heap.size w wx ∧ wx.heap[w1.heap.size + 1]? = some (.cells (c4 (fr X) (fr Y)) 26 (0, 0)) ∧ wx.heap[w2.heap.size + 1]? = some (.cells (c4 (fr X') (fr Y')) 26 (0, 0)) ∧ wx.heap[w2.heap.size + 1 + 1]? = some (.cells (c4 (fun t => (cA (fr X t) (fr Y t) (fr X' t) (fr Y' t)).1) (fun t => (cA (fr X t) (fr Y t) (fr X' t) (fr Y' t)).2)) 26 (0, 0)) ∧ wx.heap[w2.heap.size + 1 + 1 + 1]? = some (.cells (c4 (fun t => (cT (k % 4) (fr X t) (fr Y t)).1) (fun t => (cT (k % 4) (fr X t) (fr Y t)).2)) 26 (0, 0))))
  case first =>
    go_wp2_with fail
    have HJ : Hid (∀ t, t < 4 → w2.cell? ⟨w1.heap.size + 1, t, none⟩ = some (.complex .f64 (fr X t) (fr Y t))) := haj
    clear haj
    go_loopg [29] 4 (fun g i wr => ∃ j n : Nat, j + g = 4 ∧ i = .int .i64 (j : Int) ∧ wr = ((((w2.alloc (.cells (t8 X' Y') 24)).alloc (.cells (c4 (fr X') (fr Y')) 26)).alloc (.cells (c4 (fun t => if t < j then (cA (fr X t) (fr Y t) (fr X' t) (fr Y' t)).1 else 0) (fun t => if t < j then (cA (fr X t) (fr Y t) (fr X' t) (fr Y' t)).2 else 0)) 26)).alloc (.cells (c4 (fun t => if t < j then (cT (k % 4) (fr X t) (fr Y t)).1 else 0) (fun t => if t < j then (cT (k % 4) (fr X t) (fr Y t)).2 else 0)) 26)).drewN n)
    case atStart => exact ⟨0, 0, by omega, rfl, rfl⟩
    case round =>
      obtain ⟨j, n, hj, rfl, rfl⟩ := hrel
      by_cases hj4 : j = 4
      · subst hj4
        clear hj HA HT
        go_wp2
        go_meet
        have s2 := hs2
        refine ⟨Below_drewN ((((hbw2.alloc hbw2.size _).alloc (by have := hbw2.size; simp; omega) _).alloc (by have := hbw2.size; simp; omega) _).alloc (by have := hbw2.size; simp; omega) _) n, ?_, ?_, ?_, ?_⟩
        · rw [World.heap_drewN, Below.heap_alloc _ _ _ (by simp; omega), Below.heap_alloc _ _ _ (by simp; omega), Below.heap_alloc _ _ _ (by simp; omega), Below.heap_alloc _ _ _ (by omega)]
          exact HBK.out
        · rw [World.heap_drewN, Below.heap_alloc _ _ _ (by simp), Below.heap_alloc _ _ _ (by simp)]
          exact heap_alloc2_new w2 _ _
        · rw [World.heap_drewN, Below.heap_alloc _ _ _ (by simp)]
          have h := heap_alloc2_new (w2.alloc (.cells (t8 X' Y') 24)) (.cells (c4 (fr X') (fr Y')) 26) (.cells (c4 (fun t => if t < 4 then (cA (fr X t) (fr Y t) (fr X' t) (fr Y' t)).1 else 0) (fun t => if t < 4 then (cA (fr X t) (fr Y t) (fr X' t) (fr Y' t)).2 else 0)) 26)
          have e : (w2.alloc (.cells (t8 X' Y') 24)).heap.size = w2.heap.size + 1 := by simp
          rw [e] at h
          exact h
        · rw [World.heap_drewN]
          have h := heap_alloc2_new ((w2.alloc (.cells (t8 X' Y') 24)).alloc (.cells (c4 (fr X') (fr Y')) 26)) (.cells (c4 (fun t => if t < 4 then (cA (fr X t) (fr Y t) (fr X' t) (fr Y' t)).1 else 0) (fun t => if t < 4 then (cA (fr X t) (fr Y t) (fr X' t) (fr Y' t)).2 else 0)) 26) (.cells (c4 (fun t => if t < 4 then (cT (k % 4) (fr X t) (fr Y t)).1 else 0) (fun t => if t < 4 then (cT (k % 4) (fr X t) (fr Y t)).2 else 0)) 26)
          have e : ((w2.alloc (.cells (t8 X' Y') 24)).alloc (.cells (c4 (fr X') (fr Y')) 26)).heap.size = w2.heap.size + 1 + 1 := by simp
          rw [e] at h
          exact h
      have hj3 : j < 4 := by omega
      have hj3' : (j : Int) < 4 := by omega
      obtain ⟨GK, HG⟩ : ∃ g, Hid (g < gk ∧ j + 1 + g = 4) := ⟨gk - 1, by omega, by omega⟩
      clear hj hj4
      have haj := HJ.out j hj3
      have hbj := c4_get (fr X') (fr Y') j hj3
      have hcj := c4_get (fun t => if t < j then (cA (fr X t) (fr Y t) (fr X' t) (fr Y' t)).1 else 0) (fun t => if t < j then (cA (fr X t) (fr Y t) (fr X' t) (fr Y' t)).2 else 0) j hj3
      have hdj := c4_get (fun t => if t < j then (cT (k % 4) (fr X t) (fr Y t)).1 else 0) (fun t => if t < j then (cT (k % 4) (fr X t) (fr Y t)).2 else 0) j hj3
      have hcs := c4_put (fun t => (cA (fr X t) (fr Y t) (fr X' t) (fr Y' t)).1) (fun t => (cA (fr X t) (fr Y t) (fr X' t) (fr Y' t)).2) j hj3
      have hds := c4_put (fun t => (cT (k % 4) (fr X t) (fr Y t)).1) (fun t => (cT (k % 4) (fr X t) (fr Y t)).2) j hj3
      have hadd := fun t w => run_complex_sum (P := Try.prog) w .add (Or.inl rfl) t _ _ _ _ _ _ _ (HA.out j hj3)
      have hmul := fun t w => run_complex_mul (P := Try.prog) w t _ _ _ _ _ _ (HT.out j hj3)
      have z1 : w1.heap.size + 1 < w2.heap.size + 1 := by omega
      have z2 : w1.heap.size + 1 < w2.heap.size + 1 + 1 := by omega
      have z3 : w1.heap.size + 1 < w2.heap.size + 1 + 1 + 1 := by omega
      clear HA HT HJ HW
      go_wp2
      go_region
      go_wp2
      go_region_with (go_at_call 9; refine (turn_any _ _).mono ?_; rintro e w' ⟨rfl, rfl⟩)
      all_goals
        go_wp2
        go_roundg GK
        case measure => exact HG.out.1
        case rel => exact ⟨j + 1, _, HG.out.2, by go_num, rfl⟩
  case rest =>
    clear haj HA HT HBK
    have hFit : Fit X Y X' Y' := HW.out
    obtain ⟨AA, hAA⟩ : ∃ AA : Nat → Nat → Nat, AA = rowR k X Y X' Y' := ⟨_, rfl⟩
    obtain ⟨BB, hBB⟩ : ∃ BB : Nat → Nat → Nat, BB = rowI k X Y X' Y' := ⟨_, rfl⟩
    have hb0 : wc.heap[w1.heap.size + 1]? = some (.cells (c4 (AA 0) (BB 0)) 26 (0, 0)) := by rw [hAA, hBB]; exact hcut.out.2.1
    have hb1 : wc.heap[w2.heap.size + 1]? = some (.cells (c4 (AA 1) (BB 1)) 26 (0, 0)) := by rw [hAA, hBB]; exact hcut.out.2.2.1
    have hb2 : wc.heap[w2.heap.size + 1 + 1]? = some (.cells (c4 (AA 2) (BB 2)) 26 (0, 0)) := by rw [hAA, hBB]; exact hcut.out.2.2.2.1
    have hb3 : wc.heap[w2.heap.size + 1 + 1 + 1]? = some (.cells (c4 (AA 3) (BB 3)) 26 (0, 0)) := by rw [hAA, hBB]; exact hcut.out.2.2.2.2
    have HBW := hcut.out.1
    have hF : ∀ j, j < 4 → ∀ w, Calls Try.prog 7 #[.agg (c4 (AA j) (BB j))] w fun e w' => e = .returned (.agg (c4 (fR (AA j) (BB j)) (fI (AA j) (BB j)))) ∧ Below w.heap.size w w' := by
      rw [hAA, hBB]
      exact fun j _ w => rows_forth hFit j w
    have HE : Hid (∀ t : Nat, ∃ sr si tr ti : Nat, cSumBits .add .f64 (fR (AA 0) (BB 0) t) (fI (AA 0) (BB 0) t) (fR (AA 1) (BB 1) t) (fI (AA 1) (BB 1) t) = some (sr, si) ∧
        cMulBits (fR (AA 0) (BB 0) t) (fI (AA 0) (BB 0) t) (tre (k % 4)) (tim (k % 4)) = some (tr, ti) ∧
        (FloatKind.f64.format.order (fR (AA 2) (BB 2) t) sr == some .eq) = true ∧ (FloatKind.f64.format.order (fI (AA 2) (BB 2) t) si == some .eq) = true ∧
        (FloatKind.f64.format.order (fR (AA 3) (BB 3) t) tr == some .eq) = true ∧ (FloatKind.f64.format.order (fI (AA 3) (BB 3) t) ti == some .eq) = true) := by
      rw [hAA, hBB]
      exact fun t => rows_end hFit t
    clear hAA hBB hcut hFit HW
    go_wp2
    go_cut [14, 15, 16, 17] from 50 (fun s14 s15 s16 s17 wx => ∃ G : Nat → Nat, s14 = .pointer (some ⟨G 0, 0, none⟩) ∧ s15 = .pointer (some ⟨G 1, 0, none⟩) ∧ s16 = .pointer (some ⟨G 2, 0, none⟩) ∧ s17 = .pointer (some ⟨G 3, 0, none⟩) ∧ Hid (Below w.heap.size w wx ∧ ∀ j, j < 4 → wx.heap[G j]? = some (.cells (c4 (fR (AA j) (BB j)) (fI (AA j) (BB j))) 26 (0, 0))))
    case first =>
      refine wp_region_inv (by kernel_rfl) (lowB_spec (by kernel_rfl)) (fun A0 L a w' => FI A0 wc (fun j => c4 (AA j) (BB j)) (fun j => c4 (fR (AA j) (BB j)) (fI (AA j) (BB j))) L a w') ?init ?step ?fin
      case init =>
        refine ⟨rfl, rfl, rfl, fun _ _ => rfl, fun _ => 0, (Below.refl _ _).drew, ?_, ?_, ?_, ?_, ?_⟩
        · intro j _ h; cases h
        · intro j _ h; cases h
        · intro j _ h; cases h
        · intro i j _ _ _ h; cases h
        · intro j _ h; cases h
      case fin =>
        intro L a w' hI hall
        obtain ⟨s, G, hc, hb⟩ := fi_end hI
        clear hI
        have hall' : ∀ i, i < 16 → L i = true := fun i hi => hall i hi
        clear hall
        simp only [puts, Act.put, dd, List.setIfInBounds_toArray, List.set_cons_succ, List.set_cons_zero, Nat.reduceLT, Nat.reduceAdd, if_true, if_false] at hb
        subst hb
        go_wp2_with fail
        go_meet
        case rel =>
          have hp := fun j hj => (hc.2.2.2.1 j hj (hall' (8 + j) (by omega)))
          refine ⟨G, (hp 0 (by decide)).1, (hp 1 (by decide)).1, (hp 2 (by decide)).1, (hp 3 (by decide)).1, HBW.trans (hc.1.mono HBW.size), fun j hj => ?_⟩
          have h1 := (hp j hj).2.2
          rw [if_pos (hall' (12 + j) (by omega))] at h1
          exact h1
      case step =>
        intro L a w' i o hI ho hLi hpre K hK
        have hi : i < 16 := by
          rcases Nat.lt_or_ge i 16 with h | h
          · exact h
          · simp [h] at ho
        have h16 : i = 0 ∨ i = 1 ∨ i = 2 ∨ i = 3 ∨ i = 4 ∨ i = 5 ∨ i = 6 ∨ i = 7 ∨ i = 8 ∨ i = 9 ∨ i = 10 ∨ i = 11 ∨ i = 12 ∨ i = 13 ∨ i = 14 ∨ i = 15 := by omega
        rcases h16 with rfl | rfl | rfl | rfl | rfl | rfl | rfl | rfl | rfl | rfl | rfl | rfl | rfl | rfl | rfl | rfl
        · simp at ho
          subst ho
          refine wanted_plain rfl ?_
          exact fi_load hI 0 8 (w1.heap.size + 1) (by decide) rfl rfl (by unfold Out12; omega) rfl hb0 rfl hK
        · simp at ho
          subst ho
          refine wanted_plain rfl ?_
          exact fi_call hI 0 7 (by decide) _ rfl rfl (hpre { on := 0, ground := .data } (by simp) rfl) (fun v => by simp [go_sem]) (hF 0 (by decide) w') hK
        · simp at ho
          subst ho
          refine wanted_plain rfl ?_
          exact fi_load hI 1 10 (w2.heap.size + 1) (by decide) rfl rfl (by unfold Out12; omega) rfl hb1 rfl hK
        · simp at ho
          subst ho
          refine wanted_plain rfl ?_
          exact fi_call hI 1 7 (by decide) _ rfl rfl (hpre { on := 2, ground := .data } (by simp) rfl) (fun v => by simp [go_sem]) (hF 1 (by decide) w') hK
        · simp at ho
          subst ho
          refine wanted_plain rfl ?_
          exact fi_load hI 2 11 (w2.heap.size + 1 + 1) (by decide) rfl rfl (by unfold Out12; omega) rfl hb2 rfl hK
        · simp at ho
          subst ho
          refine wanted_plain rfl ?_
          exact fi_call hI 2 7 (by decide) _ rfl rfl (hpre { on := 4, ground := .data } (by simp) rfl) (fun v => by simp [go_sem]) (hF 2 (by decide) w') hK
        · simp at ho
          subst ho
          refine wanted_plain rfl ?_
          exact fi_load hI 3 12 (w2.heap.size + 1 + 1 + 1) (by decide) rfl rfl (by unfold Out12; omega) rfl hb3 rfl hK
        · simp at ho
          subst ho
          refine wanted_plain rfl ?_
          exact fi_call hI 3 7 (by decide) _ rfl rfl (hpre { on := 6, ground := .data } (by simp) rfl) (fun v => by simp [go_sem]) (hF 3 (by decide) w') hK
        · simp at ho
          subst ho
          refine wanted_plain rfl ?_
          exact fi_alloc hI 0 (by decide) rfl rfl hLi hK
        · simp at ho
          subst ho
          refine wanted_plain rfl ?_
          exact fi_alloc hI 1 (by decide) rfl rfl hLi hK
        · simp at ho
          subst ho
          refine wanted_plain rfl ?_
          exact fi_alloc hI 2 (by decide) rfl rfl hLi hK
        · simp at ho
          subst ho
          refine wanted_plain rfl ?_
          exact fi_alloc hI 3 (by decide) rfl rfl hLi hK
        · simp at ho
          subst ho
          refine wanted_plain rfl ?_
          exact fi_store hI 0 (by decide) rfl rfl (hpre { on := 8, ground := .data } (by simp) rfl) (hpre { on := 1, ground := .data } (by simp) rfl) rfl (c4_one _ _) hK
        · simp at ho
          subst ho
          refine wanted_plain rfl ?_
          exact fi_store hI 1 (by decide) rfl rfl (hpre { on := 9, ground := .data } (by simp) rfl) (hpre { on := 3, ground := .data } (by simp) rfl) rfl (c4_one _ _) hK
        · simp at ho
          subst ho
          refine wanted_plain rfl ?_
          exact fi_store hI 2 (by decide) rfl rfl (hpre { on := 10, ground := .data } (by simp) rfl) (hpre { on := 5, ground := .data } (by simp) rfl) rfl (c4_one _ _) hK
        · simp at ho
          subst ho
          refine wanted_plain rfl ?_
          exact fi_store hI 3 (by decide) rfl rfl (hpre { on := 11, ground := .data } (by simp) rfl) (hpre { on := 7, ground := .data } (by simp) rfl) rfl (c4_one _ _) hK
    case rest =>
      obtain ⟨G, rfl, rfl, rfl, rfl, HC⟩ := hcut
      clear hF hb0 hb1 hb2 hb3
      go_wp2_with fail
      go_loopg [58] 4 (fun g i wr => ∃ n : Nat, n + g = 4 ∧ i = .int .i64 (n : Int) ∧ Hid (Below w.heap.size w wr ∧ ∀ j, j < 4 → ∀ t, t < 4 → wr.cell? ⟨G j, t, none⟩ = some (.complex .f64 (fR (AA j) (BB j) t) (fI (AA j) (BB j) t))))
      case atStart =>
        refine ⟨0, by omega, rfl, HC.out.1, fun j hj t ht => ?_⟩
        rw [cell_of_row wc (G j) t _ 26 (0, 0) (HC.out.2 j hj)]
        exact c4_get _ _ t ht
      case round =>
        obtain ⟨n, hn, rfl, HR⟩ := hrel
        by_cases hn4 : n = 4
        · subst hn4
          clear hn HE
          go_wp2_with (go_at_call 8; refine (awake_any _).mono ?_; rintro e w' ⟨rfl, rfl⟩)
          go_ret
          exact ⟨rfl, HR.out.1⟩
        have hn3 : n < 4 := by omega
        have hn3' : (n : Int) < 4 := by omega
        obtain ⟨GK, HG⟩ : ∃ g, Hid (g < gk ∧ n + 1 + g = 4) := ⟨gk - 1, by omega, by omega⟩
        clear hn hn4
        obtain ⟨sr, si, tr, ti, hs, ht, e1, e2, e3, e4⟩ := HE.out n
        have hadd := fun t w => run_complex_sum (P := Try.prog) w .add (Or.inl rfl) t _ _ _ _ _ _ _ hs
        have hmul := fun t w => run_complex_mul (P := Try.prog) w t _ _ _ _ _ _ ht
        go_wp2
        have z0 : ∀ z : Later wr, z.val.cell? ⟨G 0, n, none⟩ = some (.complex .f64 (fR (AA 0) (BB 0) n) (fI (AA 0) (BB 0) n)) := fun z => z.cell (HR.out.2 0 (by decide) n hn3)
        have z1 : ∀ z : Later wr, z.val.cell? ⟨G 1, n, none⟩ = some (.complex .f64 (fR (AA 1) (BB 1) n) (fI (AA 1) (BB 1) n)) := fun z => z.cell (HR.out.2 1 (by decide) n hn3)
        have z2 : ∀ z : Later wr, z.val.cell? ⟨G 2, n, none⟩ = some (.complex .f64 (fR (AA 2) (BB 2) n) (fI (AA 2) (BB 2) n)) := fun z => z.cell (HR.out.2 2 (by decide) n hn3)
        have z3 : ∀ z : Later wr, z.val.cell? ⟨G 3, n, none⟩ = some (.complex .f64 (fR (AA 3) (BB 3) n) (fI (AA 3) (BB 3) n)) := fun z => z.cell (HR.out.2 3 (by decide) n hn3)
        clear HE hs ht
        refine wp_region_later (by kernel_rfl) (by kernel_rfl) ?_
        repeat (go_big_quiet_step (first | exact rfl | (go_at_call 9; exact later_same (turn_any _) _)))
        refine wpQuiet_nil ?_
        rintro _ ⟨z, rfl⟩
        go_wp2
        go_roundg GK
        case measure => exact HG.out.1
        case rel => exact ⟨n + 1, HG.out.2, by go_num, HR.out.1.trans (z.2.mono HR.out.1.size), fun j hj t ht => z.cell (HR.out.2 j hj t ht)⟩
end Go.Proofs.Ytchnjoikjadciab.phaseSums
