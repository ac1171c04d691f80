/- The walk of the law that a meter's counts come back out of its four waves. -/
import Derived.Test.YtchnjoikjadciabAdd
import Derived.Test.YtchnjoikjadciabSlice
import Derived.Test.YtchnjoikjadciabBack
import Derived.Deep.CutBlock
namespace Go.Proofs.Ytchnjoikjadciab
open Go.RowKit

theorem later_at {P : Program} {f : FuncId} {args : Array Value} {W : World} {v : Value} (h : ∀ z : Later W, Calls P f args z.val fun e w' => e = .returned v ∧ Below z.val.heap.size z.val w') (x : Later W) :
    Calls P f args x.val fun e w'' => e = .returned v ∧ ∃ y : Later W, w'' = y.val :=
  (h x).mono fun _ w' ⟨he, hw⟩ => ⟨he, ⟨w', x.2.trans (hw.mono x.2.size)⟩, rfl⟩

theorem wave_later (W : World) (g : Nat) (c : Nat → Int) (k : Int) (cs : ∀ j, j < 4 → Small (2 ^ 40) (c j)) (hm : ∀ z : Later W, ∀ t, t < 4 → z.val.cell? ⟨g, t, none⟩ = some (.int .i64 (c t))) (hg : ∀ z : Later W, g < z.val.heap.size) (z : Later W) :
    Calls Try.prog 13 #[.pointer (some ⟨g, 0, none⟩), .int .i64 k] z.val fun e w' => e = .returned (.complex .f64 (fR (fr c) (fun _ => 0) (k % 4).toNat) (fI (fr c) (fun _ => 0) (k % 4).toNat)) ∧ ∃ y : Later W, w' = y.val := by
  refine later_at (fun z => ?_) z
  refine (wave_of (.pointer (some ⟨g, 0, none⟩)) c k z.val (counts_any g c _ (by rw [World.cell?_alloc_past _ _ _ (hg z)]; exact hm z 0 (by decide)) (by rw [World.cell?_alloc_past _ _ _ (hg z)]; exact hm z 1 (by decide)) (by rw [World.cell?_alloc_past _ _ _ (hg z)]; exact hm z 2 (by decide)) (by rw [World.cell?_alloc_past _ _ _ (hg z)]; exact hm z 3 (by decide)) (by have := hg z; simp; omega)) cs).mono fun e w' ⟨he, n, hw⟩ => ⟨he, ?_⟩
  rw [hw]
  refine Below_drewN ?_ _
  repeat (first | exact Below.refl _ _ | (refine Below.alloc ?_ (by simp <;> omega) _))

theorem peak_later (W : World) (g : Nat) (c : Nat → Int) (hm : ∀ z : Later W, ∀ t, t < 4 → z.val.cell? ⟨g, t, none⟩ = some (.int .i64 (c t))) (hg : ∀ z : Later W, g < z.val.heap.size) (z : Later W) :
    Calls Try.prog 15 #[.pointer (some ⟨g, 0, none⟩)] z.val fun e w' => e = .returned (.int .i64 (pk c)) ∧ ∃ y : Later W, w' = y.val := by
  refine later_at (fun z => ?_) z
  refine (peak_of (.pointer (some ⟨g, 0, none⟩)) c z.val (counts_any g c _ (hm z 0 (by decide)) (hm z 1 (by decide)) (hm z 2 (by decide)) (hm z 3 (by decide)) (hg z))).mono fun e w' ⟨he, hw⟩ => ⟨he, ?_⟩
  rw [hw]
  repeat (first | exact Below.refl _ _ | (refine Below.alloc ?_ (by simp <;> omega) _))

theorem four_back (p q : Nat → Int) : ∀ t, t < 4 → Sre (fun k => Sre p q (-1) k 4) (fun k => Sim p q (-1) k 4) 1 t 4 = 4 * p t ∧ Sim (fun k => Sre p q (-1) k 4) (fun k => Sim p q (-1) k 4) 1 t 4 = 4 * q t := by
  intro t ht
  have : t = 0 ∨ t = 1 ∨ t = 2 ∨ t = 3 := by omega
  rcases this with h | h | h | h <;> subst h <;> simp [Sre, Sim, mre, mim, rre, rim] <;> omega

theorem unitSmall {B p : Int} (hp : Small B p) (u : Int) (hu : u = 0 ∨ u = 1 ∨ u = -1) : Small B (p * u) := by
  unfold Small at *
  rcases hu with h | h | h <;> rw [h] <;> omega
theorem waveSmall (c : Nat → Int) (h : ∀ j, j < 4 → Small (2 ^ 38) (c j)) (k : Nat) : Small (2 ^ 40) (Sre c (fun _ => 0) (-1) k 4) := by
  have h0 := h 0 (by decide)
  have h1 := h 1 (by decide)
  have h2 := h 2 (by decide)
  have h3 := h 3 (by decide)
  simp only [Sre, mre, Int.zero_mul, Int.sub_zero, Int.zero_add]
  have s0 := unitSmall h0 (rre (-1 * ((0 : Nat) : Int) * (k : Int) % 4)) (rre_cases _)
  have s1 := unitSmall h1 (rre (-1 * ((1 : Nat) : Int) * (k : Int) % 4)) (rre_cases _)
  have s2 := unitSmall h2 (rre (-1 * ((2 : Nat) : Int) * (k : Int) % 4)) (rre_cases _)
  have s3 := unitSmall h3 (rre (-1 * ((3 : Nat) : Int) * (k : Int) % 4)) (rre_cases _)
  unfold Small at *
  omega
theorem waveSmall' (c : Nat → Int) (h : ∀ j, j < 4 → Small (2 ^ 38) (c j)) (k : Nat) : Small (2 ^ 40) (Sim c (fun _ => 0) (-1) k 4) := by
  have h0 := h 0 (by decide)
  have h1 := h 1 (by decide)
  have h2 := h 2 (by decide)
  have h3 := h 3 (by decide)
  simp only [Sim, mim, Int.zero_mul, Int.add_zero, Int.zero_add]
  have s0 := unitSmall h0 (rim (-1 * ((0 : Nat) : Int) * (k : Int) % 4)) (rim_cases _)
  have s1 := unitSmall h1 (rim (-1 * ((1 : Nat) : Int) * (k : Int) % 4)) (rim_cases _)
  have s2 := unitSmall h2 (rim (-1 * ((2 : Nat) : Int) * (k : Int) % 4)) (rim_cases _)
  have s3 := unitSmall h3 (rim (-1 * ((3 : Nat) : Int) * (k : Int) % 4)) (rim_cases _)
  unfold Small at *
  omega

theorem pk_range (c : Nat → Int) : 0 ≤ pk c ∧ pk c < 4 := by
  unfold pk
  simp only []
  repeat' split
  all_goals omega

theorem pk_most (c : Nat → Int) : ∀ t, t < 4 → c t ≤ c (pk c).toNat := by
  intro t ht
  have : t = 0 ∨ t = 1 ∨ t = 2 ∨ t = 3 := by omega
  unfold pk
  simp only []
  by_cases h1 : c 0 < c 1
  · by_cases h2 : c 1 < c 2
    · by_cases h3 : c 2 < c 3
      · simp only [h1, h2, h3, if_true]; rcases this with h | h | h | h <;> subst h <;> simp <;> omega
      · simp only [h1, h2, h3, if_true, if_false]; rcases this with h | h | h | h <;> subst h <;> simp <;> omega
    · by_cases h3 : c 1 < c 3
      · simp only [h1, h2, h3, if_true, if_false]; rcases this with h | h | h | h <;> subst h <;> simp <;> omega
      · simp only [h1, h2, h3, if_true, if_false]; rcases this with h | h | h | h <;> subst h <;> simp <;> omega
  · by_cases h2 : c 0 < c 2
    · by_cases h3 : c 2 < c 3
      · simp only [h1, h2, h3, if_true, if_false]; rcases this with h | h | h | h <;> subst h <;> simp <;> omega
      · simp only [h1, h2, h3, if_true, if_false]; rcases this with h | h | h | h <;> subst h <;> simp <;> omega
    · by_cases h3 : c 0 < c 3
      · simp only [h1, h2, h3, if_true, if_false]; rcases this with h | h | h | h <;> subst h <;> simp <;> omega
      · simp only [h1, h2, h3, if_false]; rcases this with h | h | h | h <;> subst h <;> simp <;> omega

theorem k4_set (c : Nat → Int) (p : Nat) (hp : p < 4) (v : Int) : (k4 c).setIfInBounds p (.int .i64 v) = k4 (fun t => if t = p then v else c t) := by
  have : p = 0 ∨ p = 1 ∨ p = 2 ∨ p = 3 := by omega
  rcases this with h | h | h | h <;> subst h <;> rfl

def Counted (c : Nat → Int) : Prop := ∀ t, t < 4 → 0 ≤ c t ∧ c t ≤ 274877906944

theorem one_cell (w : World) (c : Nat → Int) (m p : Nat) (hp : p < 4) : ((w.alloc (.cells (k4 c) 51)).drewN m).cell? ⟨w.heap.size, p, none⟩ = some (.int .i64 (c p)) := by
  rw [World.cell?_drewN, World.cell?_alloc_at _ _ _ _ rfl]
  exact k4_get c p hp
theorem one_frozen (w : World) (c : Nat → Int) (m p : Nat) : ((w.alloc (.cells (k4 c) 51)).drewN m).frozen? ⟨w.heap.size, p, none⟩ = false := by
  rw [World.frozen?_drewN, World.frozen?_alloc_at _ _ _ _ rfl]
theorem one_set (w : World) (c : Nat → Int) (m p : Nat) (hp : p < 4) (v : Int) : ((w.alloc (.cells (k4 c) 51)).drewN m).setCell ⟨w.heap.size, p, none⟩ (.int .i64 v) = (w.alloc (.cells (k4 (fun t => if t = p then v else c t)) 51)).drewN m := by
  rw [setCell_drewN, World.setCell_alloc_at _ _ _ _ _ rfl, k4_set c p hp]

set_option maxHeartbeats 1000000 in
set_option maxRecDepth 100000 in
theorem walkR (a : Option Addr) (len cap : Nat) (T N : Nat → Int) (w : World) (hl : len ≤ maxLen) (hA : Adds w a len T N) :
    Calls Try.prog 5 #[.slice a len cap] w fun e w' => e = .returned (.bool true) ∧ Below w.heap.size w w' := by
  have HA : Hid (Adds w a len T N) := hA
  unfold maxLen at hl
  clear hA
  go_enter Try.func5, Try.ntmps5
  go_upto_block 0 with (go_at_call 10; refine (new_any _).mono ?_; rintro e w' ⟨rfl, rfl⟩)
  go_cut [] from 9 (fun wx => ∃ (c : Nat → Int) (n : Nat), wx = (w.alloc (.cells (k4 c) 51)).drewN n ∧ Hid (Counted c))
  case first =>
    go_wp2_with fail
    go_loopg [4] 100 (fun g i wr => ∃ (j n : Nat) (c : Nat → Int), j + g = 100 ∧ i = .int .i64 (j : Int) ∧ wr = (w.alloc (.cells (k4 c) 51)).drewN n ∧ Hid (Counted c))
    case atStart => exact ⟨0, 0, fun _ => 0, by omega, rfl, rfl, fun t _ => by show (0 : Int) ≤ 0 ∧ (0 : Int) ≤ 274877906944; decide⟩
    case round =>
      obtain ⟨j, n, c, hj, rfl, rfl, hc⟩ := hrel
      by_cases h1 : j < len
      · by_cases h2 : j = 100
        · subst h2
          have h1' : ((100 : Nat) : Int) < (len : Int) := by omega
          clear HA
          go_wp2
          go_meet
          exact ⟨c, n, rfl, hc⟩
        · have h2' : (j : Int) < 100 := by omega
          have h1' : (j : Int) < (len : Int) := by omega
          obtain ⟨b, off, rfl, ct, cn⟩ := HA.out j h1
          have hb1 : b < w.heap.size := block_lt_of_cell ct
          obtain ⟨GK, HG⟩ : ∃ g, Hid (g < gk ∧ j + 1 + g = 100) := ⟨gk - 1, by omega, by omega⟩
          clear hj h2
          have p4 : (T j % 4).toNat < 4 := by omega
          have hp := hc.out _ p4
          by_cases n1 : N j < 0 ∨ 1048576 < N j
          · go_wp2
            go_region_with (go_at_call 11; refine (add_out _ _ _ _ n1).mono ?_; rintro e w' ⟨rfl, rfl⟩)
            all_goals
              go_wp2
              go_roundg GK
              case measure => exact HG.out.1
              case rel => exact ⟨j + 1, _, c, HG.out.2, by go_num, rfl, hc⟩
          · have g1 : 0 ≤ N j := by omega
            have g2 : N j ≤ 1048576 := by omega
            clear n1
            by_cases n3 : c (T j % 4).toNat + N j ≤ 274877906944
            · have hadd : ∀ m, Calls Try.prog 11 #[.pointer (some ⟨w.heap.size, 0, none⟩), .int .i64 (T j), .int .i64 (N j)] ((w.alloc (.cells (k4 c) 51)).drewN m) fun e w' => e = .returned (.bool true) ∧ ∃ m', w' = (w.alloc (.cells (k4 (fun t => if t = (T j % 4).toNat then c (T j % 4).toNat + N j else c t)) 51)).drewN m' := fun m =>
                (add_take _ _ _ _ _ g1 g2 hp (one_cell w c m _ p4) (one_frozen w c m _) n3).mono fun e w' ⟨he, m', hw⟩ => ⟨he, m + m', by rw [hw, one_set w c m _ p4, World.drewN_drewN]⟩
              have HC : Hid (Counted fun t => if t = (T j % 4).toNat then c (T j % 4).toNat + N j else c t) := fun t ht => by
                by_cases h : t = (T j % 4).toNat
                · simp only [h, if_true]; omega
                · simp only [h, if_false]; exact hc.out t ht
              go_wp2
              go_region_with (go_at_call 11; refine (hadd _).mono ?_; rintro e w' ⟨rfl, m', rfl⟩)
              all_goals
                go_wp2
                go_roundg GK
                case measure => exact HG.out.1
                case rel => exact ⟨j + 1, _, _, HG.out.2, by go_num, rfl, HC⟩
            · have hadd : ∀ m, Calls Try.prog 11 #[.pointer (some ⟨w.heap.size, 0, none⟩), .int .i64 (T j), .int .i64 (N j)] ((w.alloc (.cells (k4 c) 51)).drewN m) fun e w' => e = .returned (.bool false) ∧ ∃ m', w' = (w.alloc (.cells (k4 c) 51)).drewN m' := fun m =>
                (add_full _ _ _ _ _ g1 g2 hp (one_cell w c m _ p4) (by omega)).mono fun e w' ⟨he, m', hw⟩ => ⟨he, m + m', by rw [hw, World.drewN_drewN]⟩
              go_wp2
              go_region_with (go_at_call 11; refine (hadd _).mono ?_; rintro e w' ⟨rfl, m', rfl⟩)
              all_goals
                go_wp2
                go_roundg GK
                case measure => exact HG.out.1
                case rel => exact ⟨j + 1, _, c, HG.out.2, by go_num, rfl, hc⟩
      · have h1' : (len : Int) ≤ (j : Int) := by omega
        clear HA hj
        go_wp2
        go_meet
        exact ⟨c, n, rfl, hc⟩
  case rest =>
    obtain ⟨c, n, rfl, hc⟩ := hcut
    clear HA hl
    have cs : ∀ j, j < 4 → Small (2 ^ 40) (c j) := fun j hj => by have := hc.out j hj; unfold Small; omega
    have cs' : ∀ j, j < 4 → Small (2 ^ 38) (c j) := fun j hj => by have := hc.out j hj; unfold Small; omega
    obtain ⟨W, hW⟩ : ∃ W, W = (w.alloc (.cells (k4 c) 51)).drewN n := ⟨_, rfl⟩
    have hmW : ∀ z : Later W, ∀ t, t < 4 → z.val.cell? ⟨w.heap.size, t, none⟩ = some (.int .i64 (c t)) := by subst hW; exact fun z t ht => z.cell (one_cell w c n t ht)
    have hgW : ∀ z : Later W, w.heap.size < z.val.heap.size := by subst hW; exact fun z => by have := z.2.size; simp at this; omega
    have hbW : Below w.heap.size w W := by subst hW; exact Below_drewN ((Below.refl _ _).alloc (Nat.le_refl _) _) n
    rw [← hW]
    clear hW
    have q := fun t => wave_whole cs t
    have u1 : ∀ j, j < 4 → Small (2 ^ 40) (Sre c (fun _ => 0) (-1) j 4) := fun j _ => by
      have h : Small (2 ^ 40) (Sre c (fun _ => 0) (-1) j 4) := waveSmall c cs' j
      exact h
    have u2 : ∀ j, j < 4 → Small (2 ^ 40) (Sim c (fun _ => 0) (-1) j 4) := fun j _ => waveSmall' c cs' j
    have vXY : ∀ t, t < 4 → Small (2 ^ 50) (c t) ∧ Small (2 ^ 50) ((fun _ => 0 : Nat → Int) t) := fun t ht => ⟨by have := cs t ht; unfold Small at *; omega, by show Small (2 ^ 50) 0; unfold Small; decide⟩
    have hback : ∀ w, Calls Try.prog 12 #[.agg (c4 (fR (fr c) (fun _ => 0)) (fI (fr c) (fun _ => 0)))] w fun e w' => e = .returned (.agg (c4 (bR (fR (fr c) (fun _ => 0)) (fI (fr c) (fun _ => 0))) (bI (fR (fr c) (fun _ => 0)) (fI (fr c) (fun _ => 0))))) ∧ Below w.heap.size w w' := fun w =>
      (back_any _ _ (fun k => Sre c (fun _ => 0) (-1) k 4) (fun k => Sim c (fun _ => 0) (-1) k 4) c (fun _ => 0) (fun j _ => (q j).1) (fun j _ => (q j).2) u1 u2 (four_back c (fun _ => 0)) vXY w).mono fun e w' ⟨he, n, hw⟩ => ⟨he, by
        rw [hw]
        refine Below_drewN ?_ n
        repeat (first | exact Below.refl _ _ | (refine Below.alloc ?_ (by simp <;> omega) _))⟩
    have hbw := bR_whole (fun j _ => (q j).1) (fun j _ => (q j).2) u1 u2 (four_back c (fun _ => 0)) vXY
    have HE : Hid (∀ t, t < 4 → (FloatKind.f64.format.order (bR (fR (fr c) (fun _ => 0)) (fI (fr c) (fun _ => 0)) t) (floatOfInt .f64 (c t)) == some .eq) = true ∧ (FloatKind.f64.format.order (bI (fR (fr c) (fun _ => 0)) (fI (fr c) (fun _ => 0)) t) 0 == some .eq) = true) := fun t ht =>
      ⟨same (hbw t ht).1.2 (whole_int _ (by have := cs t ht; unfold Small at this; omega)), same (hbw t ht).2.2 whole_zero⟩
    have m0 := wave_later W w.heap.size c 0 cs hmW hgW
    have m1 := wave_later W w.heap.size c 1 cs hmW hgW
    have m2 := wave_later W w.heap.size c 2 cs hmW hgW
    have m3 := wave_later W w.heap.size c 3 cs hmW hgW
    rw [show ((0 : Int) % 4).toNat = 0 by decide] at m0
    rw [show ((1 : Int) % 4).toNat = 1 by decide] at m1
    rw [show ((2 : Int) % 4).toNat = 2 by decide] at m2
    rw [show ((3 : Int) % 4).toNat = 3 by decide] at m3
    obtain ⟨A, hAe⟩ : ∃ A, A = fR (fr c) (fun _ => 0) := ⟨_, rfl⟩
    obtain ⟨B, hBe⟩ : ∃ B, B = fI (fr c) (fun _ => 0) := ⟨_, rfl⟩
    rw [← hAe, ← hBe] at m0 m1 m2 m3 hback HE
    clear hbw vXY u1 u2 q cs cs' hAe hBe hc
    have pr := pk_range c
    have HM : Hid (∀ t, t < 4 → c t ≤ c (pk c).toNat) := pk_most c
    go_wp2_with fail
    refine (m0 (⟨_, Below.refl _ _⟩ : Later _)).mono ?_
    rintro e w' ⟨rfl, za, rfl⟩
    go_wp2_with fail
    refine (m1 za).mono ?_
    rintro e w' ⟨rfl, zb, rfl⟩
    go_wp2_with fail
    refine (m2 zb).mono ?_
    rintro e w' ⟨rfl, zc, rfl⟩
    go_wp2_with fail
    refine (m3 zc).mono ?_
    rintro e w' ⟨rfl, zd, rfl⟩
    go_wp2_with fail
    refine (later_call hback zd).mono ?_
    rintro e w' ⟨rfl, ze, rfl⟩
    clear m0 m1 m2 m3 hback
    go_wp2_with fail
    have hze := hgW ze
    refine (counts_any w.heap.size c _ (by rw [World.cell?_alloc_past _ _ _ hze]; exact hmW ze 0 (by decide)) (by rw [World.cell?_alloc_past _ _ _ hze]; exact hmW ze 1 (by decide)) (by rw [World.cell?_alloc_past _ _ _ hze]; exact hmW ze 2 (by decide)) (by rw [World.cell?_alloc_past _ _ _ hze]; exact hmW ze 3 (by decide)) (by simp; omega)).mono ?_
    rintro e w' ⟨rfl, rfl⟩
    go_wp2_with fail
    have R0 : Hid (Below w.heap.size w (((ze.val.alloc (.cells #[.complex .f64 (bR A B 0) (bI A B 0), .complex .f64 (bR A B 1) (bI A B 1), .complex .f64 (bR A B 2) (bI A B 2), .complex .f64 (bR A B 3) (bI A B 3)] 26)).alloc (.cells (k4 c) 43)).alloc (.cells #[.int .i64 (c 0), .int .i64 (c 1), .int .i64 (c 2), .int .i64 (c 3)] 43))) := by
      have h1 : Below w.heap.size w ze.val := hbW.trans (ze.2.mono hbW.size)
      have h2 := h1.size
      exact ((h1.alloc h2 _).alloc (by simp; omega) _).alloc (by simp; omega) _
    go_loopg [43] 4 (fun g i wr => ∃ k : Nat, k + g = 4 ∧ i = .int .i64 (k : Int) ∧ Hid (Below w.heap.size w wr ∧ w.heap.size < wr.heap.size ∧ (∀ t, t < 4 → wr.cell? ⟨w.heap.size, t, none⟩ = some (.int .i64 (c t))) ∧ (∀ t, t < 4 → wr.cell? ⟨ze.val.heap.size, t, none⟩ = some (.complex .f64 (bR A B t) (bI A B t))) ∧ (∀ t, t < 4 → wr.cell? ⟨ze.val.heap.size + 1 + 1, t, none⟩ = some (.int .i64 (c t)))))
    case atStart =>
      refine ⟨0, by omega, rfl, R0.out, ?_, ?_, ?_, ?_⟩
      · simp; omega
      · intro t ht
        rw [World.cell?_alloc_past _ _ _ (by simp; omega), World.cell?_alloc_past _ _ _ (by simp; omega), World.cell?_alloc_past _ _ _ hze]
        exact hmW ze t ht
      · intro t ht
        rw [World.cell?_alloc_past _ _ _ (by simp <;> omega), World.cell?_alloc_past _ _ _ (by simp <;> omega), World.cell?_alloc_at _ _ _ _ rfl]
        exact c4_get (bR A B) (bI A B) t ht
      · intro t ht
        rw [World.cell?_alloc_at _ _ _ _ (by simp)]
        exact k4_get c t ht
    case round =>
      obtain ⟨k, hk, rfl, HR⟩ := hrel
      have hpk := peak_later wr w.heap.size c (fun z t ht => z.cell (HR.out.2.2.1 t ht)) (fun z => Nat.lt_of_lt_of_le HR.out.2.1 z.2.size)
      by_cases hk4 : k = 4
      · subst hk4
        clear hk HE HM
        have g0 : 0 ≤ pk c := pr.1
        have g4 : pk c < 4 := pr.2
        go_wp2_with fail
        refine (hpk (⟨_, Below.refl _ _⟩ : Later _)).mono ?_
        rintro e w' ⟨rfl, zf, rfl⟩
        go_wp2_with fail
        refine (hpk zf).mono ?_
        rintro e w' ⟨rfl, zg, rfl⟩
        go_wp2_with fail
        refine (awake_any _).mono ?_
        rintro e w' ⟨rfl, hw⟩
        subst hw
        go_wp2_with fail
        go_ret
        exact ⟨rfl, HR.out.1.trans (zg.2.mono HR.out.1.size)⟩
      have hk3 : k < 4 := by omega
      have hk3' : (k : Int) < 4 := by omega
      obtain ⟨GK, HG⟩ : ∃ g, Hid (g < gk ∧ k + 1 + g = 4) := ⟨gk - 1, by omega, by omega⟩
      clear hk hk4
      have e1 := (HE.out k hk3).1
      have e2 := (HE.out k hk3).2
      have p3 : bits .and .i64 (pk c) 3 = pk c := by rw [and3]; omega
      have p0 : 0 ≤ pk c := pr.1
      have p4 : pk c < 4 := pr.2
      have hle : ¬ c (pk c).toNat < c k := by have := HM.out k hk3; omega
      have hd : decide (c (pk c).toNat < c k) = false := decide_eq_false hle
      go_wp2
      have z1 : ∀ z : Later wr, z.val.cell? ⟨ze.val.heap.size, k, none⟩ = some (.complex .f64 (bR A B k) (bI A B k)) := fun z => z.cell (HR.out.2.2.2.1 k hk3)
      have z2 : ∀ z : Later wr, z.val.cell? ⟨ze.val.heap.size + 1 + 1, k, none⟩ = some (.int .i64 (c k)) := fun z => z.cell (HR.out.2.2.2.2 k hk3)
      have z3 : ∀ z : Later wr, z.val.cell? ⟨ze.val.heap.size + 1 + 1, (pk c).toNat, none⟩ = some (.int .i64 (c (pk c).toNat)) := fun z => z.cell (HR.out.2.2.2.2 _ (by omega))
      refine wp_region_later (by kernel_rfl) (by kernel_rfl) ?_
      repeat (go_big_quiet_step (first | exact rfl | (go_at_call 15; exact hpk _)))
      refine wpQuiet_nil ?_
      rintro _ ⟨z, rfl⟩
      go_wp2
      go_roundg GK
      case measure => exact HG.out.1
      case rel => exact ⟨k + 1, HG.out.2, by go_num, HR.out.1.trans (z.2.mono HR.out.1.size), Nat.lt_of_lt_of_le HR.out.2.1 z.2.size, fun t ht => z.cell (HR.out.2.2.1 t ht), fun t ht => z.cell (HR.out.2.2.2.1 t ht), fun t ht => z.cell (HR.out.2.2.2.2 t ht)⟩
end Go.Proofs.Ytchnjoikjadciab
