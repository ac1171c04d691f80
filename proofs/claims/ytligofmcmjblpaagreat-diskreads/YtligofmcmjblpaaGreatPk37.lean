import Derived.Test.YtligofmcmjblpaaGreatPk24
/- The landed disk: Size, ReadAt. -/
namespace Go.Proofs.YtligofmcmjblpaaGreat
open Go.RowKit Go.Maps
set_option linter.unusedVariables false
set_option linter.unusedSimpArgs false

set_option maxHeartbeats 1000000 in
set_option maxRecDepth 100000 in
theorem size_any (p : Nat) (σ : DS) (F : Nat → Prop) (s : ByteArray) (w : World) (h : RL w p σ F) (hi : Inv σ) :
    Calls Tryz.prog 14 #[ptr p, .string s] w fun e w' => e = .returned (.tuple #[.int .i64 (((σ.read s).1.getD []).length : Int), .int .i64 (σ.read s).2]) ∧ Below w.heap.size w w' := by
  obtain ⟨A, loc, dv, nv, sv, cv, sd, ch, h⟩ := h
  have kf := find_any p σ F A loc dv nv sv cv sd ch s w h
  unfold findV findE at kf
  cases ho : σ.c.off with
  | true =>
    have hr : σ.read s = (none, 10) := by rw [DS.read, ho]; rfl
    rw [hr]
    rw [ho] at kf
    simp only [if_true] at kf
    clear h hi hr
    go_enter Tryz.func14, Tryz.ntmps14
    go_wp2_with (go_at_call 45; refine kf.mono ?_; rintro e w' ⟨rfl, rfl⟩)
    go_ret2
    exact ⟨rfl, Below.refl _ _⟩
  | false =>
    rw [ho] at kf
    simp only [Bool.false_eq_true, if_false] at kf
    cases hf : fnd σ.dir s with
    | none =>
      have hr : σ.read s = (none, 7) := by rw [DS.read, ho, hf]; rfl
      rw [hr]
      rw [hf] at kf
      simp only [pv] at kf
      clear h hi hr
      go_enter Tryz.func14, Tryz.ntmps14
      go_wp2_with (go_at_call 45; refine kf.mono ?_; rintro e w' ⟨rfl, rfl⟩)
      go_ret2
      exact ⟨rfl, Below.refl _ _⟩
    | some i =>
      have hr : σ.read s = (some (σ.fl i).1, 0) := by rw [DS.read, ho, hf]; rfl
      rw [hr]
      rw [hf] at kf
      simp only [pv, ptr] at kf
      have hfm := h.file i (h.alFnd hf)
      obtain ⟨q1, q2, q3⟩ := hi.fl i
      obtain ⟨ao, cap, e0, e1, e2, e3⟩ := hfm.byt q3
      have c0 := hfm.cell0
      rw [e0] at c0
      generalize (σ.fl i).1 = xs at *
      clear h hi hr hfm q2 q3 e0 e1 e2 e3 hf
      simp only [Option.getD_some]
      unfold ptr
      go_enter Tryz.func14, Tryz.ntmps14
      go_wp2_with (go_at_call 45; refine kf.mono ?_; rintro e w' ⟨rfl, hw⟩; obtain rfl := hw.symm)
      go_ret2
      exact ⟨rfl, Below.refl _ _⟩

theorem bs_cut (X : Nat → Nat) (n a m : Nat) (h : a + m ≤ n) : ((bs X n).drop a).take m = bs (fun k => X (a + k)) m := by
  apply List.ext_getElem?
  intro i
  simp only [bs, List.getElem?_take, List.getElem?_drop, List.getElem?_map, List.getElem?_range']
  by_cases hi : i < m
  · rw [if_pos hi, List.getElem?_range (by omega), List.getElem?_range hi]
    rfl
  · rw [if_neg hi, List.getElem?_eq_none (by simpa using hi)]
    rfl

set_option maxHeartbeats 2000000 in
set_option maxRecDepth 100000 in
theorem readAt_any (p : Nat) (σ : DS) (F : Nat → Prop) (s : ByteArray) (at_ n : Int) (w : World) (h : RL w p σ F) (hi : Inv σ) (ha : -9223372036854775808 ≤ at_ ∧ at_ ≤ 9223372036854775807) (hn : -9223372036854775808 ≤ n ∧ n ≤ 9223372036854775807) :
    Calls Tryz.prog 12 #[ptr p, .string s, .int .i64 at_, .int .i64 n] w fun e w' => ∃ v, e = .returned (.tuple #[v, .int .i64 (σ.readAt s at_ n).2]) ∧ BytR w' v (σ.readAt s at_ n).1 ∧ Below w.heap.size w w' := by
  obtain ⟨A, loc, dv, nv, sv, cv, sd, ch, h⟩ := h
  have kf := find_any p σ F A loc dv nv sv cv sd ch s w h
  unfold findV findE at kf
  obtain ⟨ha, ha'⟩ := ha
  obtain ⟨hn, hn'⟩ := hn
  have Z : Hid (BytR w (.slice none 0 0) []) := ⟨none, 0, 0, fun _ => 0, rfl, fun _ => ⟨rfl, rfl⟩, fun k hk => by omega, rfl⟩
  cases ho : σ.c.off with
  | true =>
    have hr : σ.readAt s at_ n = ([], 10) := by rw [DS.readAt, DS.read, ho]; rfl
    rw [hr]
    rw [ho] at kf
    simp only [if_true] at kf
    clear h hi hr
    go_enter Tryz.func12, Tryz.ntmps12
    go_wp2_with (go_at_call 45; refine kf.mono ?_; rintro e w' ⟨rfl, rfl⟩)
    go_ret2
    exact ⟨_, rfl, Z.out, Below.refl _ _⟩
  | false =>
    rw [ho] at kf
    simp only [Bool.false_eq_true, if_false] at kf
    cases hf : fnd σ.dir s with
    | none =>
      have hr : σ.readAt s at_ n = ([], 7) := by rw [DS.readAt, DS.read, ho, hf]; rfl
      rw [hr]
      rw [hf] at kf
      simp only [pv] at kf
      clear h hi hr
      go_enter Tryz.func12, Tryz.ntmps12
      go_wp2_with (go_at_call 45; refine kf.mono ?_; rintro e w' ⟨rfl, rfl⟩)
      go_ret2
      exact ⟨_, rfl, Z.out, Below.refl _ _⟩
    | some i =>
      have hr : σ.readAt s at_ n = if at_ < 0 ∨ n < 0 then ([], 1) else if ((σ.fl i).1.length : Int) < at_ ∨ ((σ.fl i).1.length : Int) - at_ < n then ([], 5) else ((((σ.fl i).1).drop at_.toNat).take n.toNat, 0) := by rw [DS.readAt, DS.read, ho, hf]; rfl
      rw [hr]
      rw [hf] at kf
      simp only [pv, ptr] at kf
      have hfm := h.file i (h.alFnd hf)
      obtain ⟨q1, q2, q3⟩ := hi.fl i
      obtain ⟨ao, cap, e0, e1, e2, e3⟩ := hfm.byt q3
      have c0 := hfm.cell0
      rw [e0] at c0
      have HB : Hid (bs (xof (σ.fl i).1) (σ.fl i).1.length = (σ.fl i).1) := bs_xof q3
      have HO : Hid (Okb (σ.fl i).1) := q3
      have hcm : cap ≤ maxLen := by
        obtain ⟨ao', cap', e, _, _, h3, _⟩ := Row.byt hfm.row q3
        rw [e0] at e
        cases e
        exact h3
      unfold maxLen at hcm
      generalize (σ.fl i).1 = xs at *
      clear h hi hr hfm q2 q3 e0 hf
      unfold ptr
      by_cases q : at_ < 0
      · rw [if_pos (.inl q)]
        go_enter Tryz.func12, Tryz.ntmps12
        go_wp2_with (go_at_call 45; refine kf.mono ?_; rintro e w' ⟨rfl, hw⟩; obtain rfl := hw.symm)
        go_ret2
        exact ⟨_, rfl, Z.out, Below.refl _ _⟩
      · have q' : decide (at_ < 0) = false := decide_eq_false q
        by_cases r : n < 0
        · rw [if_pos (.inr r)]
          go_enter Tryz.func12, Tryz.ntmps12
          go_wp2_with (go_at_call 45; refine kf.mono ?_; rintro e w' ⟨rfl, hw⟩; obtain rfl := hw.symm)
          go_ret2
          exact ⟨_, rfl, Z.out, Below.refl _ _⟩
        · have r' : decide (n < 0) = false := decide_eq_false r
          rw [if_neg (by omega)]
          by_cases t : (xs.length : Int) - at_ < n
          · rw [if_pos (.inr t)]
            go_enter Tryz.func12, Tryz.ntmps12
            go_wp2_with (go_at_call 45; refine kf.mono ?_; rintro e w' ⟨rfl, hw⟩; obtain rfl := hw.symm)
            go_ret2
            exact ⟨_, rfl, Z.out, Below.refl _ _⟩
          · have t' : decide ((xs.length : Int) - at_ < n) = false := decide_eq_false t
            rw [if_neg (by omega)]
            obtain ⟨a, rfl⟩ := Int.eq_ofNat_of_zero_le (show 0 ≤ at_ by omega)
            obtain ⟨m, rfl⟩ := Int.eq_ofNat_of_zero_le (show 0 ≤ n by omega)
            simp only [Int.toNat_natCast]
            have ham : a + m ≤ xs.length := by omega
            have HX : Hid (((xs.drop a).take m) = bs (fun k => xof xs (a + k)) m) := by
              show _ = _
              rw [← bs_cut _ _ _ _ ham, HB.out]
            cases ao with
            | none =>
              obtain ⟨z1, z2⟩ := e1 rfl
              obtain rfl : a = 0 := by omega
              obtain rfl : m = 0 := by omega
              have kc := clone_byt none 0 0 (fun _ => 0) w (fun k hk => by omega) (fun _ => rfl) (by omega)
              rw [z1, z2] at c0
              have HZ : Hid (∀ v w2, Row w.heap.size w2 v [] → BytR w2 v ((xs.drop 0).take 0)) := fun v w2 hv => by
                rw [List.take_zero]
                exact Row.bytR hv (fun x hx => by cases hx)
              clear HX HB HO e1 e3 Z q q' r r' t t' ham z1 z2 e2 hcm q1
              go_enter Tryz.func12, Tryz.ntmps12
              go_wp2_with (first | (go_at_call 45; refine kf.mono ?_; rintro e w' ⟨rfl, hw⟩; obtain rfl := hw.symm) | (go_at_call 46; refine kc.mono ?_; rintro e w2 ⟨v, rfl, hv, hb⟩))
              go_ret2
              exact ⟨_, rfl, HZ.out _ _ hv, hb⟩
            | some ad =>
              by_cases hca : cap = a
              · obtain rfl : m = 0 := by omega
                have kc := fun ao' c' => clone_byt (some ao') 0 c' (fun _ => 0) w (fun k hk => by omega) (fun e => by cases e) (by omega)
                have HZ : Hid (∀ v w2, Row w.heap.size w2 v [] → BytR w2 v ((xs.drop a).take 0)) := fun v w2 hv => by
                  rw [List.take_zero]
                  exact Row.bytR hv (fun x hx => by cases hx)
                clear HX HB HO e1 e3 Z
                go_enter Tryz.func12, Tryz.ntmps12
                go_wp2_with (first | (go_at_call 45; refine kf.mono ?_; rintro e w' ⟨rfl, hw⟩; obtain rfl := hw.symm) | (go_at_call 46; refine (kc _ _).mono ?_; rintro e w2 ⟨v, rfl, hv, hb⟩))
                go_ret2
                exact ⟨_, rfl, HZ.out _ _ hv, hb⟩
              · have kc := clone_byt (some (ad.add a)) m (cap - a) (fun k => xof xs (a + k)) w (fun k hk => by
                  obtain ⟨z1, b, off, z2, z3⟩ := e3 (a + k) (by omega)
                  simp only [Option.some.injEq] at z2
                  subst z2
                  refine ⟨z1, b, off + a, by rw [Addr.add_lit], ?_⟩
                  rw [Nat.add_assoc]
                  exact z3) (fun e => by cases e) (by omega)
                have HZ : Hid (∀ v w2, Row w.heap.size w2 v (bs (fun k => xof xs (a + k)) m) → BytR w2 v ((xs.drop a).take m)) := fun v w2 hv => by
                  rw [HX.out]
                  exact Row.bytR hv (by rw [← HX.out]; exact fun x hx => HO.out x (List.mem_of_mem_drop (List.mem_of_mem_take hx)))
                clear HX HB HO e1 e3 Z
                go_enter Tryz.func12, Tryz.ntmps12
                go_wp2_with (first | (go_at_call 45; refine kf.mono ?_; rintro e w' ⟨rfl, hw⟩; obtain rfl := hw.symm) | (go_at_call 46; refine kc.mono ?_; rintro e w2 ⟨v, rfl, hv, hb⟩))
                go_ret2
                exact ⟨_, rfl, HZ.out _ _ hv, hb⟩
end Go.Proofs.YtligofmcmjblpaaGreat
