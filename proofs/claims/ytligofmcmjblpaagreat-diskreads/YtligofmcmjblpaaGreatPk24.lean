import Derived.Test.YtligofmcmjblpaaGreatPk21
import Derived.Test.YtligofmcmjblpaaGreatPk23
/- The landed disk: which names may be; Read, Size, ReadAt, Spoil. -/
namespace Go.Proofs.YtligofmcmjblpaaGreat
open Go.RowKit Go.Maps
set_option linter.unusedVariables false
set_option linter.unusedSimpArgs false

set_option maxHeartbeats 1000000 in
set_option maxRecDepth 100000 in
theorem mayBe_any (s : ByteArray) (w : World) (hs : s.size ≤ 2 ^ 63 - 1) : Calls Tryz.prog 53 #[.string s] w fun e w' => e = .returned (.bool (mayN s)) ∧ Below w.heap.size w w' := by
  by_cases h1 : 1 ≤ s.size
  · by_cases h2 : s.size ≤ 64
    · have hc := cany_any s w (by omega)
      have e1 : mayN s = !badc s.data.toList := by simp [mayN, h1, h2]
      have h1' : (1 : Int) ≤ (s.size : Int) := by omega
      have h2' : (s.size : Int) ≤ 64 := by omega
      rw [e1]
      generalize badc s.data.toList = T at hc ⊢
      clear e1 hs
      go_enter Tryz.func53, Tryz.ntmps53
      go_wp2_with (go_at_call 78; refine hc.mono ?_; rintro e w' ⟨rfl, hb⟩)
      go_ret
      exact ⟨rfl, hb⟩
    · have e1 : mayN s = false := by simp [mayN, h2]
      have h1' : (1 : Int) ≤ (s.size : Int) := by omega
      have h2' : decide ((s.size : Int) ≤ 64) = false := decide_eq_false (by omega)
      rw [e1]
      clear e1
      go_enter Tryz.func53, Tryz.ntmps53
      go_wp2_with fail
      go_ret
      exact ⟨rfl, Below.refl _ _⟩
  · have e1 : mayN s = false := by simp [mayN, show s.size = 0 by omega]
    have h1' : decide ((1 : Int) ≤ (s.size : Int)) = false := decide_eq_false (by omega)
    rw [e1]
    clear e1
    go_enter Tryz.func53, Tryz.ntmps53
    go_wp2_with fail
    go_ret
    exact ⟨rfl, Below.refl _ _⟩

/-- A copy of bytes that are read. -/
theorem clone_byt (ao : Option Addr) (len cap : Nat) (X : Nat → Nat) (w : World) (hb : Byt w ao len X) (hn : ao = none → len = 0) (hl : len ≤ 140737488355328) :
    Calls Tryz.prog 46 #[.slice ao len cap] w fun e w' => ∃ v, e = .returned v ∧ Row w.heap.size w' v (bs X len) ∧ Below w.heap.size w w' := by
  cases ao with
  | none =>
    obtain rfl := hn rfl
    refine (Tryz.bytes_Clone_nil 0 cap w).mono ?_
    rintro e w' ⟨rfl, rfl⟩
    exact ⟨_, rfl, World.ownsRow_nil _ _ _ _, Below.refl _ _⟩
  | some a =>
    refine (Tryz.bytes_Clone_at a len cap (bs X len) w (bs_length X len) hl (fun i hi => ?_)).mono ?_
    · obtain ⟨_, b, off, e, hc⟩ := hb i hi
      simp only [Option.some.injEq] at e
      subst e
      rw [Addr.add_lit, hc, bs_getD X len i hi]
    · rintro e w' ⟨v, rfl, h1, _, h2⟩
      refine ⟨v, rfl, ?_, h2⟩
      unfold Row
      rw [bs_length]
      exact h1
theorem FileM.cell0 {w : World} {F : Nat → Prop} {g : Nat} {dv : Value} {f : List Int × Nat} (h : FileM w F g dv f) : w.cell? ⟨g, 0, none⟩ = some dv := cell_of h.blk 0
theorem FileM.cell1 {w : World} {F : Nat → Prop} {g : Nat} {dv : Value} {f : List Int × Nat} (h : FileM w F g dv f) : w.cell? ⟨g, 1, none⟩ = some (.int .i64 (f.2 : Int)) := cell_of h.blk 1
theorem FileM.byt {w : World} {F : Nat → Prop} {g : Nat} {dv : Value} {f : List Int × Nat} (h : FileM w F g dv f) (ho : Okb f.1) : ∃ ao cap, dv = .slice ao f.1.length cap ∧ (ao = none → f.1.length = 0 ∧ cap = 0) ∧ f.1.length ≤ cap ∧ Byt w ao f.1.length (xof f.1) := by
  obtain ⟨ao, cap, e, h1, h2, h3, h4⟩ := Row.byt h.row ho
  exact ⟨ao, cap, e, h1, by omega, h4⟩

set_option maxHeartbeats 1000000 in
set_option maxRecDepth 100000 in
theorem read_any (p : Nat) (σ : DS) (F : Nat → Prop) (s : ByteArray) (w : World) (h : RL w p σ F) (hi : Inv σ) :
    Calls Tryz.prog 44 #[ptr p, .string s] w fun e w' => ∃ v, e = .returned (.tuple #[v, .int .i64 (σ.read s).2]) ∧ BytR w' v ((σ.read s).1.getD []) ∧ Below w.heap.size w w' := by
  obtain ⟨A, loc, dv, nv, sv, cv, sd, ch, h⟩ := h
  have kf := find_any p σ F A loc dv nv sv cv sd ch s w h
  unfold findV findE at kf
  have Z : Hid (BytR w (.slice none 0 0) []) := ⟨none, 0, 0, fun _ => 0, rfl, fun _ => ⟨rfl, rfl⟩, fun k hk => by omega, rfl⟩
  cases ho : σ.c.off with
  | true =>
    have hr : σ.read s = (none, 10) := by rw [DS.read, ho]; rfl
    rw [hr]
    rw [ho] at kf
    simp only [if_true] at kf
    clear h hi hr
    go_enter Tryz.func44, Tryz.ntmps44
    go_wp2_with (go_at_call 45; refine kf.mono ?_; rintro e w' ⟨rfl, rfl⟩)
    go_ret2
    exact ⟨_, rfl, Z.out, Below.refl _ _⟩
  | false =>
    rw [ho] at kf
    simp only [Bool.false_eq_true, if_false] at kf
    cases hf : fnd σ.dir s with
    | none =>
      have hr : σ.read s = (none, 7) := by rw [DS.read, ho, hf]; rfl
      rw [hr]
      rw [hf] at kf
      simp only [pv] at kf
      clear h hi hr
      go_enter Tryz.func44, Tryz.ntmps44
      go_wp2_with (go_at_call 45; refine kf.mono ?_; rintro e w' ⟨rfl, rfl⟩)
      go_ret2
      exact ⟨_, rfl, Z.out, Below.refl _ _⟩
    | some i =>
      have hr : σ.read s = (some (σ.fl i).1, 0) := by rw [DS.read, ho, hf]; rfl
      rw [hr]
      rw [hf] at kf
      simp only [pv, ptr] at kf
      have hfm := h.file i (h.alFnd hf)
      obtain ⟨q1, q2, q3⟩ := hi.fl i
      obtain ⟨ao, cap, e0, e1, e2, e3⟩ := hfm.byt q3
      have c0 := hfm.cell0
      rw [e0] at c0
      have kc := clone_byt ao (σ.fl i).1.length cap _ w e3 (fun e => (e1 e).1) (by omega)
      rw [bs_xof q3] at kc
      have HO : Hid (Okb (σ.fl i).1) := q3
      generalize (σ.fl i).1 = xs at *
      clear h hi hr hfm q1 q2 q3 e0 e1 e2 e3 Z hf
      simp only [Option.getD_some]
      unfold ptr
      go_enter Tryz.func44, Tryz.ntmps44
      go_wp2_with (first | (go_at_call 45; refine kf.mono ?_; rintro e w' ⟨rfl, hw⟩; obtain rfl := hw.symm) | (go_at_call 46; refine kc.mono ?_; rintro e w2 ⟨v, rfl, hv, hb⟩))
      go_ret2
      exact ⟨_, rfl, Row.bytR hv HO.out, hb⟩
end Go.Proofs.YtligofmcmjblpaaGreat
