import Derived.Test.YtligofmcmjblpaaGreatPk09
import Derived.Test.YtligofmcmjblpaaGreatPk20
/- The landed disk: rows of calls to come; New; what is asked without a change. -/
namespace Go.Proofs.YtligofmcmjblpaaGreat
open Go.RowKit Go.Maps
set_option linter.unusedVariables false
set_option linter.unusedSimpArgs false

/-- A fault's count behind a call. -/
def Cn.ft (c : Cn) : Cn := { c with wait := if 0 < c.fails ∧ 1 < c.wait then c.wait - 1 else c.wait, fails := if 0 < c.fails ∧ ¬ 1 < c.wait then c.fails - 1 else c.fails }
/-- A fuse's. -/
def Cn.fs (c : Cn) : Cn := { c with fuse := if 0 < c.fuse then c.fuse - 1 else c.fuse }

set_option maxHeartbeats 1000000 in
set_option maxRecDepth 100000 in
theorem next_fault (p : Nat) (room : Int) (nv sv cv : Value) (c : Cn) (w : World) (h : DkL w p room nv sv cv c) (hc : 0 ≤ c.wait ∧ c.wait ≤ 9223372036854775807 ∧ 0 ≤ c.fails ∧ c.fails ≤ 9223372036854775807) :
    Calls Tryz.prog 77 #[.pointer (some ⟨p, 8, none⟩)] w fun e w' => e = .returned (.bool c.fl) ∧ DkL w' p room nv sv cv c.ft ∧ w.grownBy w' (some p) := by
  obtain ⟨calls, fuse, wait, fails, off⟩ := c
  obtain ⟨a5, a6, a7, a8⟩ := hc
  simp only at a5 a6 a7 a8
  have HD : Hid (DkL w p room nv sv cv ⟨calls, fuse, wait, fails, off⟩) := h
  have c8 : w.cell? ⟨p, 8, none⟩ = some (.int .i64 (if 0 < wait then wait - 1 else 0)) := cell_of h 8
  have c9 : w.cell? ⟨p, 9, none⟩ = some (.int .i64 fails) := cell_of h 9
  have f8 := frozen_of h 8
  have f9 := frozen_of h 9
  clear h
  have hk3 : fails = 0 ∨ (0 < fails ∧ wait ≤ 1) ∨ (0 < fails ∧ 1 < wait) := by omega
  rcases hk3 with hk | ⟨k1, k2⟩ | ⟨k1, k2⟩
  · subst hk
    go_enter Tryz.func77, Tryz.ntmps77
    go_wp2_with fail
    go_ret
    exact ⟨rfl, by simpa [Cn.ft] using HD.out, ⟨rfl, rfl, rfl, Nat.le_refl _, fun _ _ _ => rfl⟩⟩
  · rw [show (if 0 < wait then wait - 1 else 0) = 0 by split <;> omega] at c8
    have e1 : (fails == 0) = false := by simp; omega
    go_enter Tryz.func77, Tryz.ntmps77
    go_wp2_with fail
    go_ret
    refine ⟨by simp [Cn.fl, k1, show ¬ 1 < wait by omega], ?_, grown_set _ _ _ _⟩
    have := heap_set HD.out 9 (.int .i64 (fails - 1))
    unfold DkL
    rw [this]
    simp [Cn.ft, Cn.fA, Cn.fC, Cn.tA, k1, show ¬ 1 < wait by omega]
  · rw [show (if 0 < wait then wait - 1 else 0) = wait - 1 by split <;> omega] at c8
    have e1 : (fails == 0) = false := by simp; omega
    have e2 : (0 : Int) < wait - 1 := by omega
    go_enter Tryz.func77, Tryz.ntmps77
    go_wp2_with fail
    go_ret
    refine ⟨by simp [Cn.fl, k1, k2], ?_, grown_set _ _ _ _⟩
    have := heap_set HD.out 8 (.int .i64 (wait - 1 - 1))
    unfold DkL
    rw [this]
    simp [Cn.ft, Cn.fA, Cn.fC, Cn.tA, k1, k2, show 0 < wait by omega]

set_option maxHeartbeats 1000000 in
set_option maxRecDepth 100000 in
theorem next_fuse (p : Nat) (room : Int) (nv sv cv : Value) (c : Cn) (w : World) (h : DkL w p room nv sv cv c) (hc : 0 ≤ c.fuse ∧ c.fuse ≤ 9223372036854775807) :
    Calls Tryz.prog 77 #[.pointer (some ⟨p, 6, none⟩)] w fun e w' => e = .returned (.bool (decide (c.fuse = 1))) ∧ DkL w' p room nv sv cv c.fs ∧ w.grownBy w' (some p) := by
  obtain ⟨calls, fuse, wait, fails, off⟩ := c
  obtain ⟨a3, a4⟩ := hc
  simp only at a3 a4
  have HD : Hid (DkL w p room nv sv cv ⟨calls, fuse, wait, fails, off⟩) := h
  have c6 : w.cell? ⟨p, 6, none⟩ = some (.int .i64 (if 0 < fuse then fuse - 1 else 0)) := cell_of h 6
  have c7 : w.cell? ⟨p, 7, none⟩ = some (.int .i64 (if 0 < fuse then 1 else 0)) := cell_of h 7
  have f6 := frozen_of h 6
  have f7 := frozen_of h 7
  clear h
  have hk3 : fuse = 0 ∨ fuse = 1 ∨ 1 < fuse := by omega
  rcases hk3 with hk | hk | k2
  · subst hk
    rw [if_neg (by omega)] at c6 c7
    go_enter Tryz.func77, Tryz.ntmps77
    go_wp2_with fail
    go_ret
    exact ⟨rfl, by simpa [Cn.fs] using HD.out, ⟨rfl, rfl, rfl, Nat.le_refl _, fun _ _ _ => rfl⟩⟩
  · subst hk
    rw [if_pos (by omega)] at c6 c7
    go_enter Tryz.func77, Tryz.ntmps77
    go_wp2_with fail
    go_ret
    refine ⟨rfl, ?_, grown_set _ _ _ _⟩
    have := heap_set HD.out 7 (.int .i64 0)
    unfold DkL
    rw [this]
    simp [Cn.fs, Cn.fA, Cn.fC, Cn.tA]
  · rw [if_pos (by omega)] at c6 c7
    have e2 : (0 : Int) < fuse - 1 := by omega
    go_enter Tryz.func77, Tryz.ntmps77
    go_wp2_with fail
    go_ret
    refine ⟨by simp; omega, ?_, grown_set _ _ _ _⟩
    have := heap_set HD.out 6 (.int .i64 (fuse - 1 - 1))
    unfold DkL
    rw [this]
    simp [Cn.fs, Cn.fA, Cn.fC, Cn.tA, e2, show 0 < fuse by omega]
    omega

theorem new_at (room r : Int) (w : World) (hr : r = max 0 room) :
    RL (w.alloc (.cells #[.int .i64 r, .map none, .map none, .slice none 0 0, .int .i64 0, .bool false, .int .i64 0, .int .i64 0, .int .i64 0, .int .i64 0] 51)) w.heap.size (DS.new room) (fun k => k = w.heap.size) := by
  refine ⟨fun _ => False, fun _ => 0, fun _ => .slice none 0 0, .map none, .map none, .slice none 0 0, [], [], ?_⟩
  refine ⟨rfl, ?_, .inl ⟨rfl, rfl⟩, .inl ⟨rfl, rfl⟩, (fun b e => by cases e), ⟨World.ownsRow_nil _ _ _ _, (fun g e => by cases e)⟩, rfl, rfl, fun l hl => ?_, fun i hi => hi.elim, fun i j hi => hi.elim, fun i j hi => hi.elim, fun k hk => ?_, fun l hl e he => ?_, fun i hi => hi.elim, (fun c hc => by cases hc), (fun c hc => by cases hc)⟩
  · unfold DkL
    rw [heap_alloc_new]
    simp [DS.new, Cn.fA, Cn.fC, Cn.tA, hr]
  · have : l ∈ [([] : List Ent)] := hl
    simp at this
    subst this
    exact Gd.nil
  · rw [hk]
    simp
  · have : l ∈ [([] : List Ent)] := hl
    simp at this
    subst this
    cases he
set_option maxHeartbeats 1000000 in
set_option maxRecDepth 100000 in
theorem new_any (room : Int) (w : World) (h1 : -9223372036854775808 ≤ room) (h2 : room ≤ 9223372036854775807) :
    Calls Tryz.prog 6 #[.int .i64 room] w fun e w' => ∃ p F, e = .returned (ptr p) ∧ RL w' p (DS.new room) F ∧ (∀ k, F k → w.heap.size ≤ k) ∧ Below w.heap.size w w' := by
  have HN : Hid (∀ r, r = max 0 room → RL _ _ _ _) := fun r hr => new_at room r w hr
  go_enter Tryz.func6, Tryz.ntmps6
  go_wp2_with fail
  · go_ret
    exact ⟨w.heap.size, rfl, _, HN.out 0 (by omega), fun k hk => Nat.le_of_eq hk.symm, (Below.refl _ _).alloc (Nat.le_refl _) _⟩
  · go_ret
    exact ⟨w.heap.size, rfl, _, HN.out room (by omega), fun k hk => Nat.le_of_eq hk.symm, (Below.refl _ _).alloc (Nat.le_refl _) _⟩

theorem LAt.nxt {w w' : World} {p : Nat} {σ' : DS} {F A : Nat → Prop} {loc : Nat → Nat} {dv : Nat → Value} {nv sv cv : Value} {sd : List Ent} {ch : List Chg} (h : LAt w' p σ' F A loc dv nv sv cv sd ch) (hF : ∀ k, F k → k < w.heap.size) (hk : Kept F w w') : Nx RL w p σ' F w' :=
  ⟨F, ⟨A, loc, dv, nv, sv, cv, sd, ch, h⟩, hk, fun k hk => .inl hk⟩
theorem kept_p {w w' : World} {p : Nat} {F : Nat → Prop} (hg : w.grownBy w' (some p)) (hp : F p) : Kept F w w' := Kept.grown hg fun k e => by simp only [Option.some.injEq] at e; subst e; exact .inl hp

theorem LAt.disk_nx {w w1 w' : World} {p : Nat} {σ : DS} {F A : Nat → Prop} {loc : Nat → Nat} {dv : Nat → Value} {nv sv cv : Value} {sd : List Ent} {ch : List Chg} (h : LAt w p σ F A loc dv nv sv cv sd ch) (hg : w.grownBy w1 (some p)) {c : Cn} (hd : DkL w1 p σ.room nv sv cv c) (hb : Below w1.heap.size w1 w') : Nx RL w p { σ with c := c } F w' :=
  LAt.nxt ((h.disk hg hd).later hb) h.lt ((kept_p hg h.fp).trans (below_kept (F := F) hb) fun k hk => .inl hk)

set_option maxHeartbeats 1000000 in
set_option maxRecDepth 100000 in
theorem fuse_any (p : Nat) (σ : DS) (F : Nat → Prop) (n : Int) (w : World) (h : RL w p σ F) (h1 : -9223372036854775808 ≤ n) (h2 : n ≤ 9223372036854775807) :
    Calls Tryz.prog 23 #[ptr p, .int .i64 n] w fun e w' => e = .returned (.tuple #[]) ∧ Nx RL w p (σ.setFuse n) F w' := by
  obtain ⟨A, loc, dv, nv, sv, cv, sd, ch, h⟩ := h
  have HD : Hid (∀ w1 w', w.grownBy w1 (some p) → DkL w1 p σ.room nv sv cv { σ.c with fuse := max 0 n } → Below w1.heap.size w1 w' → Nx RL w p (σ.setFuse n) F w') := fun w1 w' g d b => h.disk_nx g d b
  have hb := h.blk
  have HB : Hid (DkL w p σ.room nv sv cv σ.c) := hb
  have hlt := h.lt p h.fp
  have f6 := frozen_of hb 6
  have f7 := frozen_of hb 7
  have c6 : w.cell? ⟨p, 6, none⟩ = some (.int .i64 σ.c.fA) := cell_of hb 6
  have c7 : w.cell? ⟨p, 7, none⟩ = some (.int .i64 σ.c.fC) := cell_of hb 7
  clear h hb
  unfold ptr
  by_cases q : n < 1
  · go_enter Tryz.func23, Tryz.ntmps23
    go_wp2
    go_end0
    refine ⟨rfl, HD.out _ _ (grown_trans (grown_set _ _ _ _) (grown_set _ _ _ _)) ?_ ((Below.refl _ _).alloc (Nat.le_refl _) _)⟩
    have := heap_set (heap_set HB.out 6 (.int .i64 0)) 7 (.int .i64 0)
    unfold DkL
    rw [this]
    simp [Cn.fA, Cn.fC, Cn.tA, show max 0 n = 0 by omega]
  · go_enter Tryz.func23, Tryz.ntmps23
    go_wp2
    go_end0
    refine ⟨rfl, HD.out _ _ (grown_trans (grown_set _ _ _ _) (grown_set _ _ _ _)) ?_ ((Below.refl _ _).alloc (Nat.le_refl _) _)⟩
    have := heap_set (heap_set HB.out 6 (.int .i64 (n - 1))) 7 (.int .i64 1)
    unfold DkL
    rw [this]
    simp [Cn.fA, Cn.fC, Cn.tA, show max 0 n = n by omega, show 0 < n by omega]

set_option maxHeartbeats 1000000 in
set_option maxRecDepth 100000 in
theorem fault_any (p : Nat) (σ : DS) (F : Nat → Prop) (f n : Int) (w : World) (h : RL w p σ F) (h1 : -9223372036854775808 ≤ f ∧ f ≤ 9223372036854775807) (h2 : -9223372036854775808 ≤ n ∧ n ≤ 9223372036854775807) :
    Calls Tryz.prog 24 #[ptr p, .int .i64 f, .int .i64 n] w fun e w' => e = .returned (.tuple #[]) ∧ Nx RL w p (σ.setFault f n) F w' := by
  obtain ⟨A, loc, dv, nv, sv, cv, sd, ch, h⟩ := h
  have HD : Hid (∀ w1 w', w.grownBy w1 (some p) → DkL w1 p σ.room nv sv cv { σ.c with wait := if f < 1 ∨ n < 1 then 0 else f, fails := if f < 1 ∨ n < 1 then 0 else n } → Below w1.heap.size w1 w' → Nx RL w p (σ.setFault f n) F w') := fun w1 w' g d b => h.disk_nx g d b
  have hb := h.blk
  have HB : Hid (DkL w p σ.room nv sv cv σ.c) := hb
  have hlt := h.lt p h.fp
  have f6 := frozen_of hb 8
  have f7 := frozen_of hb 9
  have c6 : w.cell? ⟨p, 8, none⟩ = some (.int .i64 σ.c.tA) := cell_of hb 8
  have c7 : w.cell? ⟨p, 9, none⟩ = some (.int .i64 σ.c.fails) := cell_of hb 9
  obtain ⟨h1, h1'⟩ := h1
  obtain ⟨h2, h2'⟩ := h2
  clear h hb
  unfold ptr
  by_cases q : f < 1
  · go_enter Tryz.func24, Tryz.ntmps24
    go_wp2
    go_end0
    refine ⟨rfl, HD.out _ _ (grown_trans (grown_set _ _ _ _) (grown_set _ _ _ _)) ?_ ((Below.refl _ _).alloc (Nat.le_refl _) _)⟩
    have := heap_set (heap_set HB.out 8 (.int .i64 0)) 9 (.int .i64 0)
    unfold DkL
    rw [this]
    simp [Cn.fA, Cn.fC, Cn.tA, q]
  · have q' : decide (f < 1) = false := decide_eq_false q
    by_cases q2 : n < 1
    · go_enter Tryz.func24, Tryz.ntmps24
      go_wp2
      go_end0
      refine ⟨rfl, HD.out _ _ (grown_trans (grown_set _ _ _ _) (grown_set _ _ _ _)) ?_ ((Below.refl _ _).alloc (Nat.le_refl _) _)⟩
      have := heap_set (heap_set HB.out 8 (.int .i64 0)) 9 (.int .i64 0)
      unfold DkL
      rw [this]
      simp [Cn.fA, Cn.fC, Cn.tA, q, q2]
    · have q2' : decide (n < 1) = false := decide_eq_false q2
      go_enter Tryz.func24, Tryz.ntmps24
      go_wp2
      go_end0
      refine ⟨rfl, HD.out _ _ (grown_trans (grown_set _ _ _ _) (grown_set _ _ _ _)) ?_ ((Below.refl _ _).alloc (Nat.le_refl _) _)⟩
      have := heap_set (heap_set HB.out 8 (.int .i64 (f - 1))) 9 (.int .i64 n)
      unfold DkL
      rw [this]
      have hz : ¬ (f < 1 ∨ n < 1) := by omega
      simp [Cn.fA, Cn.fC, Cn.tA, hz, show 0 < f by omega]

set_option maxHeartbeats 1000000 in
set_option maxRecDepth 100000 in
theorem calls_any (p : Nat) (σ : DS) (F : Nat → Prop) (w : World) (h : RL w p σ F) : Calls Tryz.prog 42 #[ptr p] w fun e w' => e = .returned (.int .i64 σ.c.calls) ∧ Below w.heap.size w w' := by
  obtain ⟨A, loc, dv, nv, sv, cv, sd, ch, h⟩ := h
  have c4 : w.cell? ⟨p, 4, none⟩ = some (.int .i64 σ.c.calls) := cell_of h.blk 4
  clear h
  unfold ptr
  go_enter Tryz.func42, Tryz.ntmps42
  go_wp2
  go_ret
  exact ⟨rfl, Below.refl _ _⟩
set_option maxHeartbeats 1000000 in
set_option maxRecDepth 100000 in
theorem down_any (p : Nat) (σ : DS) (F : Nat → Prop) (w : World) (h : RL w p σ F) : Calls Tryz.prog 43 #[ptr p] w fun e w' => e = .returned (.bool σ.c.off) ∧ Below w.heap.size w w' := by
  obtain ⟨A, loc, dv, nv, sv, cv, sd, ch, h⟩ := h
  have c5 : w.cell? ⟨p, 5, none⟩ = some (.bool σ.c.off) := cell_of h.blk 5
  clear h
  unfold ptr
  go_enter Tryz.func43, Tryz.ntmps43
  go_wp2
  go_ret
  exact ⟨rfl, Below.refl _ _⟩
/-- What find tells. -/
def findE (σ : DS) (s : ByteArray) : Int := if σ.c.off = true then 10 else match fnd σ.dir s with | none => 7 | some _ => 0
def findV (σ : DS) (loc : Nat → Nat) (s : ByteArray) : Value := if σ.c.off = true then .pointer none else pv loc (fnd σ.dir s)
set_option maxHeartbeats 1000000 in
set_option maxRecDepth 100000 in
theorem find_any (p : Nat) (σ : DS) (F A : Nat → Prop) (loc : Nat → Nat) (dv : Nat → Value) (nv sv cv : Value) (sd : List Ent) (ch : List Chg) (s : ByteArray) (w : World) (h : LAt w p σ F A loc dv nv sv cv sd ch) :
    Calls Tryz.prog 45 #[ptr p, .string s] w fun e w' => e = .returned (.tuple #[findV σ loc s, .int .i64 (findE σ s)]) ∧ w' = w := by
  have c5 : w.cell? ⟨p, 5, none⟩ = some (.bool σ.c.off) := cell_of h.blk 5
  have c1 : w.cell? ⟨p, 1, none⟩ = some nv := cell_of h.blk 1
  have hlk := h.dir.look s
  unfold findV findE
  clear h
  unfold ptr
  cases ho : σ.c.off with
  | true =>
    rw [ho] at c5
    go_enter Tryz.func45, Tryz.ntmps45
    go_wp2
    go_ret2
    exact ⟨rfl, rfl⟩
  | false =>
    rw [ho] at c5
    cases hf : fnd σ.dir s with
    | none =>
      rw [hf] at hlk
      simp only [pv] at hlk
      go_enter Tryz.func45, Tryz.ntmps45
      go_wp2
      go_ret2
      exact ⟨rfl, rfl⟩
    | some i =>
      rw [hf] at hlk
      simp only [pv, ptr] at hlk
      go_enter Tryz.func45, Tryz.ntmps45
      go_wp2
      go_ret2
      exact ⟨rfl, rfl⟩
end Go.Proofs.YtligofmcmjblpaaGreat
