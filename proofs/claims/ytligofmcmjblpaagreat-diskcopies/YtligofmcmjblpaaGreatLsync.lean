/- The landed disk: Rename counted; Sync and SyncDir. -/
import Derived.Test.YtligofmcmjblpaaGreatLren
namespace Go.Proofs.YtligofmcmjblpaaGreat
open Go.RowKit Go.Maps
set_option linter.unusedVariables false
set_option linter.unusedSimpArgs false

set_option maxHeartbeats 1000000 in
set_option maxRecDepth 100000 in
theorem rename_any (p : Nat) (σ : DS) (F : Nat → Prop) (s t : ByteArray) (w : World) (h : RL w p σ F) (hi : Inv σ) (ht : t.size ≤ 2 ^ 63 - 1) :
    Calls Tryz.prog 20 #[ptr p, .string s, .string t] w fun e w' => e = .returned (.int .i64 (σ.rename s t).1) ∧ Nx RL w p (σ.rename s t).2 F w' := by
  obtain ⟨A, loc, dv, nv, sv, cv, sd, ch, h⟩ := h
  obtain ⟨q1, q2⟩ := cnt_le hi h
  obtain ⟨wa, hwa⟩ : ∃ wa, wa = ((w.alloc (.cells #[ptr p] 23)).alloc (.cells #[.string s] 9)).alloc (.cells #[.string t] 9) := ⟨_, rfl⟩
  have b1 : Below w.heap.size w (w.alloc (.cells #[ptr p] 23)) := (Below.refl _ _).alloc (Nat.le_refl _) _
  have hb : Below w.heap.size w wa := by rw [hwa]; exact (b1.alloc (by simp) _).alloc (by simp; omega) _
  have c0 : wa.cell? ⟨w.heap.size, 0, none⟩ = some (ptr p) := by rw [hwa]; exact cell_later ((Below.refl _ _).alloc (Nat.le_refl _) _) (cell_later ((Below.refl _ _).alloc (Nat.le_refl _) _) (cell_of (heap_alloc_new w _) 0))
  have c1 : wa.cell? ⟨w.heap.size + 1, 0, none⟩ = some (.string s) := by
    rw [hwa]
    have := cell_of (heap_alloc_new (w.alloc (.cells #[ptr p] 23)) (.cells #[.string s] 9)) 0
    rw [show (w.alloc (.cells #[ptr p] 23)).heap.size = w.heap.size + 1 by simp] at this
    exact cell_later ((Below.refl _ _).alloc (Nat.le_refl _) _) this
  have c2 : wa.cell? ⟨w.heap.size + 2, 0, none⟩ = some (.string t) := by
    rw [hwa]
    have := cell_of (heap_alloc_new ((w.alloc (.cells #[ptr p] 23)).alloc (.cells #[.string s] 9)) (.cells #[.string t] 9)) 0
    rw [show ((w.alloc (.cells #[ptr p] 23)).alloc (.cells #[.string s] 9)).heap.size = w.heap.size + 2 by simp] at this
    exact this
  have hp := h.lt p h.fp
  have k := changing_w 59 #[.pointer (some ⟨w.heap.size, 0, none⟩), .pointer (some ⟨w.heap.size + 1, 0, none⟩), .pointer (some ⟨w.heap.size + 2, 0, none⟩)] p σ F A loc dv nv sv cv sd ch wa (h.later hb) hi (σ.cnt.wRename s t) (enters_of Tryz.func59 (by kernel_rfl) rfl _) fun w1 g1 h1 =>
    rename1_any _ _ _ p σ.cnt F A loc dv nv sv cv sd ch s t w1 h1 q1 q2 ht (g1.cell c0 (fun e => by simp only [Option.some.injEq] at e; omega)) (g1.cell c1 (fun e => by simp only [Option.some.injEq] at e; omega)) (g1.cell c2 (fun e => by simp only [Option.some.injEq] at e; omega)) (fun e => by have := h.lt _ e; omega) (fun e => by have := h.lt _ e; omega) (fun e => by have := h.lt _ e; omega)
  rw [← rename_w] at k
  have HX : Hid (∀ w', Nx RL wa p (σ.rename s t).2 F w' → Nx RL w p (σ.rename s t).2 F w') := fun w' hx => hx.start hb
  generalize (σ.rename s t).1 = r at k ⊢
  clear h hi q1 q2 hb c0 c1 c2 b1
  unfold ptr at *
  go_enter Tryz.func20, Tryz.ntmps20
  go_wp2_with (go_at_call 51; rw [← hwa]; refine k.mono ?_; rintro e w' ⟨rfl, hx⟩)
  go_ret
  exact ⟨rfl, HX.out _ hx⟩

theorem kept_cell {w w' : World} {F : Nat → Prop} (hk : Kept F w w') {g k : Nat} {v : Value} (hc : w.cell? ⟨g, k, none⟩ = some v) (hn : ¬ F g) : w'.cell? ⟨g, k, none⟩ = some v := (World.cell?_of_block (w := w) (hk.block g (block_lt_of_cell hc) hn)).trans hc
/-- What is made sure, once counted; nothing, if the power has just gone. -/
def DS.wSure (σ : DS) (W : Int × DS) : Int × DS := if σ.c.off = true then (10, σ) else W
def DS.wSync (σ : DS) (s : ByteArray) : Int × DS := match fnd σ.dir s with | none => (7, σ) | some i => (0, { σ with fl := upd σ.fl i ((σ.fl i).1, (σ.fl i).1.length) })
def DS.wSyncDir (σ : DS) : Int × DS := (0, { σ with was := [σ.dir] })
theorem ce0_off {c : Cn} (h : c.ce = 0) : c.cc.off = c.cl := by
  obtain ⟨calls, fuse, wait, fails, off⟩ := c
  cases off with
  | true => simp [Cn.ce] at h
  | false =>
    simp only [Cn.cc, Cn.cl, Bool.false_eq_true, if_false, Bool.not_false, Bool.true_and]
    by_cases hq : fuse = 1
    · simp only [hq, decide_true, Bool.true_and]
      cases hl : Cn.fl ⟨calls, fuse, wait, fails, false⟩ with
      | true =>
        rw [Cn.ce, hl] at h
        simp [hq] at h
      | false =>
        rw [hq] at hl
        rw [hl]
        rfl
    · simp [hq]
theorem sure_w (σ : DS) (W : Int × DS) : (if σ.c.ce ≠ 0 ∨ σ.c.cl = true then (endE σ.c.ce σ.c.cl, σ.cnt) else W) = (if σ.c.ce ≠ 0 then (σ.c.ce, σ.cnt) else (endE (σ.cnt.wSure W).1 σ.c.cl, (σ.cnt.wSure W).2)) := by
  by_cases h : σ.c.ce = 0
  · rw [if_neg (by rw [h]; decide : ¬ σ.c.ce ≠ 0)]
    have ho : σ.cnt.c.off = σ.c.cl := ce0_off h
    unfold DS.wSure
    rw [ho]
    cases hl : σ.c.cl with
    | true =>
      rw [if_pos (.inr rfl)]
      simp only [if_true]
      rfl
    | false =>
      rw [if_neg (by rw [h]; simp)]
      simp only [Bool.false_eq_true, if_false]
      rfl
  · rw [if_pos (.inl h), if_pos h]
    have : σ.c.cl = false := by
      cases hl : σ.c.cl with
      | false => rfl
      | true =>
        exfalso
        apply h
        unfold Cn.cl at hl
        simp only [Bool.and_eq_true, Bool.not_eq_true', decide_eq_true_eq] at hl
        obtain ⟨⟨h1, h2⟩, h3⟩ := hl
        unfold Cn.ce
        rw [h1, h3]
        simp [h2]
    rw [this]
    rfl
theorem sync_w (σ : DS) (s : ByteArray) : σ.sync s = if σ.c.ce ≠ 0 then (σ.c.ce, σ.cnt) else (endE (σ.cnt.wSure (σ.cnt.wSync s)).1 σ.c.cl, (σ.cnt.wSure (σ.cnt.wSync s)).2) := by
  rw [← sure_w]
  unfold DS.sync DS.wSync
  have e : fnd σ.cnt.dir s = fnd σ.dir s := rfl
  rw [e]
  cases fnd σ.dir s <;> rfl
theorem syncDir_w (σ : DS) : σ.syncDir = if σ.c.ce ≠ 0 then (σ.c.ce, σ.cnt) else (endE (σ.cnt.wSure σ.cnt.wSyncDir).1 σ.c.cl, (σ.cnt.wSure σ.cnt.wSyncDir).2) := by
  rw [← sure_w]
  rfl

set_option maxHeartbeats 1000000 in
set_option maxRecDepth 100000 in
theorem makingSure1_any (N : Nat) (caps : Array Value) (db fb p : Nat) (σ : DS) (F A : Nat → Prop) (loc : Nat → Nat) (dv : Nat → Value) (nv sv cv : Value) (sd : List Ent) (ch : List Chg) (w : World) (h : LAt w p σ F A loc dv nv sv cv sd ch) (W : Int × DS) (hN : ∀ w, (callFunc N caps).run Tryz.prog w = .ok (.enter N caps) w)
    (cd : w.cell? ⟨db, 0, none⟩ = some (ptr p)) (cf : w.cell? ⟨fb, 0, none⟩ = some (.func (.func N) #[] caps))
    (HW : Calls Tryz.prog N caps w fun e w' => e = .returned (.int .i64 W.1) ∧ Nx RL w p W.2 F w') :
    Calls Tryz.prog 81 #[.pointer (some ⟨db, 0, none⟩), .pointer (some ⟨fb, 0, none⟩)] w fun e w' => e = .returned (.int .i64 (σ.wSure W).1) ∧ Nx RL w p (σ.wSure W).2 F w' := by
  have c5 : w.cell? ⟨p, 5, none⟩ = some (.bool σ.c.off) := cell_of h.blk 5
  have HZ : Hid (Nx RL w p σ F w) := LAt.nxt h h.lt (Kept.refl _ _)
  unfold DS.wSure
  unfold ptr at *
  clear h
  have HW' : Hid (Calls Tryz.prog N caps w fun e w' => e = .returned (.int .i64 W.1) ∧ Nx RL w p W.2 F w') := HW
  clear HW
  cases ho : σ.c.off with
  | true =>
    rw [ho] at c5
    simp only [if_true]
    go_enter Tryz.func81, Tryz.ntmps81
    go_wp2_with fail
    go_ret
    exact ⟨rfl, HZ.out⟩
  | false =>
    rw [ho] at c5
    simp only [Bool.false_eq_true, if_false]
    go_enter Tryz.func81, Tryz.ntmps81
    go_wp2_with fail
    refine (HW'.out).mono ?_
    rintro e w' ⟨rfl, hx⟩
    go_wp2_with fail
    go_ret
    exact ⟨rfl, hx⟩

set_option maxHeartbeats 1000000 in
set_option maxRecDepth 100000 in
theorem makingSure_any (N : Nat) (caps : Array Value) (p : Nat) (σ : DS) (F A : Nat → Prop) (loc : Nat → Nat) (dv : Nat → Value) (nv sv cv : Value) (sd : List Ent) (ch : List Chg) (w : World) (h : LAt w p σ F A loc dv nv sv cv sd ch) (hi : Inv σ) (W : Int × DS) (hN : ∀ w, (callFunc N caps).run Tryz.prog w = .ok (.enter N caps) w)
    (HW : ∀ w1, Kept F w w1 → LAt w1 p σ.cnt F A loc dv nv sv cv sd ch → Calls Tryz.prog N caps w1 fun e w' => e = .returned (.int .i64 W.1) ∧ Nx RL w1 p W.2 F w') :
    Calls Tryz.prog 57 #[ptr p, .func (.func N) #[] caps] w fun e w' => e = .returned (.int .i64 (if σ.c.ce ≠ 0 then (σ.c.ce, σ.cnt) else (endE (σ.cnt.wSure W).1 σ.c.cl, (σ.cnt.wSure W).2)).1) ∧ Nx RL w p (if σ.c.ce ≠ 0 then (σ.c.ce, σ.cnt) else (endE (σ.cnt.wSure W).1 σ.c.cl, (σ.cnt.wSure W).2)).2 F w' := by
  obtain ⟨wa, hwa⟩ : ∃ wa, wa = (w.alloc (.cells #[ptr p] 23)).alloc (.cells #[.func (.func N) #[] caps] 59) := ⟨_, rfl⟩
  have hb : Below w.heap.size w wa := by rw [hwa]; exact ((Below.refl _ _).alloc (Nat.le_refl _) _).alloc (by simp) _
  have c0 : wa.cell? ⟨w.heap.size, 0, none⟩ = some (ptr p) := by rw [hwa]; exact cell_later ((Below.refl _ _).alloc (Nat.le_refl _) _) (cell_of (heap_alloc_new w _) 0)
  have c1 : wa.cell? ⟨w.heap.size + 1, 0, none⟩ = some (.func (.func N) #[] caps) := by
    rw [hwa]
    have := cell_of (heap_alloc_new (w.alloc (.cells #[ptr p] 23)) (.cells #[.func (.func N) #[] caps] 59)) 0
    rw [show (w.alloc (.cells #[ptr p] 23)).heap.size = w.heap.size + 1 by simp] at this
    exact this
  have hp := h.lt p h.fp
  have k := changing_w 81 #[.pointer (some ⟨w.heap.size, 0, none⟩), .pointer (some ⟨w.heap.size + 1, 0, none⟩)] p σ F A loc dv nv sv cv sd ch wa (h.later hb) hi (σ.cnt.wSure W) (enters_of Tryz.func81 (by kernel_rfl) rfl _) fun w1 g1 h1 =>
    makingSure1_any N caps _ _ p σ.cnt F A loc dv nv sv cv sd ch w1 h1 W hN (g1.cell c0 (fun e => by simp only [Option.some.injEq] at e; omega)) (g1.cell c1 (fun e => by simp only [Option.some.injEq] at e; omega)) (HW w1 ((below_kept (F := F) hb).trans (kept_p g1 h.fp) fun _ x => .inl x) h1)
  have HX : Hid (∀ σ' w', Nx RL wa p σ' F w' → Nx RL w p σ' F w') := fun σ' w' hx => hx.start hb
  generalize (if σ.c.ce ≠ 0 then (σ.c.ce, σ.cnt) else (endE (σ.cnt.wSure W).1 σ.c.cl, (σ.cnt.wSure W).2)) = R at k ⊢
  clear h hi hb c0 c1 HW hN
  unfold ptr at *
  go_enter Tryz.func57, Tryz.ntmps57
  go_wp2_with (go_at_call 51; rw [← hwa]; refine k.mono ?_; rintro e w' ⟨rfl, hx⟩)
  go_ret
  exact ⟨rfl, HX.out _ _ hx⟩

set_option maxHeartbeats 1000000 in
set_option maxRecDepth 100000 in
theorem sync1_any (db nb p : Nat) (σ : DS) (F A : Nat → Prop) (loc : Nat → Nat) (dv : Nat → Value) (nv sv cv : Value) (sd : List Ent) (ch : List Chg) (s : ByteArray) (w : World) (h : LAt w p σ F A loc dv nv sv cv sd ch) (hfl : ∀ i, (σ.fl i).1.length ≤ 4194304 ∧ Okb (σ.fl i).1)
    (cd : w.cell? ⟨db, 0, none⟩ = some (ptr p)) (cn : w.cell? ⟨nb, 0, none⟩ = some (.string s)) :
    Calls Tryz.prog 58 #[.pointer (some ⟨db, 0, none⟩), .pointer (some ⟨nb, 0, none⟩)] w fun e w' => e = .returned (.int .i64 (σ.wSync s).1) ∧ Nx RL w p (σ.wSync s).2 F w' := by
  have HZ : Hid (∀ w1, Below w.heap.size w w1 → Nx RL w p σ F w1) := fun w1 hb => LAt.nxt (h.later hb) h.lt (below_kept hb)
  have c1 : w.cell? ⟨p, 1, none⟩ = some nv := cell_of h.blk 1
  have hlk : ∀ n, (Instr.lookup 46 nv (.string s) false).run Tryz.prog (w.drewN n) = .ok (pv loc (fnd σ.dir s)) (w.drewN n) := fun n => (h.later (below_drewN (Below.refl _ _) n)).dir.look s
  cases hf : fnd σ.dir s with
  | none =>
    have hr : σ.wSync s = (7, σ) := by rw [DS.wSync, hf]
    rw [hr]
    rw [hf] at hlk
    simp only [pv] at hlk
    clear hr h
    unfold ptr at *
    go_enter Tryz.func58, Tryz.ntmps58
    go_wp2_with fail
    go_quiet (fail)
    go_wp2_with fail
    go_ret
    exact ⟨rfl, HZ.out _ (below_drewN (Below.refl _ _) _)⟩
  | some i =>
    have hr : σ.wSync s = (0, { σ with fl := upd σ.fl i ((σ.fl i).1, (σ.fl i).1.length) }) := by rw [DS.wSync, hf]
    rw [hr]
    rw [hf] at hlk
    simp only [pv, ptr] at hlk
    have hA := h.alFnd hf
    obtain ⟨q1, q3⟩ := hfl i
    have HN : Hid (∀ wx, Below w.heap.size w wx → Nx RL w p { σ with fl := upd σ.fl i ((σ.fl i).1, (σ.fl i).1.length) } F (wx.setCell ⟨loc i, 1, none⟩ (.int .i64 ((σ.fl i).1.length : Int)))) := fun wx hb => by
      have hx := h.later hb
      have hfm := hx.file i hA
      have hg : wx.grownBy (wx.setCell ⟨loc i, 1, none⟩ (.int .i64 ((σ.fl i).1.length : Int))) (some (loc i)) := grown_set _ _ _ _
      have h2 := hx.setFile hA (w' := wx.setCell ⟨loc i, 1, none⟩ (.int .i64 ((σ.fl i).1.length : Int))) (fun k hk => hk) (fun k hk => Nat.lt_of_lt_of_le (hx.lt k hk) hg.size) (fun k hF hn1 hn2 => hg.block k (hx.lt k hF) fun e => hn1 (Option.some.inj e)) (dv' := dv i) (f' := ((σ.fl i).1, (σ.fl i).1.length)) ⟨hfm.fp, heap_set hfm.blk 1 _, owns_same hfm.row fun b e => hg.block b (hx.row5 hA e).lt fun e2 => TyOf.ne (hx.row5 hA e) hfm.ty (by decide) (Option.some.inj e2), hfm.own⟩ (.inl rfl)
      exact Nx.start hb (LAt.nxt h2 hx.lt (Kept.grown hg fun k e => .inl (by simp only [Option.some.injEq] at e; exact e ▸ hfm.fp)))
    have HF : Hid (∀ wx, Below w.heap.size w wx → ∃ ao cap, wx.cell? ⟨loc i, 0, none⟩ = some (.slice ao (σ.fl i).1.length cap) ∧ wx.cell? ⟨loc i, 1, none⟩ = some (.int .i64 ((σ.fl i).2 : Int)) ∧ wx.frozen? ⟨loc i, 1, none⟩ = false) := fun wx hb => by
      have hfm := (h.later hb).file i hA
      obtain ⟨ao, cap, e0, _⟩ := hfm.byt q3
      exact ⟨ao, cap, by rw [← e0]; exact hfm.cell0, hfm.cell1, frozen_of hfm.blk 1⟩
    generalize (σ.fl i).1.length = n at *
    clear hr h hf hfl
    unfold ptr at *
    go_enter Tryz.func58, Tryz.ntmps58
    go_wp2_with fail
    go_quiet (fail)
    have hbq : Below w.heap.size w (w.drewN nq) := below_drewN (Below.refl _ _) _
    generalize w.drewN nq = w2 at hbq ⊢
    obtain ⟨ao, cap, z1, z2, z3⟩ := HF.out _ hbq
    go_wp2_with fail
    go_ret
    exact ⟨rfl, HN.out _ hbq⟩

set_option maxHeartbeats 1000000 in
set_option maxRecDepth 100000 in
theorem sync_any (p : Nat) (σ : DS) (F : Nat → Prop) (s : ByteArray) (w : World) (h : RL w p σ F) (hi : Inv σ) :
    Calls Tryz.prog 19 #[ptr p, .string s] w fun e w' => e = .returned (.int .i64 (σ.sync s).1) ∧ Nx RL w p (σ.sync s).2 F w' := by
  obtain ⟨A, loc, dv, nv, sv, cv, sd, ch, h⟩ := h
  obtain ⟨wa, hwa⟩ : ∃ wa, wa = (w.alloc (.cells #[ptr p] 23)).alloc (.cells #[.string s] 9) := ⟨_, rfl⟩
  have hb : Below w.heap.size w wa := by rw [hwa]; exact ((Below.refl _ _).alloc (Nat.le_refl _) _).alloc (by simp) _
  have c0 : wa.cell? ⟨w.heap.size, 0, none⟩ = some (ptr p) := by rw [hwa]; exact cell_later ((Below.refl _ _).alloc (Nat.le_refl _) _) (cell_of (heap_alloc_new w _) 0)
  have c1 : wa.cell? ⟨w.heap.size + 1, 0, none⟩ = some (.string s) := by
    rw [hwa]
    have := cell_of (heap_alloc_new (w.alloc (.cells #[ptr p] 23)) (.cells #[.string s] 9)) 0
    rw [show (w.alloc (.cells #[ptr p] 23)).heap.size = w.heap.size + 1 by simp] at this
    exact this
  have hF : ∀ k, F k → k < w.heap.size := h.lt
  have k := makingSure_any 58 #[.pointer (some ⟨w.heap.size, 0, none⟩), .pointer (some ⟨w.heap.size + 1, 0, none⟩)] p σ F A loc dv nv sv cv sd ch wa (h.later hb) hi (σ.cnt.wSync s) (enters_of Tryz.func58 (by kernel_rfl) rfl _) fun w1 g1 h1 =>
    sync1_any _ _ p σ.cnt F A loc dv nv sv cv sd ch s w1 h1 (fun i => ⟨(hi.fl i).1, (hi.fl i).2.2⟩) (kept_cell g1 c0 fun e => by have := hF _ e; omega) (kept_cell g1 c1 fun e => by have := hF _ e; omega)
  rw [← sync_w] at k
  have HX : Hid (∀ w', Nx RL wa p (σ.sync s).2 F w' → Nx RL w p (σ.sync s).2 F w') := fun w' hx => hx.start hb
  generalize (σ.sync s).1 = r at k ⊢
  clear h hi hb c0 c1 hF
  unfold ptr at *
  go_enter Tryz.func19, Tryz.ntmps19
  go_wp2_with (go_at_call 57; rw [← hwa]; refine k.mono ?_; rintro e w' ⟨rfl, hx⟩)
  go_ret
  exact ⟨rfl, HX.out _ hx⟩

end Go.Proofs.YtligofmcmjblpaaGreat
