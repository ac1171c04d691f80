/- The landed disk: Create, Remove, Rename, counted. -/
import Derived.Test.YtligofmcmjblpaaGreatLcreate
namespace Go.Proofs.YtligofmcmjblpaaGreat
open Go.RowKit Go.Maps
set_option linter.unusedVariables false
set_option linter.unusedSimpArgs false

/-- A call that is counted, and does what it does. -/
theorem changing_w (N : Nat) (caps : Array Value) (p : Nat) (σ : DS) (F A : Nat → Prop) (loc : Nat → Nat) (dv : Nat → Value) (nv sv cv : Value) (sd : List Ent) (ch : List Chg) (w : World) (h : LAt w p σ F A loc dv nv sv cv sd ch) (hi : Inv σ) (W : Int × DS) (hN : ∀ w, (callFunc N caps).run Tryz.prog w = .ok (.enter N caps) w)
    (HW : ∀ w1, w.grownBy w1 (some p) → LAt w1 p σ.cnt F A loc dv nv sv cv sd ch → Calls Tryz.prog N caps w1 fun e w' => e = .returned (.int .i64 W.1) ∧ Nx RL w1 p W.2 F w') :
    Calls Tryz.prog 51 #[ptr p, .func (.func N) #[] caps] w fun e w' => e = .returned (.int .i64 (if σ.c.ce ≠ 0 then (σ.c.ce, σ.cnt) else (endE W.1 σ.c.cl, W.2)).1) ∧ Nx RL w p (if σ.c.ce ≠ 0 then (σ.c.ce, σ.cnt) else (endE W.1 σ.c.cl, W.2)).2 F w' := by
  refine (changing_any N caps p σ F A loc dv nv sv cv sd ch w h hi (fun r w' => r = W.1 ∧ Nx RL w p W.2 F w') hN fun _ w1 g1 h1 => (HW w1 g1 h1).mono fun e w' ⟨he, hx⟩ => ⟨_, he, rfl, hx.after g1 h.fp⟩).mono fun e w' hk => ?_
  rcases hk with ⟨h1, he, hx⟩ | ⟨h1, r, he, hr, hx⟩
  · rw [if_pos h1]
    exact ⟨he, hx⟩
  · rw [if_neg (by rw [h1]; decide)]
    rw [hr] at he
    exact ⟨he, hx⟩
theorem cnt_le {σ : DS} (hi : Inv σ) {F A : Nat → Prop} {loc : Nat → Nat} {dv : Nat → Value} {nv sv cv : Value} {sd : List Ent} {ch : List Chg} {w : World} {p : Nat} (h : LAt w p σ F A loc dv nv sv cv sd ch) : σ.dir.length ≤ 1048576 ∧ ch.length ≤ 1048577 := by
  have h1 := hi.dl
  have h2 := hi.ok.2.1
  have h3 := hi.wl
  rw [h.was, hist_length] at h3
  omega

set_option maxHeartbeats 1000000 in
set_option maxRecDepth 100000 in
theorem create_any (p : Nat) (σ : DS) (F : Nat → Prop) (s : ByteArray) (w : World) (h : RL w p σ F) (hi : Inv σ) (hs : s.size ≤ 2 ^ 63 - 1) :
    Calls Tryz.prog 17 #[ptr p, .string s] w fun e w' => e = .returned (.int .i64 (σ.create s).1) ∧ Nx RL w p (σ.create s).2 F w' := by
  obtain ⟨A, loc, dv, nv, sv, cv, sd, ch, h⟩ := h
  obtain ⟨q1, q2⟩ := cnt_le hi h
  obtain ⟨wa, hwa⟩ : ∃ wa, wa = (w.alloc (.cells #[ptr p] 23)).alloc (.cells #[.string s] 9) := ⟨_, rfl⟩
  have hb : Below w.heap.size w wa := by rw [hwa]; exact ((Below.refl _ _).alloc (Nat.le_refl _) _).alloc (by simp) _
  have c0 : wa.cell? ⟨w.heap.size, 0, none⟩ = some (ptr p) := by rw [hwa]; exact cell_later ((Below.refl _ _).alloc (Nat.le_refl _) _) (cell_of (heap_alloc_new w _) 0)
  have c1 : wa.cell? ⟨w.heap.size + 1, 0, none⟩ = some (.string s) := by
    rw [hwa]
    have := cell_of (heap_alloc_new (w.alloc (.cells #[ptr p] 23)) (.cells #[.string s] 9)) 0
    rw [show (w.alloc (.cells #[ptr p] 23)).heap.size = w.heap.size + 1 by simp] at this
    exact this
  have hp := h.lt p h.fp
  have k := changing_w 52 #[.pointer (some ⟨w.heap.size + 1, 0, none⟩), .pointer (some ⟨w.heap.size, 0, none⟩)] p σ F A loc dv nv sv cv sd ch wa (h.later hb) hi (σ.cnt.wCreate s) (enters_of Tryz.func52 (by kernel_rfl) rfl _) fun w1 g1 h1 =>
    create1_any _ _ p σ.cnt F A loc dv nv sv cv sd ch s w1 h1 q1 q2 hs (g1.cell c1 (fun e => by simp only [Option.some.injEq] at e; omega)) (g1.cell c0 (fun e => by simp only [Option.some.injEq] at e; omega)) (fun e => by have := h.lt _ e; omega) (fun e => by have := h.lt _ e; omega)
  rw [← create_w] at k
  have HX : Hid (∀ w', Nx RL wa p (σ.create s).2 F w' → Nx RL w p (σ.create s).2 F w') := fun w' hx => hx.start hb
  generalize (σ.create s).1 = r at k ⊢
  clear h hi q1 q2 hb c0 c1
  unfold ptr at *
  go_enter Tryz.func17, Tryz.ntmps17
  go_wp2_with (go_at_call 51; rw [← hwa]; refine k.mono ?_; rintro e w' ⟨rfl, hx⟩)
  go_ret
  exact ⟨rfl, HX.out _ hx⟩
theorem fnd_size {l : List Ent} (h : Gd l) {s : ByteArray} {i : Nat} (hf : fnd l s = some i) : s.size ≤ 64 := by
  obtain ⟨a, ha, hs⟩ := fnd_pair hf
  have h1 := (may_size (h.may _ ha)).2
  rw [ByteArray.toList_eq, ByteArray.toList_eq] at hs
  have h2 : a.data.size = s.data.size := by rw [← Array.length_toList, hs, Array.length_toList]
  have h3 : a.size = s.size := h2
  simp only at h1
  omega

set_option maxHeartbeats 2000000 in
set_option maxRecDepth 100000 in
theorem remove1_any (db nb p : Nat) (σ : DS) (F A : Nat → Prop) (loc : Nat → Nat) (dv : Nat → Value) (nv sv cv : Value) (sd : List Ent) (ch : List Chg) (s : ByteArray) (w : World) (h : LAt w p σ F A loc dv nv sv cv sd ch) (hdl : σ.dir.length ≤ 1048576) (hcl : ch.length ≤ 1048577)
    (cd : w.cell? ⟨db, 0, none⟩ = some (ptr p)) (cn : w.cell? ⟨nb, 0, none⟩ = some (.string s)) (hn2 : ¬ F db) (hn1 : ¬ F nb) :
    Calls Tryz.prog 60 #[.pointer (some ⟨db, 0, none⟩), .pointer (some ⟨nb, 0, none⟩)] w fun e w' => e = .returned (.int .i64 (σ.wRemove s).1) ∧ Nx RL w p (σ.wRemove s).2 F w' := by
  have HZ : Hid (∀ w1, Below w.heap.size w w1 → Nx RL w p σ F w1) := fun w1 hb => LAt.nxt (h.later hb) h.lt (below_kept hb)
  have c1 : w.cell? ⟨p, 1, none⟩ = some nv := cell_of h.blk 1
  have hlk : ∀ n, (Instr.lookup 46 nv (.string s) false).run Tryz.prog (w.drewN n) = .ok (pv loc (fnd σ.dir s)) (w.drewN n) := fun n => (h.later (below_drewN (Below.refl _ _) n)).dir.look s
  cases hf : fnd σ.dir s with
  | none =>
    have hr : σ.wRemove s = (7, σ) := by rw [DS.wRemove, hf]
    rw [hr]
    rw [hf] at hlk
    simp only [pv] at hlk
    clear hr h
    unfold ptr at *
    go_enter Tryz.func60, Tryz.ntmps60
    go_wp2_with fail
    go_quiet (fail)
    go_wp2_with fail
    go_ret
    exact ⟨rfl, HZ.out _ (below_drewN (Below.refl _ _) _)⟩
  | some i =>
    have hr : σ.wRemove s = (0, σ.chg (drp σ.dir s)) := by rw [DS.wRemove, hf]
    rw [hr]
    rw [hf] at hlk
    simp only [pv, ptr] at hlk
    have hs64 := fnd_size h.gdDir hf
    have HK : Hid (∀ σ' w4, Nx RL w p σ' F w4 → w4.cell? ⟨nb, 0, none⟩ = some (.string s) ∧ w4.cell? ⟨db, 0, none⟩ = some (.pointer (some ⟨p, 0, none⟩))) := fun σ' w4 hN => ⟨hN.cell cn hn1, hN.cell cd hn2⟩
    have HS : Hid (∀ wx, Calls Tryz.prog 55 #[.string s] wx fun e w' => e = .returned (.string s) ∧ Below wx.heap.size wx w') := fun wx => sclone_any s wx hs64
    have HT : Hid (∀ wx, Below w.heap.size w wx → Calls Tryz.prog 54 #[.pointer (some ⟨p, 0, none⟩), .agg #[.string s, .string ⟨#[]⟩, .pointer none]] wx fun e w' => e = .returned (.tuple #[]) ∧ Nx RL w p (σ.chg (drp σ.dir s)) F w') := fun wx hb => by
      have := turn_any p σ F A loc dv nv sv cv sd ch ⟨s, ⟨#[]⟩, none⟩ wx (h.later hb) hdl hcl ⟨hs64, Nat.zero_le _⟩ (fun i e => by cases e) (h.gdDir.drp s) (fun e he => h.alDir e (List.mem_filter.1 he).1)
      unfold chv ptr at this
      simp only [pv] at this
      exact this.mono fun e w' ⟨he, hN⟩ => ⟨he, hN.start hb⟩
    clear hr h hf
    unfold ptr at *
    go_enter Tryz.func60, Tryz.ntmps60
    go_wp2_with fail
    go_quiet (fail)
    have hbq : Below w.heap.size w (w.drewN nq) := below_drewN (Below.refl _ _) _
    have z1 := cell_later hbq cn
    have z2 := cell_later hbq cd
    generalize w.drewN nq = w2 at hbq z1 z2 ⊢
    go_wp2_with fail
    go_region_held (fun w' => w'.cell? ⟨nb, 0, none⟩ = some (.string s) ∧ w'.cell? ⟨db, 0, none⟩ = some (.pointer (some ⟨p, 0, none⟩))) (first | exact v4 | exact ⟨y1, y2⟩ | exact ⟨z1, z2⟩) (first | (go_at_call 55; refine (HS.out _).mono ?_; rintro e w3 ⟨rfl, hb3⟩; replace hb3 := below_undrew hb3; have y1 := cell_later hb3 z1; have y2 := cell_later hb3 z2) | (go_at_call 54; refine (HT.out _ (by exact hbq.trans (hb3.mono hbq.size))).mono ?_; rintro e w4 ⟨rfl, hN⟩; have v4 := HK.out _ _ hN))
    all_goals
      go_wp2_with fail
      go_ret
      exact ⟨rfl, hN⟩

set_option maxHeartbeats 1000000 in
set_option maxRecDepth 100000 in
theorem remove_any (p : Nat) (σ : DS) (F : Nat → Prop) (s : ByteArray) (w : World) (h : RL w p σ F) (hi : Inv σ) :
    Calls Tryz.prog 21 #[ptr p, .string s] w fun e w' => e = .returned (.int .i64 (σ.remove s).1) ∧ Nx RL w p (σ.remove s).2 F w' := by
  obtain ⟨A, loc, dv, nv, sv, cv, sd, ch, h⟩ := h
  obtain ⟨q1, q2⟩ := cnt_le hi h
  obtain ⟨wa, hwa⟩ : ∃ wa, wa = (w.alloc (.cells #[ptr p] 23)).alloc (.cells #[.string s] 9) := ⟨_, rfl⟩
  have hb : Below w.heap.size w wa := by rw [hwa]; exact ((Below.refl _ _).alloc (Nat.le_refl _) _).alloc (by simp) _
  have c0 : wa.cell? ⟨w.heap.size, 0, none⟩ = some (ptr p) := by rw [hwa]; exact cell_later ((Below.refl _ _).alloc (Nat.le_refl _) _) (cell_of (heap_alloc_new w _) 0)
  have c1 : wa.cell? ⟨w.heap.size + 1, 0, none⟩ = some (.string s) := by
    rw [hwa]
    have := cell_of (heap_alloc_new (w.alloc (.cells #[ptr p] 23)) (.cells #[.string s] 9)) 0
    rw [show (w.alloc (.cells #[ptr p] 23)).heap.size = w.heap.size + 1 by simp] at this
    exact this
  have hp := h.lt p h.fp
  have k := changing_w 60 #[.pointer (some ⟨w.heap.size, 0, none⟩), .pointer (some ⟨w.heap.size + 1, 0, none⟩)] p σ F A loc dv nv sv cv sd ch wa (h.later hb) hi (σ.cnt.wRemove s) (enters_of Tryz.func60 (by kernel_rfl) rfl _) fun w1 g1 h1 =>
    remove1_any _ _ p σ.cnt F A loc dv nv sv cv sd ch s w1 h1 q1 q2 (g1.cell c0 (fun e => by simp only [Option.some.injEq] at e; omega)) (g1.cell c1 (fun e => by simp only [Option.some.injEq] at e; omega)) (fun e => by have := h.lt _ e; omega) (fun e => by have := h.lt _ e; omega)
  rw [← remove_w] at k
  have HX : Hid (∀ w', Nx RL wa p (σ.remove s).2 F w' → Nx RL w p (σ.remove s).2 F w') := fun w' hx => hx.start hb
  generalize (σ.remove s).1 = r at k ⊢
  clear h hi q1 q2 hb c0 c1
  unfold ptr at *
  go_enter Tryz.func21, Tryz.ntmps21
  go_wp2_with (go_at_call 51; rw [← hwa]; refine k.mono ?_; rintro e w' ⟨rfl, hx⟩)
  go_ret
  exact ⟨rfl, HX.out _ hx⟩

set_option maxHeartbeats 2000000 in
set_option maxRecDepth 100000 in
theorem rename1_any (db ob nb p : Nat) (σ : DS) (F A : Nat → Prop) (loc : Nat → Nat) (dv : Nat → Value) (nv sv cv : Value) (sd : List Ent) (ch : List Chg) (s t : ByteArray) (w : World) (h : LAt w p σ F A loc dv nv sv cv sd ch) (hdl : σ.dir.length ≤ 1048576) (hcl : ch.length ≤ 1048577) (ht : t.size ≤ 2 ^ 63 - 1)
    (cd : w.cell? ⟨db, 0, none⟩ = some (ptr p)) (co : w.cell? ⟨ob, 0, none⟩ = some (.string s)) (cn : w.cell? ⟨nb, 0, none⟩ = some (.string t)) (hn1 : ¬ F db) (hn2 : ¬ F ob) (hn3 : ¬ F nb) :
    Calls Tryz.prog 59 #[.pointer (some ⟨db, 0, none⟩), .pointer (some ⟨ob, 0, none⟩), .pointer (some ⟨nb, 0, none⟩)] w fun e w' => e = .returned (.int .i64 (σ.wRename s t).1) ∧ Nx RL w p (σ.wRename s t).2 F w' := by
  have HZ : Hid (∀ w1, Below w.heap.size w w1 → Nx RL w p σ F w1) := fun w1 hb => LAt.nxt (h.later hb) h.lt (below_kept hb)
  have c1 : w.cell? ⟨p, 1, none⟩ = some nv := cell_of h.blk 1
  have hlk : ∀ n, (Instr.lookup 46 nv (.string s) false).run Tryz.prog (w.drewN n) = .ok (pv loc (fnd σ.dir s)) (w.drewN n) := fun n => (h.later (below_drewN (Below.refl _ _) n)).dir.look s
  have HC : Hid (∀ wx, Below w.heap.size w wx → wx.cell? ⟨db, 0, none⟩ = some (.pointer (some ⟨p, 0, none⟩)) ∧ wx.cell? ⟨ob, 0, none⟩ = some (.string s) ∧ wx.cell? ⟨nb, 0, none⟩ = some (.string t)) := fun wx hb => ⟨cell_later hb cd, cell_later hb co, cell_later hb cn⟩
  have km := fun wx => mayBe_any t wx ht
  cases hf : fnd σ.dir s with
  | none =>
    have hr : σ.wRename s t = (7, σ) := by rw [DS.wRename, hf]
    rw [hr]
    rw [hf] at hlk
    simp only [pv] at hlk
    clear hr h
    unfold ptr at *
    go_enter Tryz.func59, Tryz.ntmps59
    go_wp2_with fail
    go_quiet (fail)
    go_wp2_with fail
    go_ret
    exact ⟨rfl, HZ.out _ (below_drewN (Below.refl _ _) _)⟩
  | some i =>
    rw [hf] at hlk
    simp only [pv, ptr] at hlk
    have hs64 := fnd_size h.gdDir hf
    cases hm : mayN t with
    | false =>
      have hr : σ.wRename s t = (15, σ) := by rw [DS.wRename, hf]; simp only [hm, if_true]
      rw [hr]
      simp only [hm] at km
      clear hr h
      unfold ptr at *
      go_enter Tryz.func59, Tryz.ntmps59
      go_wp2_with fail
      go_quiet (fail)
      have hbq : Below w.heap.size w (w.drewN nq) := below_drewN (Below.refl _ _) _
      generalize w.drewN nq = w2 at hbq ⊢
      obtain ⟨z1, z2, z3⟩ := HC.out _ hbq
      go_wp2_with (go_at_call 53; refine (km _).mono ?_; rintro e w3 ⟨rfl, hb3⟩)
      go_ret
      exact ⟨rfl, HZ.out _ (hbq.trans (hb3.mono hbq.size))⟩
    | true =>
      simp only [hm] at km
      have ht64 := (may_size hm).2
      cases hq : (s.toList == t.toList) with
      | true =>
        have hr : σ.wRename s t = (0, σ) := by rw [DS.wRename, hf]; simp only [hm, hq, Bool.true_eq_false, if_false, if_true]
        rw [hr]
        clear hr h
        unfold ptr at *
        go_enter Tryz.func59, Tryz.ntmps59
        go_wp2_with fail
        go_quiet (fail)
        have hbq : Below w.heap.size w (w.drewN nq) := below_drewN (Below.refl _ _) _
        generalize w.drewN nq = w2 at hbq ⊢
        obtain ⟨z1, z2, z3⟩ := HC.out _ hbq
        go_wp2_with (go_at_call 53; refine (km _).mono ?_; rintro e w3 ⟨rfl, hb3⟩; obtain ⟨y1, y2, y3⟩ := HC.out _ (hbq.trans (hb3.mono hbq.size)))
        go_ret
        exact ⟨rfl, HZ.out _ (hbq.trans (hb3.mono hbq.size))⟩
      | false =>
        have hr : σ.wRename s t = (0, σ.chg (pt (drp σ.dir s) t i)) := by rw [DS.wRename, hf]; simp only [hm, hq, Bool.true_eq_false, Bool.false_eq_true, if_false]
        rw [hr]
        have HK : Hid (∀ σ' w4, Nx RL w p σ' F w4 → w4.cell? ⟨db, 0, none⟩ = some (.pointer (some ⟨p, 0, none⟩)) ∧ w4.cell? ⟨ob, 0, none⟩ = some (.string s) ∧ w4.cell? ⟨nb, 0, none⟩ = some (.string t)) := fun σ' w4 hN => ⟨hN.cell cd hn1, hN.cell co hn2, hN.cell cn hn3⟩
        have HS : Hid (∀ wx, Calls Tryz.prog 55 #[.string s] wx fun e w' => e = .returned (.string s) ∧ Below wx.heap.size wx w') := fun wx => sclone_any s wx hs64
        have HS2 : Hid (∀ wx, Calls Tryz.prog 55 #[.string t] wx fun e w' => e = .returned (.string t) ∧ Below wx.heap.size wx w') := fun wx => sclone_any t wx ht64
        have HT : Hid (∀ wx, Below w.heap.size w wx → Calls Tryz.prog 54 #[.pointer (some ⟨p, 0, none⟩), .agg #[.string s, .string t, .pointer (some ⟨loc i, 0, none⟩)]] wx fun e w' => e = .returned (.tuple #[]) ∧ Nx RL w p (σ.chg (pt (drp σ.dir s) t i)) F w') := fun wx hb => by
          have := turn_any p σ F A loc dv nv sv cv sd ch ⟨s, t, some i⟩ wx (h.later hb) hdl hcl ⟨hs64, ht64⟩ (fun j e => by simp only [Option.some.injEq] at e; exact e ▸ h.alFnd hf) ((h.gdDir.drp s).pt hm (drp_id h.gdDir hf)) (fun e he => by
            rcases pt_mem he with rfl | he
            · exact h.alFnd hf
            · exact h.alDir e (List.mem_filter.1 he).1)
          unfold chv ptr at this
          simp only [pv, ptr] at this
          exact this.mono fun e w' ⟨he, hN⟩ => ⟨he, hN.start hb⟩
        clear hr h hf
        unfold ptr at *
        go_enter Tryz.func59, Tryz.ntmps59
        go_wp2_with fail
        go_quiet (fail)
        have hbq : Below w.heap.size w (w.drewN nq) := below_drewN (Below.refl _ _) _
        generalize w.drewN nq = w2 at hbq ⊢
        obtain ⟨z1, z2, z3⟩ := HC.out _ hbq
        go_wp2_with (go_at_call 53; refine (km _).mono ?_; rintro e w3 ⟨rfl, hb3⟩; have hB3 : Below w.heap.size w w3 := hbq.trans (hb3.mono hbq.size); obtain ⟨y1, y2, y3⟩ := HC.out _ hB3)
        go_region_held (fun w' => w'.cell? ⟨db, 0, none⟩ = some (.pointer (some ⟨p, 0, none⟩)) ∧ w'.cell? ⟨ob, 0, none⟩ = some (.string s) ∧ w'.cell? ⟨nb, 0, none⟩ = some (.string t)) (first | exact v6 | exact v5 | exact v4 | exact ⟨y1, y2, y3⟩) (first | (go_at_call_of 55 (Value.string s); refine (HS.out _).mono ?_; rintro e w4 ⟨rfl, hb4⟩; have B4 : Below w.heap.size w w4 := below_two hb4 (by first | exact hB3.drew | exact B5); have v4 := HC.out _ B4) | (go_at_call_of 55 (Value.string t); refine (HS2.out _).mono ?_; rintro e w5 ⟨rfl, hb5⟩; have B5 : Below w.heap.size w w5 := below_two hb5 (by first | exact hB3.drew | exact B4); have v5 := HC.out _ B5) | (go_at_call 54; refine (HT.out _ (by first | exact B4 | exact B5)).mono ?_; rintro e w6 ⟨rfl, hN⟩; have v6 := HK.out _ _ hN))
        all_goals
          go_wp2_with fail
          go_ret
          exact ⟨rfl, hN⟩
end Go.Proofs.YtligofmcmjblpaaGreat
