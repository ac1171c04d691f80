import Derived.Deep.RegionHeld
import Derived.Test.YtligofmcmjblpaaGreatPk28
/- The landed disk: Create, Remove, Rename. -/
namespace Go.Proofs.YtligofmcmjblpaaGreat
open Go.RowKit Go.Maps
set_option linter.unusedVariables false
set_option linter.unusedSimpArgs false

/-- What the calls do, once they are counted. -/
def DS.wCreate (σ : DS) (s : ByteArray) : Int × DS :=
  if mayN s = false then (15, σ) else if (fnd σ.dir s).isSome then (6, σ) else (0, { σ.chg (pt σ.dir s σ.nx) with fl := upd σ.fl σ.nx ([], 0), nx := σ.nx + 1 })
def DS.wRemove (σ : DS) (s : ByteArray) : Int × DS := match fnd σ.dir s with | none => (7, σ) | some _ => (0, σ.chg (drp σ.dir s))
def DS.wRename (σ : DS) (s t : ByteArray) : Int × DS :=
  match fnd σ.dir s with
  | none => (7, σ)
  | some i => if mayN t = false then (15, σ) else if (s.toList == t.toList) = true then (0, σ) else (0, σ.chg (pt (drp σ.dir s) t i))
theorem create_w (σ : DS) (s : ByteArray) : σ.create s = if σ.c.ce ≠ 0 then (σ.c.ce, σ.cnt) else (endE (σ.cnt.wCreate s).1 σ.c.cl, (σ.cnt.wCreate s).2) := by
  unfold DS.create DS.wCreate
  show _ = if σ.c.ce ≠ 0 then _ else (endE (if mayN s = false then (15, σ.cnt) else if (fnd σ.dir s).isSome then (6, σ.cnt) else (0, { σ.cnt.chg (pt σ.dir s σ.nx) with fl := upd σ.fl σ.nx ([], 0), nx := σ.nx + 1 })).1 σ.c.cl, (if mayN s = false then (15, σ.cnt) else if (fnd σ.dir s).isSome then (6, σ.cnt) else (0, { σ.cnt.chg (pt σ.dir s σ.nx) with fl := upd σ.fl σ.nx ([], 0), nx := σ.nx + 1 })).2)
  split
  · rfl
  · split
    · rfl
    · split <;> rfl
theorem remove_w (σ : DS) (s : ByteArray) : σ.remove s = if σ.c.ce ≠ 0 then (σ.c.ce, σ.cnt) else (endE (σ.cnt.wRemove s).1 σ.c.cl, (σ.cnt.wRemove s).2) := by
  unfold DS.remove DS.wRemove
  have e : fnd σ.cnt.dir s = fnd σ.dir s := rfl
  rw [e]
  split
  · rfl
  · cases fnd σ.dir s <;> rfl
theorem rename_w (σ : DS) (s t : ByteArray) : σ.rename s t = if σ.c.ce ≠ 0 then (σ.c.ce, σ.cnt) else (endE (σ.cnt.wRename s t).1 σ.c.cl, (σ.cnt.wRename s t).2) := by
  unfold DS.rename DS.wRename
  have e : fnd σ.cnt.dir s = fnd σ.dir s := rfl
  rw [e]
  split
  · rfl
  · cases fnd σ.dir s with
    | none => rfl
    | some i =>
      simp only
      split
      · rfl
      · split <;> rfl
theorem Nx.after {w w1 w2 : World} {p : Nat} {σ : DS} {F : Nat → Prop} (hg : w.grownBy w1 (some p)) (hp : F p) (h : Nx RL w1 p σ F w2) : Nx RL w p σ F w2 := by
  obtain ⟨F', a, b, c⟩ := h
  refine ⟨F', a, (kept_p hg hp).trans b fun _ x => .inl x, fun k hF => (c k hF).imp id fun x => ?_⟩
  have := hg.size
  omega
theorem Nx.end_ {w w1 w2 : World} {p : Nat} {σ : DS} {F : Nat → Prop} (h : Nx RL w p σ F w1) (hb : Below w1.heap.size w1 w2) : Nx RL w p σ F w2 := by
  obtain ⟨F', ⟨A, loc, dv, nv, sv, cv, sd, ch, a⟩, b, c⟩ := h
  exact ⟨F', ⟨A, loc, dv, nv, sv, cv, sd, ch, a.later hb⟩, b.trans (below_kept (F := F) hb) fun _ x => .inl x, c⟩
theorem below_undrew {w w1 : World} (h : Below w.drew.heap.size w.drew w1) : Below w.heap.size w w1 := ⟨h.os, h.tape, h.output, h.size, h.block⟩

theorem below_two {w wz w3 : World} (h : Below wz.heap.size wz w3) (hz : Below w.heap.size w wz) : Below w.heap.size w w3 := hz.trans (h.mono hz.size)
theorem Nx.cell {w w' : World} {p : Nat} {σ : DS} {F : Nat → Prop} (h : Nx RL w p σ F w') {g k : Nat} {v : Value} (hc : w.cell? ⟨g, k, none⟩ = some v) (hn : ¬ F g) : w'.cell? ⟨g, k, none⟩ = some v := by
  obtain ⟨_, _, b, _⟩ := h
  exact (World.cell?_of_block (w := w) (b.block g (block_lt_of_cell hc) hn)).trans hc
theorem sclone_any (s : ByteArray) (w : World) (h : s.size ≤ 64) : Calls Tryz.prog 55 #[.string s] w fun e w' => e = .returned (.string s) ∧ Below w.heap.size w w' := by
  have k := Tryz.stringslite_Clone s w (by omega)
  go_enter Tryz.func55, Tryz.ntmps55
  go_wp2_with (go_at_call 80; refine k.mono ?_; rintro e w' ⟨rfl, hb⟩)
  go_ret
  exact ⟨rfl, hb⟩

/-- A new file, not yet named. -/
theorem LAt.newFile {w wx : World} {p : Nat} {σ : DS} {F A : Nat → Prop} {loc : Nat → Nat} {dv : Nat → Value} {nv sv cv : Value} {sd : List Ent} {ch : List Chg} (h : LAt w p σ F A loc dv nv sv cv sd ch) (hb : Below w.heap.size w wx) {g : Nat} (hg : w.heap.size ≤ g) (hh : wx.heap[g]? = some (.cells #[.slice none 0 0, .int .i64 0] 72 (0, 0))) :
    LAt wx p { σ with fl := upd σ.fl σ.nx ([], 0), nx := σ.nx + 1 } (fun k => F k ∨ k = g) (fun i => A i ∨ i = σ.nx) (fun i => if i = σ.nx then g else loc i) (fun i => if i = σ.nx then .slice none 0 0 else dv i) nv sv cv sd ch := by
  have hx := h.later hb
  have hne : ∀ i, A i → i ≠ σ.nx := fun i hi => by have := h.nx i hi; omega
  have hlt : ∀ k, F k → k ≠ g := fun k hk => by have := h.lt k hk; omega
  have hloc : ∀ i, A i → (if i = σ.nx then g else loc i) = loc i := fun i hi => if_neg (hne i hi)
  refine ⟨.inl hx.fp, hx.blk, (hx.dir.mono fun k hk => .inl hk).loc fun e he => hloc _ (hx.alDir e he), (hx.sure.mono fun k hk => .inl hk).loc fun e he => hloc _ (hx.al sd (by rw [hx.was]; exact hist_head sd ch) e he), hx.two, (hx.chs.mono fun k hk => .inl hk).loc fun c hc i e => hloc i (hx.cha c hc i e), hx.was, hx.now, hx.gd, fun i hi => ?_, fun i j hi hj e => ?_, fun i j hi hj hn b e => ?_, fun k hk => ?_, fun l hl e he => .inl (hx.al l hl e he), fun i hi => ?_, fun c hc i e => .inl (hx.cha c hc i e), hx.chm⟩
  · rcases hi with hi | rfl
    · simp only [upd, if_neg (hne i hi)]
      exact (hx.file i hi).mono fun k hk => .inl hk
    · simp only [upd, if_true]
      exact ⟨.inr rfl, hh, World.ownsRow_nil _ _ _ _, fun b e => by cases e⟩
  · rcases hi with hi | rfl <;> rcases hj with hj | rfl
    · rw [hloc i hi, hloc j hj] at e
      exact hx.inj i j hi hj e
    · rw [hloc i hi, if_pos rfl] at e
      exact absurd e (hlt _ (hx.file i hi).fp)
    · rw [hloc j hj, if_pos rfl] at e
      exact absurd e.symm (hlt _ (hx.file j hj).fp)
    · rfl
  · rcases hi with hi | rfl
    · simp only [if_neg (hne i hi)] at e
      rcases hj with hj | rfl
      · simp only [if_neg (hne j hj)]
        exact hx.sep i j hi hj hn b e
      · simp only [if_true]
        intro e2
        cases e2
    · simp only [if_true] at e
      cases e
  · rcases hk with hk | rfl
    · exact hx.lt k hk
    · exact (Array.getElem?_eq_some_iff.1 hh).1
  · rcases hi with hi | rfl
    · have := hx.nx i hi
      show i < σ.nx + 1
      omega
    · exact Nat.lt_succ_self _

set_option maxHeartbeats 2000000 in
set_option maxRecDepth 100000 in
theorem create1_any (nb db p : Nat) (σ : DS) (F A : Nat → Prop) (loc : Nat → Nat) (dv : Nat → Value) (nv sv cv : Value) (sd : List Ent) (ch : List Chg) (s : ByteArray) (w : World) (h : LAt w p σ F A loc dv nv sv cv sd ch) (hdl : σ.dir.length ≤ 1048576) (hcl : ch.length ≤ 1048577) (hs : s.size ≤ 2 ^ 63 - 1)
    (cn : w.cell? ⟨nb, 0, none⟩ = some (.string s)) (cd : w.cell? ⟨db, 0, none⟩ = some (ptr p)) (hn1 : ¬ F nb) (hn2 : ¬ F db) :
    Calls Tryz.prog 52 #[.pointer (some ⟨nb, 0, none⟩), .pointer (some ⟨db, 0, none⟩)] w fun e w' => e = .returned (.int .i64 (σ.wCreate s).1) ∧ Nx RL w p (σ.wCreate s).2 F w' := by
  have km := mayBe_any s w hs
  have HZ : Hid (∀ w1, Below w.heap.size w w1 → Nx RL w p σ F w1) := fun w1 hb => LAt.nxt (h.later hb) h.lt (below_kept hb)
  cases hm : mayN s with
  | false =>
    have hr : σ.wCreate s = (15, σ) := by rw [DS.wCreate, if_pos hm]
    rw [hr]
    rw [hm] at km
    clear hr hm h
    go_enter Tryz.func52, Tryz.ntmps52
    go_wp2_with (go_at_call 53; refine km.mono ?_; rintro e w' ⟨rfl, hb⟩)
    go_ret
    exact ⟨rfl, HZ.out _ hb⟩
  | true =>
    rw [hm] at km
    have hs64 := (may_size hm).2
    cases hf : fnd σ.dir s with
    | some i =>
      have hr : σ.wCreate s = (6, σ) := by rw [DS.wCreate, if_neg (by rw [hm]; decide), hf]; rfl
      rw [hr]
      have HW : Hid (∀ w1, Below w.heap.size w w1 → w1.cell? ⟨nb, 0, none⟩ = some (.string s) ∧ w1.cell? ⟨db, 0, none⟩ = some (.pointer (some ⟨p, 0, none⟩)) ∧ w1.cell? ⟨p, 1, none⟩ = some nv ∧ ∀ n, (Instr.lookup 46 nv (.string s) false).run Tryz.prog (w1.drewN n) = .ok (.pointer (some ⟨loc i, 0, none⟩)) (w1.drewN n)) := fun w1 hb =>
        ⟨cell_later hb cn, cell_later hb cd, cell_of (h.later hb).blk 1, fun n => by have := ((h.later hb).later (below_drewN (Below.refl _ _) n)).dir.look s; rw [hf] at this; exact this⟩
      clear hr hm h
      go_enter Tryz.func52, Tryz.ntmps52
      go_wp2_with (go_at_call 53; refine km.mono ?_; rintro e w1 ⟨rfl, hb⟩; obtain ⟨z1, z2, z3, z4⟩ := HW.out _ hb)
      go_quiet (fail)
      go_wp2_with fail
      go_ret
      exact ⟨rfl, HZ.out _ (below_drewN hb _)⟩
    | none =>
      have hr : σ.wCreate s = (0, { σ.chg (pt σ.dir s σ.nx) with fl := upd σ.fl σ.nx ([], 0), nx := σ.nx + 1 }) := by rw [DS.wCreate, if_neg (by rw [hm]; decide), hf]; rfl
      rw [hr]
      have HW : Hid (∀ w1, Below w.heap.size w w1 → w1.cell? ⟨nb, 0, none⟩ = some (.string s) ∧ w1.cell? ⟨db, 0, none⟩ = some (.pointer (some ⟨p, 0, none⟩)) ∧ w1.cell? ⟨p, 1, none⟩ = some nv ∧ ∀ n, (Instr.lookup 46 nv (.string s) false).run Tryz.prog (w1.drewN n) = .ok (.pointer none) (w1.drewN n)) := fun w1 hb =>
        ⟨cell_later hb cn, cell_later hb cd, cell_of (h.later hb).blk 1, fun n => by have := ((h.later hb).later (below_drewN (Below.refl _ _) n)).dir.look s; rw [hf] at this; exact this⟩
      have HC : Hid (∀ wx, Below w.heap.size w wx → wx.cell? ⟨nb, 0, none⟩ = some (.string s) ∧ wx.cell? ⟨db, 0, none⟩ = some (.pointer (some ⟨p, 0, none⟩))) := fun wx hb => ⟨cell_later hb cn, cell_later hb cd⟩
      have HK : Hid (∀ σ' w4, Nx RL w p σ' F w4 → w4.cell? ⟨nb, 0, none⟩ = some (.string s) ∧ w4.cell? ⟨db, 0, none⟩ = some (.pointer (some ⟨p, 0, none⟩))) := fun σ' w4 hN => ⟨hN.cell cn hn1, hN.cell cd hn2⟩
      have HS : Hid (∀ wx, Calls Tryz.prog 55 #[.string s] wx fun e w' => e = .returned (.string s) ∧ Below wx.heap.size wx w') := fun wx => sclone_any s wx hs64
      have HT : Hid (∀ wx g, Below w.heap.size w wx → w.heap.size ≤ g → wx.heap[g]? = some (.cells #[.slice none 0 0, .int .i64 0] 72 (0, 0)) → Calls Tryz.prog 54 #[.pointer (some ⟨p, 0, none⟩), .agg #[.string ⟨#[]⟩, .string s, .pointer (some ⟨g, 0, none⟩)]] wx fun e w' => e = .returned (.tuple #[]) ∧ Nx RL w p { σ.chg (pt σ.dir s σ.nx) with fl := upd σ.fl σ.nx ([], 0), nx := σ.nx + 1 } F w') := fun wx g hb hg hh => by
        have hx := h.newFile hb hg hh
        have hap : Chg.ap ⟨⟨#[]⟩, s, some σ.nx⟩ σ.dir = pt σ.dir s σ.nx := by
          show pt (drp σ.dir ByteArray.empty) s σ.nx = _
          rw [h.gdDir.drp_empty]
        have hni : σ.nx ∉ σ.dir.map (·.2) := fun hmm => by
          obtain ⟨x, hx', he⟩ := List.mem_map.1 hmm
          have := h.nx _ (h.alDir x hx')
          omega
        have := turn_any p _ _ _ _ _ nv sv cv sd ch ⟨⟨#[]⟩, s, some σ.nx⟩ wx hx hdl hcl ⟨Nat.zero_le _, hs64⟩ (fun i e => by simp only [Option.some.injEq] at e; exact .inr e.symm) (by rw [hap]; exact h.gdDir.pt hm hni) (fun e he => by
          rw [hap] at he
          rcases pt_mem he with rfl | he
          · exact .inr rfl
          · exact .inl (h.alDir e he))
        unfold chv ptr at this
        simp only [pv, ptr, if_true] at this
        refine this.mono fun e w' ⟨he, hN⟩ => ⟨he, ?_⟩
        obtain ⟨F', a, b, c⟩ := hN
        rw [hap] at a
        refine ⟨F', a, (below_kept (F := F) hb).trans b (fun k hk => hk.imp id fun e => by omega), fun k hk => ?_⟩
        have := hb.size
        rcases c k hk with (c | c) | c
        · exact .inl c
        · exact .inr (by omega)
        · exact .inr (by omega)
      clear hr hm h HZ
      go_enter Tryz.func52, Tryz.ntmps52
      go_wp2_with (go_at_call 53; refine km.mono ?_; rintro e w1 ⟨rfl, hb⟩; obtain ⟨z1, z2, z3, z4⟩ := HW.out _ hb)
      go_quiet (fail)
      have hbq : Below w.heap.size w (w1.drewN nq) := below_drewN hb _
      generalize w1.drewN nq = w2 at hbq ⊢
      obtain ⟨z1, z2⟩ := HC.out _ hbq
      have l1 := block_lt_of_cell z1
      have l2 := block_lt_of_cell z2
      go_wp2_with fail
      go_region_held (fun w' => w'.cell? ⟨nb, 0, none⟩ = some (.string s) ∧ w'.cell? ⟨db, 0, none⟩ = some (.pointer (some ⟨p, 0, none⟩))) (first | exact v4 | exact ⟨y1, y2⟩ | exact ⟨z1, z2⟩ | exact ⟨cell_later ((Below.refl _ _).alloc (Nat.le_refl _) _) y1, cell_later ((Below.refl _ _).alloc (Nat.le_refl _) _) y2⟩ | exact ⟨cell_later ((Below.refl _ _).alloc (Nat.le_refl _) _) z1, cell_later ((Below.refl _ _).alloc (Nat.le_refl _) _) z2⟩ | trivial | go_keep) (first | (go_at_call 55; refine (HS.out _).mono ?_; rintro e w3 ⟨rfl, hb3⟩; replace hb3 := below_undrew hb3; have hB3 : Below w2.heap.size w2 w3 := below_two hb3 (by first | exact Below.refl _ _ | exact (Below.refl _ _).alloc (Nat.le_refl _) _); have y1 := cell_later hB3 z1; have y2 := cell_later hB3 z2; have l3 := block_lt_of_cell y2) | (go_at_call 54; refine (HT.out _ _ ?_ ?_ ?_).mono ?_; (solve | exact hbq.trans (hB3.mono hbq.size) | exact (hbq.trans (hB3.mono hbq.size)).alloc (Nat.le_trans hbq.size hB3.size) _); (solve | exact hbq.size | exact Nat.le_trans hbq.size hB3.size); (solve | exact heap_alloc_new w3 _ | exact (hb3.block _ (by simp)).trans (heap_alloc_new w2 _)); rintro e w4 ⟨rfl, hN⟩; have v4 := HK.out _ _ hN))
      all_goals
        go_wp2_with fail
        go_ret
        exact ⟨rfl, hN⟩
end Go.Proofs.YtligofmcmjblpaaGreat

/- The landed disk: Create, Remove, Rename, counted. -/
namespace Go.Proofs.YtligofmcmjblpaaGreat
open Go.RowKit Go.Maps
set_option linter.unusedVariables false
set_option linter.unusedSimpArgs false

/-- A call that is counted, and does what it does. -/
theorem changing_w (N : Nat) (caps : Array Value) (p : Nat) (σ : DS) (F A : Nat → Prop) (loc : Nat → Nat) (dv : Nat → Value) (nv sv cv : Value) (sd : List Ent) (ch : List Chg) (w : World) (h : LAt w p σ F A loc dv nv sv cv sd ch) (hi : Inv σ) (W : Int × DS) (hN : ∀ w, (callFunc N caps).run Tryz.prog w = .ok (.enter N caps) w)
    (HW : ∀ w1, w.grownBy w1 (some p) → LAt w1 p σ.cnt F A loc dv nv sv cv sd ch → Calls Tryz.prog N caps w1 fun e w' => e = .returned (.int .i64 W.1) ∧ Nx RL w1 p W.2 F w') :
    Calls Tryz.prog 51 #[ptr p, .func (.func N) #[] caps] w fun e w' => e = .returned (.int .i64 (if σ.c.ce ≠ 0 then (σ.c.ce, σ.cnt) else (endE W.1 σ.c.cl, W.2)).1) ∧ Nx RL w p (if σ.c.ce ≠ 0 then (σ.c.ce, σ.cnt) else (endE W.1 σ.c.cl, W.2)).2 F w' := by
  refine (changing_any N caps p σ F A loc dv nv sv cv sd ch w h hi (fun r w' => r = W.1 ∧ Nx RL w p W.2 F w') hN fun _ w1 g1 h1 => (HW w1 g1 h1).mono fun e w' ⟨he, hx⟩ => ⟨_, he, rfl, hx.after g1 h.fp⟩).mono fun e w' hk => ?_
  rcases hk with ⟨h1, he, hx⟩ | ⟨h1, r, he, hr, hx⟩
  · rw [if_pos h1]
    exact ⟨he, hx⟩
  · rw [if_neg (by rw [h1]; decide)]
    rw [hr] at he
    exact ⟨he, hx⟩
theorem cnt_le {σ : DS} (hi : Inv σ) {F A : Nat → Prop} {loc : Nat → Nat} {dv : Nat → Value} {nv sv cv : Value} {sd : List Ent} {ch : List Chg} {w : World} {p : Nat} (h : LAt w p σ F A loc dv nv sv cv sd ch) : σ.dir.length ≤ 1048576 ∧ ch.length ≤ 1048577 := by
  have h1 := hi.dl
  have h2 := hi.ok.2.1
  have h3 := hi.wl
  rw [h.was, hist_length] at h3
  omega

set_option maxHeartbeats 1000000 in
set_option maxRecDepth 100000 in
theorem create_any (p : Nat) (σ : DS) (F : Nat → Prop) (s : ByteArray) (w : World) (h : RL w p σ F) (hi : Inv σ) (hs : s.size ≤ 2 ^ 63 - 1) :
    Calls Tryz.prog 17 #[ptr p, .string s] w fun e w' => e = .returned (.int .i64 (σ.create s).1) ∧ Nx RL w p (σ.create s).2 F w' := by
  obtain ⟨A, loc, dv, nv, sv, cv, sd, ch, h⟩ := h
  obtain ⟨q1, q2⟩ := cnt_le hi h
  obtain ⟨wa, hwa⟩ : ∃ wa, wa = (w.alloc (.cells #[ptr p] 23)).alloc (.cells #[.string s] 9) := ⟨_, rfl⟩
  have hb : Below w.heap.size w wa := by rw [hwa]; exact ((Below.refl _ _).alloc (Nat.le_refl _) _).alloc (by simp) _
  have c0 : wa.cell? ⟨w.heap.size, 0, none⟩ = some (ptr p) := by rw [hwa]; exact cell_later ((Below.refl _ _).alloc (Nat.le_refl _) _) (cell_of (heap_alloc_new w _) 0)
  have c1 : wa.cell? ⟨w.heap.size + 1, 0, none⟩ = some (.string s) := by
    rw [hwa]
    have := cell_of (heap_alloc_new (w.alloc (.cells #[ptr p] 23)) (.cells #[.string s] 9)) 0
    rw [show (w.alloc (.cells #[ptr p] 23)).heap.size = w.heap.size + 1 by simp] at this
    exact this
  have hp := h.lt p h.fp
  have k := changing_w 52 #[.pointer (some ⟨w.heap.size + 1, 0, none⟩), .pointer (some ⟨w.heap.size, 0, none⟩)] p σ F A loc dv nv sv cv sd ch wa (h.later hb) hi (σ.cnt.wCreate s) (enters_of Tryz.func52 (by kernel_rfl) rfl _) fun w1 g1 h1 =>
    create1_any _ _ p σ.cnt F A loc dv nv sv cv sd ch s w1 h1 q1 q2 hs (g1.cell c1 (fun e => by simp only [Option.some.injEq] at e; omega)) (g1.cell c0 (fun e => by simp only [Option.some.injEq] at e; omega)) (fun e => by have := h.lt _ e; omega) (fun e => by have := h.lt _ e; omega)
  rw [← create_w] at k
  have HX : Hid (∀ w', Nx RL wa p (σ.create s).2 F w' → Nx RL w p (σ.create s).2 F w') := fun w' hx => hx.start hb
  generalize (σ.create s).1 = r at k ⊢
  clear h hi q1 q2 hb c0 c1
  unfold ptr at *
  go_enter Tryz.func17, Tryz.ntmps17
  go_wp2_with (go_at_call 51; rw [← hwa]; refine k.mono ?_; rintro e w' ⟨rfl, hx⟩)
  go_ret
  exact ⟨rfl, HX.out _ hx⟩
theorem fnd_size {l : List Ent} (h : Gd l) {s : ByteArray} {i : Nat} (hf : fnd l s = some i) : s.size ≤ 64 := by
  obtain ⟨a, ha, hs⟩ := fnd_pair hf
  have h1 := (may_size (h.may _ ha)).2
  rw [ByteArray.toList_eq, ByteArray.toList_eq] at hs
  have h2 : a.data.size = s.data.size := by rw [← Array.length_toList, hs, Array.length_toList]
  have h3 : a.size = s.size := h2
  simp only at h1
  omega

set_option maxHeartbeats 2000000 in
set_option maxRecDepth 100000 in
theorem remove1_any (db nb p : Nat) (σ : DS) (F A : Nat → Prop) (loc : Nat → Nat) (dv : Nat → Value) (nv sv cv : Value) (sd : List Ent) (ch : List Chg) (s : ByteArray) (w : World) (h : LAt w p σ F A loc dv nv sv cv sd ch) (hdl : σ.dir.length ≤ 1048576) (hcl : ch.length ≤ 1048577)
    (cd : w.cell? ⟨db, 0, none⟩ = some (ptr p)) (cn : w.cell? ⟨nb, 0, none⟩ = some (.string s)) (hn2 : ¬ F db) (hn1 : ¬ F nb) :
    Calls Tryz.prog 60 #[.pointer (some ⟨db, 0, none⟩), .pointer (some ⟨nb, 0, none⟩)] w fun e w' => e = .returned (.int .i64 (σ.wRemove s).1) ∧ Nx RL w p (σ.wRemove s).2 F w' := by
  have HZ : Hid (∀ w1, Below w.heap.size w w1 → Nx RL w p σ F w1) := fun w1 hb => LAt.nxt (h.later hb) h.lt (below_kept hb)
  have c1 : w.cell? ⟨p, 1, none⟩ = some nv := cell_of h.blk 1
  have hlk : ∀ n, (Instr.lookup 46 nv (.string s) false).run Tryz.prog (w.drewN n) = .ok (pv loc (fnd σ.dir s)) (w.drewN n) := fun n => (h.later (below_drewN (Below.refl _ _) n)).dir.look s
  cases hf : fnd σ.dir s with
  | none =>
    have hr : σ.wRemove s = (7, σ) := by rw [DS.wRemove, hf]
    rw [hr]
    rw [hf] at hlk
    simp only [pv] at hlk
    clear hr h
    unfold ptr at *
    go_enter Tryz.func60, Tryz.ntmps60
    go_wp2_with fail
    go_quiet (fail)
    go_wp2_with fail
    go_ret
    exact ⟨rfl, HZ.out _ (below_drewN (Below.refl _ _) _)⟩
  | some i =>
    have hr : σ.wRemove s = (0, σ.chg (drp σ.dir s)) := by rw [DS.wRemove, hf]
    rw [hr]
    rw [hf] at hlk
    simp only [pv, ptr] at hlk
    have hs64 := fnd_size h.gdDir hf
    have HK : Hid (∀ σ' w4, Nx RL w p σ' F w4 → w4.cell? ⟨nb, 0, none⟩ = some (.string s) ∧ w4.cell? ⟨db, 0, none⟩ = some (.pointer (some ⟨p, 0, none⟩))) := fun σ' w4 hN => ⟨hN.cell cn hn1, hN.cell cd hn2⟩
    have HS : Hid (∀ wx, Calls Tryz.prog 55 #[.string s] wx fun e w' => e = .returned (.string s) ∧ Below wx.heap.size wx w') := fun wx => sclone_any s wx hs64
    have HT : Hid (∀ wx, Below w.heap.size w wx → Calls Tryz.prog 54 #[.pointer (some ⟨p, 0, none⟩), .agg #[.string s, .string ⟨#[]⟩, .pointer none]] wx fun e w' => e = .returned (.tuple #[]) ∧ Nx RL w p (σ.chg (drp σ.dir s)) F w') := fun wx hb => by
      have := turn_any p σ F A loc dv nv sv cv sd ch ⟨s, ⟨#[]⟩, none⟩ wx (h.later hb) hdl hcl ⟨hs64, Nat.zero_le _⟩ (fun i e => by cases e) (h.gdDir.drp s) (fun e he => h.alDir e (List.mem_filter.1 he).1)
      unfold chv ptr at this
      simp only [pv] at this
      exact this.mono fun e w' ⟨he, hN⟩ => ⟨he, hN.start hb⟩
    clear hr h hf
    unfold ptr at *
    go_enter Tryz.func60, Tryz.ntmps60
    go_wp2_with fail
    go_quiet (fail)
    have hbq : Below w.heap.size w (w.drewN nq) := below_drewN (Below.refl _ _) _
    have z1 := cell_later hbq cn
    have z2 := cell_later hbq cd
    generalize w.drewN nq = w2 at hbq z1 z2 ⊢
    go_wp2_with fail
    go_region_held (fun w' => w'.cell? ⟨nb, 0, none⟩ = some (.string s) ∧ w'.cell? ⟨db, 0, none⟩ = some (.pointer (some ⟨p, 0, none⟩))) (first | exact v4 | exact ⟨y1, y2⟩ | exact ⟨z1, z2⟩) (first | (go_at_call 55; refine (HS.out _).mono ?_; rintro e w3 ⟨rfl, hb3⟩; replace hb3 := below_undrew hb3; have y1 := cell_later hb3 z1; have y2 := cell_later hb3 z2) | (go_at_call 54; refine (HT.out _ (by exact hbq.trans (hb3.mono hbq.size))).mono ?_; rintro e w4 ⟨rfl, hN⟩; have v4 := HK.out _ _ hN))
    all_goals
      go_wp2_with fail
      go_ret
      exact ⟨rfl, hN⟩

set_option maxHeartbeats 1000000 in
set_option maxRecDepth 100000 in
theorem remove_any (p : Nat) (σ : DS) (F : Nat → Prop) (s : ByteArray) (w : World) (h : RL w p σ F) (hi : Inv σ) :
    Calls Tryz.prog 21 #[ptr p, .string s] w fun e w' => e = .returned (.int .i64 (σ.remove s).1) ∧ Nx RL w p (σ.remove s).2 F w' := by
  obtain ⟨A, loc, dv, nv, sv, cv, sd, ch, h⟩ := h
  obtain ⟨q1, q2⟩ := cnt_le hi h
  obtain ⟨wa, hwa⟩ : ∃ wa, wa = (w.alloc (.cells #[ptr p] 23)).alloc (.cells #[.string s] 9) := ⟨_, rfl⟩
  have hb : Below w.heap.size w wa := by rw [hwa]; exact ((Below.refl _ _).alloc (Nat.le_refl _) _).alloc (by simp) _
  have c0 : wa.cell? ⟨w.heap.size, 0, none⟩ = some (ptr p) := by rw [hwa]; exact cell_later ((Below.refl _ _).alloc (Nat.le_refl _) _) (cell_of (heap_alloc_new w _) 0)
  have c1 : wa.cell? ⟨w.heap.size + 1, 0, none⟩ = some (.string s) := by
    rw [hwa]
    have := cell_of (heap_alloc_new (w.alloc (.cells #[ptr p] 23)) (.cells #[.string s] 9)) 0
    rw [show (w.alloc (.cells #[ptr p] 23)).heap.size = w.heap.size + 1 by simp] at this
    exact this
  have hp := h.lt p h.fp
  have k := changing_w 60 #[.pointer (some ⟨w.heap.size, 0, none⟩), .pointer (some ⟨w.heap.size + 1, 0, none⟩)] p σ F A loc dv nv sv cv sd ch wa (h.later hb) hi (σ.cnt.wRemove s) (enters_of Tryz.func60 (by kernel_rfl) rfl _) fun w1 g1 h1 =>
    remove1_any _ _ p σ.cnt F A loc dv nv sv cv sd ch s w1 h1 q1 q2 (g1.cell c0 (fun e => by simp only [Option.some.injEq] at e; omega)) (g1.cell c1 (fun e => by simp only [Option.some.injEq] at e; omega)) (fun e => by have := h.lt _ e; omega) (fun e => by have := h.lt _ e; omega)
  rw [← remove_w] at k
  have HX : Hid (∀ w', Nx RL wa p (σ.remove s).2 F w' → Nx RL w p (σ.remove s).2 F w') := fun w' hx => hx.start hb
  generalize (σ.remove s).1 = r at k ⊢
  clear h hi q1 q2 hb c0 c1
  unfold ptr at *
  go_enter Tryz.func21, Tryz.ntmps21
  go_wp2_with (go_at_call 51; rw [← hwa]; refine k.mono ?_; rintro e w' ⟨rfl, hx⟩)
  go_ret
  exact ⟨rfl, HX.out _ hx⟩

set_option maxHeartbeats 2000000 in
set_option maxRecDepth 100000 in
theorem rename1_any (db ob nb p : Nat) (σ : DS) (F A : Nat → Prop) (loc : Nat → Nat) (dv : Nat → Value) (nv sv cv : Value) (sd : List Ent) (ch : List Chg) (s t : ByteArray) (w : World) (h : LAt w p σ F A loc dv nv sv cv sd ch) (hdl : σ.dir.length ≤ 1048576) (hcl : ch.length ≤ 1048577) (ht : t.size ≤ 2 ^ 63 - 1)
    (cd : w.cell? ⟨db, 0, none⟩ = some (ptr p)) (co : w.cell? ⟨ob, 0, none⟩ = some (.string s)) (cn : w.cell? ⟨nb, 0, none⟩ = some (.string t)) (hn1 : ¬ F db) (hn2 : ¬ F ob) (hn3 : ¬ F nb) :
    Calls Tryz.prog 59 #[.pointer (some ⟨db, 0, none⟩), .pointer (some ⟨ob, 0, none⟩), .pointer (some ⟨nb, 0, none⟩)] w fun e w' => e = .returned (.int .i64 (σ.wRename s t).1) ∧ Nx RL w p (σ.wRename s t).2 F w' := by
  have HZ : Hid (∀ w1, Below w.heap.size w w1 → Nx RL w p σ F w1) := fun w1 hb => LAt.nxt (h.later hb) h.lt (below_kept hb)
  have c1 : w.cell? ⟨p, 1, none⟩ = some nv := cell_of h.blk 1
  have hlk : ∀ n, (Instr.lookup 46 nv (.string s) false).run Tryz.prog (w.drewN n) = .ok (pv loc (fnd σ.dir s)) (w.drewN n) := fun n => (h.later (below_drewN (Below.refl _ _) n)).dir.look s
  have HC : Hid (∀ wx, Below w.heap.size w wx → wx.cell? ⟨db, 0, none⟩ = some (.pointer (some ⟨p, 0, none⟩)) ∧ wx.cell? ⟨ob, 0, none⟩ = some (.string s) ∧ wx.cell? ⟨nb, 0, none⟩ = some (.string t)) := fun wx hb => ⟨cell_later hb cd, cell_later hb co, cell_later hb cn⟩
  have km := fun wx => mayBe_any t wx ht
  cases hf : fnd σ.dir s with
  | none =>
    have hr : σ.wRename s t = (7, σ) := by rw [DS.wRename, hf]
    rw [hr]
    rw [hf] at hlk
    simp only [pv] at hlk
    clear hr h
    unfold ptr at *
    go_enter Tryz.func59, Tryz.ntmps59
    go_wp2_with fail
    go_quiet (fail)
    go_wp2_with fail
    go_ret
    exact ⟨rfl, HZ.out _ (below_drewN (Below.refl _ _) _)⟩
  | some i =>
    rw [hf] at hlk
    simp only [pv, ptr] at hlk
    have hs64 := fnd_size h.gdDir hf
    cases hm : mayN t with
    | false =>
      have hr : σ.wRename s t = (15, σ) := by rw [DS.wRename, hf]; simp only [hm, if_true]
      rw [hr]
      simp only [hm] at km
      clear hr h
      unfold ptr at *
      go_enter Tryz.func59, Tryz.ntmps59
      go_wp2_with fail
      go_quiet (fail)
      have hbq : Below w.heap.size w (w.drewN nq) := below_drewN (Below.refl _ _) _
      generalize w.drewN nq = w2 at hbq ⊢
      obtain ⟨z1, z2, z3⟩ := HC.out _ hbq
      go_wp2_with (go_at_call 53; refine (km _).mono ?_; rintro e w3 ⟨rfl, hb3⟩)
      go_ret
      exact ⟨rfl, HZ.out _ (hbq.trans (hb3.mono hbq.size))⟩
    | true =>
      simp only [hm] at km
      have ht64 := (may_size hm).2
      cases hq : (s.toList == t.toList) with
      | true =>
        have hr : σ.wRename s t = (0, σ) := by rw [DS.wRename, hf]; simp only [hm, hq, Bool.true_eq_false, if_false, if_true]
        rw [hr]
        clear hr h
        unfold ptr at *
        go_enter Tryz.func59, Tryz.ntmps59
        go_wp2_with fail
        go_quiet (fail)
        have hbq : Below w.heap.size w (w.drewN nq) := below_drewN (Below.refl _ _) _
        generalize w.drewN nq = w2 at hbq ⊢
        obtain ⟨z1, z2, z3⟩ := HC.out _ hbq
        go_wp2_with (go_at_call 53; refine (km _).mono ?_; rintro e w3 ⟨rfl, hb3⟩; obtain ⟨y1, y2, y3⟩ := HC.out _ (hbq.trans (hb3.mono hbq.size)))
        go_ret
        exact ⟨rfl, HZ.out _ (hbq.trans (hb3.mono hbq.size))⟩
      | false =>
        have hr : σ.wRename s t = (0, σ.chg (pt (drp σ.dir s) t i)) := by rw [DS.wRename, hf]; simp only [hm, hq, Bool.true_eq_false, Bool.false_eq_true, if_false]
        rw [hr]
        have HK : Hid (∀ σ' w4, Nx RL w p σ' F w4 → w4.cell? ⟨db, 0, none⟩ = some (.pointer (some ⟨p, 0, none⟩)) ∧ w4.cell? ⟨ob, 0, none⟩ = some (.string s) ∧ w4.cell? ⟨nb, 0, none⟩ = some (.string t)) := fun σ' w4 hN => ⟨hN.cell cd hn1, hN.cell co hn2, hN.cell cn hn3⟩
        have HS : Hid (∀ wx, Calls Tryz.prog 55 #[.string s] wx fun e w' => e = .returned (.string s) ∧ Below wx.heap.size wx w') := fun wx => sclone_any s wx hs64
        have HS2 : Hid (∀ wx, Calls Tryz.prog 55 #[.string t] wx fun e w' => e = .returned (.string t) ∧ Below wx.heap.size wx w') := fun wx => sclone_any t wx ht64
        have HT : Hid (∀ wx, Below w.heap.size w wx → Calls Tryz.prog 54 #[.pointer (some ⟨p, 0, none⟩), .agg #[.string s, .string t, .pointer (some ⟨loc i, 0, none⟩)]] wx fun e w' => e = .returned (.tuple #[]) ∧ Nx RL w p (σ.chg (pt (drp σ.dir s) t i)) F w') := fun wx hb => by
          have := turn_any p σ F A loc dv nv sv cv sd ch ⟨s, t, some i⟩ wx (h.later hb) hdl hcl ⟨hs64, ht64⟩ (fun j e => by simp only [Option.some.injEq] at e; exact e ▸ h.alFnd hf) ((h.gdDir.drp s).pt hm (drp_id h.gdDir hf)) (fun e he => by
            rcases pt_mem he with rfl | he
            · exact h.alFnd hf
            · exact h.alDir e (List.mem_filter.1 he).1)
          unfold chv ptr at this
          simp only [pv, ptr] at this
          exact this.mono fun e w' ⟨he, hN⟩ => ⟨he, hN.start hb⟩
        clear hr h hf
        unfold ptr at *
        go_enter Tryz.func59, Tryz.ntmps59
        go_wp2_with fail
        go_quiet (fail)
        have hbq : Below w.heap.size w (w.drewN nq) := below_drewN (Below.refl _ _) _
        generalize w.drewN nq = w2 at hbq ⊢
        obtain ⟨z1, z2, z3⟩ := HC.out _ hbq
        go_wp2_with (go_at_call 53; refine (km _).mono ?_; rintro e w3 ⟨rfl, hb3⟩; have hB3 : Below w.heap.size w w3 := hbq.trans (hb3.mono hbq.size); obtain ⟨y1, y2, y3⟩ := HC.out _ hB3)
        go_region_held (fun w' => w'.cell? ⟨db, 0, none⟩ = some (.pointer (some ⟨p, 0, none⟩)) ∧ w'.cell? ⟨ob, 0, none⟩ = some (.string s) ∧ w'.cell? ⟨nb, 0, none⟩ = some (.string t)) (first | exact v6 | exact v5 | exact v4 | exact ⟨y1, y2, y3⟩) (first | (go_at_call_of 55 (Value.string s); refine (HS.out _).mono ?_; rintro e w4 ⟨rfl, hb4⟩; have B4 : Below w.heap.size w w4 := below_two hb4 (by first | exact hB3.drew | exact B5); have v4 := HC.out _ B4) | (go_at_call_of 55 (Value.string t); refine (HS2.out _).mono ?_; rintro e w5 ⟨rfl, hb5⟩; have B5 : Below w.heap.size w w5 := below_two hb5 (by first | exact hB3.drew | exact B4); have v5 := HC.out _ B5) | (go_at_call 54; refine (HT.out _ (by first | exact B4 | exact B5)).mono ?_; rintro e w6 ⟨rfl, hN⟩; have v6 := HK.out _ _ hN))
        all_goals
          go_wp2_with fail
          go_ret
          exact ⟨rfl, hN⟩
end Go.Proofs.YtligofmcmjblpaaGreat

/- The landed disk: Rename counted; Sync and SyncDir. -/
namespace Go.Proofs.YtligofmcmjblpaaGreat
open Go.RowKit Go.Maps
set_option linter.unusedVariables false
set_option linter.unusedSimpArgs false

set_option maxHeartbeats 1000000 in
set_option maxRecDepth 100000 in
theorem rename_any (p : Nat) (σ : DS) (F : Nat → Prop) (s t : ByteArray) (w : World) (h : RL w p σ F) (hi : Inv σ) (ht : t.size ≤ 2 ^ 63 - 1) :
    Calls Tryz.prog 20 #[ptr p, .string s, .string t] w fun e w' => e = .returned (.int .i64 (σ.rename s t).1) ∧ Nx RL w p (σ.rename s t).2 F w' := by
  obtain ⟨A, loc, dv, nv, sv, cv, sd, ch, h⟩ := h
  obtain ⟨q1, q2⟩ := cnt_le hi h
  obtain ⟨wa, hwa⟩ : ∃ wa, wa = ((w.alloc (.cells #[ptr p] 23)).alloc (.cells #[.string s] 9)).alloc (.cells #[.string t] 9) := ⟨_, rfl⟩
  have b1 : Below w.heap.size w (w.alloc (.cells #[ptr p] 23)) := (Below.refl _ _).alloc (Nat.le_refl _) _
  have hb : Below w.heap.size w wa := by rw [hwa]; exact (b1.alloc (by simp) _).alloc (by simp; omega) _
  have c0 : wa.cell? ⟨w.heap.size, 0, none⟩ = some (ptr p) := by rw [hwa]; exact cell_later ((Below.refl _ _).alloc (Nat.le_refl _) _) (cell_later ((Below.refl _ _).alloc (Nat.le_refl _) _) (cell_of (heap_alloc_new w _) 0))
  have c1 : wa.cell? ⟨w.heap.size + 1, 0, none⟩ = some (.string s) := by
    rw [hwa]
    have := cell_of (heap_alloc_new (w.alloc (.cells #[ptr p] 23)) (.cells #[.string s] 9)) 0
    rw [show (w.alloc (.cells #[ptr p] 23)).heap.size = w.heap.size + 1 by simp] at this
    exact cell_later ((Below.refl _ _).alloc (Nat.le_refl _) _) this
  have c2 : wa.cell? ⟨w.heap.size + 2, 0, none⟩ = some (.string t) := by
    rw [hwa]
    have := cell_of (heap_alloc_new ((w.alloc (.cells #[ptr p] 23)).alloc (.cells #[.string s] 9)) (.cells #[.string t] 9)) 0
    rw [show ((w.alloc (.cells #[ptr p] 23)).alloc (.cells #[.string s] 9)).heap.size = w.heap.size + 2 by simp] at this
    exact this
  have hp := h.lt p h.fp
  have k := changing_w 59 #[.pointer (some ⟨w.heap.size, 0, none⟩), .pointer (some ⟨w.heap.size + 1, 0, none⟩), .pointer (some ⟨w.heap.size + 2, 0, none⟩)] p σ F A loc dv nv sv cv sd ch wa (h.later hb) hi (σ.cnt.wRename s t) (enters_of Tryz.func59 (by kernel_rfl) rfl _) fun w1 g1 h1 =>
    rename1_any _ _ _ p σ.cnt F A loc dv nv sv cv sd ch s t w1 h1 q1 q2 ht (g1.cell c0 (fun e => by simp only [Option.some.injEq] at e; omega)) (g1.cell c1 (fun e => by simp only [Option.some.injEq] at e; omega)) (g1.cell c2 (fun e => by simp only [Option.some.injEq] at e; omega)) (fun e => by have := h.lt _ e; omega) (fun e => by have := h.lt _ e; omega) (fun e => by have := h.lt _ e; omega)
  rw [← rename_w] at k
  have HX : Hid (∀ w', Nx RL wa p (σ.rename s t).2 F w' → Nx RL w p (σ.rename s t).2 F w') := fun w' hx => hx.start hb
  generalize (σ.rename s t).1 = r at k ⊢
  clear h hi q1 q2 hb c0 c1 c2 b1
  unfold ptr at *
  go_enter Tryz.func20, Tryz.ntmps20
  go_wp2_with (go_at_call 51; rw [← hwa]; refine k.mono ?_; rintro e w' ⟨rfl, hx⟩)
  go_ret
  exact ⟨rfl, HX.out _ hx⟩

theorem kept_cell {w w' : World} {F : Nat → Prop} (hk : Kept F w w') {g k : Nat} {v : Value} (hc : w.cell? ⟨g, k, none⟩ = some v) (hn : ¬ F g) : w'.cell? ⟨g, k, none⟩ = some v := (World.cell?_of_block (w := w) (hk.block g (block_lt_of_cell hc) hn)).trans hc
/-- What is made sure, once counted; nothing, if the power has just gone. -/
def DS.wSure (σ : DS) (W : Int × DS) : Int × DS := if σ.c.off = true then (10, σ) else W
def DS.wSync (σ : DS) (s : ByteArray) : Int × DS := match fnd σ.dir s with | none => (7, σ) | some i => (0, { σ with fl := upd σ.fl i ((σ.fl i).1, (σ.fl i).1.length) })
def DS.wSyncDir (σ : DS) : Int × DS := (0, { σ with was := [σ.dir] })
theorem ce0_off {c : Cn} (h : c.ce = 0) : c.cc.off = c.cl := by
  obtain ⟨calls, fuse, wait, fails, off⟩ := c
  cases off with
  | true => simp [Cn.ce] at h
  | false =>
    simp only [Cn.cc, Cn.cl, Bool.false_eq_true, if_false, Bool.not_false, Bool.true_and]
    by_cases hq : fuse = 1
    · simp only [hq, decide_true, Bool.true_and]
      cases hl : Cn.fl ⟨calls, fuse, wait, fails, false⟩ with
      | true =>
        rw [Cn.ce, hl] at h
        simp [hq] at h
      | false =>
        rw [hq] at hl
        rw [hl]
        rfl
    · simp [hq]
theorem sure_w (σ : DS) (W : Int × DS) : (if σ.c.ce ≠ 0 ∨ σ.c.cl = true then (endE σ.c.ce σ.c.cl, σ.cnt) else W) = (if σ.c.ce ≠ 0 then (σ.c.ce, σ.cnt) else (endE (σ.cnt.wSure W).1 σ.c.cl, (σ.cnt.wSure W).2)) := by
  by_cases h : σ.c.ce = 0
  · rw [if_neg (by rw [h]; decide : ¬ σ.c.ce ≠ 0)]
    have ho : σ.cnt.c.off = σ.c.cl := ce0_off h
    unfold DS.wSure
    rw [ho]
    cases hl : σ.c.cl with
    | true =>
      rw [if_pos (.inr rfl)]
      simp only [if_true]
      rfl
    | false =>
      rw [if_neg (by rw [h]; simp)]
      simp only [Bool.false_eq_true, if_false]
      rfl
  · rw [if_pos (.inl h), if_pos h]
    have : σ.c.cl = false := by
      cases hl : σ.c.cl with
      | false => rfl
      | true =>
        exfalso
        apply h
        unfold Cn.cl at hl
        simp only [Bool.and_eq_true, Bool.not_eq_true', decide_eq_true_eq] at hl
        obtain ⟨⟨h1, h2⟩, h3⟩ := hl
        unfold Cn.ce
        rw [h1, h3]
        simp [h2]
    rw [this]
    rfl
theorem sync_w (σ : DS) (s : ByteArray) : σ.sync s = if σ.c.ce ≠ 0 then (σ.c.ce, σ.cnt) else (endE (σ.cnt.wSure (σ.cnt.wSync s)).1 σ.c.cl, (σ.cnt.wSure (σ.cnt.wSync s)).2) := by
  rw [← sure_w]
  unfold DS.sync DS.wSync
  have e : fnd σ.cnt.dir s = fnd σ.dir s := rfl
  rw [e]
  cases fnd σ.dir s <;> rfl
theorem syncDir_w (σ : DS) : σ.syncDir = if σ.c.ce ≠ 0 then (σ.c.ce, σ.cnt) else (endE (σ.cnt.wSure σ.cnt.wSyncDir).1 σ.c.cl, (σ.cnt.wSure σ.cnt.wSyncDir).2) := by
  rw [← sure_w]
  rfl

set_option maxHeartbeats 1000000 in
set_option maxRecDepth 100000 in
theorem makingSure1_any (N : Nat) (caps : Array Value) (db fb p : Nat) (σ : DS) (F A : Nat → Prop) (loc : Nat → Nat) (dv : Nat → Value) (nv sv cv : Value) (sd : List Ent) (ch : List Chg) (w : World) (h : LAt w p σ F A loc dv nv sv cv sd ch) (W : Int × DS) (hN : ∀ w, (callFunc N caps).run Tryz.prog w = .ok (.enter N caps) w)
    (cd : w.cell? ⟨db, 0, none⟩ = some (ptr p)) (cf : w.cell? ⟨fb, 0, none⟩ = some (.func (.func N) #[] caps))
    (HW : Calls Tryz.prog N caps w fun e w' => e = .returned (.int .i64 W.1) ∧ Nx RL w p W.2 F w') :
    Calls Tryz.prog 81 #[.pointer (some ⟨db, 0, none⟩), .pointer (some ⟨fb, 0, none⟩)] w fun e w' => e = .returned (.int .i64 (σ.wSure W).1) ∧ Nx RL w p (σ.wSure W).2 F w' := by
  have c5 : w.cell? ⟨p, 5, none⟩ = some (.bool σ.c.off) := cell_of h.blk 5
  have HZ : Hid (Nx RL w p σ F w) := LAt.nxt h h.lt (Kept.refl _ _)
  unfold DS.wSure
  unfold ptr at *
  clear h
  have HW' : Hid (Calls Tryz.prog N caps w fun e w' => e = .returned (.int .i64 W.1) ∧ Nx RL w p W.2 F w') := HW
  clear HW
  cases ho : σ.c.off with
  | true =>
    rw [ho] at c5
    simp only [if_true]
    go_enter Tryz.func81, Tryz.ntmps81
    go_wp2_with fail
    go_ret
    exact ⟨rfl, HZ.out⟩
  | false =>
    rw [ho] at c5
    simp only [Bool.false_eq_true, if_false]
    go_enter Tryz.func81, Tryz.ntmps81
    go_wp2_with fail
    refine (HW'.out).mono ?_
    rintro e w' ⟨rfl, hx⟩
    go_wp2_with fail
    go_ret
    exact ⟨rfl, hx⟩

set_option maxHeartbeats 1000000 in
set_option maxRecDepth 100000 in
theorem makingSure_any (N : Nat) (caps : Array Value) (p : Nat) (σ : DS) (F A : Nat → Prop) (loc : Nat → Nat) (dv : Nat → Value) (nv sv cv : Value) (sd : List Ent) (ch : List Chg) (w : World) (h : LAt w p σ F A loc dv nv sv cv sd ch) (hi : Inv σ) (W : Int × DS) (hN : ∀ w, (callFunc N caps).run Tryz.prog w = .ok (.enter N caps) w)
    (HW : ∀ w1, Kept F w w1 → LAt w1 p σ.cnt F A loc dv nv sv cv sd ch → Calls Tryz.prog N caps w1 fun e w' => e = .returned (.int .i64 W.1) ∧ Nx RL w1 p W.2 F w') :
    Calls Tryz.prog 57 #[ptr p, .func (.func N) #[] caps] w fun e w' => e = .returned (.int .i64 (if σ.c.ce ≠ 0 then (σ.c.ce, σ.cnt) else (endE (σ.cnt.wSure W).1 σ.c.cl, (σ.cnt.wSure W).2)).1) ∧ Nx RL w p (if σ.c.ce ≠ 0 then (σ.c.ce, σ.cnt) else (endE (σ.cnt.wSure W).1 σ.c.cl, (σ.cnt.wSure W).2)).2 F w' := by
  obtain ⟨wa, hwa⟩ : ∃ wa, wa = (w.alloc (.cells #[ptr p] 23)).alloc (.cells #[.func (.func N) #[] caps] 59) := ⟨_, rfl⟩
  have hb : Below w.heap.size w wa := by rw [hwa]; exact ((Below.refl _ _).alloc (Nat.le_refl _) _).alloc (by simp) _
  have c0 : wa.cell? ⟨w.heap.size, 0, none⟩ = some (ptr p) := by rw [hwa]; exact cell_later ((Below.refl _ _).alloc (Nat.le_refl _) _) (cell_of (heap_alloc_new w _) 0)
  have c1 : wa.cell? ⟨w.heap.size + 1, 0, none⟩ = some (.func (.func N) #[] caps) := by
    rw [hwa]
    have := cell_of (heap_alloc_new (w.alloc (.cells #[ptr p] 23)) (.cells #[.func (.func N) #[] caps] 59)) 0
    rw [show (w.alloc (.cells #[ptr p] 23)).heap.size = w.heap.size + 1 by simp] at this
    exact this
  have hp := h.lt p h.fp
  have k := changing_w 81 #[.pointer (some ⟨w.heap.size, 0, none⟩), .pointer (some ⟨w.heap.size + 1, 0, none⟩)] p σ F A loc dv nv sv cv sd ch wa (h.later hb) hi (σ.cnt.wSure W) (enters_of Tryz.func81 (by kernel_rfl) rfl _) fun w1 g1 h1 =>
    makingSure1_any N caps _ _ p σ.cnt F A loc dv nv sv cv sd ch w1 h1 W hN (g1.cell c0 (fun e => by simp only [Option.some.injEq] at e; omega)) (g1.cell c1 (fun e => by simp only [Option.some.injEq] at e; omega)) (HW w1 ((below_kept (F := F) hb).trans (kept_p g1 h.fp) fun _ x => .inl x) h1)
  have HX : Hid (∀ σ' w', Nx RL wa p σ' F w' → Nx RL w p σ' F w') := fun σ' w' hx => hx.start hb
  generalize (if σ.c.ce ≠ 0 then (σ.c.ce, σ.cnt) else (endE (σ.cnt.wSure W).1 σ.c.cl, (σ.cnt.wSure W).2)) = R at k ⊢
  clear h hi hb c0 c1 HW hN
  unfold ptr at *
  go_enter Tryz.func57, Tryz.ntmps57
  go_wp2_with (go_at_call 51; rw [← hwa]; refine k.mono ?_; rintro e w' ⟨rfl, hx⟩)
  go_ret
  exact ⟨rfl, HX.out _ _ hx⟩

set_option maxHeartbeats 1000000 in
set_option maxRecDepth 100000 in
theorem sync1_any (db nb p : Nat) (σ : DS) (F A : Nat → Prop) (loc : Nat → Nat) (dv : Nat → Value) (nv sv cv : Value) (sd : List Ent) (ch : List Chg) (s : ByteArray) (w : World) (h : LAt w p σ F A loc dv nv sv cv sd ch) (hfl : ∀ i, (σ.fl i).1.length ≤ 4194304 ∧ Okb (σ.fl i).1)
    (cd : w.cell? ⟨db, 0, none⟩ = some (ptr p)) (cn : w.cell? ⟨nb, 0, none⟩ = some (.string s)) :
    Calls Tryz.prog 58 #[.pointer (some ⟨db, 0, none⟩), .pointer (some ⟨nb, 0, none⟩)] w fun e w' => e = .returned (.int .i64 (σ.wSync s).1) ∧ Nx RL w p (σ.wSync s).2 F w' := by
  have HZ : Hid (∀ w1, Below w.heap.size w w1 → Nx RL w p σ F w1) := fun w1 hb => LAt.nxt (h.later hb) h.lt (below_kept hb)
  have c1 : w.cell? ⟨p, 1, none⟩ = some nv := cell_of h.blk 1
  have hlk : ∀ n, (Instr.lookup 46 nv (.string s) false).run Tryz.prog (w.drewN n) = .ok (pv loc (fnd σ.dir s)) (w.drewN n) := fun n => (h.later (below_drewN (Below.refl _ _) n)).dir.look s
  cases hf : fnd σ.dir s with
  | none =>
    have hr : σ.wSync s = (7, σ) := by rw [DS.wSync, hf]
    rw [hr]
    rw [hf] at hlk
    simp only [pv] at hlk
    clear hr h
    unfold ptr at *
    go_enter Tryz.func58, Tryz.ntmps58
    go_wp2_with fail
    go_quiet (fail)
    go_wp2_with fail
    go_ret
    exact ⟨rfl, HZ.out _ (below_drewN (Below.refl _ _) _)⟩
  | some i =>
    have hr : σ.wSync s = (0, { σ with fl := upd σ.fl i ((σ.fl i).1, (σ.fl i).1.length) }) := by rw [DS.wSync, hf]
    rw [hr]
    rw [hf] at hlk
    simp only [pv, ptr] at hlk
    have hA := h.alFnd hf
    obtain ⟨q1, q3⟩ := hfl i
    have HN : Hid (∀ wx, Below w.heap.size w wx → Nx RL w p { σ with fl := upd σ.fl i ((σ.fl i).1, (σ.fl i).1.length) } F (wx.setCell ⟨loc i, 1, none⟩ (.int .i64 ((σ.fl i).1.length : Int)))) := fun wx hb => by
      have hx := h.later hb
      have hfm := hx.file i hA
      have hg : wx.grownBy (wx.setCell ⟨loc i, 1, none⟩ (.int .i64 ((σ.fl i).1.length : Int))) (some (loc i)) := grown_set _ _ _ _
      have h2 := hx.setFile hA (w' := wx.setCell ⟨loc i, 1, none⟩ (.int .i64 ((σ.fl i).1.length : Int))) (fun k hk => hk) (fun k hk => Nat.lt_of_lt_of_le (hx.lt k hk) hg.size) (fun k hF hn1 hn2 => hg.block k (hx.lt k hF) fun e => hn1 (Option.some.inj e)) (dv' := dv i) (f' := ((σ.fl i).1, (σ.fl i).1.length)) ⟨hfm.fp, heap_set hfm.blk 1 _, owns_same hfm.row fun b e => hg.block b (hx.row5 hA e).lt fun e2 => TyOf.ne (hx.row5 hA e) hfm.ty (by decide) (Option.some.inj e2), hfm.own⟩ (.inl rfl)
      exact Nx.start hb (LAt.nxt h2 hx.lt (Kept.grown hg fun k e => .inl (by simp only [Option.some.injEq] at e; exact e ▸ hfm.fp)))
    have HF : Hid (∀ wx, Below w.heap.size w wx → ∃ ao cap, wx.cell? ⟨loc i, 0, none⟩ = some (.slice ao (σ.fl i).1.length cap) ∧ wx.cell? ⟨loc i, 1, none⟩ = some (.int .i64 ((σ.fl i).2 : Int)) ∧ wx.frozen? ⟨loc i, 1, none⟩ = false) := fun wx hb => by
      have hfm := (h.later hb).file i hA
      obtain ⟨ao, cap, e0, _⟩ := hfm.byt q3
      exact ⟨ao, cap, by rw [← e0]; exact hfm.cell0, hfm.cell1, frozen_of hfm.blk 1⟩
    generalize (σ.fl i).1.length = n at *
    clear hr h hf hfl
    unfold ptr at *
    go_enter Tryz.func58, Tryz.ntmps58
    go_wp2_with fail
    go_quiet (fail)
    have hbq : Below w.heap.size w (w.drewN nq) := below_drewN (Below.refl _ _) _
    generalize w.drewN nq = w2 at hbq ⊢
    obtain ⟨ao, cap, z1, z2, z3⟩ := HF.out _ hbq
    go_wp2_with fail
    go_ret
    exact ⟨rfl, HN.out _ hbq⟩

set_option maxHeartbeats 1000000 in
set_option maxRecDepth 100000 in
theorem sync_any (p : Nat) (σ : DS) (F : Nat → Prop) (s : ByteArray) (w : World) (h : RL w p σ F) (hi : Inv σ) :
    Calls Tryz.prog 19 #[ptr p, .string s] w fun e w' => e = .returned (.int .i64 (σ.sync s).1) ∧ Nx RL w p (σ.sync s).2 F w' := by
  obtain ⟨A, loc, dv, nv, sv, cv, sd, ch, h⟩ := h
  obtain ⟨wa, hwa⟩ : ∃ wa, wa = (w.alloc (.cells #[ptr p] 23)).alloc (.cells #[.string s] 9) := ⟨_, rfl⟩
  have hb : Below w.heap.size w wa := by rw [hwa]; exact ((Below.refl _ _).alloc (Nat.le_refl _) _).alloc (by simp) _
  have c0 : wa.cell? ⟨w.heap.size, 0, none⟩ = some (ptr p) := by rw [hwa]; exact cell_later ((Below.refl _ _).alloc (Nat.le_refl _) _) (cell_of (heap_alloc_new w _) 0)
  have c1 : wa.cell? ⟨w.heap.size + 1, 0, none⟩ = some (.string s) := by
    rw [hwa]
    have := cell_of (heap_alloc_new (w.alloc (.cells #[ptr p] 23)) (.cells #[.string s] 9)) 0
    rw [show (w.alloc (.cells #[ptr p] 23)).heap.size = w.heap.size + 1 by simp] at this
    exact this
  have hF : ∀ k, F k → k < w.heap.size := h.lt
  have k := makingSure_any 58 #[.pointer (some ⟨w.heap.size, 0, none⟩), .pointer (some ⟨w.heap.size + 1, 0, none⟩)] p σ F A loc dv nv sv cv sd ch wa (h.later hb) hi (σ.cnt.wSync s) (enters_of Tryz.func58 (by kernel_rfl) rfl _) fun w1 g1 h1 =>
    sync1_any _ _ p σ.cnt F A loc dv nv sv cv sd ch s w1 h1 (fun i => ⟨(hi.fl i).1, (hi.fl i).2.2⟩) (kept_cell g1 c0 fun e => by have := hF _ e; omega) (kept_cell g1 c1 fun e => by have := hF _ e; omega)
  rw [← sync_w] at k
  have HX : Hid (∀ w', Nx RL wa p (σ.sync s).2 F w' → Nx RL w p (σ.sync s).2 F w') := fun w' hx => hx.start hb
  generalize (σ.sync s).1 = r at k ⊢
  clear h hi hb c0 c1 hF
  unfold ptr at *
  go_enter Tryz.func19, Tryz.ntmps19
  go_wp2_with (go_at_call 57; rw [← hwa]; refine k.mono ?_; rintro e w' ⟨rfl, hx⟩)
  go_ret
  exact ⟨rfl, HX.out _ hx⟩

end Go.Proofs.YtligofmcmjblpaaGreat
