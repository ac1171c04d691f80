/- The landed disk: Create, Remove, Rename. -/
import Derived.Test.YtligofmcmjblpaaGreatLturn
import Derived.Deep.RegionHeld
namespace Go.Proofs.YtligofmcmjblpaaGreat
open Go.RowKit Go.Maps
set_option linter.unusedVariables false
set_option linter.unusedSimpArgs false

/-- What the calls do, once they are counted. -/
def DS.wCreate (σ : DS) (s : ByteArray) : Int × DS :=
  if mayN s = false then (15, σ) else if (fnd σ.dir s).isSome then (6, σ) else (0, { σ.chg (pt σ.dir s σ.nx) with fl := upd σ.fl σ.nx ([], 0), nx := σ.nx + 1 })
def DS.wRemove (σ : DS) (s : ByteArray) : Int × DS := match fnd σ.dir s with | none => (7, σ) | some _ => (0, σ.chg (drp σ.dir s))
def DS.wRename (σ : DS) (s t : ByteArray) : Int × DS :=
  match fnd σ.dir s with
  | none => (7, σ)
  | some i => if mayN t = false then (15, σ) else if (s.toList == t.toList) = true then (0, σ) else (0, σ.chg (pt (drp σ.dir s) t i))
theorem create_w (σ : DS) (s : ByteArray) : σ.create s = if σ.c.ce ≠ 0 then (σ.c.ce, σ.cnt) else (endE (σ.cnt.wCreate s).1 σ.c.cl, (σ.cnt.wCreate s).2) := by
  unfold DS.create DS.wCreate
  show _ = if σ.c.ce ≠ 0 then _ else (endE (if mayN s = false then (15, σ.cnt) else if (fnd σ.dir s).isSome then (6, σ.cnt) else (0, { σ.cnt.chg (pt σ.dir s σ.nx) with fl := upd σ.fl σ.nx ([], 0), nx := σ.nx + 1 })).1 σ.c.cl, (if mayN s = false then (15, σ.cnt) else if (fnd σ.dir s).isSome then (6, σ.cnt) else (0, { σ.cnt.chg (pt σ.dir s σ.nx) with fl := upd σ.fl σ.nx ([], 0), nx := σ.nx + 1 })).2)
  split
  · rfl
  · split
    · rfl
    · split <;> rfl
theorem remove_w (σ : DS) (s : ByteArray) : σ.remove s = if σ.c.ce ≠ 0 then (σ.c.ce, σ.cnt) else (endE (σ.cnt.wRemove s).1 σ.c.cl, (σ.cnt.wRemove s).2) := by
  unfold DS.remove DS.wRemove
  have e : fnd σ.cnt.dir s = fnd σ.dir s := rfl
  rw [e]
  split
  · rfl
  · cases fnd σ.dir s <;> rfl
theorem rename_w (σ : DS) (s t : ByteArray) : σ.rename s t = if σ.c.ce ≠ 0 then (σ.c.ce, σ.cnt) else (endE (σ.cnt.wRename s t).1 σ.c.cl, (σ.cnt.wRename s t).2) := by
  unfold DS.rename DS.wRename
  have e : fnd σ.cnt.dir s = fnd σ.dir s := rfl
  rw [e]
  split
  · rfl
  · cases fnd σ.dir s with
    | none => rfl
    | some i =>
      simp only
      split
      · rfl
      · split <;> rfl
theorem Nx.after {w w1 w2 : World} {p : Nat} {σ : DS} {F : Nat → Prop} (hg : w.grownBy w1 (some p)) (hp : F p) (h : Nx RL w1 p σ F w2) : Nx RL w p σ F w2 := by
  obtain ⟨F', a, b, c⟩ := h
  refine ⟨F', a, (kept_p hg hp).trans b fun _ x => .inl x, fun k hF => (c k hF).imp id fun x => ?_⟩
  have := hg.size
  omega
theorem Nx.end_ {w w1 w2 : World} {p : Nat} {σ : DS} {F : Nat → Prop} (h : Nx RL w p σ F w1) (hb : Below w1.heap.size w1 w2) : Nx RL w p σ F w2 := by
  obtain ⟨F', ⟨A, loc, dv, nv, sv, cv, sd, ch, a⟩, b, c⟩ := h
  exact ⟨F', ⟨A, loc, dv, nv, sv, cv, sd, ch, a.later hb⟩, b.trans (below_kept (F := F) hb) fun _ x => .inl x, c⟩
theorem below_undrew {w w1 : World} (h : Below w.drew.heap.size w.drew w1) : Below w.heap.size w w1 := ⟨h.os, h.tape, h.output, h.size, h.block⟩

theorem below_two {w wz w3 : World} (h : Below wz.heap.size wz w3) (hz : Below w.heap.size w wz) : Below w.heap.size w w3 := hz.trans (h.mono hz.size)
theorem Nx.cell {w w' : World} {p : Nat} {σ : DS} {F : Nat → Prop} (h : Nx RL w p σ F w') {g k : Nat} {v : Value} (hc : w.cell? ⟨g, k, none⟩ = some v) (hn : ¬ F g) : w'.cell? ⟨g, k, none⟩ = some v := by
  obtain ⟨_, _, b, _⟩ := h
  exact (World.cell?_of_block (w := w) (b.block g (block_lt_of_cell hc) hn)).trans hc
theorem sclone_any (s : ByteArray) (w : World) (h : s.size ≤ 64) : Calls Tryz.prog 55 #[.string s] w fun e w' => e = .returned (.string s) ∧ Below w.heap.size w w' := by
  have k := Tryz.stringslite_Clone s w (by omega)
  go_enter Tryz.func55, Tryz.ntmps55
  go_wp2_with (go_at_call 80; refine k.mono ?_; rintro e w' ⟨rfl, hb⟩)
  go_ret
  exact ⟨rfl, hb⟩

/-- A new file, not yet named. -/
theorem LAt.newFile {w wx : World} {p : Nat} {σ : DS} {F A : Nat → Prop} {loc : Nat → Nat} {dv : Nat → Value} {nv sv cv : Value} {sd : List Ent} {ch : List Chg} (h : LAt w p σ F A loc dv nv sv cv sd ch) (hb : Below w.heap.size w wx) {g : Nat} (hg : w.heap.size ≤ g) (hh : wx.heap[g]? = some (.cells #[.slice none 0 0, .int .i64 0] 72 (0, 0))) :
    LAt wx p { σ with fl := upd σ.fl σ.nx ([], 0), nx := σ.nx + 1 } (fun k => F k ∨ k = g) (fun i => A i ∨ i = σ.nx) (fun i => if i = σ.nx then g else loc i) (fun i => if i = σ.nx then .slice none 0 0 else dv i) nv sv cv sd ch := by
  have hx := h.later hb
  have hne : ∀ i, A i → i ≠ σ.nx := fun i hi => by have := h.nx i hi; omega
  have hlt : ∀ k, F k → k ≠ g := fun k hk => by have := h.lt k hk; omega
  have hloc : ∀ i, A i → (if i = σ.nx then g else loc i) = loc i := fun i hi => if_neg (hne i hi)
  refine ⟨.inl hx.fp, hx.blk, (hx.dir.mono fun k hk => .inl hk).loc fun e he => hloc _ (hx.alDir e he), (hx.sure.mono fun k hk => .inl hk).loc fun e he => hloc _ (hx.al sd (by rw [hx.was]; exact hist_head sd ch) e he), hx.two, (hx.chs.mono fun k hk => .inl hk).loc fun c hc i e => hloc i (hx.cha c hc i e), hx.was, hx.now, hx.gd, fun i hi => ?_, fun i j hi hj e => ?_, fun i j hi hj hn b e => ?_, fun k hk => ?_, fun l hl e he => .inl (hx.al l hl e he), fun i hi => ?_, fun c hc i e => .inl (hx.cha c hc i e), hx.chm⟩
  · rcases hi with hi | rfl
    · simp only [upd, if_neg (hne i hi)]
      exact (hx.file i hi).mono fun k hk => .inl hk
    · simp only [upd, if_true]
      exact ⟨.inr rfl, hh, World.ownsRow_nil _ _ _ _, fun b e => by cases e⟩
  · rcases hi with hi | rfl <;> rcases hj with hj | rfl
    · rw [hloc i hi, hloc j hj] at e
      exact hx.inj i j hi hj e
    · rw [hloc i hi, if_pos rfl] at e
      exact absurd e (hlt _ (hx.file i hi).fp)
    · rw [hloc j hj, if_pos rfl] at e
      exact absurd e.symm (hlt _ (hx.file j hj).fp)
    · rfl
  · rcases hi with hi | rfl
    · simp only [if_neg (hne i hi)] at e
      rcases hj with hj | rfl
      · simp only [if_neg (hne j hj)]
        exact hx.sep i j hi hj hn b e
      · simp only [if_true]
        intro e2
        cases e2
    · simp only [if_true] at e
      cases e
  · rcases hk with hk | rfl
    · exact hx.lt k hk
    · exact (Array.getElem?_eq_some_iff.1 hh).1
  · rcases hi with hi | rfl
    · have := hx.nx i hi
      show i < σ.nx + 1
      omega
    · exact Nat.lt_succ_self _

set_option maxHeartbeats 2000000 in
set_option maxRecDepth 100000 in
theorem create1_any (nb db p : Nat) (σ : DS) (F A : Nat → Prop) (loc : Nat → Nat) (dv : Nat → Value) (nv sv cv : Value) (sd : List Ent) (ch : List Chg) (s : ByteArray) (w : World) (h : LAt w p σ F A loc dv nv sv cv sd ch) (hdl : σ.dir.length ≤ 1048576) (hcl : ch.length ≤ 1048577) (hs : s.size ≤ 2 ^ 63 - 1)
    (cn : w.cell? ⟨nb, 0, none⟩ = some (.string s)) (cd : w.cell? ⟨db, 0, none⟩ = some (ptr p)) (hn1 : ¬ F nb) (hn2 : ¬ F db) :
    Calls Tryz.prog 52 #[.pointer (some ⟨nb, 0, none⟩), .pointer (some ⟨db, 0, none⟩)] w fun e w' => e = .returned (.int .i64 (σ.wCreate s).1) ∧ Nx RL w p (σ.wCreate s).2 F w' := by
  have km := mayBe_any s w hs
  have HZ : Hid (∀ w1, Below w.heap.size w w1 → Nx RL w p σ F w1) := fun w1 hb => LAt.nxt (h.later hb) h.lt (below_kept hb)
  cases hm : mayN s with
  | false =>
    have hr : σ.wCreate s = (15, σ) := by rw [DS.wCreate, if_pos hm]
    rw [hr]
    rw [hm] at km
    clear hr hm h
    go_enter Tryz.func52, Tryz.ntmps52
    go_wp2_with (go_at_call 53; refine km.mono ?_; rintro e w' ⟨rfl, hb⟩)
    go_ret
    exact ⟨rfl, HZ.out _ hb⟩
  | true =>
    rw [hm] at km
    have hs64 := (may_size hm).2
    cases hf : fnd σ.dir s with
    | some i =>
      have hr : σ.wCreate s = (6, σ) := by rw [DS.wCreate, if_neg (by rw [hm]; decide), hf]; rfl
      rw [hr]
      have HW : Hid (∀ w1, Below w.heap.size w w1 → w1.cell? ⟨nb, 0, none⟩ = some (.string s) ∧ w1.cell? ⟨db, 0, none⟩ = some (.pointer (some ⟨p, 0, none⟩)) ∧ w1.cell? ⟨p, 1, none⟩ = some nv ∧ ∀ n, (Instr.lookup 46 nv (.string s) false).run Tryz.prog (w1.drewN n) = .ok (.pointer (some ⟨loc i, 0, none⟩)) (w1.drewN n)) := fun w1 hb =>
        ⟨cell_later hb cn, cell_later hb cd, cell_of (h.later hb).blk 1, fun n => by have := ((h.later hb).later (below_drewN (Below.refl _ _) n)).dir.look s; rw [hf] at this; exact this⟩
      clear hr hm h
      go_enter Tryz.func52, Tryz.ntmps52
      go_wp2_with (go_at_call 53; refine km.mono ?_; rintro e w1 ⟨rfl, hb⟩; obtain ⟨z1, z2, z3, z4⟩ := HW.out _ hb)
      go_quiet (fail)
      go_wp2_with fail
      go_ret
      exact ⟨rfl, HZ.out _ (below_drewN hb _)⟩
    | none =>
      have hr : σ.wCreate s = (0, { σ.chg (pt σ.dir s σ.nx) with fl := upd σ.fl σ.nx ([], 0), nx := σ.nx + 1 }) := by rw [DS.wCreate, if_neg (by rw [hm]; decide), hf]; rfl
      rw [hr]
      have HW : Hid (∀ w1, Below w.heap.size w w1 → w1.cell? ⟨nb, 0, none⟩ = some (.string s) ∧ w1.cell? ⟨db, 0, none⟩ = some (.pointer (some ⟨p, 0, none⟩)) ∧ w1.cell? ⟨p, 1, none⟩ = some nv ∧ ∀ n, (Instr.lookup 46 nv (.string s) false).run Tryz.prog (w1.drewN n) = .ok (.pointer none) (w1.drewN n)) := fun w1 hb =>
        ⟨cell_later hb cn, cell_later hb cd, cell_of (h.later hb).blk 1, fun n => by have := ((h.later hb).later (below_drewN (Below.refl _ _) n)).dir.look s; rw [hf] at this; exact this⟩
      have HC : Hid (∀ wx, Below w.heap.size w wx → wx.cell? ⟨nb, 0, none⟩ = some (.string s) ∧ wx.cell? ⟨db, 0, none⟩ = some (.pointer (some ⟨p, 0, none⟩))) := fun wx hb => ⟨cell_later hb cn, cell_later hb cd⟩
      have HK : Hid (∀ σ' w4, Nx RL w p σ' F w4 → w4.cell? ⟨nb, 0, none⟩ = some (.string s) ∧ w4.cell? ⟨db, 0, none⟩ = some (.pointer (some ⟨p, 0, none⟩))) := fun σ' w4 hN => ⟨hN.cell cn hn1, hN.cell cd hn2⟩
      have HS : Hid (∀ wx, Calls Tryz.prog 55 #[.string s] wx fun e w' => e = .returned (.string s) ∧ Below wx.heap.size wx w') := fun wx => sclone_any s wx hs64
      have HT : Hid (∀ wx g, Below w.heap.size w wx → w.heap.size ≤ g → wx.heap[g]? = some (.cells #[.slice none 0 0, .int .i64 0] 72 (0, 0)) → Calls Tryz.prog 54 #[.pointer (some ⟨p, 0, none⟩), .agg #[.string ⟨#[]⟩, .string s, .pointer (some ⟨g, 0, none⟩)]] wx fun e w' => e = .returned (.tuple #[]) ∧ Nx RL w p { σ.chg (pt σ.dir s σ.nx) with fl := upd σ.fl σ.nx ([], 0), nx := σ.nx + 1 } F w') := fun wx g hb hg hh => by
        have hx := h.newFile hb hg hh
        have hap : Chg.ap ⟨⟨#[]⟩, s, some σ.nx⟩ σ.dir = pt σ.dir s σ.nx := by
          show pt (drp σ.dir ByteArray.empty) s σ.nx = _
          rw [h.gdDir.drp_empty]
        have hni : σ.nx ∉ σ.dir.map (·.2) := fun hmm => by
          obtain ⟨x, hx', he⟩ := List.mem_map.1 hmm
          have := h.nx _ (h.alDir x hx')
          omega
        have := turn_any p _ _ _ _ _ nv sv cv sd ch ⟨⟨#[]⟩, s, some σ.nx⟩ wx hx hdl hcl ⟨Nat.zero_le _, hs64⟩ (fun i e => by simp only [Option.some.injEq] at e; exact .inr e.symm) (by rw [hap]; exact h.gdDir.pt hm hni) (fun e he => by
          rw [hap] at he
          rcases pt_mem he with rfl | he
          · exact .inr rfl
          · exact .inl (h.alDir e he))
        unfold chv ptr at this
        simp only [pv, ptr, if_true] at this
        refine this.mono fun e w' ⟨he, hN⟩ => ⟨he, ?_⟩
        obtain ⟨F', a, b, c⟩ := hN
        rw [hap] at a
        refine ⟨F', a, (below_kept (F := F) hb).trans b (fun k hk => hk.imp id fun e => by omega), fun k hk => ?_⟩
        have := hb.size
        rcases c k hk with (c | c) | c
        · exact .inl c
        · exact .inr (by omega)
        · exact .inr (by omega)
      clear hr hm h HZ
      go_enter Tryz.func52, Tryz.ntmps52
      go_wp2_with (go_at_call 53; refine km.mono ?_; rintro e w1 ⟨rfl, hb⟩; obtain ⟨z1, z2, z3, z4⟩ := HW.out _ hb)
      go_quiet (fail)
      have hbq : Below w.heap.size w (w1.drewN nq) := below_drewN hb _
      generalize w1.drewN nq = w2 at hbq ⊢
      obtain ⟨z1, z2⟩ := HC.out _ hbq
      have l1 := block_lt_of_cell z1
      have l2 := block_lt_of_cell z2
      go_wp2_with fail
      go_region_held (fun w' => w'.cell? ⟨nb, 0, none⟩ = some (.string s) ∧ w'.cell? ⟨db, 0, none⟩ = some (.pointer (some ⟨p, 0, none⟩))) (first | exact v4 | exact ⟨y1, y2⟩ | exact ⟨z1, z2⟩ | exact ⟨cell_later ((Below.refl _ _).alloc (Nat.le_refl _) _) y1, cell_later ((Below.refl _ _).alloc (Nat.le_refl _) _) y2⟩ | exact ⟨cell_later ((Below.refl _ _).alloc (Nat.le_refl _) _) z1, cell_later ((Below.refl _ _).alloc (Nat.le_refl _) _) z2⟩ | trivial | go_keep) (first | (go_at_call 55; refine (HS.out _).mono ?_; rintro e w3 ⟨rfl, hb3⟩; replace hb3 := below_undrew hb3; have hB3 : Below w2.heap.size w2 w3 := below_two hb3 (by first | exact Below.refl _ _ | exact (Below.refl _ _).alloc (Nat.le_refl _) _); have y1 := cell_later hB3 z1; have y2 := cell_later hB3 z2; have l3 := block_lt_of_cell y2) | (go_at_call 54; refine (HT.out _ _ ?_ ?_ ?_).mono ?_; (solve | exact hbq.trans (hB3.mono hbq.size) | exact (hbq.trans (hB3.mono hbq.size)).alloc (Nat.le_trans hbq.size hB3.size) _); (solve | exact hbq.size | exact Nat.le_trans hbq.size hB3.size); (solve | exact heap_alloc_new w3 _ | exact (hb3.block _ (by simp)).trans (heap_alloc_new w2 _)); rintro e w4 ⟨rfl, hN⟩; have v4 := HK.out _ _ hN))
      all_goals
        go_wp2_with fail
        go_ret
        exact ⟨rfl, hN⟩
end Go.Proofs.YtligofmcmjblpaaGreat
