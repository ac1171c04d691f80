import Derived.Test.YtligofmcmjblpaaGreatPk29
import Derived.Test.YtligofmcmjblpaaGreatPk30
/- The landed disk: the directory is made sure. -/
namespace Go.Proofs.YtligofmcmjblpaaGreat
open Go.RowKit Go.Maps
set_option linter.unusedVariables false
set_option linter.unusedSimpArgs false

/-- What lies in a map, copied. -/
theorem mapsClone_any (b : Nat) (loc : Nat → Nat) (l : List Ent) (w : World) (h : MapL w b loc l) : Calls Tryz.prog 82 #[.map (some b)] w fun e w' => e = .returned (.map (some w.heap.size)) ∧ MapL w' w.heap.size loc l ∧ Below w.heap.size w w' :=
  (AnyW.maps_Clone_owns Tryz.cloneM 9 fileE b l.length (dD loc l) w h).mono fun e w' ⟨a, b, c, d⟩ => ⟨a, b, d⟩
theorem mapsClone_nil (w : World) : Calls Tryz.prog 82 #[.map none] w fun e w' => e = .returned (.map none) ∧ w' = w := AnyW.maps_Clone_nil Tryz.cloneM w

theorem LAt.settled {w w1 : World} {p : Nat} {σ : DS} {F A : Nat → Prop} {loc : Nat → Nat} {dv : Nat → Value} {nv sv cv : Value} {sd : List Ent} {ch : List Chg} (h : LAt w p σ F A loc dv nv sv cv sd ch) (hb : Below w.heap.size w w1) (sv' : Value) (hs : (sv' = .map none ∧ σ.dir = []) ∨ ∃ b, sv' = .map (some b) ∧ w.heap.size ≤ b ∧ MapL w1 b loc σ.dir) :
    Nx RL w p { σ with was := [σ.dir] } F ((w1.setCell ⟨p, 2, none⟩ sv').setCell ⟨p, 3, none⟩ (.slice none 0 0)) := by
  have hx := h.later hb
  have hg : w1.grownBy ((w1.setCell ⟨p, 2, none⟩ sv').setCell ⟨p, 3, none⟩ (.slice none 0 0)) (some p) := grown_trans (grown_set _ _ _ _) (grown_set _ _ _ _)
  have hd : DkL ((w1.setCell ⟨p, 2, none⟩ sv').setCell ⟨p, 3, none⟩ (.slice none 0 0)) p σ.room nv sv' (.slice none 0 0) σ.c := (hx.blk.set2 sv').set3 _
  have hsz := hb.size
  refine ⟨fun k => F k ∨ sv' = .map (some k), ⟨A, loc, dv, nv, sv', .slice none 0 0, σ.dir, [], ?_⟩, (below_kept hb).trans (kept_p (F := F) hg hx.fp) fun _ x => .inl x, fun k hk => ?_⟩
  · refine ⟨.inl hx.fp, hd, (hx.dir.grown hg (hx.dir.cell hx.blk.ty)).mono fun k hk => .inl hk, ?_, fun b e e2 => ?_, ⟨World.ownsRow_nil _ _ _ _, fun g e => by cases e⟩, rfl, rfl, fun l hl => ?_, fun i hi => ?_, hx.inj, hx.sep, fun k hk => ?_, fun l hl e he => ?_, hx.nx, (fun c hc => by cases hc), (fun c hc => by cases hc)⟩
    · rcases hs with hs | ⟨b, e, hbb, hM⟩
      · exact .inl hs
      · exact .inr ⟨b, e, .inr e, hM.same (hg.block b hM.lt fun e2 => hM.ne hx.blk.ty (Option.some.inj e2))⟩
    · rcases hs with ⟨hs, _⟩ | ⟨b', e', hbb, hM⟩
      · rw [hs] at e2; cases e2
      · rw [e'] at e2
        simp only [Value.map.injEq, Option.some.injEq] at e2
        subst e2
        have := (h.nvOk _ e).lt
        omega
    · have : l ∈ [σ.dir] := hl
      simp only [List.mem_singleton] at this
      subst this
      exact hx.gdDir
    · have hf := hx.file i hi
      exact (hf.grown hg (fun e => TyOf.ne hx.blk.ty hf.ty (by decide) (Option.some.inj e)) fun b e e2 => TyOf.ne hx.blk.ty (hx.row5 hi e) (by decide) (Option.some.inj e2)).mono fun k hk => .inl hk
    · have hgs := hg.size
      rcases hk with hk | hk
      · exact Nat.lt_of_lt_of_le (hx.lt k hk) hgs
      · rcases hs with ⟨hs, _⟩ | ⟨b', e', hbb, hM⟩
        · rw [hs] at hk; cases hk
        · rw [e'] at hk
          simp only [Value.map.injEq, Option.some.injEq] at hk
          subst hk
          exact Nat.lt_of_lt_of_le hM.lt hgs
    · have : l ∈ [σ.dir] := hl
      simp only [List.mem_singleton] at this
      subst this
      exact hx.alDir e he
  · rcases hk with hk | hk
    · exact .inl hk
    · rcases hs with ⟨hs, _⟩ | ⟨b', e', hbb, hM⟩
      · rw [hs] at hk; cases hk
      · rw [e'] at hk
        simp only [Value.map.injEq, Option.some.injEq] at hk
        subst hk
        exact .inr hbb

set_option maxHeartbeats 1000000 in
set_option maxRecDepth 100000 in
theorem settle_any (p : Nat) (σ : DS) (F A : Nat → Prop) (loc : Nat → Nat) (dv : Nat → Value) (nv sv cv : Value) (sd : List Ent) (ch : List Chg) (w : World) (h : LAt w p σ F A loc dv nv sv cv sd ch) :
    Calls Tryz.prog 62 #[ptr p] w fun e w' => e = .returned (.tuple #[]) ∧ Nx RL w p { σ with was := [σ.dir] } F w' := by
  have c1 : w.cell? ⟨p, 1, none⟩ = some nv := cell_of h.blk 1
  have hp := h.lt p h.fp
  have HC : Hid (∀ wx, Below w.heap.size w wx → wx.cell? ⟨p, 2, none⟩ = some sv ∧ wx.cell? ⟨p, 3, none⟩ = some cv ∧ wx.frozen? ⟨p, 2, none⟩ = false ∧ wx.frozen? ⟨p, 3, none⟩ = false) := fun wx hb => ⟨cell_of (h.later hb).blk 2, cell_of (h.later hb).blk 3, frozen_of (h.later hb).blk 2, frozen_of (h.later hb).blk 3⟩
  have HS : Hid (∀ w1 sv', Below w.heap.size w w1 → ((sv' = .map none ∧ σ.dir = []) ∨ ∃ b, sv' = .map (some b) ∧ w.heap.size ≤ b ∧ MapL w1 b loc σ.dir) → Nx RL w p { σ with was := [σ.dir] } F ((w1.setCell ⟨p, 2, none⟩ sv').setCell ⟨p, 3, none⟩ (.slice none 0 0))) := fun w1 sv' hb hs => h.settled hb sv' hs
  unfold ptr
  rcases h.dir with ⟨rfl, hd⟩ | ⟨b, rfl, hF, hM⟩
  · have k := mapsClone_nil w
    obtain ⟨z1, z2, z3, z4⟩ := HC.out w (Below.refl _ _)
    clear h
    go_enter Tryz.func62, Tryz.ntmps62
    go_wp2_with (go_at_call 82; refine k.mono ?_; rintro e w1 ⟨rfl, hw⟩; obtain rfl := hw.symm)
    go_end0
    exact ⟨rfl, HS.out _ _ (Below.refl _ _) (.inl ⟨rfl, hd⟩)⟩
  · have k := mapsClone_any b loc σ.dir w hM
    clear h hM
    go_enter Tryz.func62, Tryz.ntmps62
    go_wp2_with (go_at_call 82; refine k.mono ?_; rintro e w1 ⟨rfl, hm1, hb1⟩; obtain ⟨z1, z2, z3, z4⟩ := HC.out _ hb1)
    go_end0
    exact ⟨rfl, HS.out _ _ hb1 (.inr ⟨_, rfl, Nat.le_refl _, hm1⟩)⟩

set_option maxHeartbeats 1000000 in
set_option maxRecDepth 100000 in
theorem syncDir1_any (db p : Nat) (σ : DS) (F A : Nat → Prop) (loc : Nat → Nat) (dv : Nat → Value) (nv sv cv : Value) (sd : List Ent) (ch : List Chg) (w : World) (h : LAt w p σ F A loc dv nv sv cv sd ch) (cd : w.cell? ⟨db, 0, none⟩ = some (ptr p)) :
    Calls Tryz.prog 61 #[.pointer (some ⟨db, 0, none⟩)] w fun e w' => e = .returned (.int .i64 σ.wSyncDir.1) ∧ Nx RL w p σ.wSyncDir.2 F w' := by
  have k := settle_any p σ F A loc dv nv sv cv sd ch w h
  unfold DS.wSyncDir
  unfold ptr at *
  clear h
  go_enter Tryz.func61, Tryz.ntmps61
  go_wp2_with (go_at_call 62; refine k.mono ?_; rintro e w1 ⟨rfl, hx⟩)
  go_ret
  exact ⟨rfl, hx⟩

set_option maxHeartbeats 1000000 in
set_option maxRecDepth 100000 in
theorem syncDir_any (p : Nat) (σ : DS) (F : Nat → Prop) (w : World) (h : RL w p σ F) (hi : Inv σ) :
    Calls Tryz.prog 22 #[ptr p] w fun e w' => e = .returned (.int .i64 σ.syncDir.1) ∧ Nx RL w p σ.syncDir.2 F w' := by
  obtain ⟨A, loc, dv, nv, sv, cv, sd, ch, h⟩ := h
  obtain ⟨wa, hwa⟩ : ∃ wa, wa = w.alloc (.cells #[ptr p] 23) := ⟨_, rfl⟩
  have hb : Below w.heap.size w wa := by rw [hwa]; exact (Below.refl _ _).alloc (Nat.le_refl _) _
  have c0 : wa.cell? ⟨w.heap.size, 0, none⟩ = some (ptr p) := by rw [hwa]; exact cell_of (heap_alloc_new w _) 0
  have hF : ∀ k, F k → k < w.heap.size := h.lt
  have k := makingSure_any 61 #[.pointer (some ⟨w.heap.size, 0, none⟩)] p σ F A loc dv nv sv cv sd ch wa (h.later hb) hi σ.cnt.wSyncDir (enters_of Tryz.func61 (by kernel_rfl) rfl _) fun w1 g1 h1 =>
    syncDir1_any _ p σ.cnt F A loc dv nv sv cv sd ch w1 h1 (kept_cell g1 c0 fun e => by have := hF _ e; omega)
  rw [← syncDir_w] at k
  have HX : Hid (∀ w', Nx RL wa p σ.syncDir.2 F w' → Nx RL w p σ.syncDir.2 F w') := fun w' hx => hx.start hb
  generalize σ.syncDir.1 = r at k ⊢
  clear h hi hb c0 hF
  unfold ptr at *
  go_enter Tryz.func22, Tryz.ntmps22
  go_wp2_with (go_at_call 57; rw [← hwa]; refine k.mono ?_; rintro e w' ⟨rfl, hx⟩)
  go_ret
  exact ⟨rfl, HX.out _ hx⟩
end Go.Proofs.YtligofmcmjblpaaGreat
