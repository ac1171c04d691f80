import Derived.Test.YtligofmcmjblpaaGreatPk24
/- The landed disk: one file is written, all else stays. -/
namespace Go.Proofs.YtligofmcmjblpaaGreat
open Go.RowKit Go.Maps
set_option linter.unusedVariables false
set_option linter.unusedSimpArgs false

section
variable {w w' : World} {p : Nat} {σ : DS} {F A : Nat → Prop} {loc : Nat → Nat} {dv : Nat → Value} {nv sv cv : Value} {sd : List Ent} {ch : List Chg}
theorem DirM.block {v : Value} {l : List Ent} (h : DirM w F loc v l) {G : Nat → Prop} (hFG : ∀ k, F k → G k) (hs : ∀ b, v = .map (some b) → F b → MapL w b loc l → w'.heap[b]? = w.heap[b]?) : DirM w' G loc v l := by
  rcases h with h | ⟨b, h1, h2, h3⟩
  · exact .inl h
  · exact .inr ⟨b, h1, hFG b h2, h3.same (hs b h1 h2 h3)⟩
theorem ChR.block {v : Value} (h : ChR w F loc v ch) {G : Nat → Prop} (hFG : ∀ k, F k → G k) (hs : ∀ b, v.ownBlock = some b → F b → TyOf w b 83 → w'.heap[b]? = w.heap[b]?) : ChR w' G loc v ch :=
  ⟨owns_same h.row fun g e => hs g e (h.own g e) (owns_ty h.row e), fun g e => hFG g (h.own g e)⟩
theorem FileM.block {g : Nat} {d : Value} {f : List Int × Nat} (h : FileM w F g d f) {G : Nat → Prop} (hFG : ∀ k, F k → G k) (h1 : w'.heap[g]? = w.heap[g]?) (hs : ∀ b, d.ownBlock = some b → w'.heap[b]? = w.heap[b]?) : FileM w' G g d f :=
  ⟨hFG _ h.fp, h1.trans h.blk, owns_same h.row fun k e => hs k e, fun b e => hFG b (h.own b e)⟩

theorem LAt.setFile (h : LAt w p σ F A loc dv nv sv cv sd ch) {i : Nat} (hi : A i) {G : Nat → Prop} (hFG : ∀ k, F k → G k) (hG : ∀ k, G k → k < w'.heap.size)
    (hk : ∀ k, F k → k ≠ loc i → (dv i).ownBlock ≠ some k → w'.heap[k]? = w.heap[k]?) {dv' : Value} {f' : List Int × Nat} (hf : FileM w' G (loc i) dv' f') (hd : dv'.ownBlock = (dv i).ownBlock ∨ ∃ g, dv'.ownBlock = some g ∧ w.heap.size ≤ g) :
    LAt w' p { σ with fl := upd σ.fl i f' } G A loc (fun j => if j = i then dv' else dv j) nv sv cv sd ch := by
  have hfi := h.file i hi
  have t1 : TyOf w (loc i) 72 := hfi.ty
  have t2 : ∀ b, (dv i).ownBlock = some b → TyOf w b 5 := fun b e => h.row5 hi e
  have hc : ∀ k t, F k → TyOf w k t → t ≠ 72 → t ≠ 5 → w'.heap[k]? = w.heap[k]? := fun k t hF ht h1 h2 => hk k hF (TyOf.ne ht t1 h1) fun e => TyOf.ne ht (t2 k e) h2 rfl
  have hm : ∀ v l b, v = Value.map (some b) → F b → MapL w b loc l → w'.heap[b]? = w.heap[b]? := fun v l b _ hF hM => hk b hF (hM.ne t1) fun e => hM.ne (t2 b e) rfl
  refine ⟨hFG p h.fp, ?_, h.dir.block hFG (hm nv _), h.sure.block hFG (hm sv _), h.two, h.chs.block hFG (fun b e hF ht => hc b _ hF ht (by decide) (by decide)), h.was, h.now, h.gd, fun j hj => ?_, h.inj, fun j k hj hk' hne b e => ?_, hG, h.al, h.nx, h.cha, h.chm⟩
  · unfold DkL
    rw [hc p _ h.fp h.blk.ty (by decide) (by decide)]
    exact h.blk
  · by_cases q : j = i
    · subst q
      simp only [upd, if_true]
      exact hf
    · simp only [upd, if_neg q]
      have hfj := h.file j hj
      refine hfj.block hFG (hk _ hfj.fp (fun e => q (h.inj _ _ hj hi e)) fun e => TyOf.ne hfj.ty (t2 _ e) (by decide) rfl) fun b e => ?_
      exact hk b (hfj.own b e) (fun e' => TyOf.ne (h.row5 hj e) t1 (by decide) e') (h.sep j i hj hi q b e)
  · have hlt : ∀ m, A m → ∀ b, (dv m).ownBlock = some b → b < w.heap.size := fun m hm' b e => (h.row5 hm' e).lt
    by_cases q : j = i
    · subst q
      have q2 : ¬ k = j := fun e' => hne e'.symm
      simp only [if_true] at e
      simp only [if_neg q2]
      rcases hd with hd | ⟨g, hd, hg⟩
      · rw [hd] at e
        exact h.sep j k hj hk' hne b e
      · rw [hd] at e
        simp only [Option.some.injEq] at e
        subst e
        intro e'
        have := hlt k hk' _ e'
        omega
    · simp only [if_neg q] at e
      by_cases q2 : k = i
      · subst q2
        simp only [if_true]
        rcases hd with hd | ⟨g, hd, hg⟩
        · rw [hd]
          exact h.sep j k hj hk' hne b e
        · rw [hd]
          intro e'
          simp only [Option.some.injEq] at e'
          subst e'
          have := hlt j hj _ e
          omega
      · simp only [if_neg q2]
        exact h.sep j k hj hk' hne b e
end
theorem row_set {w : World} {v : Value} {xs : List Int} (h : Row 0 w v xs) {g k : Nat} {n c : Nat} (hv : v = .slice (some ⟨g, 0, none⟩) n c) (hk : k < xs.length) (x : Int) : Row 0 (w.setCell ⟨g, k, none⟩ (.int .u8 x)) v (xs.set k x) := by
  refine ⟨by simp, ?_⟩
  rcases h.2 with ⟨rfl, _⟩ | ⟨g', cap, cur, e, hb, hgg, h1, h2, h3, h4⟩
  · cases hv
  · rw [hv] at e
    simp only [Value.slice.injEq, Option.some.injEq, Addr.mk.injEq] at e
    obtain ⟨⟨rfl, _⟩, rfl, rfl⟩ := e
    refine .inr ⟨g, c, cur.setIfInBounds k (.int .u8 x), ?_, Nat.zero_le _, heap_set hgg k _, ?_, h2, by simp [h3], ?_⟩
    · rw [hv]
      simp
    · simpa using h1
    · rw [List.length_set, Array.toList_setIfInBounds, List.take_set, h4, List.map_set]
theorem slice_own {w : World} {v : Value} {xs : List Int} (h : Row 0 w v xs) (hl : 0 < xs.length) : ∃ g cap, v = .slice (some ⟨g, 0, none⟩) xs.length cap ∧ v.ownBlock = some g ∧ xs.length ≤ cap := by
  rcases h.2 with ⟨rfl, h0⟩ | ⟨g', cap, cur, e, hb, hgg, h1, h2, h3, h4⟩
  · omega
  · exact ⟨g', cap, e, by rw [e]; rfl, h1⟩

set_option maxHeartbeats 1000000 in
set_option maxRecDepth 100000 in
theorem spoil_any (p : Nat) (σ : DS) (F : Nat → Prop) (s : ByteArray) (at_ x : Int) (w : World) (h : RL w p σ F) (hi : Inv σ) (ha : -9223372036854775808 ≤ at_ ∧ at_ ≤ 9223372036854775807) (hx : 0 ≤ x ∧ x < 256) :
    Calls Tryz.prog 26 #[ptr p, .string s, .int .i64 at_, .int .u8 x] w fun e w' => e = .returned (.bool (σ.spoil s at_ x).1) ∧ Nx RL w p (σ.spoil s at_ x).2 F w' := by
  obtain ⟨A, loc, dv, nv, sv, cv, sd, ch, h⟩ := h
  have kf := find_any p σ F A loc dv nv sv cv sd ch s w h
  unfold findV findE at kf
  obtain ⟨ha, ha'⟩ := ha
  have Z : Hid (Nx RL w p σ F w) := LAt.nxt h h.lt (Kept.refl _ _)
  cases ho : σ.c.off with
  | true =>
    have hr : σ.spoil s at_ x = (false, σ) := by rw [DS.spoil, ho]; rfl
    rw [hr]
    rw [ho] at kf
    simp only [if_true] at kf
    clear h hi hr
    go_enter Tryz.func26, Tryz.ntmps26
    go_wp2_with (go_at_call 45; refine kf.mono ?_; rintro e w' ⟨rfl, hw⟩; obtain rfl := hw.symm)
    go_ret
    exact ⟨rfl, Z.out⟩
  | false =>
    rw [ho] at kf
    simp only [Bool.false_eq_true, if_false] at kf
    cases hf : fnd σ.dir s with
    | none =>
      have hr : σ.spoil s at_ x = (false, σ) := by rw [DS.spoil, ho, hf]; rfl
      rw [hr]
      rw [hf] at kf
      simp only [pv] at kf
      clear h hi hr
      go_enter Tryz.func26, Tryz.ntmps26
      go_wp2_with (go_at_call 45; refine kf.mono ?_; rintro e w' ⟨rfl, hw⟩; obtain rfl := hw.symm)
      go_ret
      exact ⟨rfl, Z.out⟩
    | some i =>
      have hr : σ.spoil s at_ x = if 0 ≤ at_ ∧ at_ < (σ.fl i).1.length then (true, { σ with fl := upd σ.fl i ((σ.fl i).1.set at_.toNat x, (σ.fl i).2) }) else (false, σ) := by rw [DS.spoil, ho, hf]; rfl
      rw [hr]
      rw [hf] at kf
      simp only [pv, ptr] at kf
      have hA := h.alFnd hf
      have hfm := h.file i hA
      obtain ⟨q1, q2, q3⟩ := hi.fl i
      obtain ⟨ao, cap, e0, e1, e2, e3⟩ := hfm.byt q3
      have c0 := hfm.cell0
      unfold ptr
      by_cases q : 0 ≤ at_
      · have q' : decide (at_ < 0) = false := decide_eq_false (by omega)
        by_cases r : at_ < ((σ.fl i).1.length : Int)
        · rw [if_pos ⟨q, r⟩]
          obtain ⟨a, rfl⟩ := Int.eq_ofNat_of_zero_le q
          simp only [Int.toNat_natCast]
          have hlt : a < (σ.fl i).1.length := by omega
          obtain ⟨g, cap', z1, z2, z3⟩ := slice_own hfm.row (by omega)
          have HN : Hid (Nx RL w p { σ with fl := upd σ.fl i ((σ.fl i).1.set a x, (σ.fl i).2) } F (w.setCell ⟨g, a, none⟩ (.int .u8 x))) := by
            have hg : w.grownBy (w.setCell ⟨g, a, none⟩ (.int .u8 x)) (some g) := grown_set _ _ _ _
            refine LAt.nxt (h.setFile hA (fun k hk => hk) (fun k hk => Nat.lt_of_lt_of_le (h.lt k hk) hg.size) (fun k hF hn1 hn2 => hg.block k (h.lt k hF) fun e => hn2 (by rw [z2, ← e])) (dv' := dv i) ?_ (.inl rfl)) h.lt ?_
            · refine ⟨hfm.fp, ?_, row_set hfm.row z1 hlt x, hfm.own⟩
              rw [hg.block _ hfm.ty.lt fun e => TyOf.ne hfm.ty (h.row5 hA (z2.trans e.symm)) (by decide) rfl]
              exact hfm.blk
            · exact Kept.grown hg fun k e => .inl (hfm.own k (by rw [z2, e]))
          have fz : w.frozen? ⟨g, a, none⟩ = false := by
            rcases hfm.row.2 with ⟨z, _⟩ | ⟨g', cap2, cur, z, _, hgg, _⟩
            · rw [z1] at z; cases z
            · rw [z1] at z
              simp only [Value.slice.injEq, Option.some.injEq, Addr.mk.injEq] at z
              obtain ⟨⟨rfl, _⟩, _⟩ := z
              exact frozen_of hgg a
          obtain ⟨y, cy⟩ : ∃ y, w.cell? ⟨g, a, none⟩ = some (.int .u8 y) := by
            obtain ⟨_, b, off, z5, z6⟩ := e3 a hlt
            rw [e0] at z1
            rw [z5] at z1
            simp only [Value.slice.injEq, Option.some.injEq, Addr.mk.injEq] at z1
            obtain ⟨⟨rfl, rfl, _⟩, _⟩ := z1
            exact ⟨_, by simpa using z6⟩
          rw [z1] at c0
          have hl2 : (a : Int) < ((σ.fl i).1.length : Int) := by omega
          generalize (σ.fl i).1.length = n at *
          clear h hi hr hfm q2 q3 e0 e1 e2 e3 hf Z z1 z2 z3 hA
          go_enter Tryz.func26, Tryz.ntmps26
          go_wp2_with (go_at_call 45; refine kf.mono ?_; rintro e w' ⟨rfl, hw⟩; obtain rfl := hw.symm)
          go_ret
          exact ⟨rfl, HN.out⟩
        · rw [if_neg (fun e => r e.2)]
          have r' : ((σ.fl i).1.length : Int) ≤ at_ := by omega
          rw [e0] at c0
          generalize (σ.fl i).1.length = n at *
          clear h hi hr hfm q2 q3 e0 e1 e2 e3 hf hA r
          go_enter Tryz.func26, Tryz.ntmps26
          go_wp2_with (go_at_call 45; refine kf.mono ?_; rintro e w' ⟨rfl, hw⟩; obtain rfl := hw.symm)
          go_ret
          exact ⟨rfl, Z.out⟩
      · rw [if_neg (fun e => q e.1)]
        have q' : at_ < 0 := by omega
        clear h hi hr hfm q2 q3 e0 e1 e2 e3 hf hA c0
        go_enter Tryz.func26, Tryz.ntmps26
        go_wp2_with (go_at_call 45; refine kf.mono ?_; rintro e w' ⟨rfl, hw⟩; obtain rfl := hw.symm)
        go_ret
        exact ⟨rfl, Z.out⟩
end Go.Proofs.YtligofmcmjblpaaGreat
