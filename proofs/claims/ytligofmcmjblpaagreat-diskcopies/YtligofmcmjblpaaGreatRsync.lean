/- The document's own disk: Sync, SyncDir, the fuse and the fault. -/
import Derived.Test.YtligofmcmjblpaaGreatRren
namespace Go.Proofs.YtligofmcmjblpaaGreat
open Go.RowKit
set_option linter.unusedVariables false
set_option linter.unusedSimpArgs false

theorem _root_.Go.RowKit.Hid.intro {p : Prop} (h : p) : Hid p := h
/-- The directory, as it is, is sure. -/
theorem nx_sure {w w2 : World} {p : Nat} {σ : DS} {F A : Nat → Prop} {loc : Nat → Nat} {lv wv u : Value} (h : RefAt w p σ F A loc lv wv) (hb : Below w.heap.size w w2) (hr : DRow w.heap.size w2 loc u σ.dir) (g : Nat) (hg : g = w2.heap.size) :
    Nxt w p { σ with was := [σ.dir] } F ((w2.alloc (.cells #[u] 53)).setCell ⟨p, 2, none⟩ (.slice (some ⟨g, 0, none⟩) 1 1)) := by
  subst hg
  have hb2 := hb.alloc hb.size (.cells #[u] 53)
  have h2 := h.later hb2
  have hp : p < w.heap.size := h.blk.ty.lt
  have hsz := hb.size
  have hgs := grown_set (w2.alloc (.cells #[u] 53)) p 2 (.slice (some ⟨w2.heap.size, 0, none⟩) 1 1)
  have hnew : ((w2.alloc (.cells #[u] 53)).setCell ⟨p, 2, none⟩ (.slice (some ⟨w2.heap.size, 0, none⟩) 1 1)).heap[w2.heap.size]? = some (.cells #[u] 53 (0, 0)) := by
    rw [Below.heap_setCell _ _ _ _ (by show w2.heap.size ≠ p; omega), heap_alloc_new]
  refine ⟨fun k => F k ∨ (w.heap.size ≤ k ∧ k < w2.heap.size + 1), A, loc, lv, .slice (some ⟨w2.heap.size, 0, none⟩) 1 1, ⟨.inl h.fp, h2.blk.set2 _, (h2.dir.grown hgs (h2.pne 102 (by decide))).mono fun _ x => .inl x, ⟨[u], ⟨rfl, .inr ⟨w2.heap.size, 1, #[u], rfl, Nat.zero_le _, hnew, Nat.le_refl _, by decide, rfl, rfl⟩⟩, fun g e => ?_, rfl, fun k x l hx hl => ?_⟩, fun i hi => ((h2.file i hi).grown hgs fun k e => ⟨?_, h2.pne 5 (by decide) k e⟩).mono fun _ x => .inl x, h.inj, fun k hk => ?_, fun i hi => ?_, h.nx⟩, ⟨hb2.os, hb2.tape, hb2.output, ?_, fun k hk hF => ?_⟩, fun k hk => ?_⟩
  · simp only [Value.ownBlock, Option.some.injEq] at e
    subst e
    exact .inr ⟨hsz, by omega⟩
  · have hk : k = 0 := by have := (List.getElem?_eq_some_iff.1 hx).1; simp at this; exact this
    subst hk
    simp at hx hl
    subst hx
    subst hl
    have : DRow w.heap.size ((w2.alloc (.cells #[u] 53)).setCell ⟨p, 2, none⟩ (.slice (some ⟨w2.heap.size, 0, none⟩) 1 1)) loc u σ.dir := ownsRow_setCell_below (World.ownsRow.alloc hr _) hp _
    exact this.dir fun k a b => .inr ⟨a, by simp [World.setCell] at b; omega⟩
  · simp only [Option.some.injEq] at e
    subst e
    exact TyOf.ne h2.blk.ty (h2.file i hi).ty (by decide)
  · have := h.lt k
    simp [World.setCell]
    rcases hk with hk | hk
    · have := this hk; omega
    · omega
  · rcases hi with hi | ⟨l, hl, s, hs⟩
    · exact h.al i (.inl hi)
    · simp at hl
      subst hl
      exact h.al i (.inl ⟨s, hs⟩)
  · simp [World.setCell]
    omega
  · rw [Below.heap_setCell _ _ _ _ (fun e => by have e' : k = p := e; subst e'; exact hF h.fp)]
    exact hb2.block k hk
  · rcases hk with hk | hk
    · exact .inl hk
    · exact .inr hk.1
/-- A file's bytes, and how many are sure. -/
theorem nx_file {w w' : World} {p : Nat} {σ : DS} {F A : Nat → Prop} {loc : Nat → Nat} {lv wv dv : Value} (h : RefAt w p σ F A loc lv wv) {i : Nat} (hA : A i) {data : List Int} {sure : Nat} (hg : w.grownBy w' (some (loc i))) (hb : w'.heap[loc i]? = some (.cells #[dv, .int .i64 (sure : Int)] 77 (0, 0)))
    (hr : Row 0 w' dv data) (ho : ∀ b, dv.ownBlock = some b → F b ∨ w.heap.size ≤ b) : Nxt w p { σ with fl := upd σ.fl i (data, sure) } F w' := by
  have hty := (h.file i hA).ty
  have ne : ∀ t, t ≠ 77 → ∀ g, some (loc i) = some g → ¬ TyOf w g t := fun t ht g e x => by
    simp only [Option.some.injEq] at e
    subst e
    exact absurd rfl (TyOf.ne hty x (Ne.symm ht))
  have hlt : ∀ k, F k → k < w'.heap.size := fun k hk => Nat.lt_of_lt_of_le (h.lt k hk) hg.size
  refine ⟨fun k => F k ∨ (w.heap.size ≤ k ∧ k < w'.heap.size), A, loc, lv, wv, ⟨.inl h.fp, ?_, (h.dir.grown hg (ne 102 (by decide))).mono fun _ x => .inl x, (h.was.grown hg fun g e => ⟨ne 102 (by decide) g e, ne 53 (by decide) g e⟩).mono fun _ x => .inl x, fun j hj => ?_, h.inj, fun k hk => ?_, h.al, h.nx⟩, Kept.grown hg fun k e => ?_, fun k hk => ?_⟩
  · unfold Dk
    rw [hg.block p h.blk.ty.lt fun e => by simp only [Option.some.injEq] at e; exact absurd e (TyOf.ne h.blk.ty hty (by decide))]
    exact h.blk
  · by_cases q : j = i
    · subst q
      simp only [upd, if_true]
      refine ⟨.inl (h.file j hA).fp, dv, hb, hr, fun b e => ?_⟩
      rcases ho b e with x | x
      · exact .inl x
      · exact .inr ⟨x, (World.ownsRow.lt hr b e).2⟩
    · simp only [upd, if_neg q]
      exact ((h.file j hj).grown hg fun k e => ⟨fun e2 => by
        simp only [Option.some.injEq] at e
        exact q (h.inj j i hj hA (e2 ▸ e.symm)), ne 5 (by decide) k e⟩).mono fun _ x => .inl x
  · rcases hk with hk | hk
    · exact hlt k hk
    · exact hk.2
  · simp only [Option.some.injEq] at e
    subst e
    exact .inl (h.file i hA).fp
  · rcases hk with hk | hk
    · exact .inl hk
    · exact .inr hk.1

set_option maxHeartbeats 1000000 in
set_option maxRecDepth 100000 in
theorem rsyncDir_any (p : Nat) (σ : DS) (F A : Nat → Prop) (loc : Nat → Nat) (lv wv : Value) (w : World) (h : RefAt w p σ F A loc lv wv) (hi : Inv σ) :
    Calls Tryz.prog 32 #[ptr p] w fun e w' => e = .returned (.int .i64 σ.syncDir.1) ∧ Nxt w p σ.syncDir.2 F w' := by
  have k1 := rcall_any p σ.room lv wv σ.c w h.blk hi.ok
  have HC : Hid (∀ {w1 w2 : World}, Dk w1 p σ.room lv wv σ.c.cc → w.grownBy w1 (some p) → Below w1.heap.size w1 w2 → Nxt w p σ.cnt F w2) := fun a b c => nxt_call h a b c
  have HN : Hid (σ.dir.length ≤ 2 ^ 40) := by have h1 := hi.dl; have h2 := hi.ok.2.1; show _ ≤ _; omega
  have HR : Hid (∀ {w1 : World}, Dk w1 p σ.room lv wv σ.c.cc → w.grownBy w1 (some p) → RefAt w1 p σ.cnt F A loc lv wv) := fun a b => h.disk b a
  have H2 : Hid (σ.was.length ≤ 2 ^ 40) := by have h1 := hi.wl; have h2 := hi.ok.2.1; show _ ≤ _; omega
  have HK : Hid (∀ {w1 : World}, w.grownBy w1 (some p) → Kept F w w1) := fun b => Kept.grown b fun k e => by simp only [Option.some.injEq] at e; subst e; exact .inl h.fp
  have k3 := fun w1 e => rend_any e σ.c.cl w1
  unfold ptr at *
  rcases ce_cases σ.c with hE | hE | hE
  · have hr : σ.syncDir = (endE 10 σ.c.cl, σ.cnt) := by rw [DS.syncDir, hE]; rfl
    rw [hr]
    rw [hE] at k1
    generalize σ.c.cl = L at k1 k3 ⊢
    clear hr hE h hi
    go_enter Tryz.func32, Tryz.ntmps32
    go_wp2_with (first | (go_at_call 68; refine k1.mono ?_; rintro e w1 ⟨rfl, hd1, hg1⟩) | (go_at_call 70; refine (k3 _ _).mono ?_; rintro e w3 ⟨rfl, rfl⟩))
    go_ret
    exact ⟨rfl, HC.out hd1 hg1 (Below.refl _ _)⟩
  · have hr : σ.syncDir = (endE 9 σ.c.cl, σ.cnt) := by rw [DS.syncDir, hE]; rfl
    rw [hr]
    rw [hE] at k1
    generalize σ.c.cl = L at k1 k3 ⊢
    clear hr hE h hi
    go_enter Tryz.func32, Tryz.ntmps32
    go_wp2_with (first | (go_at_call 68; refine k1.mono ?_; rintro e w1 ⟨rfl, hd1, hg1⟩) | (go_at_call 70; refine (k3 _ _).mono ?_; rintro e w3 ⟨rfl, rfl⟩))
    go_ret
    exact ⟨rfl, HC.out hd1 hg1 (Below.refl _ _)⟩
  · rw [hE] at k1
    cases hL : σ.c.cl with
    | true =>
      have hr : σ.syncDir = (10, σ.cnt) := by rw [DS.syncDir, hE, hL]; rfl
      rw [hr]
      rw [hL] at k1 k3
      clear hr hE h hi hL
      go_enter Tryz.func32, Tryz.ntmps32
      go_wp2_with (first | (go_at_call 68; refine k1.mono ?_; rintro e w1 ⟨rfl, hd1, hg1⟩) | (go_at_call 70; refine (k3 _ _).mono ?_; rintro e w3 ⟨rfl, rfl⟩))
      go_ret
      exact ⟨rfl, HC.out hd1 hg1 (Below.refl _ _)⟩
    | false =>
      have hr : σ.syncDir = (0, { σ.cnt with was := [σ.dir] }) := by rw [DS.syncDir, hE, hL]; rfl
      rw [hr]
      rw [hL] at k1
      have k6 : ∀ {w1 : World}, Dk w1 p σ.room lv wv σ.c.cc → w.grownBy w1 (some p) → _ := fun {w1} a b => rcopied_any F loc lv σ.dir w1 (h.disk b a).dir HN.out
      clear hr hE h hi hL
      go_enter Tryz.func32, Tryz.ntmps32
      go_wp2_with (first | (go_at_call 68; refine k1.mono ?_; rintro e w1 ⟨rfl, hd1, hg1⟩; have c1 := cell_of hd1 1; have f2 := frozen_of hd1 2; have c2 := cell_of hd1 2; simp only [List.getElem?_toArray, List.getElem?_cons_succ, List.getElem?_cons_zero] at c1 c2) | (go_at_call 74; refine (k6 hd1 hg1).mono ?_; rintro e w2 ⟨v2, rfl, r2, b2⟩; obtain ⟨o1, o2, o3, rfl⟩ := DRow.slice r2; have c3 := cell_later b2 c2; have f3 : w2.frozen? ⟨p, 2, none⟩ = false := (b2.frozen hd1.ty.lt).trans f2; have hp2 : p < w2.heap.size := Nat.lt_of_lt_of_le hd1.ty.lt b2.size))
      go_ret
      refine ⟨rfl, Nxt.trans (HK.out hg1) (fun _ x => .inl x) ?_⟩
      have hn := nx_sure (HR.out hd1 hg1) b2 r2 _ rfl
      rw [World.setCell_alloc_past _ _ _ _ hp2] at hn
      exact hn

set_option maxHeartbeats 1000000 in
set_option maxRecDepth 100000 in
theorem rsync_any (p : Nat) (σ : DS) (F A : Nat → Prop) (loc : Nat → Nat) (lv wv : Value) (s : ByteArray) (w : World) (h : RefAt w p σ F A loc lv wv) (hi : Inv σ) :
    Calls Tryz.prog 29 #[ptr p, .string s] w fun e w' => e = .returned (.int .i64 (σ.sync s).1) ∧ Nxt w p (σ.sync s).2 F w' := by
  have k1 := rcall_any p σ.room lv wv σ.c w h.blk hi.ok
  have HC : Hid (∀ {w1 w2 : World}, Dk w1 p σ.room lv wv σ.c.cc → w.grownBy w1 (some p) → Below w1.heap.size w1 w2 → Nxt w p σ.cnt F w2) := fun a b c => nxt_call h a b c
  have HN : Hid (σ.dir.length ≤ 2 ^ 40) := by have h1 := hi.dl; have h2 := hi.ok.2.1; show _ ≤ _; omega
  have HR : Hid (∀ {w1 : World}, Dk w1 p σ.room lv wv σ.c.cc → w.grownBy w1 (some p) → RefAt w1 p σ.cnt F A loc lv wv) := fun a b => h.disk b a
  have H2 : Hid (σ.was.length ≤ 2 ^ 40) := by have h1 := hi.wl; have h2 := hi.ok.2.1; show _ ≤ _; omega
  have HK : Hid (∀ {w1 : World}, w.grownBy w1 (some p) → Kept F w w1) := fun b => Kept.grown b fun k e => by simp only [Option.some.injEq] at e; subst e; exact .inl h.fp
  have k3 := fun w1 e => rend_any e σ.c.cl w1
  unfold ptr at *
  rcases ce_cases σ.c with hE | hE | hE
  · have hr : σ.sync s = (endE 10 σ.c.cl, σ.cnt) := by rw [DS.sync, hE]; rfl
    rw [hr]
    rw [hE] at k1
    generalize σ.c.cl = L at k1 k3 ⊢
    clear hr hE h hi
    go_enter Tryz.func29, Tryz.ntmps29
    go_wp2_with (first | (go_at_call 68; refine k1.mono ?_; rintro e w1 ⟨rfl, hd1, hg1⟩) | (go_at_call 70; refine (k3 _ _).mono ?_; rintro e w3 ⟨rfl, rfl⟩))
    go_ret
    exact ⟨rfl, HC.out hd1 hg1 (Below.refl _ _)⟩
  · have hr : σ.sync s = (endE 9 σ.c.cl, σ.cnt) := by rw [DS.sync, hE]; rfl
    rw [hr]
    rw [hE] at k1
    generalize σ.c.cl = L at k1 k3 ⊢
    clear hr hE h hi
    go_enter Tryz.func29, Tryz.ntmps29
    go_wp2_with (first | (go_at_call 68; refine k1.mono ?_; rintro e w1 ⟨rfl, hd1, hg1⟩) | (go_at_call 70; refine (k3 _ _).mono ?_; rintro e w3 ⟨rfl, rfl⟩))
    go_ret
    exact ⟨rfl, HC.out hd1 hg1 (Below.refl _ _)⟩
  · rw [hE] at k1
    cases hL : σ.c.cl with
    | true =>
      have hr : σ.sync s = (10, σ.cnt) := by rw [DS.sync, hE, hL]; rfl
      rw [hr]
      rw [hL] at k1 k3
      clear hr hE h hi hL
      go_enter Tryz.func29, Tryz.ntmps29
      go_wp2_with (first | (go_at_call 68; refine k1.mono ?_; rintro e w1 ⟨rfl, hd1, hg1⟩) | (go_at_call 70; refine (k3 _ _).mono ?_; rintro e w3 ⟨rfl, rfl⟩))
      go_ret
      exact ⟨rfl, HC.out hd1 hg1 (Below.refl _ _)⟩
    | false =>
      rw [hL] at k1
      have k4 : ∀ {w1 : World}, Dk w1 p σ.room lv wv σ.c.cc → w.grownBy w1 (some p) → Calls Tryz.prog 47 #[.pointer (some ⟨p, 0, none⟩), .string s] w1 fun e w' => e = .returned (optp loc (fnd σ.dir s)) ∧ Below w1.heap.size w1 w' := fun a b => rfind_any p σ.room lv wv σ.c.cc F loc σ.dir s _ a (h.disk b a).dir HN.out
      cases hf : fnd σ.dir s with
      | none =>
        have hr : σ.sync s = (7, σ.cnt) := by rw [DS.sync, hE, hL, hf]; rfl
        rw [hr]
        rw [hf] at k4
        simp only [optp] at k4
        clear hr hE h hi hL hf
        go_enter Tryz.func29, Tryz.ntmps29
        go_wp2_with (first | (go_at_call 68; refine k1.mono ?_; rintro e w1 ⟨rfl, hd1, hg1⟩) | (go_at_call 47; refine (k4 hd1 hg1).mono ?_; rintro e w4 ⟨rfl, hb4⟩))
        go_ret
        exact ⟨rfl, HC.out hd1 hg1 hb4⟩
      | some i =>
        have hr : σ.sync s = (0, { σ.cnt with fl := upd σ.fl i ((σ.fl i).1, (σ.fl i).1.length) }) := by rw [DS.sync, hE, hL, hf]; rfl
        rw [hr]
        rw [hf] at k4
        have HA : Hid (A i) := by obtain ⟨a, ha⟩ := fnd_mem hf; exact h.al i (.inl ⟨a, ha⟩)
        have HO := (hi.fl i).2.2
        have hle := (hi.fl i).1
        have HO2 : Hid (Okb (σ.fl i).1) := HO
        have HLE : Hid ((σ.fl i).1.length ≤ 4194304) := hle
        simp only [optp, ptr] at k4
        clear hr hE h hi hL hf HO hle
        go_enter Tryz.func29, Tryz.ntmps29
        go_wp2_with (first | (go_at_call 68; refine k1.mono ?_; rintro e w1 ⟨rfl, hd1, hg1⟩) | (go_at_call 47; refine (k4 hd1 hg1).mono ?_; rintro e w4 ⟨rfl, hb4⟩; obtain ⟨dv, x1, x2, x3⟩ := (((HR.out hd1 hg1).later hb4).file i HA.out).ex; obtain ⟨ao, cap, rfl, x4, x5, x6, x7⟩ := x2.byt HO2.out; have X1 := Hid.intro x1; have y0 := cell_of x1 0; have y1 := cell_of x1 1; have y2 := frozen_of x1 1; simp only [List.getElem?_toArray, List.getElem?_cons_succ, List.getElem?_cons_zero] at y0 y1; clear x1 x4 x5 x6 x7))
        go_ret
        exact ⟨rfl, Nxt.trans (HK.out hg1) (fun _ x => .inl x) (Nxt.start hb4 (nx_file ((HR.out hd1 hg1).later hb4) HA.out (grown_set _ _ _ _) (heap_set X1.out 1 _) (owns_grown x2 (grown_set _ _ _ _) fun g e t => by simp only [Option.some.injEq] at e; subst e; exact absurd rfl (TyOf.ne ⟨_, _, X1.out⟩ t (by decide))) fun b e => .inl (x3 b e)))⟩

set_option maxHeartbeats 1000000 in
theorem rsetFuse_any (p : Nat) (σ : DS) (F A : Nat → Prop) (loc : Nat → Nat) (lv wv : Value) (n : Int) (w : World) (h : RefAt w p σ F A loc lv wv) :
    Calls Tryz.prog 33 #[ptr p, .int .i64 n] w fun e w' => e = .returned (.tuple #[]) ∧ Nxt w p (σ.setFuse n) F w' := by
  have HD : Hid (Dk w p σ.room lv wv σ.c) := h.blk
  have c4 := cell_of h.blk 4
  have f4 := frozen_of h.blk 4
  simp only [List.getElem?_toArray, List.getElem?_cons_succ, List.getElem?_cons_zero] at c4
  have HR : Hid (∀ {w1 : World} {c : Cn}, Dk w1 p σ.room lv wv c → w.grownBy w1 (some p) → Nxt w p { σ with c := c } F w1) := fun a b => ⟨F, A, loc, lv, wv, h.disk b a, Kept.grown b fun k e => by simp only [Option.some.injEq] at e; subst e; exact .inl h.fp, fun k hk => .inl hk⟩
  unfold ptr
  clear h
  by_cases q : 0 < n
  · have e : σ.setFuse n = { σ with c := { σ.c with fuse := n } } := by unfold DS.setFuse; rw [show max 0 n = n by omega]
    rw [e]
    clear e
    go_enter Tryz.func33, Tryz.ntmps33
    go_wp2_with fail
    go_end0
    exact ⟨rfl, HR.out (HD.out.set4 _) (grown_set _ _ _ _)⟩
  · have q' : n ≤ 0 := by omega
    have e : σ.setFuse n = { σ with c := { σ.c with fuse := 0 } } := by unfold DS.setFuse; rw [show max 0 n = 0 by omega]
    rw [e]
    clear e
    go_enter Tryz.func33, Tryz.ntmps33
    go_wp2_with fail
    go_end0
    exact ⟨rfl, HR.out (HD.out.set4 _) (grown_set _ _ _ _)⟩
set_option maxHeartbeats 1000000 in
theorem rsetFault_any (p : Nat) (σ : DS) (F A : Nat → Prop) (loc : Nat → Nat) (lv wv : Value) (f n : Int) (w : World) (h : RefAt w p σ F A loc lv wv) :
    Calls Tryz.prog 34 #[ptr p, .int .i64 f, .int .i64 n] w fun e w' => e = .returned (.tuple #[]) ∧ Nxt w p (σ.setFault f n) F w' := by
  have HD : Hid (Dk w p σ.room lv wv σ.c) := h.blk
  have c5 := cell_of h.blk 5
  have f5 := frozen_of h.blk 5
  have c6 := cell_of h.blk 6
  have f6 := frozen_of h.blk 6
  simp only [List.getElem?_toArray, List.getElem?_cons_succ, List.getElem?_cons_zero] at c5 c6
  have HR : Hid (∀ {w1 : World} {c : Cn}, Dk w1 p σ.room lv wv c → w.grownBy w1 (some p) → Nxt w p { σ with c := c } F w1) := fun a b => ⟨F, A, loc, lv, wv, h.disk b a, Kept.grown b fun k e => by simp only [Option.some.injEq] at e; subst e; exact .inl h.fp, fun k hk => .inl hk⟩
  unfold ptr
  clear h
  by_cases q : f < 1
  · have e : σ.setFault f n = { σ with c := { σ.c with wait := 0, fails := 0 } } := by unfold DS.setFault; simp only [q, true_or, if_true]
    rw [e]
    clear e
    go_enter Tryz.func34, Tryz.ntmps34
    go_wp2_with fail
    go_end0
    exact ⟨rfl, HR.out ((((HD.out.set5 _).set6 _).set5 _).set6 _) (grown_trans (grown_trans (grown_trans (grown_set _ _ _ _) (grown_set _ _ _ _)) (grown_set _ _ _ _)) (grown_set _ _ _ _))⟩
  · have q' : decide (f < 1) = false := decide_eq_false q
    have q1 : 1 ≤ f := by omega
    by_cases r : n < 1
    · have e : σ.setFault f n = { σ with c := { σ.c with wait := 0, fails := 0 } } := by unfold DS.setFault; simp only [r, or_true, if_true]
      rw [e]
      clear e q
      go_enter Tryz.func34, Tryz.ntmps34
      go_wp2_with fail
      go_end0
      exact ⟨rfl, HR.out ((((HD.out.set5 _).set6 _).set5 _).set6 _) (grown_trans (grown_trans (grown_trans (grown_set _ _ _ _) (grown_set _ _ _ _)) (grown_set _ _ _ _)) (grown_set _ _ _ _))⟩
    · have r' : decide (n < 1) = false := decide_eq_false r
      have r1 : 1 ≤ n := by omega
      have e : σ.setFault f n = { σ with c := { σ.c with wait := f, fails := n } } := by unfold DS.setFault; simp only [q, r, or_self, if_false]
      rw [e]
      clear e q r
      go_enter Tryz.func34, Tryz.ntmps34
      go_wp2_with fail
      go_end0
      exact ⟨rfl, HR.out ((HD.out.set5 _).set6 _) (grown_trans (grown_set _ _ _ _) (grown_set _ _ _ _))⟩
end Go.Proofs.YtligofmcmjblpaaGreat
