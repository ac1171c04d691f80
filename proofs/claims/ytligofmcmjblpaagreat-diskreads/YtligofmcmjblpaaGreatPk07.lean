import Derived.BigQuiet
import Derived.Test.YtligofmcmjblpaaGreatPk06
/- The document's own disk: Remove, Rename, Sync, SyncDir, the fuse and the fault. -/
namespace Go.Proofs.YtligofmcmjblpaaGreat
open Go.RowKit
set_option linter.unusedVariables false
set_option linter.unusedSimpArgs false

set_option maxHeartbeats 1000000 in
set_option maxRecDepth 100000 in
theorem rremove_any (p : Nat) (σ : DS) (F A : Nat → Prop) (loc : Nat → Nat) (lv wv : Value) (s : ByteArray) (w : World) (h : RefAt w p σ F A loc lv wv) (hi : Inv σ) :
    Calls Tryz.prog 31 #[ptr p, .string s] w fun e w' => e = .returned (.int .i64 (σ.remove s).1) ∧ Nxt w p (σ.remove s).2 F w' := by
  have k1 := rcall_any p σ.room lv wv σ.c w h.blk hi.ok
  have HC : Hid (∀ {w1 w2 : World}, Dk w1 p σ.room lv wv σ.c.cc → w.grownBy w1 (some p) → Below w1.heap.size w1 w2 → Nxt w p σ.cnt F w2) := fun a b c => nxt_call h a b c
  have HN : Hid (σ.dir.length ≤ 2 ^ 40) := by have h1 := hi.dl; have h2 := hi.ok.2.1; show _ ≤ _; omega
  have HR : Hid (∀ {w1 : World}, Dk w1 p σ.room lv wv σ.c.cc → w.grownBy w1 (some p) → RefAt w1 p σ.cnt F A loc lv wv) := fun a b => h.disk b a
  have H2 : Hid (σ.was.length ≤ 2 ^ 40) := by have h1 := hi.wl; have h2 := hi.ok.2.1; show _ ≤ _; omega
  have HK : Hid (∀ {w1 : World}, w.grownBy w1 (some p) → Kept F w w1) := fun b => Kept.grown b fun k e => by simp only [Option.some.injEq] at e; subst e; exact .inl h.fp
  unfold ptr at *
  rcases ce_cases σ.c with hE | hE | hE
  · have hr : σ.remove s = (10, σ.cnt) := by rw [DS.remove, hE]; rfl
    rw [hr]
    rw [hE] at k1
    clear hr hE h hi
    go_enter Tryz.func31, Tryz.ntmps31
    go_wp2_with (go_at_call 68; refine k1.mono ?_; rintro e w1 ⟨rfl, hd1, hg1⟩)
    go_ret
    exact ⟨rfl, HC.out hd1 hg1 (Below.refl _ _)⟩
  · have hr : σ.remove s = (9, σ.cnt) := by rw [DS.remove, hE]; rfl
    rw [hr]
    rw [hE] at k1
    clear hr hE h hi
    go_enter Tryz.func31, Tryz.ntmps31
    go_wp2_with (go_at_call 68; refine k1.mono ?_; rintro e w1 ⟨rfl, hd1, hg1⟩)
    go_ret
    exact ⟨rfl, HC.out hd1 hg1 (Below.refl _ _)⟩
  · have k3 := fun w1 e => rend_any e σ.c.cl w1
    rw [hE] at k1
    have k4 : ∀ {w1 : World}, Dk w1 p σ.room lv wv σ.c.cc → w.grownBy w1 (some p) → Calls Tryz.prog 47 #[.pointer (some ⟨p, 0, none⟩), .string s] w1 fun e w' => e = .returned (optp loc (fnd σ.dir s)) ∧ Below w1.heap.size w1 w' := fun a b => rfind_any p σ.room lv wv σ.c.cc F loc σ.dir s _ a (h.disk b a).dir HN.out
    cases hf : fnd σ.dir s with
    | none =>
      have hr : σ.remove s = (endE 7 σ.c.cl, σ.cnt) := by rw [DS.remove, hE, hf]; rfl
      rw [hr]
      rw [hf] at k4
      simp only [optp] at k4
      generalize σ.c.cl = L at k1 k3 ⊢
      clear hr hE h hi hf
      go_enter Tryz.func31, Tryz.ntmps31
      go_wp2_with (first | (go_at_call 68; refine k1.mono ?_; rintro e w1 ⟨rfl, hd1, hg1⟩) | (go_at_call 47; refine (k4 hd1 hg1).mono ?_; rintro e w4 ⟨rfl, hb4⟩) | (go_at_call 70; refine (k3 _ _).mono ?_; rintro e w3 ⟨rfl, rfl⟩))
      go_ret
      exact ⟨rfl, HC.out hd1 hg1 hb4⟩
    | some i =>
      have hr : σ.remove s = (endE 0 σ.c.cl, σ.cnt.chg (drp σ.dir s)) := by rw [DS.remove, hE, hf]; rfl
      rw [hr]
      rw [hf] at k4
      have hdl := drp_le σ.dir s
      have H1 : Hid ((drp σ.dir s).length ≤ 2 ^ 40) := by have := HN.out; show _ ≤ _; omega
      have HP := fun {w4 : World} (h4 : RefAt w4 p σ.cnt F A loc lv wv) => rdrop_nx h4 s HN.out
      have HQ := fun {w5 : World} {F5 A5 : Nat → Prop} {loc5 : Nat → Nat} {lv5 wv5 : Value} (h5 : RefAt w5 p { σ.cnt with dir := drp σ.dir s } F5 A5 loc5 lv5 wv5) => rchg_nx h5 H1.out H2.out
      simp only [optp] at k4
      unfold ptr at *
      generalize σ.c.cl = L at k1 k3 ⊢
      clear hr hE h hi hf hdl
      go_enter Tryz.func31, Tryz.ntmps31
      go_wp2_with (first | (go_at_call 68; refine k1.mono ?_; rintro e w1 ⟨rfl, hd1, hg1⟩) | (go_at_call 47; refine (k4 hd1 hg1).mono ?_; rintro e w4 ⟨rfl, hb4⟩) | (go_at_call 70; refine (k3 _ _).mono ?_; rintro e w3 ⟨rfl, rfl⟩) | (go_at_call 73; refine (HP ((HR.out hd1 hg1).later hb4)).mono ?_; rintro e w5 ⟨rfl, F5, lv5, r5, m5, s5⟩) | (go_at_call 72; refine (HQ r5).mono ?_; rintro e w6 ⟨rfl, n6⟩))
      go_ret
      exact ⟨rfl, Nxt.trans (HK.out hg1) (fun _ x => .inl x) (Nxt.start hb4 (Nxt.trans m5 s5 n6))⟩

set_option maxHeartbeats 1000000 in
set_option maxRecDepth 100000 in
theorem rrename_any (p : Nat) (σ : DS) (F A : Nat → Prop) (loc : Nat → Nat) (lv wv : Value) (s t : ByteArray) (w : World) (h : RefAt w p σ F A loc lv wv) (hi : Inv σ) (hs : t.size ≤ 2 ^ 63 - 1) :
    Calls Tryz.prog 30 #[ptr p, .string s, .string t] w fun e w' => e = .returned (.int .i64 (σ.rename s t).1) ∧ Nxt w p (σ.rename s t).2 F w' := by
  have k1 := rcall_any p σ.room lv wv σ.c w h.blk hi.ok
  have HC : Hid (∀ {w1 w2 : World}, Dk w1 p σ.room lv wv σ.c.cc → w.grownBy w1 (some p) → Below w1.heap.size w1 w2 → Nxt w p σ.cnt F w2) := fun a b c => nxt_call h a b c
  have HN : Hid (σ.dir.length ≤ 2 ^ 40) := by have h1 := hi.dl; have h2 := hi.ok.2.1; show _ ≤ _; omega
  have HR : Hid (∀ {w1 : World}, Dk w1 p σ.room lv wv σ.c.cc → w.grownBy w1 (some p) → RefAt w1 p σ.cnt F A loc lv wv) := fun a b => h.disk b a
  have H2 : Hid (σ.was.length ≤ 2 ^ 40) := by have h1 := hi.wl; have h2 := hi.ok.2.1; show _ ≤ _; omega
  have HK : Hid (∀ {w1 : World}, w.grownBy w1 (some p) → Kept F w w1) := fun b => Kept.grown b fun k e => by simp only [Option.some.injEq] at e; subst e; exact .inl h.fp
  unfold ptr at *
  rcases ce_cases σ.c with hE | hE | hE
  · have hr : σ.rename s t = (10, σ.cnt) := by rw [DS.rename, hE]; rfl
    rw [hr]
    rw [hE] at k1
    clear hr hE h hi
    go_enter Tryz.func30, Tryz.ntmps30
    go_wp2_with (go_at_call 68; refine k1.mono ?_; rintro e w1 ⟨rfl, hd1, hg1⟩)
    go_ret
    exact ⟨rfl, HC.out hd1 hg1 (Below.refl _ _)⟩
  · have hr : σ.rename s t = (9, σ.cnt) := by rw [DS.rename, hE]; rfl
    rw [hr]
    rw [hE] at k1
    clear hr hE h hi
    go_enter Tryz.func30, Tryz.ntmps30
    go_wp2_with (go_at_call 68; refine k1.mono ?_; rintro e w1 ⟨rfl, hd1, hg1⟩)
    go_ret
    exact ⟨rfl, HC.out hd1 hg1 (Below.refl _ _)⟩
  · have k3 := fun w1 e => rend_any e σ.c.cl w1
    have k2 := fun w1 => rmay_any t w1 hs
    rw [hE] at k1
    have k4 : ∀ {w1 : World}, Dk w1 p σ.room lv wv σ.c.cc → w.grownBy w1 (some p) → Calls Tryz.prog 47 #[.pointer (some ⟨p, 0, none⟩), .string s] w1 fun e w' => e = .returned (optp loc (fnd σ.dir s)) ∧ Below w1.heap.size w1 w' := fun a b => rfind_any p σ.room lv wv σ.c.cc F loc σ.dir s _ a (h.disk b a).dir HN.out
    cases hf : fnd σ.dir s with
    | none =>
      have hr : σ.rename s t = (endE 7 σ.c.cl, σ.cnt) := by rw [DS.rename, hE, hf]; rfl
      rw [hr]
      rw [hf] at k4
      simp only [optp] at k4
      generalize σ.c.cl = L at k1 k3 ⊢
      clear hr hE h hi hf
      go_enter Tryz.func30, Tryz.ntmps30
      go_wp2_with (first | (go_at_call 68; refine k1.mono ?_; rintro e w1 ⟨rfl, hd1, hg1⟩) | (go_at_call 47; refine (k4 hd1 hg1).mono ?_; rintro e w4 ⟨rfl, hb4⟩) | (go_at_call 70; refine (k3 _ _).mono ?_; rintro e w3 ⟨rfl, rfl⟩))
      go_ret
      exact ⟨rfl, HC.out hd1 hg1 hb4⟩
    | some i =>
      rw [hf] at k4
      cases hm : mayN t with
      | false =>
        have hr : σ.rename s t = (endE 15 σ.c.cl, σ.cnt) := by rw [DS.rename, hE, hf]; simp [hm]
        rw [hr]
        rw [hm] at k2
        simp only [optp, ptr] at k4
        generalize σ.c.cl = L at k1 k3 ⊢
        clear hr hE h hi hf hm
        go_enter Tryz.func30, Tryz.ntmps30
        go_wp2_with (first | (go_at_call 68; refine k1.mono ?_; rintro e w1 ⟨rfl, hd1, hg1⟩) | (go_at_call 47; refine (k4 hd1 hg1).mono ?_; rintro e w4 ⟨rfl, hb4⟩) | (go_at_call 69; refine (k2 _).mono ?_; rintro e w2 ⟨rfl, rfl⟩) | (go_at_call 70; refine (k3 _ _).mono ?_; rintro e w3 ⟨rfl, rfl⟩))
        go_ret
        exact ⟨rfl, HC.out hd1 hg1 hb4⟩
      | true =>
        rw [hm] at k2
        by_cases q : (s.toList == t.toList) = true
        · have hr : σ.rename s t = (endE 0 σ.c.cl, σ.cnt) := by rw [DS.rename, hE, hf]; simp [hm]; intro hq; exact absurd (by simpa using q) hq
          rw [hr]
          simp only [optp, ptr] at k4
          generalize σ.c.cl = L at k1 k3 ⊢
          clear hr hE h hi hf hm
          go_enter Tryz.func30, Tryz.ntmps30
          go_wp2_with (first | (go_at_call 68; refine k1.mono ?_; rintro e w1 ⟨rfl, hd1, hg1⟩) | (go_at_call 47; refine (k4 hd1 hg1).mono ?_; rintro e w4 ⟨rfl, hb4⟩) | (go_at_call 69; refine (k2 _).mono ?_; rintro e w2 ⟨rfl, rfl⟩) | (go_at_call 70; refine (k3 _ _).mono ?_; rintro e w3 ⟨rfl, rfl⟩))
          go_ret
          exact ⟨rfl, HC.out hd1 hg1 hb4⟩
        · have q' : (s.toList == t.toList) = false := by simpa using q
          have hr : σ.rename s t = (endE 0 σ.c.cl, σ.cnt.chg (pt (drp σ.dir s) t i)) := by rw [DS.rename, hE, hf]; simp only [hm, q']; rfl
          rw [hr]
          have hdl := drp_le σ.dir s
          have hpl := pt_le (drp σ.dir s) t i
          have H1 : Hid ((drp σ.dir s).length ≤ 2 ^ 40) := by have := HN.out; show _ ≤ _; omega
          have H3 : Hid ((pt (drp σ.dir s) t i).length ≤ 2 ^ 40) := by have h1 := hi.dl; have h2 := hi.ok.2.1; show _ ≤ _; omega
          have HA : Hid (A i) := by obtain ⟨a, ha⟩ := fnd_mem hf; exact h.al i (.inl ⟨a, ha⟩)
          have HP := fun {w4 : World} (h4 : RefAt w4 p σ.cnt F A loc lv wv) => rdrop_nx h4 s HN.out
          have HQ := fun {w5 : World} {F5 : Nat → Prop} {lv5 : Value} (h5 : RefAt w5 p { σ.cnt with dir := drp σ.dir s } F5 A loc lv5 wv) => rput_nx h5 t i HA.out H1.out
          have HS := fun {w6 : World} {F6 A6 : Nat → Prop} {loc6 : Nat → Nat} {lv6 wv6 : Value} (h6 : RefAt w6 p { σ.cnt with dir := pt (drp σ.dir s) t i } F6 A6 loc6 lv6 wv6) => rchg_nx h6 H3.out H2.out
          simp only [optp] at k4
          unfold ptr at *
          generalize σ.c.cl = L at k1 k3 ⊢
          clear hr hE h hi hf hdl hpl hm q
          go_enter Tryz.func30, Tryz.ntmps30
          go_wp2_with (first | (go_at_call 68; refine k1.mono ?_; rintro e w1 ⟨rfl, hd1, hg1⟩) | (go_at_call 47; refine (k4 hd1 hg1).mono ?_; rintro e w4 ⟨rfl, hb4⟩) | (go_at_call 69; refine (k2 _).mono ?_; rintro e w2 ⟨rfl, rfl⟩) | (go_at_call 70; refine (k3 _ _).mono ?_; rintro e w3 ⟨rfl, rfl⟩) | (go_at_call 73; refine (HP ((HR.out hd1 hg1).later hb4)).mono ?_; rintro e w5 ⟨rfl, F5, lv5, r5, m5, s5⟩) | (go_at_call 71; refine (HQ r5).mono ?_; rintro e w6 ⟨rfl, F6, A6, loc6, lv6, wv6, r6, m6, s6⟩) | (go_at_call 72; refine (HS r6).mono ?_; rintro e w7 ⟨rfl, n7⟩))
          go_ret
          exact ⟨rfl, Nxt.trans (HK.out hg1) (fun _ x => .inl x) (Nxt.start hb4 (Nxt.trans m5 s5 (Nxt.trans m6 s6 n7)))⟩

end Go.Proofs.YtligofmcmjblpaaGreat

/- The document's own disk: Sync, SyncDir, the fuse and the fault. -/
namespace Go.Proofs.YtligofmcmjblpaaGreat
open Go.RowKit
set_option linter.unusedVariables false
set_option linter.unusedSimpArgs false

theorem _root_.Go.RowKit.Hid.intro {p : Prop} (h : p) : Hid p := h
/-- The directory, as it is, is sure. -/
theorem nx_sure {w w2 : World} {p : Nat} {σ : DS} {F A : Nat → Prop} {loc : Nat → Nat} {lv wv u : Value} (h : RefAt w p σ F A loc lv wv) (hb : Below w.heap.size w w2) (hr : DRow w.heap.size w2 loc u σ.dir) (g : Nat) (hg : g = w2.heap.size) :
    Nxt w p { σ with was := [σ.dir] } F ((w2.alloc (.cells #[u] 53)).setCell ⟨p, 2, none⟩ (.slice (some ⟨g, 0, none⟩) 1 1)) := by
  subst hg
  have hb2 := hb.alloc hb.size (.cells #[u] 53)
  have h2 := h.later hb2
  have hp : p < w.heap.size := h.blk.ty.lt
  have hsz := hb.size
  have hgs := grown_set (w2.alloc (.cells #[u] 53)) p 2 (.slice (some ⟨w2.heap.size, 0, none⟩) 1 1)
  have hnew : ((w2.alloc (.cells #[u] 53)).setCell ⟨p, 2, none⟩ (.slice (some ⟨w2.heap.size, 0, none⟩) 1 1)).heap[w2.heap.size]? = some (.cells #[u] 53 (0, 0)) := by
    rw [Below.heap_setCell _ _ _ _ (by show w2.heap.size ≠ p; omega), heap_alloc_new]
  refine ⟨fun k => F k ∨ (w.heap.size ≤ k ∧ k < w2.heap.size + 1), A, loc, lv, .slice (some ⟨w2.heap.size, 0, none⟩) 1 1, ⟨.inl h.fp, h2.blk.set2 _, (h2.dir.grown hgs (h2.pne 102 (by decide))).mono fun _ x => .inl x, ⟨[u], ⟨rfl, .inr ⟨w2.heap.size, 1, #[u], rfl, Nat.zero_le _, hnew, Nat.le_refl _, by decide, rfl, rfl⟩⟩, fun g e => ?_, rfl, fun k x l hx hl => ?_⟩, fun i hi => ((h2.file i hi).grown hgs fun k e => ⟨?_, h2.pne 5 (by decide) k e⟩).mono fun _ x => .inl x, h.inj, fun k hk => ?_, fun i hi => ?_, h.nx⟩, ⟨hb2.os, hb2.tape, hb2.output, ?_, fun k hk hF => ?_⟩, fun k hk => ?_⟩
  · simp only [Value.ownBlock, Option.some.injEq] at e
    subst e
    exact .inr ⟨hsz, by omega⟩
  · have hk : k = 0 := by have := (List.getElem?_eq_some_iff.1 hx).1; simp at this; exact this
    subst hk
    simp at hx hl
    subst hx
    subst hl
    have : DRow w.heap.size ((w2.alloc (.cells #[u] 53)).setCell ⟨p, 2, none⟩ (.slice (some ⟨w2.heap.size, 0, none⟩) 1 1)) loc u σ.dir := ownsRow_setCell_below (World.ownsRow.alloc hr _) hp _
    exact this.dir fun k a b => .inr ⟨a, by simp [World.setCell] at b; omega⟩
  · simp only [Option.some.injEq] at e
    subst e
    exact TyOf.ne h2.blk.ty (h2.file i hi).ty (by decide)
  · have := h.lt k
    simp [World.setCell]
    rcases hk with hk | hk
    · have := this hk; omega
    · omega
  · rcases hi with hi | ⟨l, hl, s, hs⟩
    · exact h.al i (.inl hi)
    · simp at hl
      subst hl
      exact h.al i (.inl ⟨s, hs⟩)
  · simp [World.setCell]
    omega
  · rw [Below.heap_setCell _ _ _ _ (fun e => by have e' : k = p := e; subst e'; exact hF h.fp)]
    exact hb2.block k hk
  · rcases hk with hk | hk
    · exact .inl hk
    · exact .inr hk.1
/-- A file's bytes, and how many are sure. -/
theorem nx_file {w w' : World} {p : Nat} {σ : DS} {F A : Nat → Prop} {loc : Nat → Nat} {lv wv dv : Value} (h : RefAt w p σ F A loc lv wv) {i : Nat} (hA : A i) {data : List Int} {sure : Nat} (hg : w.grownBy w' (some (loc i))) (hb : w'.heap[loc i]? = some (.cells #[dv, .int .i64 (sure : Int)] 77 (0, 0)))
    (hr : Row 0 w' dv data) (ho : ∀ b, dv.ownBlock = some b → F b ∨ w.heap.size ≤ b) : Nxt w p { σ with fl := upd σ.fl i (data, sure) } F w' := by
  have hty := (h.file i hA).ty
  have ne : ∀ t, t ≠ 77 → ∀ g, some (loc i) = some g → ¬ TyOf w g t := fun t ht g e x => by
    simp only [Option.some.injEq] at e
    subst e
    exact absurd rfl (TyOf.ne hty x (Ne.symm ht))
  have hlt : ∀ k, F k → k < w'.heap.size := fun k hk => Nat.lt_of_lt_of_le (h.lt k hk) hg.size
  refine ⟨fun k => F k ∨ (w.heap.size ≤ k ∧ k < w'.heap.size), A, loc, lv, wv, ⟨.inl h.fp, ?_, (h.dir.grown hg (ne 102 (by decide))).mono fun _ x => .inl x, (h.was.grown hg fun g e => ⟨ne 102 (by decide) g e, ne 53 (by decide) g e⟩).mono fun _ x => .inl x, fun j hj => ?_, h.inj, fun k hk => ?_, h.al, h.nx⟩, Kept.grown hg fun k e => ?_, fun k hk => ?_⟩
  · unfold Dk
    rw [hg.block p h.blk.ty.lt fun e => by simp only [Option.some.injEq] at e; exact absurd e (TyOf.ne h.blk.ty hty (by decide))]
    exact h.blk
  · by_cases q : j = i
    · subst q
      simp only [upd, if_true]
      refine ⟨.inl (h.file j hA).fp, dv, hb, hr, fun b e => ?_⟩
      rcases ho b e with x | x
      · exact .inl x
      · exact .inr ⟨x, (World.ownsRow.lt hr b e).2⟩
    · simp only [upd, if_neg q]
      exact ((h.file j hj).grown hg fun k e => ⟨fun e2 => by
        simp only [Option.some.injEq] at e
        exact q (h.inj j i hj hA (e2 ▸ e.symm)), ne 5 (by decide) k e⟩).mono fun _ x => .inl x
  · rcases hk with hk | hk
    · exact hlt k hk
    · exact hk.2
  · simp only [Option.some.injEq] at e
    subst e
    exact .inl (h.file i hA).fp
  · rcases hk with hk | hk
    · exact .inl hk
    · exact .inr hk.1

set_option maxHeartbeats 1000000 in
set_option maxRecDepth 100000 in
theorem rsyncDir_any (p : Nat) (σ : DS) (F A : Nat → Prop) (loc : Nat → Nat) (lv wv : Value) (w : World) (h : RefAt w p σ F A loc lv wv) (hi : Inv σ) :
    Calls Tryz.prog 32 #[ptr p] w fun e w' => e = .returned (.int .i64 σ.syncDir.1) ∧ Nxt w p σ.syncDir.2 F w' := by
  have k1 := rcall_any p σ.room lv wv σ.c w h.blk hi.ok
  have HC : Hid (∀ {w1 w2 : World}, Dk w1 p σ.room lv wv σ.c.cc → w.grownBy w1 (some p) → Below w1.heap.size w1 w2 → Nxt w p σ.cnt F w2) := fun a b c => nxt_call h a b c
  have HN : Hid (σ.dir.length ≤ 2 ^ 40) := by have h1 := hi.dl; have h2 := hi.ok.2.1; show _ ≤ _; omega
  have HR : Hid (∀ {w1 : World}, Dk w1 p σ.room lv wv σ.c.cc → w.grownBy w1 (some p) → RefAt w1 p σ.cnt F A loc lv wv) := fun a b => h.disk b a
  have H2 : Hid (σ.was.length ≤ 2 ^ 40) := by have h1 := hi.wl; have h2 := hi.ok.2.1; show _ ≤ _; omega
  have HK : Hid (∀ {w1 : World}, w.grownBy w1 (some p) → Kept F w w1) := fun b => Kept.grown b fun k e => by simp only [Option.some.injEq] at e; subst e; exact .inl h.fp
  have k3 := fun w1 e => rend_any e σ.c.cl w1
  unfold ptr at *
  rcases ce_cases σ.c with hE | hE | hE
  · have hr : σ.syncDir = (endE 10 σ.c.cl, σ.cnt) := by rw [DS.syncDir, hE]; rfl
    rw [hr]
    rw [hE] at k1
    generalize σ.c.cl = L at k1 k3 ⊢
    clear hr hE h hi
    go_enter Tryz.func32, Tryz.ntmps32
    go_wp2_with (first | (go_at_call 68; refine k1.mono ?_; rintro e w1 ⟨rfl, hd1, hg1⟩) | (go_at_call 70; refine (k3 _ _).mono ?_; rintro e w3 ⟨rfl, rfl⟩))
    go_ret
    exact ⟨rfl, HC.out hd1 hg1 (Below.refl _ _)⟩
  · have hr : σ.syncDir = (endE 9 σ.c.cl, σ.cnt) := by rw [DS.syncDir, hE]; rfl
    rw [hr]
    rw [hE] at k1
    generalize σ.c.cl = L at k1 k3 ⊢
    clear hr hE h hi
    go_enter Tryz.func32, Tryz.ntmps32
    go_wp2_with (first | (go_at_call 68; refine k1.mono ?_; rintro e w1 ⟨rfl, hd1, hg1⟩) | (go_at_call 70; refine (k3 _ _).mono ?_; rintro e w3 ⟨rfl, rfl⟩))
    go_ret
    exact ⟨rfl, HC.out hd1 hg1 (Below.refl _ _)⟩
  · rw [hE] at k1
    cases hL : σ.c.cl with
    | true =>
      have hr : σ.syncDir = (10, σ.cnt) := by rw [DS.syncDir, hE, hL]; rfl
      rw [hr]
      rw [hL] at k1 k3
      clear hr hE h hi hL
      go_enter Tryz.func32, Tryz.ntmps32
      go_wp2_with (first | (go_at_call 68; refine k1.mono ?_; rintro e w1 ⟨rfl, hd1, hg1⟩) | (go_at_call 70; refine (k3 _ _).mono ?_; rintro e w3 ⟨rfl, rfl⟩))
      go_ret
      exact ⟨rfl, HC.out hd1 hg1 (Below.refl _ _)⟩
    | false =>
      have hr : σ.syncDir = (0, { σ.cnt with was := [σ.dir] }) := by rw [DS.syncDir, hE, hL]; rfl
      rw [hr]
      rw [hL] at k1
      have k6 : ∀ {w1 : World}, Dk w1 p σ.room lv wv σ.c.cc → w.grownBy w1 (some p) → _ := fun {w1} a b => rcopied_any F loc lv σ.dir w1 (h.disk b a).dir HN.out
      clear hr hE h hi hL
      go_enter Tryz.func32, Tryz.ntmps32
      go_wp2_with (first | (go_at_call 68; refine k1.mono ?_; rintro e w1 ⟨rfl, hd1, hg1⟩; have c1 := cell_of hd1 1; have f2 := frozen_of hd1 2; have c2 := cell_of hd1 2; simp only [List.getElem?_toArray, List.getElem?_cons_succ, List.getElem?_cons_zero] at c1 c2) | (go_at_call 74; refine (k6 hd1 hg1).mono ?_; rintro e w2 ⟨v2, rfl, r2, b2⟩; obtain ⟨o1, o2, o3, rfl⟩ := DRow.slice r2; have c3 := cell_later b2 c2; have f3 : w2.frozen? ⟨p, 2, none⟩ = false := (b2.frozen hd1.ty.lt).trans f2; have hp2 : p < w2.heap.size := Nat.lt_of_lt_of_le hd1.ty.lt b2.size))
      go_ret
      refine ⟨rfl, Nxt.trans (HK.out hg1) (fun _ x => .inl x) ?_⟩
      have hn := nx_sure (HR.out hd1 hg1) b2 r2 _ rfl
      rw [World.setCell_alloc_past _ _ _ _ hp2] at hn
      exact hn

set_option maxHeartbeats 1000000 in
set_option maxRecDepth 100000 in
theorem rsync_any (p : Nat) (σ : DS) (F A : Nat → Prop) (loc : Nat → Nat) (lv wv : Value) (s : ByteArray) (w : World) (h : RefAt w p σ F A loc lv wv) (hi : Inv σ) :
    Calls Tryz.prog 29 #[ptr p, .string s] w fun e w' => e = .returned (.int .i64 (σ.sync s).1) ∧ Nxt w p (σ.sync s).2 F w' := by
  have k1 := rcall_any p σ.room lv wv σ.c w h.blk hi.ok
  have HC : Hid (∀ {w1 w2 : World}, Dk w1 p σ.room lv wv σ.c.cc → w.grownBy w1 (some p) → Below w1.heap.size w1 w2 → Nxt w p σ.cnt F w2) := fun a b c => nxt_call h a b c
  have HN : Hid (σ.dir.length ≤ 2 ^ 40) := by have h1 := hi.dl; have h2 := hi.ok.2.1; show _ ≤ _; omega
  have HR : Hid (∀ {w1 : World}, Dk w1 p σ.room lv wv σ.c.cc → w.grownBy w1 (some p) → RefAt w1 p σ.cnt F A loc lv wv) := fun a b => h.disk b a
  have H2 : Hid (σ.was.length ≤ 2 ^ 40) := by have h1 := hi.wl; have h2 := hi.ok.2.1; show _ ≤ _; omega
  have HK : Hid (∀ {w1 : World}, w.grownBy w1 (some p) → Kept F w w1) := fun b => Kept.grown b fun k e => by simp only [Option.some.injEq] at e; subst e; exact .inl h.fp
  have k3 := fun w1 e => rend_any e σ.c.cl w1
  unfold ptr at *
  rcases ce_cases σ.c with hE | hE | hE
  · have hr : σ.sync s = (endE 10 σ.c.cl, σ.cnt) := by rw [DS.sync, hE]; rfl
    rw [hr]
    rw [hE] at k1
    generalize σ.c.cl = L at k1 k3 ⊢
    clear hr hE h hi
    go_enter Tryz.func29, Tryz.ntmps29
    go_wp2_with (first | (go_at_call 68; refine k1.mono ?_; rintro e w1 ⟨rfl, hd1, hg1⟩) | (go_at_call 70; refine (k3 _ _).mono ?_; rintro e w3 ⟨rfl, rfl⟩))
    go_ret
    exact ⟨rfl, HC.out hd1 hg1 (Below.refl _ _)⟩
  · have hr : σ.sync s = (endE 9 σ.c.cl, σ.cnt) := by rw [DS.sync, hE]; rfl
    rw [hr]
    rw [hE] at k1
    generalize σ.c.cl = L at k1 k3 ⊢
    clear hr hE h hi
    go_enter Tryz.func29, Tryz.ntmps29
    go_wp2_with (first | (go_at_call 68; refine k1.mono ?_; rintro e w1 ⟨rfl, hd1, hg1⟩) | (go_at_call 70; refine (k3 _ _).mono ?_; rintro e w3 ⟨rfl, rfl⟩))
    go_ret
    exact ⟨rfl, HC.out hd1 hg1 (Below.refl _ _)⟩
  · rw [hE] at k1
    cases hL : σ.c.cl with
    | true =>
      have hr : σ.sync s = (10, σ.cnt) := by rw [DS.sync, hE, hL]; rfl
      rw [hr]
      rw [hL] at k1 k3
      clear hr hE h hi hL
      go_enter Tryz.func29, Tryz.ntmps29
      go_wp2_with (first | (go_at_call 68; refine k1.mono ?_; rintro e w1 ⟨rfl, hd1, hg1⟩) | (go_at_call 70; refine (k3 _ _).mono ?_; rintro e w3 ⟨rfl, rfl⟩))
      go_ret
      exact ⟨rfl, HC.out hd1 hg1 (Below.refl _ _)⟩
    | false =>
      rw [hL] at k1
      have k4 : ∀ {w1 : World}, Dk w1 p σ.room lv wv σ.c.cc → w.grownBy w1 (some p) → Calls Tryz.prog 47 #[.pointer (some ⟨p, 0, none⟩), .string s] w1 fun e w' => e = .returned (optp loc (fnd σ.dir s)) ∧ Below w1.heap.size w1 w' := fun a b => rfind_any p σ.room lv wv σ.c.cc F loc σ.dir s _ a (h.disk b a).dir HN.out
      cases hf : fnd σ.dir s with
      | none =>
        have hr : σ.sync s = (7, σ.cnt) := by rw [DS.sync, hE, hL, hf]; rfl
        rw [hr]
        rw [hf] at k4
        simp only [optp] at k4
        clear hr hE h hi hL hf
        go_enter Tryz.func29, Tryz.ntmps29
        go_wp2_with (first | (go_at_call 68; refine k1.mono ?_; rintro e w1 ⟨rfl, hd1, hg1⟩) | (go_at_call 47; refine (k4 hd1 hg1).mono ?_; rintro e w4 ⟨rfl, hb4⟩))
        go_ret
        exact ⟨rfl, HC.out hd1 hg1 hb4⟩
      | some i =>
        have hr : σ.sync s = (0, { σ.cnt with fl := upd σ.fl i ((σ.fl i).1, (σ.fl i).1.length) }) := by rw [DS.sync, hE, hL, hf]; rfl
        rw [hr]
        rw [hf] at k4
        have HA : Hid (A i) := by obtain ⟨a, ha⟩ := fnd_mem hf; exact h.al i (.inl ⟨a, ha⟩)
        have HO := (hi.fl i).2.2
        have hle := (hi.fl i).1
        have HO2 : Hid (Okb (σ.fl i).1) := HO
        have HLE : Hid ((σ.fl i).1.length ≤ 4194304) := hle
        simp only [optp, ptr] at k4
        clear hr hE h hi hL hf HO hle
        go_enter Tryz.func29, Tryz.ntmps29
        go_wp2_with (first | (go_at_call 68; refine k1.mono ?_; rintro e w1 ⟨rfl, hd1, hg1⟩) | (go_at_call 47; refine (k4 hd1 hg1).mono ?_; rintro e w4 ⟨rfl, hb4⟩; obtain ⟨dv, x1, x2, x3⟩ := (((HR.out hd1 hg1).later hb4).file i HA.out).ex; obtain ⟨ao, cap, rfl, x4, x5, x6, x7⟩ := x2.byt HO2.out; have X1 := Hid.intro x1; have y0 := cell_of x1 0; have y1 := cell_of x1 1; have y2 := frozen_of x1 1; simp only [List.getElem?_toArray, List.getElem?_cons_succ, List.getElem?_cons_zero] at y0 y1; clear x1 x4 x5 x6 x7))
        go_ret
        exact ⟨rfl, Nxt.trans (HK.out hg1) (fun _ x => .inl x) (Nxt.start hb4 (nx_file ((HR.out hd1 hg1).later hb4) HA.out (grown_set _ _ _ _) (heap_set X1.out 1 _) (owns_grown x2 (grown_set _ _ _ _) fun g e t => by simp only [Option.some.injEq] at e; subst e; exact absurd rfl (TyOf.ne ⟨_, _, X1.out⟩ t (by decide))) fun b e => .inl (x3 b e)))⟩

set_option maxHeartbeats 1000000 in
theorem rsetFuse_any (p : Nat) (σ : DS) (F A : Nat → Prop) (loc : Nat → Nat) (lv wv : Value) (n : Int) (w : World) (h : RefAt w p σ F A loc lv wv) :
    Calls Tryz.prog 33 #[ptr p, .int .i64 n] w fun e w' => e = .returned (.tuple #[]) ∧ Nxt w p (σ.setFuse n) F w' := by
  have HD : Hid (Dk w p σ.room lv wv σ.c) := h.blk
  have c4 := cell_of h.blk 4
  have f4 := frozen_of h.blk 4
  simp only [List.getElem?_toArray, List.getElem?_cons_succ, List.getElem?_cons_zero] at c4
  have HR : Hid (∀ {w1 : World} {c : Cn}, Dk w1 p σ.room lv wv c → w.grownBy w1 (some p) → Nxt w p { σ with c := c } F w1) := fun a b => ⟨F, A, loc, lv, wv, h.disk b a, Kept.grown b fun k e => by simp only [Option.some.injEq] at e; subst e; exact .inl h.fp, fun k hk => .inl hk⟩
  unfold ptr
  clear h
  by_cases q : 0 < n
  · have e : σ.setFuse n = { σ with c := { σ.c with fuse := n } } := by unfold DS.setFuse; rw [show max 0 n = n by omega]
    rw [e]
    clear e
    go_enter Tryz.func33, Tryz.ntmps33
    go_wp2_with fail
    go_end0
    exact ⟨rfl, HR.out (HD.out.set4 _) (grown_set _ _ _ _)⟩
  · have q' : n ≤ 0 := by omega
    have e : σ.setFuse n = { σ with c := { σ.c with fuse := 0 } } := by unfold DS.setFuse; rw [show max 0 n = 0 by omega]
    rw [e]
    clear e
    go_enter Tryz.func33, Tryz.ntmps33
    go_wp2_with fail
    go_end0
    exact ⟨rfl, HR.out (HD.out.set4 _) (grown_set _ _ _ _)⟩
set_option maxHeartbeats 1000000 in
theorem rsetFault_any (p : Nat) (σ : DS) (F A : Nat → Prop) (loc : Nat → Nat) (lv wv : Value) (f n : Int) (w : World) (h : RefAt w p σ F A loc lv wv) :
    Calls Tryz.prog 34 #[ptr p, .int .i64 f, .int .i64 n] w fun e w' => e = .returned (.tuple #[]) ∧ Nxt w p (σ.setFault f n) F w' := by
  have HD : Hid (Dk w p σ.room lv wv σ.c) := h.blk
  have c5 := cell_of h.blk 5
  have f5 := frozen_of h.blk 5
  have c6 := cell_of h.blk 6
  have f6 := frozen_of h.blk 6
  simp only [List.getElem?_toArray, List.getElem?_cons_succ, List.getElem?_cons_zero] at c5 c6
  have HR : Hid (∀ {w1 : World} {c : Cn}, Dk w1 p σ.room lv wv c → w.grownBy w1 (some p) → Nxt w p { σ with c := c } F w1) := fun a b => ⟨F, A, loc, lv, wv, h.disk b a, Kept.grown b fun k e => by simp only [Option.some.injEq] at e; subst e; exact .inl h.fp, fun k hk => .inl hk⟩
  unfold ptr
  clear h
  by_cases q : f < 1
  · have e : σ.setFault f n = { σ with c := { σ.c with wait := 0, fails := 0 } } := by unfold DS.setFault; simp only [q, true_or, if_true]
    rw [e]
    clear e
    go_enter Tryz.func34, Tryz.ntmps34
    go_wp2_with fail
    go_end0
    exact ⟨rfl, HR.out ((((HD.out.set5 _).set6 _).set5 _).set6 _) (grown_trans (grown_trans (grown_trans (grown_set _ _ _ _) (grown_set _ _ _ _)) (grown_set _ _ _ _)) (grown_set _ _ _ _))⟩
  · have q' : decide (f < 1) = false := decide_eq_false q
    have q1 : 1 ≤ f := by omega
    by_cases r : n < 1
    · have e : σ.setFault f n = { σ with c := { σ.c with wait := 0, fails := 0 } } := by unfold DS.setFault; simp only [r, or_true, if_true]
      rw [e]
      clear e q
      go_enter Tryz.func34, Tryz.ntmps34
      go_wp2_with fail
      go_end0
      exact ⟨rfl, HR.out ((((HD.out.set5 _).set6 _).set5 _).set6 _) (grown_trans (grown_trans (grown_trans (grown_set _ _ _ _) (grown_set _ _ _ _)) (grown_set _ _ _ _)) (grown_set _ _ _ _))⟩
    · have r' : decide (n < 1) = false := decide_eq_false r
      have r1 : 1 ≤ n := by omega
      have e : σ.setFault f n = { σ with c := { σ.c with wait := f, fails := n } } := by unfold DS.setFault; simp only [q, r, or_self, if_false]
      rw [e]
      clear e q r
      go_enter Tryz.func34, Tryz.ntmps34
      go_wp2_with fail
      go_end0
      exact ⟨rfl, HR.out ((HD.out.set5 _).set6 _) (grown_trans (grown_set _ _ _ _) (grown_set _ _ _ _))⟩
end Go.Proofs.YtligofmcmjblpaaGreat

/- The document's own disk: what is used; Append. -/
namespace Go.Proofs.YtligofmcmjblpaaGreat
open Go.RowKit
set_option linter.unusedVariables false
set_option linter.unusedSimpArgs false

theorem wrapEq (n : Int) : IntKind.i64.wrap n = wrap64 n := by simp [IntKind.wrap_i64, wrap64]
theorem used_app (fl : Nat → List Int × Nat) (l m : List Ent) : used fl (l ++ m) = used fl l + used fl m := by
  induction l with
  | nil => simp [used]
  | cons e r ih => simp only [List.cons_append, used, ih]; omega
theorem used_leR (fl : Nat → List Int × Nat) (l : List Ent) (h : ∀ i, (fl i).1.length ≤ 4194304) : used fl l ≤ l.length * 4194304 := by
  induction l with
  | nil => simp [used]
  | cons e r ih =>
    have := h e.2
    simp only [used, List.length_cons]
    omega

set_option maxHeartbeats 1000000 in
set_option maxRecDepth 100000 in
theorem rused_any (p : Nat) (σ : DS) (F A : Nat → Prop) (loc : Nat → Nat) (lv wv : Value) (w : World) (h : RefAt w p σ F A loc lv wv) (hdn : σ.dir.length ≤ 1048576) (hfl : ∀ i, (σ.fl i).1.length ≤ 4194304 ∧ Okb (σ.fl i).1) :
    Calls Tryz.prog 41 #[ptr p] w fun e w' => e = .returned (.int .i64 (σ.used : Int)) ∧ Below w.heap.size w w' := by
  obtain ⟨ao, cap, rfl, hlc, hcm, hnil, hcell⟩ := h.dir.cells
  have c1 := cell_of h.blk 1
  simp only [List.getElem?_toArray, List.getElem?_cons_succ, List.getElem?_cons_zero] at c1
  obtain ⟨n, hnn⟩ : ∃ n, n = σ.dir.length := ⟨_, rfl⟩
  have HC : Hid (∀ k, k < n → ∃ g a i d s, ao = some ⟨g, 0, none⟩ ∧ σ.dir[k]? = some (a, i) ∧ w.cell? ⟨g, k * 2, none⟩ = some (.string a) ∧ w.cell? ⟨g, k * 2 + 1, none⟩ = some (.pointer (some ⟨loc i, 0, none⟩)) ∧ w.cell? ⟨loc i, 0, none⟩ = some (.slice d (σ.fl i).1.length s)) := fun k hk => by
    obtain ⟨g, a, i, e, xk, xd, x1, x2⟩ := hcell k (by omega)
    obtain ⟨dv, y1, y2, y3⟩ := (h.file i (h.al i (.inl ⟨a, List.mem_of_getElem? xk⟩))).ex
    obtain ⟨ao, cap, rfl, _⟩ := y2.byt (hfl i).2
    exact ⟨g, a, i, ao, cap, e, xk, x1, x2, cell_of y1 0⟩
  have HN : Hid (n = σ.dir.length ∧ n ≤ 1048576) := ⟨hnn, by omega⟩
  have hn' : n ≤ 1048576 := HN.out.2
  have HU : Hid (∀ l : List Ent, used σ.fl l ≤ l.length * 4194304) := fun l => used_leR σ.fl l fun i => (hfl i).1
  rw [← hnn] at c1
  clear h hdn hfl hlc hcm hnil hcell hnn
  unfold ptr
  go_enter Tryz.func41, Tryz.ntmps41
  go_wp2_with fail
  go_loopg [3, 11] n (fun g u i wr => ∃ k S : Nat, k + g = n ∧ i = .int .i64 (k : Int) ∧ u = .int .i64 (S : Int) ∧ Below w.heap.size w wr ∧ Hid (S = used σ.fl (σ.dir.take k)))
  case atStart => exact ⟨0, 0, by omega, rfl, rfl, Below.refl _ _, rfl⟩
  case round =>
    obtain ⟨k, S, hk, rfl, rfl, hw, HT⟩ := hrel
    by_cases h : k < n
    · have h' : (k : Int) < (n : Int) := by omega
      obtain ⟨g, a, i, d, s, rfl, xk, x1, x2, x3⟩ := HC.out k h
      have y1 := cell_later hw x1
      have y2 := cell_later hw x2
      have y3 := cell_later hw x3
      have y4 : loc i < wr.heap.size := block_lt_of_cell y3
      obtain ⟨GK, HG⟩ : ∃ g, Hid (g < gk ∧ k + 1 + g = n) := ⟨gk - 1, by omega, by omega⟩
      have HW : Hid (Below w.heap.size w wr) := hw
      obtain ⟨L, hL⟩ : ∃ L, L = (σ.fl i).1.length := ⟨_, rfl⟩
      rw [← hL] at y3
      have hs : S + L = used σ.fl (σ.dir.take (k + 1)) := by
        rw [take_snoc xk, used_app, ← HT.out, hL]
        simp [used]
      have hb := HU.out (σ.dir.take (k + 1))
      rw [← hs, List.length_take] at hb
      have hb2 : S + L ≤ 2 ^ 62 := by omega
      have HS : Hid (S + L = used σ.fl (σ.dir.take (k + 1))) := hs
      clear hk x1 x2 x3 hw xk hs hb hL HT
      go_wp2_with fail
      go_roundg GK
      case measure => exact HG.out.1
      case rel => exact ⟨k + 1, S + L, HG.out.2, by go_num, by go_num, HW.out.alloc HW.out.size _, HS⟩
    · have h' : (n : Int) ≤ (k : Int) := by omega
      have hs : S = σ.used := by
        have := HT.out
        rw [List.take_of_length_le (by have := HN.out; omega)] at this
        exact this
      subst hs
      go_wp2_with fail
      go_ret
      exact ⟨rfl, hw⟩
theorem Inv.dn {σ : DS} (hi : Inv σ) : σ.dir.length ≤ 1048576 := by have h1 := hi.dl; have h2 := hi.ok.2.1; omega
theorem Inv.fls {σ : DS} (hi : Inv σ) : ∀ i, (σ.fl i).1.length ≤ 4194304 ∧ Okb (σ.fl i).1 := fun i => ⟨(hi.fl i).1, (hi.fl i).2.2⟩
theorem Inv.ul {σ : DS} (hi : Inv σ) : σ.used ≤ 4398046511104 := by
  have h1 := used_leR σ.fl σ.dir fun i => (hi.fl i).1
  have h2 := hi.dn
  unfold DS.used
  omega
theorem Row.slice {B : Nat} {w : World} {v : Value} {xs : List Int} (h : Row B w v xs) : ∃ ao n c, v = .slice ao n c := by
  rcases h.2 with ⟨rfl, _⟩ | ⟨g, cap, cur, rfl, _⟩
  · exact ⟨_, _, _, rfl⟩
  · exact ⟨_, _, _, rfl⟩
theorem Row.zero {B : Nat} {w : World} {v : Value} {xs : List Int} (h : Row B w v xs) : Row 0 w v xs := ⟨h.1, h.2.imp id fun ⟨g, cap, cur, a, b, c⟩ => ⟨g, cap, cur, a, Nat.zero_le _, c⟩⟩
end Go.Proofs.YtligofmcmjblpaaGreat
