/- The document's own disk: Remove, Rename, Sync, SyncDir, the fuse and the fault. -/
import Derived.Test.YtligofmcmjblpaaGreatRcreate
namespace Go.Proofs.YtligofmcmjblpaaGreat
open Go.RowKit
set_option linter.unusedVariables false
set_option linter.unusedSimpArgs false

set_option maxHeartbeats 1000000 in
set_option maxRecDepth 100000 in
theorem rremove_any (p : Nat) (σ : DS) (F A : Nat → Prop) (loc : Nat → Nat) (lv wv : Value) (s : ByteArray) (w : World) (h : RefAt w p σ F A loc lv wv) (hi : Inv σ) :
    Calls Tryz.prog 31 #[ptr p, .string s] w fun e w' => e = .returned (.int .i64 (σ.remove s).1) ∧ Nxt w p (σ.remove s).2 F w' := by
  have k1 := rcall_any p σ.room lv wv σ.c w h.blk hi.ok
  have HC : Hid (∀ {w1 w2 : World}, Dk w1 p σ.room lv wv σ.c.cc → w.grownBy w1 (some p) → Below w1.heap.size w1 w2 → Nxt w p σ.cnt F w2) := fun a b c => nxt_call h a b c
  have HN : Hid (σ.dir.length ≤ 2 ^ 40) := by have h1 := hi.dl; have h2 := hi.ok.2.1; show _ ≤ _; omega
  have HR : Hid (∀ {w1 : World}, Dk w1 p σ.room lv wv σ.c.cc → w.grownBy w1 (some p) → RefAt w1 p σ.cnt F A loc lv wv) := fun a b => h.disk b a
  have H2 : Hid (σ.was.length ≤ 2 ^ 40) := by have h1 := hi.wl; have h2 := hi.ok.2.1; show _ ≤ _; omega
  have HK : Hid (∀ {w1 : World}, w.grownBy w1 (some p) → Kept F w w1) := fun b => Kept.grown b fun k e => by simp only [Option.some.injEq] at e; subst e; exact .inl h.fp
  unfold ptr at *
  rcases ce_cases σ.c with hE | hE | hE
  · have hr : σ.remove s = (10, σ.cnt) := by rw [DS.remove, hE]; rfl
    rw [hr]
    rw [hE] at k1
    clear hr hE h hi
    go_enter Tryz.func31, Tryz.ntmps31
    go_wp2_with (go_at_call 68; refine k1.mono ?_; rintro e w1 ⟨rfl, hd1, hg1⟩)
    go_ret
    exact ⟨rfl, HC.out hd1 hg1 (Below.refl _ _)⟩
  · have hr : σ.remove s = (9, σ.cnt) := by rw [DS.remove, hE]; rfl
    rw [hr]
    rw [hE] at k1
    clear hr hE h hi
    go_enter Tryz.func31, Tryz.ntmps31
    go_wp2_with (go_at_call 68; refine k1.mono ?_; rintro e w1 ⟨rfl, hd1, hg1⟩)
    go_ret
    exact ⟨rfl, HC.out hd1 hg1 (Below.refl _ _)⟩
  · have k3 := fun w1 e => rend_any e σ.c.cl w1
    rw [hE] at k1
    have k4 : ∀ {w1 : World}, Dk w1 p σ.room lv wv σ.c.cc → w.grownBy w1 (some p) → Calls Tryz.prog 47 #[.pointer (some ⟨p, 0, none⟩), .string s] w1 fun e w' => e = .returned (optp loc (fnd σ.dir s)) ∧ Below w1.heap.size w1 w' := fun a b => rfind_any p σ.room lv wv σ.c.cc F loc σ.dir s _ a (h.disk b a).dir HN.out
    cases hf : fnd σ.dir s with
    | none =>
      have hr : σ.remove s = (endE 7 σ.c.cl, σ.cnt) := by rw [DS.remove, hE, hf]; rfl
      rw [hr]
      rw [hf] at k4
      simp only [optp] at k4
      generalize σ.c.cl = L at k1 k3 ⊢
      clear hr hE h hi hf
      go_enter Tryz.func31, Tryz.ntmps31
      go_wp2_with (first | (go_at_call 68; refine k1.mono ?_; rintro e w1 ⟨rfl, hd1, hg1⟩) | (go_at_call 47; refine (k4 hd1 hg1).mono ?_; rintro e w4 ⟨rfl, hb4⟩) | (go_at_call 70; refine (k3 _ _).mono ?_; rintro e w3 ⟨rfl, rfl⟩))
      go_ret
      exact ⟨rfl, HC.out hd1 hg1 hb4⟩
    | some i =>
      have hr : σ.remove s = (endE 0 σ.c.cl, σ.cnt.chg (drp σ.dir s)) := by rw [DS.remove, hE, hf]; rfl
      rw [hr]
      rw [hf] at k4
      have hdl := drp_le σ.dir s
      have H1 : Hid ((drp σ.dir s).length ≤ 2 ^ 40) := by have := HN.out; show _ ≤ _; omega
      have HP := fun {w4 : World} (h4 : RefAt w4 p σ.cnt F A loc lv wv) => rdrop_nx h4 s HN.out
      have HQ := fun {w5 : World} {F5 A5 : Nat → Prop} {loc5 : Nat → Nat} {lv5 wv5 : Value} (h5 : RefAt w5 p { σ.cnt with dir := drp σ.dir s } F5 A5 loc5 lv5 wv5) => rchg_nx h5 H1.out H2.out
      simp only [optp] at k4
      unfold ptr at *
      generalize σ.c.cl = L at k1 k3 ⊢
      clear hr hE h hi hf hdl
      go_enter Tryz.func31, Tryz.ntmps31
      go_wp2_with (first | (go_at_call 68; refine k1.mono ?_; rintro e w1 ⟨rfl, hd1, hg1⟩) | (go_at_call 47; refine (k4 hd1 hg1).mono ?_; rintro e w4 ⟨rfl, hb4⟩) | (go_at_call 70; refine (k3 _ _).mono ?_; rintro e w3 ⟨rfl, rfl⟩) | (go_at_call 73; refine (HP ((HR.out hd1 hg1).later hb4)).mono ?_; rintro e w5 ⟨rfl, F5, lv5, r5, m5, s5⟩) | (go_at_call 72; refine (HQ r5).mono ?_; rintro e w6 ⟨rfl, n6⟩))
      go_ret
      exact ⟨rfl, Nxt.trans (HK.out hg1) (fun _ x => .inl x) (Nxt.start hb4 (Nxt.trans m5 s5 n6))⟩

set_option maxHeartbeats 1000000 in
set_option maxRecDepth 100000 in
theorem rrename_any (p : Nat) (σ : DS) (F A : Nat → Prop) (loc : Nat → Nat) (lv wv : Value) (s t : ByteArray) (w : World) (h : RefAt w p σ F A loc lv wv) (hi : Inv σ) (hs : t.size ≤ 2 ^ 63 - 1) :
    Calls Tryz.prog 30 #[ptr p, .string s, .string t] w fun e w' => e = .returned (.int .i64 (σ.rename s t).1) ∧ Nxt w p (σ.rename s t).2 F w' := by
  have k1 := rcall_any p σ.room lv wv σ.c w h.blk hi.ok
  have HC : Hid (∀ {w1 w2 : World}, Dk w1 p σ.room lv wv σ.c.cc → w.grownBy w1 (some p) → Below w1.heap.size w1 w2 → Nxt w p σ.cnt F w2) := fun a b c => nxt_call h a b c
  have HN : Hid (σ.dir.length ≤ 2 ^ 40) := by have h1 := hi.dl; have h2 := hi.ok.2.1; show _ ≤ _; omega
  have HR : Hid (∀ {w1 : World}, Dk w1 p σ.room lv wv σ.c.cc → w.grownBy w1 (some p) → RefAt w1 p σ.cnt F A loc lv wv) := fun a b => h.disk b a
  have H2 : Hid (σ.was.length ≤ 2 ^ 40) := by have h1 := hi.wl; have h2 := hi.ok.2.1; show _ ≤ _; omega
  have HK : Hid (∀ {w1 : World}, w.grownBy w1 (some p) → Kept F w w1) := fun b => Kept.grown b fun k e => by simp only [Option.some.injEq] at e; subst e; exact .inl h.fp
  unfold ptr at *
  rcases ce_cases σ.c with hE | hE | hE
  · have hr : σ.rename s t = (10, σ.cnt) := by rw [DS.rename, hE]; rfl
    rw [hr]
    rw [hE] at k1
    clear hr hE h hi
    go_enter Tryz.func30, Tryz.ntmps30
    go_wp2_with (go_at_call 68; refine k1.mono ?_; rintro e w1 ⟨rfl, hd1, hg1⟩)
    go_ret
    exact ⟨rfl, HC.out hd1 hg1 (Below.refl _ _)⟩
  · have hr : σ.rename s t = (9, σ.cnt) := by rw [DS.rename, hE]; rfl
    rw [hr]
    rw [hE] at k1
    clear hr hE h hi
    go_enter Tryz.func30, Tryz.ntmps30
    go_wp2_with (go_at_call 68; refine k1.mono ?_; rintro e w1 ⟨rfl, hd1, hg1⟩)
    go_ret
    exact ⟨rfl, HC.out hd1 hg1 (Below.refl _ _)⟩
  · have k3 := fun w1 e => rend_any e σ.c.cl w1
    have k2 := fun w1 => rmay_any t w1 hs
    rw [hE] at k1
    have k4 : ∀ {w1 : World}, Dk w1 p σ.room lv wv σ.c.cc → w.grownBy w1 (some p) → Calls Tryz.prog 47 #[.pointer (some ⟨p, 0, none⟩), .string s] w1 fun e w' => e = .returned (optp loc (fnd σ.dir s)) ∧ Below w1.heap.size w1 w' := fun a b => rfind_any p σ.room lv wv σ.c.cc F loc σ.dir s _ a (h.disk b a).dir HN.out
    cases hf : fnd σ.dir s with
    | none =>
      have hr : σ.rename s t = (endE 7 σ.c.cl, σ.cnt) := by rw [DS.rename, hE, hf]; rfl
      rw [hr]
      rw [hf] at k4
      simp only [optp] at k4
      generalize σ.c.cl = L at k1 k3 ⊢
      clear hr hE h hi hf
      go_enter Tryz.func30, Tryz.ntmps30
      go_wp2_with (first | (go_at_call 68; refine k1.mono ?_; rintro e w1 ⟨rfl, hd1, hg1⟩) | (go_at_call 47; refine (k4 hd1 hg1).mono ?_; rintro e w4 ⟨rfl, hb4⟩) | (go_at_call 70; refine (k3 _ _).mono ?_; rintro e w3 ⟨rfl, rfl⟩))
      go_ret
      exact ⟨rfl, HC.out hd1 hg1 hb4⟩
    | some i =>
      rw [hf] at k4
      cases hm : mayN t with
      | false =>
        have hr : σ.rename s t = (endE 15 σ.c.cl, σ.cnt) := by rw [DS.rename, hE, hf]; simp [hm]
        rw [hr]
        rw [hm] at k2
        simp only [optp, ptr] at k4
        generalize σ.c.cl = L at k1 k3 ⊢
        clear hr hE h hi hf hm
        go_enter Tryz.func30, Tryz.ntmps30
        go_wp2_with (first | (go_at_call 68; refine k1.mono ?_; rintro e w1 ⟨rfl, hd1, hg1⟩) | (go_at_call 47; refine (k4 hd1 hg1).mono ?_; rintro e w4 ⟨rfl, hb4⟩) | (go_at_call 69; refine (k2 _).mono ?_; rintro e w2 ⟨rfl, rfl⟩) | (go_at_call 70; refine (k3 _ _).mono ?_; rintro e w3 ⟨rfl, rfl⟩))
        go_ret
        exact ⟨rfl, HC.out hd1 hg1 hb4⟩
      | true =>
        rw [hm] at k2
        by_cases q : (s.toList == t.toList) = true
        · have hr : σ.rename s t = (endE 0 σ.c.cl, σ.cnt) := by rw [DS.rename, hE, hf]; simp [hm]; intro hq; exact absurd (by simpa using q) hq
          rw [hr]
          simp only [optp, ptr] at k4
          generalize σ.c.cl = L at k1 k3 ⊢
          clear hr hE h hi hf hm
          go_enter Tryz.func30, Tryz.ntmps30
          go_wp2_with (first | (go_at_call 68; refine k1.mono ?_; rintro e w1 ⟨rfl, hd1, hg1⟩) | (go_at_call 47; refine (k4 hd1 hg1).mono ?_; rintro e w4 ⟨rfl, hb4⟩) | (go_at_call 69; refine (k2 _).mono ?_; rintro e w2 ⟨rfl, rfl⟩) | (go_at_call 70; refine (k3 _ _).mono ?_; rintro e w3 ⟨rfl, rfl⟩))
          go_ret
          exact ⟨rfl, HC.out hd1 hg1 hb4⟩
        · have q' : (s.toList == t.toList) = false := by simpa using q
          have hr : σ.rename s t = (endE 0 σ.c.cl, σ.cnt.chg (pt (drp σ.dir s) t i)) := by rw [DS.rename, hE, hf]; simp only [hm, q']; rfl
          rw [hr]
          have hdl := drp_le σ.dir s
          have hpl := pt_le (drp σ.dir s) t i
          have H1 : Hid ((drp σ.dir s).length ≤ 2 ^ 40) := by have := HN.out; show _ ≤ _; omega
          have H3 : Hid ((pt (drp σ.dir s) t i).length ≤ 2 ^ 40) := by have h1 := hi.dl; have h2 := hi.ok.2.1; show _ ≤ _; omega
          have HA : Hid (A i) := by obtain ⟨a, ha⟩ := fnd_mem hf; exact h.al i (.inl ⟨a, ha⟩)
          have HP := fun {w4 : World} (h4 : RefAt w4 p σ.cnt F A loc lv wv) => rdrop_nx h4 s HN.out
          have HQ := fun {w5 : World} {F5 : Nat → Prop} {lv5 : Value} (h5 : RefAt w5 p { σ.cnt with dir := drp σ.dir s } F5 A loc lv5 wv) => rput_nx h5 t i HA.out H1.out
          have HS := fun {w6 : World} {F6 A6 : Nat → Prop} {loc6 : Nat → Nat} {lv6 wv6 : Value} (h6 : RefAt w6 p { σ.cnt with dir := pt (drp σ.dir s) t i } F6 A6 loc6 lv6 wv6) => rchg_nx h6 H3.out H2.out
          simp only [optp] at k4
          unfold ptr at *
          generalize σ.c.cl = L at k1 k3 ⊢
          clear hr hE h hi hf hdl hpl hm q
          go_enter Tryz.func30, Tryz.ntmps30
          go_wp2_with (first | (go_at_call 68; refine k1.mono ?_; rintro e w1 ⟨rfl, hd1, hg1⟩) | (go_at_call 47; refine (k4 hd1 hg1).mono ?_; rintro e w4 ⟨rfl, hb4⟩) | (go_at_call 69; refine (k2 _).mono ?_; rintro e w2 ⟨rfl, rfl⟩) | (go_at_call 70; refine (k3 _ _).mono ?_; rintro e w3 ⟨rfl, rfl⟩) | (go_at_call 73; refine (HP ((HR.out hd1 hg1).later hb4)).mono ?_; rintro e w5 ⟨rfl, F5, lv5, r5, m5, s5⟩) | (go_at_call 71; refine (HQ r5).mono ?_; rintro e w6 ⟨rfl, F6, A6, loc6, lv6, wv6, r6, m6, s6⟩) | (go_at_call 72; refine (HS r6).mono ?_; rintro e w7 ⟨rfl, n7⟩))
          go_ret
          exact ⟨rfl, Nxt.trans (HK.out hg1) (fun _ x => .inl x) (Nxt.start hb4 (Nxt.trans m5 s5 (Nxt.trans m6 s6 n7)))⟩

end Go.Proofs.YtligofmcmjblpaaGreat
