/- The document's own disk: Create, Remove. -/
import Derived.Test.YtligofmcmjblpaaGreatRst
import Derived.Test.YtligofmcmjblpaaGreatInv
namespace Go.Proofs.YtligofmcmjblpaaGreat
open Go.RowKit
set_option linter.unusedVariables false
set_option linter.unusedSimpArgs false

theorem nxt_call {w w1 w2 : World} {p : Nat} {σ : DS} {F A : Nat → Prop} {loc : Nat → Nat} {lv wv : Value} (h : RefAt w p σ F A loc lv wv) (hd : Dk w1 p σ.room lv wv σ.c.cc) (hg : w.grownBy w1 (some p)) (hb : Below w1.heap.size w1 w2) : Nxt w p σ.cnt F w2 := by
  refine ⟨F, A, loc, lv, wv, (h.disk hg hd).later hb, ?_, fun k hk => .inl hk⟩
  exact (Kept.grown hg fun k e => by simp only [Option.some.injEq] at e; subst e; exact .inl h.fp).trans (below_kept (F := fun _ => False) hb) (fun k hk => hk.elim)
set_option maxHeartbeats 1000000 in
set_option maxRecDepth 100000 in
theorem rcreate_any (p : Nat) (σ : DS) (F A : Nat → Prop) (loc : Nat → Nat) (lv wv : Value) (s : ByteArray) (w : World) (h : RefAt w p σ F A loc lv wv) (hi : Inv σ) (hs : s.size ≤ 2 ^ 63 - 1) :
    Calls Tryz.prog 27 #[ptr p, .string s] w fun e w' => e = .returned (.int .i64 (σ.create s).1) ∧ Nxt w p (σ.create s).2 F w' := by
  have k1 := rcall_any p σ.room lv wv σ.c w h.blk hi.ok
  have HC : Hid (∀ {w1 w2 : World}, Dk w1 p σ.room lv wv σ.c.cc → w.grownBy w1 (some p) → Below w1.heap.size w1 w2 → Nxt w p σ.cnt F w2) := fun a b c => nxt_call h a b c
  have HN : Hid (σ.dir.length ≤ 2 ^ 40) := by have h1 := hi.dl; have h2 := hi.ok.2.1; show _ ≤ _; omega
  have HR : Hid (∀ {w1 : World}, Dk w1 p σ.room lv wv σ.c.cc → w.grownBy w1 (some p) → RefAt w1 p σ.cnt F A loc lv wv) := fun a b => h.disk b a
  unfold ptr at *
  rcases ce_cases σ.c with hE | hE | hE
  · have hr : σ.create s = (10, σ.cnt) := by rw [DS.create, hE]; rfl
    rw [hr]
    rw [hE] at k1
    clear hr hE h hi
    go_enter Tryz.func27, Tryz.ntmps27
    go_wp2_with (go_at_call 68; refine k1.mono ?_; rintro e w1 ⟨rfl, hd1, hg1⟩)
    go_ret
    exact ⟨rfl, HC.out hd1 hg1 (Below.refl _ _)⟩
  · have hr : σ.create s = (9, σ.cnt) := by rw [DS.create, hE]; rfl
    rw [hr]
    rw [hE] at k1
    clear hr hE h hi
    go_enter Tryz.func27, Tryz.ntmps27
    go_wp2_with (go_at_call 68; refine k1.mono ?_; rintro e w1 ⟨rfl, hd1, hg1⟩)
    go_ret
    exact ⟨rfl, HC.out hd1 hg1 (Below.refl _ _)⟩
  · have k2 := fun w1 => rmay_any s w1 hs
    have k3 := fun w1 e => rend_any e σ.c.cl w1
    rw [hE] at k1
    cases hm : mayN s with
    | false =>
      have hr : σ.create s = (endE 15 σ.c.cl, σ.cnt) := by rw [DS.create, hE, hm]; rfl
      rw [hr]
      rw [hm] at k2
      generalize σ.c.cl = L at k1 k3 ⊢
      clear hr hE h hi hm
      go_enter Tryz.func27, Tryz.ntmps27
      go_wp2_with (first | (go_at_call 68; refine k1.mono ?_; rintro e w1 ⟨rfl, hd1, hg1⟩) | (go_at_call 69; refine (k2 _).mono ?_; rintro e w2 ⟨rfl, rfl⟩) | (go_at_call 70; refine (k3 _ _).mono ?_; rintro e w3 ⟨rfl, rfl⟩))
      go_ret
      exact ⟨rfl, HC.out hd1 hg1 (Below.refl _ _)⟩
    | true =>
      rw [hm] at k2
      have k4 : ∀ {w1 : World}, Dk w1 p σ.room lv wv σ.c.cc → w.grownBy w1 (some p) → Calls Tryz.prog 47 #[.pointer (some ⟨p, 0, none⟩), .string s] w1 fun e w' => e = .returned (optp loc (fnd σ.dir s)) ∧ Below w1.heap.size w1 w' := fun a b => rfind_any p σ.room lv wv σ.c.cc F loc σ.dir s _ a (h.disk b a).dir HN.out
      cases hf : fnd σ.dir s with
      | some i =>
        have hr : σ.create s = (endE 6 σ.c.cl, σ.cnt) := by rw [DS.create, hE, hm, hf]; rfl
        rw [hr]
        rw [hf] at k4
        simp only [optp, ptr] at k4
        generalize σ.c.cl = L at k1 k3 ⊢
        clear hr hE h hi hm hf
        go_enter Tryz.func27, Tryz.ntmps27
        go_wp2_with (first | (go_at_call 68; refine k1.mono ?_; rintro e w1 ⟨rfl, hd1, hg1⟩) | (go_at_call 69; refine (k2 _).mono ?_; rintro e w2 ⟨rfl, rfl⟩) | (go_at_call 47; refine (k4 hd1 hg1).mono ?_; rintro e w4 ⟨rfl, hb4⟩) | (go_at_call 70; refine (k3 _ _).mono ?_; rintro e w3 ⟨rfl, rfl⟩))
        go_ret
        exact ⟨rfl, HC.out hd1 hg1 hb4⟩
      | none =>
        have hr : σ.create s = (endE 0 σ.c.cl, { σ.cnt.chg (pt σ.dir s σ.nx) with fl := upd σ.fl σ.nx ([], 0), nx := σ.nx + 1 }) := by rw [DS.create, hE, hm, hf]; rfl
        rw [hr]
        rw [hf] at k4
        simp only [optp] at k4
        have hpl := pt_le σ.dir s σ.nx
        have H1 : Hid ((pt σ.dir s σ.nx).length ≤ 2 ^ 40) := by have h1 := hi.dl; have h2 := hi.ok.2.1; show _ ≤ _; omega
        have H2 : Hid (σ.was.length ≤ 2 ^ 40) := by have h1 := hi.wl; have h2 := hi.ok.2.1; show _ ≤ _; omega
        have HF : Hid (∀ {w1 w4 w5 w6 : World} {F5 : Nat → Prop}, Dk w1 p σ.room lv wv σ.c.cc → w.grownBy w1 (some p) → Below w1.heap.size w1 w4 → Kept F w4 w5 → (∀ k, F5 k → F k ∨ w4.heap.size ≤ k) → Nxt w5 p { σ.cnt.chg (pt σ.dir s σ.nx) with fl := upd σ.fl σ.nx ([], 0), nx := σ.nx + 1 } F5 w6 → Nxt w p { σ.cnt.chg (pt σ.dir s σ.nx) with fl := upd σ.fl σ.nx ([], 0), nx := σ.nx + 1 } F w6) := fun a b c d e f => by
          have g : Kept F w _ := Kept.grown b fun k e => by simp only [Option.some.injEq] at e; subst e; exact .inl h.fp
          exact Nxt.trans g (fun _ x => .inl x) (Nxt.start c (Nxt.trans d e f))
        have HP := fun {w4 : World} (h4 : RefAt w4 p σ.cnt F A loc lv wv) => rputn_nx h4 s HN.out
        have HQ := fun {w5 : World} {F5 A5 : Nat → Prop} {loc5 : Nat → Nat} {lv5 wv5 : Value} (h5 : RefAt w5 p { σ.cnt with fl := upd σ.fl σ.nx ([], 0), nx := σ.nx + 1, dir := pt σ.dir s σ.nx } F5 A5 loc5 lv5 wv5) => rchg_nx h5 H1.out H2.out
        unfold ptr at *
        generalize σ.c.cl = L at k1 k3 ⊢
        clear hr hE h hi hm hf hpl
        go_enter Tryz.func27, Tryz.ntmps27
        go_wp2_with (first | (go_at_call 68; refine k1.mono ?_; rintro e w1 ⟨rfl, hd1, hg1⟩) | (go_at_call 69; refine (k2 _).mono ?_; rintro e w2 ⟨rfl, rfl⟩) | (go_at_call 47; refine (k4 hd1 hg1).mono ?_; rintro e w4 ⟨rfl, hb4⟩) | (go_at_call 70; refine (k3 _ _).mono ?_; rintro e w3 ⟨rfl, rfl⟩) | (go_at_call 71; refine (HP ((HR.out hd1 hg1).later hb4)).mono ?_; rintro e w5 ⟨rfl, F5, A5, loc5, lv5, wv5, r5, m5, s5⟩) | (go_at_call 72; refine (HQ r5).mono ?_; rintro e w6 ⟨rfl, n6⟩))
        go_ret
        exact ⟨rfl, HF.out hd1 hg1 hb4 m5 s5 n6⟩
end Go.Proofs.YtligofmcmjblpaaGreat
