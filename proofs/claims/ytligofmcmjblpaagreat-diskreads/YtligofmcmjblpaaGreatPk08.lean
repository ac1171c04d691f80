import Derived.Deep.RegionHeld
import Derived.Test.YtligofmcmjblpaaGreatPk07
/- The document's own disk: Append. -/
namespace Go.Proofs.YtligofmcmjblpaaGreat
open Go.RowKit
set_option linter.unusedVariables false
set_option linter.unusedSimpArgs false

theorem Byt.kept {w w' : World} {F : Nat → Prop} {ao : Option Addr} {len : Nat} {X : Nat → Nat} (h : Byt w ao len X) (hk : Kept F w w') (hF : 0 < len → ∀ a, ao = some a → ¬ F a.block) : Byt w' ao len X := fun k hl => by
  obtain ⟨h1, b, off, e, hc⟩ := h k hl
  exact ⟨h1, b, off, e, (World.cell?_of_block (w := w) (hk.block b (World.block_lt_of_cell? w _ hc) (hF (by omega) _ e))).trans hc⟩

theorem file_facts {w : World} {p : Nat} {σ : DS} {F A : Nat → Prop} {loc : Nat → Nat} {lv wv : Value} (h : RefAt w p σ F A loc lv wv) {i : Nat} (hA : A i) (data : List Int) (sure : Nat) (hf : σ.fl i = (data, sure)) (ho : Okb data) :
    ∃ ao cap, w.heap[loc i]? = some (.cells #[.slice ao data.length cap, .int .i64 (sure : Int)] 77 (0, 0)) ∧ Row 0 w (.slice ao data.length cap) data ∧ (∀ b, (Value.slice ao data.length cap).ownBlock = some b → F b) ∧ (ao = none → data.length = 0 ∧ cap = 0) ∧ data.length ≤ cap ∧ cap ≤ maxLen ∧ Byt w ao data.length (xof data) ∧
      w.cell? ⟨loc i, 0, none⟩ = some (.slice ao data.length cap) ∧ w.cell? ⟨loc i, 1, none⟩ = some (.int .i64 (sure : Int)) ∧ w.frozen? ⟨loc i, 0, none⟩ = false ∧ w.frozen? ⟨loc i, 1, none⟩ = false := by
  obtain ⟨dv, x1, x2, x3⟩ := (h.file i hA).ex
  rw [hf] at x1 x2
  obtain ⟨ao, cap, rfl, x4, x5, x6, x7⟩ := x2.byt ho
  exact ⟨ao, cap, x1, x2, x3, x4, x5, x6, x7, cell_of x1 0, cell_of x1 1, frozen_of x1 0, frozen_of x1 1⟩

set_option maxHeartbeats 1000000 in
set_option maxRecDepth 100000 in
theorem rappend_any (p : Nat) (σ : DS) (F A : Nat → Prop) (loc : Nat → Nat) (lv wv : Value) (s : ByteArray) (bo : Option Addr) (len bc : Nat) (X : Nat → Nat) (w : World) (h : RefAt w p σ F A loc lv wv) (hi : Inv σ) (hb : Byt w bo len X) (hbn : bo = none → len = 0 ∧ bc = 0) (hbF : 0 < len → ∀ a, bo = some a → ¬ F a.block) (hbl : len ≤ 2 ^ 47) :
    Calls Tryz.prog 28 #[ptr p, .string s, .slice bo len bc] w fun e w' => e = .returned (.int .i64 (σ.append s (bs X len)).1) ∧ Nxt w p (σ.append s (bs X len)).2 F w' := by
  have k1 := rcall_any p σ.room lv wv σ.c w h.blk hi.ok
  have HC : Hid (∀ {w1 w2 : World}, Dk w1 p σ.room lv wv σ.c.cc → w.grownBy w1 (some p) → Below w1.heap.size w1 w2 → Nxt w p σ.cnt F w2) := fun a b c => nxt_call h a b c
  have HN : Hid (σ.dir.length ≤ 2 ^ 40) := by have h1 := hi.dl; have h2 := hi.ok.2.1; show _ ≤ _; omega
  have HR : Hid (∀ {w1 : World}, Dk w1 p σ.room lv wv σ.c.cc → w.grownBy w1 (some p) → RefAt w1 p σ.cnt F A loc lv wv) := fun a b => h.disk b a
  have H2 : Hid (σ.was.length ≤ 2 ^ 40) := by have h1 := hi.wl; have h2 := hi.ok.2.1; show _ ≤ _; omega
  have HK : Hid (∀ {w1 : World}, w.grownBy w1 (some p) → Kept F w w1) := fun b => Kept.grown b fun k e => by simp only [Option.some.injEq] at e; subst e; exact .inl h.fp
  have HB : Hid (∀ {w'}, Kept F w w' → Byt w' bo len X) := fun hk => hb.kept hk hbF
  have HBN : Hid ((bo = none → len = 0 ∧ bc = 0) ∧ len ≤ 2 ^ 47) := ⟨hbn, hbl⟩
  have hl62 : len ≤ 2 ^ 47 := hbl
  unfold ptr at *
  rcases ce_cases σ.c with hE | hE | hE
  · have hr : σ.append s (bs X len) = (10, σ.cnt) := by rw [DS.append, hE]; rfl
    rw [hr]
    rw [hE] at k1
    clear hr hE h hi hb hbn hbF
    go_enter Tryz.func28, Tryz.ntmps28
    go_wp2_with (go_at_call 68; refine k1.mono ?_; rintro e w1 ⟨rfl, hd1, hg1⟩)
    go_ret
    exact ⟨rfl, HC.out hd1 hg1 (Below.refl _ _)⟩
  · have hr : σ.append s (bs X len) = (9, σ.cnt) := by rw [DS.append, hE]; rfl
    rw [hr]
    rw [hE] at k1
    clear hr hE h hi hb hbn hbF
    go_enter Tryz.func28, Tryz.ntmps28
    go_wp2_with (go_at_call 68; refine k1.mono ?_; rintro e w1 ⟨rfl, hd1, hg1⟩)
    go_ret
    exact ⟨rfl, HC.out hd1 hg1 (Below.refl _ _)⟩
  · have k3 := fun w1 e => rend_any e σ.c.cl w1
    rw [hE] at k1
    have k4 : ∀ {w1 : World}, Dk w1 p σ.room lv wv σ.c.cc → w.grownBy w1 (some p) → Calls Tryz.prog 47 #[.pointer (some ⟨p, 0, none⟩), .string s] w1 fun e w' => e = .returned (optp loc (fnd σ.dir s)) ∧ Below w1.heap.size w1 w' := fun a b => rfind_any p σ.room lv wv σ.c.cc F loc σ.dir s _ a (h.disk b a).dir HN.out
    cases hf : fnd σ.dir s with
    | none =>
      have hr : σ.append s (bs X len) = (endE 7 σ.c.cl, σ.cnt) := by rw [DS.append, hE, hf]; rfl
      rw [hr]
      rw [hf] at k4
      simp only [optp] at k4
      generalize σ.c.cl = L at k1 k3 ⊢
      clear hr hE h hi hf hb hbn hbF
      go_enter Tryz.func28, Tryz.ntmps28
      go_wp2_with (first | (go_at_call 68; refine k1.mono ?_; rintro e w1 ⟨rfl, hd1, hg1⟩) | (go_at_call 47; refine (k4 hd1 hg1).mono ?_; rintro e w4 ⟨rfl, hb4⟩) | (go_at_call 70; refine (k3 _ _).mono ?_; rintro e w3 ⟨rfl, rfl⟩))
      go_ret
      exact ⟨rfl, HC.out hd1 hg1 hb4⟩
    | some i =>
      rw [hf] at k4
      have HA : Hid (A i) := by obtain ⟨a, ha⟩ := fnd_mem hf; exact h.al i (.inl ⟨a, ha⟩)
      obtain ⟨data, sure, hds⟩ : ∃ data sure, σ.fl i = (data, sure) := ⟨_, _, rfl⟩
      have hif := hi.fl i
      rw [hds] at hif
      have HFL : Hid (σ.cnt.fl i = (data, sure)) := hds
      have HO2 : Hid (Okb data) := hif.2.2
      obtain ⟨D, hLen⟩ : ∃ D, D = data.length := ⟨_, rfl⟩
      have HD : Hid (D = data.length ∧ D ≤ 4194304) := ⟨hLen, by have := hif.1; simp only at this; omega⟩
      have hD : D ≤ 4194304 := HD.out.2
      have hr0 : σ.append s (bs X len) = if (4194304 : Int) - D < len ∨ σ.room - σ.used < len then (endE 8 σ.c.cl, σ.cnt) else (endE 0 σ.c.cl, { σ.cnt with fl := upd σ.fl i (data ++ bs X len, sure) }) := by
        rw [DS.append, hE, hf, hLen]
        simp only [bs_length, hds]
        rfl
      have wD : IntKind.i64.wrap ((4194304 : Int) - (D : Int)) = 4194304 - (D : Int) := by rw [wrapEq]; unfold wrap64; omega
      simp only [optp, ptr] at k4
      by_cases q1 : (4194304 : Int) - D < len
      · have qd : decide ((4194304 : Int) - (D : Int) < (len : Int)) = true := decide_eq_true q1
        rw [if_pos (.inl q1)] at hr0
        rw [hr0]
        generalize σ.c.cl = L at k1 k3 ⊢
        clear hr0 hE h hi hf hb hbn hbF hif hds hLen
        go_enter Tryz.func28, Tryz.ntmps28
        go_wp2_with (first | (go_at_call 68; refine k1.mono ?_; rintro e w1 ⟨rfl, hd1, hg1⟩) | (go_at_call 47; refine (k4 hd1 hg1).mono ?_; rintro e w4 ⟨rfl, hb4⟩; have R4 := Hid.intro ((HR.out hd1 hg1).later hb4); obtain ⟨ao, cap, x1, x2, x3, x4, x5, x6, x7, y0, y1, y2, y3⟩ := file_facts R4.out HA.out data sure HFL.out HO2.out; have X1 := Hid.intro x1; have X2 := Hid.intro x2; have X4 := Hid.intro x4; have X7 := Hid.intro x7; have z0 := cell_of R4.out.blk 0; simp only [List.getElem?_toArray, List.getElem?_cons_succ, List.getElem?_cons_zero] at z0; rw [← HD.out.1] at y0; clear x1 x2 x4 x5 x6 x7) | (go_at_call 70; refine (k3 _ _).mono ?_; rintro e w3 ⟨rfl, rfl⟩))
        go_quiet (fail)
        go_wp2_with (first | (go_at_call 68; refine k1.mono ?_; rintro e w1 ⟨rfl, hd1, hg1⟩) | (go_at_call 70; refine (k3 _ _).mono ?_; rintro e w3 ⟨rfl, rfl⟩))
        go_ret
        exact ⟨rfl, HC.out hd1 hg1 (below_drewN hb4 _)⟩
      · have qd : decide ((4194304 : Int) - (D : Int) < (len : Int)) = false := decide_eq_false q1
        obtain ⟨U, hU⟩ : ∃ U, U = σ.used := ⟨_, rfl⟩
        have hUl : U ≤ 4398046511104 := by rw [hU]; exact hi.ul
        have k8 : ∀ {w4 : World}, RefAt w4 p σ.cnt F A loc lv wv → Calls Tryz.prog 41 #[.pointer (some ⟨p, 0, none⟩)] w4 fun e w' => e = .returned (.int .i64 (U : Int)) ∧ Below w4.heap.size w4 w' := fun r => by rw [hU]; exact rused_any p σ.cnt F A loc lv wv _ r hi.dn hi.fls
        obtain ⟨R, hR⟩ : ∃ R, R = σ.room := ⟨_, rfl⟩
        have hRl : 0 ≤ R ∧ R ≤ 9223372036854775807 := by rw [hR]; exact hi.room
        have wU : IntKind.i64.wrap (R - (U : Int)) = R - (U : Int) := by rw [wrapEq]; unfold wrap64; omega
        have HRR : Hid (σ.cnt.room = R) := hR.symm
        rw [← hU, ← hR] at hr0
        by_cases q2 : R - (U : Int) < len
        · have qe : decide (R - (U : Int) < (len : Int)) = true := decide_eq_true q2
          rw [if_pos (.inr q2)] at hr0
          rw [hr0]
          generalize σ.c.cl = L at k1 k3 ⊢
          clear hr0 hE h hi hf hb hbn hbF hif hds hLen hU hR q1 hRl
          go_enter Tryz.func28, Tryz.ntmps28
          go_wp2_with (first | (go_at_call 68; refine k1.mono ?_; rintro e w1 ⟨rfl, hd1, hg1⟩) | (go_at_call 47; refine (k4 hd1 hg1).mono ?_; rintro e w4 ⟨rfl, hb4⟩; have R4 := Hid.intro ((HR.out hd1 hg1).later hb4); obtain ⟨ao, cap, x1, x2, x3, x4, x5, x6, x7, y0, y1, y2, y3⟩ := file_facts R4.out HA.out data sure HFL.out HO2.out; have X1 := Hid.intro x1; have X2 := Hid.intro x2; have X4 := Hid.intro x4; have X7 := Hid.intro x7; have z0 := cell_of R4.out.blk 0; simp only [List.getElem?_toArray, List.getElem?_cons_succ, List.getElem?_cons_zero] at z0; rw [HRR.out] at z0; rw [← HD.out.1] at y0; clear x1 x2 x4 x5 x6 x7) | (go_at_call 70; refine (k3 _ _).mono ?_; rintro e w3 ⟨rfl, rfl⟩))
          go_region_held (fun w' => w'.cell? ⟨loc i, 0, none⟩ = some (.slice ao D cap) ∧ w'.cell? ⟨p, 0, none⟩ = some (.int .i64 R)) (first | exact ⟨y0, z0⟩ | exact ⟨y5, z5⟩) (first | (go_at_call 41; refine (k8 (R4.out.later (Below.refl _ _).drew)).mono ?_; rintro e w5 ⟨rfl, hb5⟩; have b45 : Below w4.heap.size w4 w5 := (Below.refl _ _).drew.trans hb5; have z5 := cell_later b45 z0; have y5 := cell_later b45 y0))
          go_wp2_with (first | (go_at_call 70; refine (k3 _ _).mono ?_; rintro e w3 ⟨rfl, rfl⟩))
          go_ret
          exact ⟨rfl, HC.out hd1 hg1 (hb4.trans (b45.mono hb4.size))⟩
        · have qe : decide (R - (U : Int) < (len : Int)) = false := decide_eq_false q2
          rw [if_neg (by simp only [not_or]; exact ⟨q1, q2⟩)] at hr0
          rw [hr0]
          have HQ : Hid (D + len ≤ 4194304) := by show _ ≤ _; omega
          generalize σ.c.cl = L at k1 k3 ⊢
          clear hr0 hE h hi hf hb hbn hbF hif hds hLen hU hR q1 q2 hRl
          go_enter Tryz.func28, Tryz.ntmps28
          go_wp2_with (first | (go_at_call 68; refine k1.mono ?_; rintro e w1 ⟨rfl, hd1, hg1⟩) | (go_at_call 47; refine (k4 hd1 hg1).mono ?_; rintro e w4 ⟨rfl, hb4⟩; have R4 := Hid.intro ((HR.out hd1 hg1).later hb4); obtain ⟨ao, cap, x1, x2, x3, x4, x5, x6, x7, y0, y1, y2, y3⟩ := file_facts R4.out HA.out data sure HFL.out HO2.out; have X1 := Hid.intro x1; have X2 := Hid.intro x2; have X4 := Hid.intro x4; have X7 := Hid.intro x7; have z0 := cell_of R4.out.blk 0; simp only [List.getElem?_toArray, List.getElem?_cons_succ, List.getElem?_cons_zero] at z0; rw [HRR.out] at z0; rw [← HD.out.1] at y0; clear x1 x2 x4 x5 x6 x7) | (go_at_call 70; refine (k3 _ _).mono ?_; rintro e w3 ⟨rfl, rfl⟩))
          go_region_held (fun w' => w'.cell? ⟨loc i, 0, none⟩ = some (.slice ao D cap) ∧ w'.cell? ⟨p, 0, none⟩ = some (.int .i64 R)) (first | exact ⟨y0, z0⟩ | exact ⟨y5, z5⟩) (first | (go_at_call 41; refine (k8 (R4.out.later (Below.refl _ _).drew)).mono ?_; rintro e w5 ⟨rfl, hb5⟩; have b45 : Below w4.heap.size w4 w5 := (Below.refl _ _).drew.trans hb5; have z5 := cell_later b45 z0; have y5 := cell_later b45 y0))
          have Y := Hid.intro (And.intro (cell_later b45 y1) ((b45.frozen (block_lt_of_cell y0)).trans y2))
          have e5 : w5.frozen? ⟨loc i, 0, none⟩ = false := Y.out.2
          have e6 := block_lt_of_cell y5
          have K5 : Kept F w w5 := (HK.out hg1).trans (below_kept (F := F) (hb4.trans (b45.mono hb4.size))) fun _ x => .inl x
          go_wp2_with (first | (at_builtin; refine wpList_app rfl (.const (.slice none 0 0)) (.tmp 52) rfl w5.heap.size _ [] rfl (Row.nil _ _) ao D cap (xof data) rfl (by rw [HD.out.1]; exact X4.out) (by rw [HD.out.1]; exact X7.out.later b45) (by have := HQ.out; simp; omega) (Nat.le_refl _) ?_; intro v6 w6 r6 g6 m6; have b6 := grown_none g6) | (at_builtin; refine wpList_app rfl (.tmp 53) (.tmp 54) rfl w5.heap.size v6 _ rfl r6 bo len bc X rfl HBN.out.1 (HB.out (K5.trans (below_kept (F := F) b6) fun _ x => .inl x)) (by have := HQ.out; simp [bs_length]; omega) b6.size ?_; intro v7 w7 r7 g7 m7; have b7 : Below w5.heap.size w5 w7 := b6.trans (grown_below r6 g7 b6.size); have y7 := cell_later b7 y5; have e7 := (b7.frozen e6).trans e5; obtain ⟨o1, o2, o3, rfl⟩ := Row.slice r7) | (go_at_call 70; refine (k3 _ _).mono ?_; rintro e w3 ⟨rfl, rfl⟩))
          go_ret
          have b47 : Below w4.heap.size w4 w7 := b45.trans (b7.mono b45.size)
          have e8 : loc i < w4.heap.size := block_lt_of_cell y0
          refine ⟨rfl, Nxt.trans (HK.out hg1) (fun _ x => .inl x) (Nxt.start hb4 (nx_file (sure := sure) R4.out HA.out (grown_trans (below_grown b47 _) (grown_set _ _ _ _)) (heap_set (by rw [b47.block _ e8]; exact X1.out) 0 _) ?_ fun b e => ?_))⟩
          · have := ownsRow_setCell_below r7 (a := ⟨loc i, 0, none⟩) e6 (.slice o1 o2 o3)
            have h2 : Row 0 (w7.setCell ⟨loc i, 0, none⟩ (.slice o1 o2 o3)) (.slice o1 o2 o3) ([] ++ bs (xof data) D ++ bs X len) := Row.zero this
            rw [List.nil_append, HD.out.1, bs_xof HO2.out] at h2
            exact h2
          · have := (World.ownsRow.lt r7 b e).1
            have := b45.size
            exact .inr (by omega)
end Go.Proofs.YtligofmcmjblpaaGreat
