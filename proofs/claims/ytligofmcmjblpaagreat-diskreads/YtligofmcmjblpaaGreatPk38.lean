import Derived.Deep.RegionHeldLaw
import Derived.Test.YtligofmcmjblpaaGreatPk29
import Derived.Test.YtligofmcmjblpaaGreatPk33
/- The landed disk: Append. -/
namespace Go.Proofs.YtligofmcmjblpaaGreat
open Go.RowKit Go.Maps
set_option linter.unusedVariables false
set_option linter.unusedSimpArgs false

def DS.wAppend (σ : DS) (s : ByteArray) (b : List Int) : Int × DS :=
  match fnd σ.dir s with
  | none => (7, σ)
  | some i => if (4194304 : Int) - (σ.fl i).1.length < b.length ∨ σ.room - σ.used < b.length then (8, σ) else (0, { σ with fl := upd σ.fl i ((σ.fl i).1 ++ b, (σ.fl i).2) })
theorem append_w (σ : DS) (s : ByteArray) (b : List Int) : σ.append s b = if σ.c.ce ≠ 0 then (σ.c.ce, σ.cnt) else (endE (σ.cnt.wAppend s b).1 σ.c.cl, (σ.cnt.wAppend s b).2) := by
  unfold DS.append DS.wAppend
  have e : fnd σ.cnt.dir s = fnd σ.dir s := rfl
  have e2 : σ.cnt.used = σ.used := rfl
  rw [e, e2]
  split
  · rfl
  · cases fnd σ.dir s with
    | none => rfl
    | some i =>
      show (if (4194304 : Int) - (σ.fl i).1.length < b.length ∨ σ.room - σ.used < b.length then _ else _) = (endE (if (4194304 : Int) - (σ.fl i).1.length < b.length ∨ σ.room - σ.used < b.length then (8, σ.cnt) else (0, { σ.cnt with fl := upd σ.fl i ((σ.fl i).1 ++ b, (σ.fl i).2) })).1 σ.c.cl, (if (4194304 : Int) - (σ.fl i).1.length < b.length ∨ σ.room - σ.used < b.length then (8, σ.cnt) else (0, { σ.cnt with fl := upd σ.fl i ((σ.fl i).1 ++ b, (σ.fl i).2) })).2)
      split <;> rfl
theorem wrapEqL (n : Int) : IntKind.i64.wrap n = wrap64 n := by simp [IntKind.wrap_i64, wrap64]
theorem Row.sliceL {B : Nat} {w : World} {v : Value} {xs : List Int} (h : Row B w v xs) : ∃ ao n c, v = .slice ao n c := by
  rcases h.2 with ⟨rfl, _⟩ | ⟨g, cap, cur, rfl, _⟩
  · exact ⟨_, _, _, rfl⟩
  · exact ⟨_, _, _, rfl⟩
theorem step_appB {ops : Array Oper} {w : World} {o : Oper} {a : Act} {K : Act → World → Prop} {Q : Exit → Act → World → Prop} {E : Prop} (hgd : o.guard = none) (s x : Operand)
    (ho : o.op = .call { callee := .builtin .append, args := #[s, x], argTypes := #[27, 27] }) (v : Value) (xs : List Int) (hs : a.eval s = v) (hrow : Row 0 w v xs) (bo : Option Addr) (m c : Nat) (X : Nat → Nat) (hx : a.eval x = .slice bo m c) (hnil : bo = none → m = 0 ∧ c = 0) (hby : Byt w bo m X) (hb : xs.length + m ≤ 140737488355328)
    (h : ∀ ao n cc w', Row 0 w' (.slice ao n cc) (xs ++ bs X m) → w.grownBy w' v.ownBlock → Moved w v (.slice ao n cc) → K (a.put o.dst (.slice ao n cc)) w') :
    if Region.wanted o (yielded ops a.tmps) = true then Oper.wp Tryz.prog o a w K Q else E := by
  have hw : Region.wanted o (yielded ops a.tmps) = true := by simp [Region.wanted, hgd]
  rw [if_pos hw]
  obtain ⟨v', w', hr, h2, h3, h4⟩ := run_app 0 w o.type v xs hrow bo m c X hnil hby hb (Nat.zero_le _)
  obtain ⟨ao, n, cc, rfl⟩ := Row.sliceL h2
  unfold Oper.wp execOp
  simp only [ho, resolve, invoke, builtin, Sem.run_bind, Sem.run_pure, Result.andThen_ok, List.map_toArray, List.map_cons, List.map_nil, hs, hx, hr]
  exact h _ _ _ _ h2 h3 h4

/-- Bytes behind those of a file. -/
theorem LAt.appended {w w1 w2 : World} {p : Nat} {σ : DS} {F A : Nat → Prop} {loc : Nat → Nat} {dv : Nat → Value} {nv sv cv : Value} {sd : List Ent} {ch : List Chg} (h : LAt w p σ F A loc dv nv sv cv sd ch) {i : Nat} (hA : A i) (hb : Below w.heap.size w w1) {v : Value} {ys : List Int} (hr : Row 0 w2 v ys) (hg : w1.grownBy w2 (dv i).ownBlock) (hm : Moved w1 (dv i) v) :
    Nx RL w p { σ with fl := upd σ.fl i (ys, (σ.fl i).2) } F (w2.setCell ⟨loc i, 0, none⟩ v) := by
  have hx := h.later hb
  have hfm := hx.file i hA
  have g2 : w2.grownBy (w2.setCell ⟨loc i, 0, none⟩ v) (some (loc i)) := grown_set _ _ _ _
  have hne : ∀ b, (dv i).ownBlock = some b → b ≠ loc i := fun b e => TyOf.ne (hx.row5 hA e) hfm.ty (by decide)
  have hsz := hb.size
  have hs1 := hg.size
  have hs2 := g2.size
  have hF : w2.heap[loc i]? = w1.heap[loc i]? := hg.block _ hfm.ty.lt fun e => hne _ e.symm rfl
  have hfile : FileM (w2.setCell ⟨loc i, 0, none⟩ v) (fun k => F k ∨ v.ownBlock = some k) (loc i) v (ys, (σ.fl i).2) := by
    refine ⟨.inl hfm.fp, ?_, ?_, fun b e => .inr e⟩
    · have := heap_set (w := w2) (hF.trans hfm.blk) 0 v
      rw [this]
      rfl
    · refine owns_same hr fun b e => g2.block b (owns_ty hr e).lt fun e2 => ?_
      have t1 := owns_ty hr e
      have t2 : TyOf w2 (loc i) 72 := ⟨_, _, hF.trans hfm.blk⟩
      exact TyOf.ne t1 t2 (by decide) (Option.some.inj e2)
  have h2 := hx.setFile hA (w' := w2.setCell ⟨loc i, 0, none⟩ v) (G := fun k => F k ∨ v.ownBlock = some k) (fun k hk => .inl hk) (fun k hk => by
      rcases hk with hk | hk
      · have := hx.lt k hk
        omega
      · have := (owns_ty hr hk).lt
        omega) (fun k hk n1 n2 => by
      have := hx.lt k hk
      rw [g2.block k (by omega) (fun e => n1 (Option.some.inj e)), hg.block k this (fun e => n2 e.symm)]) hfile hm
  refine ⟨_, ⟨A, loc, _, nv, sv, cv, sd, ch, h2⟩, ?_, fun k hk => ?_⟩
  · refine (below_kept (F := F) hb).trans (G := F) ((Kept.grown hg fun k e => .inl (hfm.own k e)).trans (Kept.grown (F := F) g2 fun k e => .inl (by simp only [Option.some.injEq] at e; exact e ▸ hfm.fp)) fun _ x => .inl x) fun _ x => .inl x
  · rcases hk with hk | hk
    · exact .inl hk
    · rcases hm with hm | ⟨g, hm, hgg⟩
      · rw [hm] at hk
        exact .inl (hfm.own k hk)
      · rw [hm] at hk
        simp only [Option.some.injEq] at hk
        exact .inr (by omega)

set_option maxHeartbeats 2000000 in
set_option maxRecDepth 100000 in
theorem append1_any (db nb bb p : Nat) (σ : DS) (F A : Nat → Prop) (loc : Nat → Nat) (dv : Nat → Value) (nv sv cv : Value) (sd : List Ent) (ch : List Chg) (s : ByteArray) (bo : Option Addr) (len bc : Nat) (X : Nat → Nat) (w : World) (h : LAt w p σ F A loc dv nv sv cv sd ch) (hi : Inv { σ with c := ⟨1048576, 0, 0, 0, false⟩ }) (hby : Byt w bo len X) (hbn : bo = none → len = 0 ∧ bc = 0) (hbl : len ≤ 2 ^ 47)
    (cd : w.cell? ⟨db, 0, none⟩ = some (ptr p)) (cn : w.cell? ⟨nb, 0, none⟩ = some (.string s)) (cb : w.cell? ⟨bb, 0, none⟩ = some (.slice bo len bc)) (hn1 : ¬ F db) (hn2 : ¬ F nb) (hn3 : ¬ F bb) :
    Calls Tryz.prog 56 #[.pointer (some ⟨db, 0, none⟩), .pointer (some ⟨nb, 0, none⟩), .pointer (some ⟨bb, 0, none⟩)] w fun e w' => e = .returned (.int .i64 (σ.wAppend s (bs X len)).1) ∧ Nx RL w p (σ.wAppend s (bs X len)).2 F w' := by
  have HZ : Hid (∀ w1, Below w.heap.size w w1 → Nx RL w p σ F w1) := fun w1 hb => LAt.nxt (h.later hb) h.lt (below_kept hb)
  have c1 : w.cell? ⟨p, 1, none⟩ = some nv := cell_of h.blk 1
  have hlk : ∀ n, (Instr.lookup 46 nv (.string s) false).run Tryz.prog (w.drewN n) = .ok (pv loc (fnd σ.dir s)) (w.drewN n) := fun n => (h.later (below_drewN (Below.refl _ _) n)).dir.look s
  cases hf : fnd σ.dir s with
  | none =>
    have hr : σ.wAppend s (bs X len) = (7, σ) := by rw [DS.wAppend, hf]
    rw [hr]
    rw [hf] at hlk
    simp only [pv] at hlk
    clear hr h hi
    unfold ptr at *
    go_enter Tryz.func56, Tryz.ntmps56
    go_wp2_with fail
    go_quiet (fail)
    go_wp2_with fail
    go_ret
    exact ⟨rfl, HZ.out _ (below_drewN (Below.refl _ _) _)⟩
  | some i =>
    rw [hf] at hlk
    simp only [pv, ptr] at hlk
    have hA := h.alFnd hf
    have hfi : (σ.fl i).1.length ≤ 4194304 ∧ (σ.fl i).2 ≤ (σ.fl i).1.length ∧ Okb (σ.fl i).1 := hi.fl i
    obtain ⟨q1, q2, q3⟩ := hfi
    obtain ⟨D, hD⟩ : ∃ D, D = (σ.fl i).1.length := ⟨_, rfl⟩
    obtain ⟨U, hU⟩ : ∃ U, U = σ.used := ⟨_, rfl⟩
    obtain ⟨R, hR⟩ : ∃ R, R = σ.room := ⟨_, rfl⟩
    have hRl : 0 ≤ R ∧ R ≤ 9223372036854775807 := by rw [hR]; exact hi.room
    have hUl : U ≤ 4398046511104 := by
      rw [hU]
      have h1 := used_le (fun i => (hi.fl i).1) σ.dir
      have h2 : (σ.dir.length : Int) ≤ 1048576 := hi.dl
      unfold DS.used
      have h3 : used σ.fl σ.dir ≤ σ.dir.length * 4194304 := h1
      omega
    have hr0 : σ.wAppend s (bs X len) = if (4194304 : Int) - D < len ∨ R - U < len then (8, σ) else (0, { σ with fl := upd σ.fl i ((σ.fl i).1 ++ bs X len, (σ.fl i).2) }) := by
      rw [DS.wAppend, hf, hD, hU, hR]
      simp only [bs_length]
    have HFF : Hid (∀ wx, Below w.heap.size w wx → ∃ ao cap, dv i = .slice ao D cap ∧ wx.cell? ⟨loc i, 0, none⟩ = some (.slice ao D cap) ∧ wx.frozen? ⟨loc i, 0, none⟩ = false ∧ wx.cell? ⟨p, 0, none⟩ = some (.int .i64 R) ∧ wx.cell? ⟨db, 0, none⟩ = some (.pointer (some ⟨p, 0, none⟩)) ∧ wx.cell? ⟨bb, 0, none⟩ = some (.slice bo len bc) ∧ loc i < wx.heap.size) := fun wx hb => by
      have hx := h.later hb
      have hfm := hx.file i hA
      obtain ⟨ao, cap, e0, _⟩ := hfm.byt q3
      refine ⟨ao, cap, by rw [e0, hD], by rw [hD, ← e0]; exact hfm.cell0, frozen_of hfm.blk 0, by rw [hR]; exact cell_of hx.blk 0, cell_later hb cd, cell_later hb cb, hfm.ty.lt⟩
    have HU : Hid (∀ wx, Below w.heap.size w wx → Calls Tryz.prog 40 #[.pointer (some ⟨p, 0, none⟩)] wx fun e w' => e = .returned (.int .i64 (U : Int)) ∧ Below wx.heap.size wx w') := fun wx hb => by
      rw [hU]
      have h9 : LAt wx p { σ with c := σ.c } F A loc dv nv sv cv sd ch := h.later hb
      exact used_anyL p σ F wx ⟨A, loc, dv, nv, sv, cv, sd, ch, h.later hb⟩ (fun i => hi.fl i) (by have : (σ.dir.length : Int) ≤ 1048576 := hi.dl; omega)
    have wD : IntKind.i64.wrap ((4194304 : Int) - (D : Int)) = 4194304 - (D : Int) := by rw [wrapEqL]; unfold wrap64; omega
    have wU : IntKind.i64.wrap (R - (U : Int)) = R - (U : Int) := by rw [wrapEqL]; unfold wrap64; omega
    have hD4 : D ≤ 4194304 := by rw [hD]; exact q1
    unfold ptr at *
    by_cases g1 : (4194304 : Int) - D < len
    · have qd : decide ((4194304 : Int) - (D : Int) < (len : Int)) = true := decide_eq_true g1
      rw [if_pos (.inl g1)] at hr0
      rw [hr0]
      clear hr0 h hi hf hU hR q1 q2 q3 hD hRl
      go_enter Tryz.func56, Tryz.ntmps56
      go_wp2_with fail
      go_quiet (fail)
      have hbq : Below w.heap.size w (w.drewN nq) := below_drewN (Below.refl _ _) _
      generalize w.drewN nq = w2 at hbq ⊢
      obtain ⟨ao, cap, z0, z1, z2, z3, z4, z5, z6⟩ := HFF.out _ hbq
      clear z0
      go_wp2_with fail
      go_quiet (fail)
      go_wp2_with fail
      go_ret
      exact ⟨rfl, HZ.out _ (below_drewN hbq _)⟩
    · have qd : decide ((4194304 : Int) - (D : Int) < (len : Int)) = false := decide_eq_false g1
      by_cases g2 : R - (U : Int) < len
      · have qe : decide (R - (U : Int) < (len : Int)) = true := decide_eq_true g2
        rw [if_pos (.inr g2)] at hr0
        rw [hr0]
        clear hr0 h hi hf hU hR q1 q2 q3 hD hRl g1
        go_enter Tryz.func56, Tryz.ntmps56
        go_wp2_with fail
        go_quiet (fail)
        have hbq : Below w.heap.size w (w.drewN nq) := below_drewN (Below.refl _ _) _
        generalize w.drewN nq = w2 at hbq ⊢
        obtain ⟨ao, cap, z0, z1, z2, z3, z4, z5, z6⟩ := HFF.out _ hbq
        clear z0
        go_wp2_with fail
        go_region_held (fun w' => w'.cell? ⟨loc i, 0, none⟩ = some (.slice ao D cap) ∧ w'.cell? ⟨p, 0, none⟩ = some (.int .i64 R) ∧ w'.cell? ⟨db, 0, none⟩ = some (.pointer (some ⟨p, 0, none⟩)) ∧ w'.cell? ⟨bb, 0, none⟩ = some (.slice bo len bc)) (first | exact ⟨y1, y2, y3, y4⟩ | exact ⟨z1, z3, z4, z5⟩) (first | (go_at_call 40; refine (HU.out _ hbq.drew).mono ?_; rintro e w5 ⟨rfl, hb5⟩; have b25 : Below w2.heap.size w2 w5 := below_undrew hb5; have y1 := cell_later b25 z1; have y2 := cell_later b25 z3; have y3 := cell_later b25 z4; have y4 := cell_later b25 z5))
        go_wp2_with fail
        go_ret
        exact ⟨rfl, HZ.out _ (hbq.trans (b25.mono hbq.size))⟩
      · have qe : decide (R - (U : Int) < (len : Int)) = false := decide_eq_false g2
        rw [if_neg (by simp only [not_or]; exact ⟨g1, g2⟩)] at hr0
        rw [hr0]
        have HQ : Hid ((σ.fl i).1.length + len ≤ 140737488355328) := by show _ ≤ _; omega
        have HE : Hid (∀ {w1 w2 : World} {v : Value} {ys : List Int}, Below w.heap.size w w1 → Row 0 w2 v ys → w1.grownBy w2 (dv i).ownBlock → Moved w1 (dv i) v → Nx RL w p { σ with fl := upd σ.fl i (ys, (σ.fl i).2) } F (w2.setCell ⟨loc i, 0, none⟩ v)) := fun a b c d => h.appended hA a b c d
        have HRW : Hid (∀ wx, Below w.heap.size w wx → Row 0 wx (dv i) (σ.fl i).1) := fun wx hb => ((h.later hb).file i hA).row
        have HBY : Hid (∀ wx, Below w.heap.size w wx → Byt wx bo len X) := fun wx hb => hby.later hb
        have HGR : Hid (∀ wx w6, Below w.heap.size w wx → wx.grownBy w6 (dv i).ownBlock → w6.cell? ⟨loc i, 0, none⟩ = some (dv i) ∧ w6.frozen? ⟨loc i, 0, none⟩ = false) := fun wx w6 hb hg => by
          have hx := h.later hb
          have hfm := hx.file i hA
          have e : w6.heap[loc i]? = wx.heap[loc i]? := hg.block _ hfm.ty.lt fun e => TyOf.ne hfm.ty (hx.row5 hA e.symm) (by decide) rfl
          exact ⟨cell_of (e.trans hfm.blk) 0, frozen_of (e.trans hfm.blk) 0⟩
        clear hr0 h hi hf hU hR q1 q2 q3 hD hRl g1 g2 hby
        go_enter Tryz.func56, Tryz.ntmps56
        go_wp2_with fail
        go_quiet (fail)
        have hbq : Below w.heap.size w (w.drewN nq) := below_drewN (Below.refl _ _) _
        generalize w.drewN nq = w2 at hbq ⊢
        obtain ⟨ao, cap, z0, z1, z2, z3, z4, z5, z6⟩ := HFF.out _ hbq
        have Z0 : Hid (dv i = .slice ao D cap) := z0
        clear z0
        go_wp2_with fail
        go_region_held (fun w' => w'.cell? ⟨loc i, 0, none⟩ = some (.slice ao D cap) ∧ w'.cell? ⟨p, 0, none⟩ = some (.int .i64 R) ∧ w'.cell? ⟨db, 0, none⟩ = some (.pointer (some ⟨p, 0, none⟩)) ∧ w'.cell? ⟨bb, 0, none⟩ = some (.slice bo len bc)) (first | exact ⟨y1, y2, y3, y4⟩ | exact ⟨z1, z3, z4, z5⟩) (first | (go_at_call 40; refine (HU.out _ hbq.drew).mono ?_; rintro e w5 ⟨rfl, hb5⟩; have b25 : Below w2.heap.size w2 w5 := below_undrew hb5; have y1 := cell_later b25 z1; have y2 := cell_later b25 z3; have y3 := cell_later b25 z4; have y4 := cell_later b25 z5))
        have hB5 : Below w.heap.size w w5 := hbq.trans (b25.mono hbq.size)
        go_wp2_with fail
        go_region_law (first | (refine step_appB rfl (.tmp 38) (.tmp 39) rfl (dv i) (σ.fl i).1 (by rw [Z0.out]; rfl) (by exact HRW.out _ hB5.drew) bo len bc X rfl hbn (by exact HBY.out _ hB5.drew) HQ.out ?_; intro ao6 n6 c6 w6 r6 g6 m6; replace g6 := undrew g6; obtain ⟨x1, x2⟩ := HGR.out _ _ hB5 g6))
        all_goals
          go_wp2_with fail
          go_ret
          exact ⟨rfl, HE.out hB5 r6 g6 m6⟩

theorem ok_c : Cn.Ok ⟨1048576, 0, 0, 0, false⟩ := ⟨by decide, by decide, by decide, by decide, by decide, by decide, by decide, by decide⟩
theorem inv_any_c {σ : DS} (hi : Inv σ) : Inv { σ with c := ⟨1048576, 0, 0, 0, false⟩ } := by
  have h1 := hi.dl
  have h2 := hi.ok.2.1
  have h3 := hi.wl
  refine ⟨ok_c, ?_, ?_, hi.w1, fun l hl => ?_, hi.room, hi.fl⟩
  · show (σ.dir.length : Int) ≤ 1048576
    omega
  · show (σ.was.length : Int) ≤ 1048576 + 1
    omega
  · have := hi.wd l hl
    show (l.length : Int) ≤ 1048576
    omega

set_option maxHeartbeats 1000000 in
set_option maxRecDepth 100000 in
theorem append_any (p : Nat) (σ : DS) (F : Nat → Prop) (s : ByteArray) (bo : Option Addr) (len bc : Nat) (X : Nat → Nat) (w : World) (h : RL w p σ F) (hi : Inv σ) (hby : Byt w bo len X) (hbn : bo = none → len = 0 ∧ bc = 0) (hbF : 0 < len → ∀ a, bo = some a → ¬ F a.block) (hbl : len ≤ 2 ^ 47) :
    Calls Tryz.prog 18 #[ptr p, .string s, .slice bo len bc] w fun e w' => e = .returned (.int .i64 (σ.append s (bs X len)).1) ∧ Nx RL w p (σ.append s (bs X len)).2 F w' := by
  obtain ⟨A, loc, dv, nv, sv, cv, sd, ch, h⟩ := h
  obtain ⟨wa, hwa⟩ : ∃ wa, wa = ((w.alloc (.cells #[ptr p] 23)).alloc (.cells #[.string s] 9)).alloc (.cells #[.slice bo len bc] 27) := ⟨_, rfl⟩
  have b1 : Below w.heap.size w (w.alloc (.cells #[ptr p] 23)) := (Below.refl _ _).alloc (Nat.le_refl _) _
  have hb : Below w.heap.size w wa := by rw [hwa]; exact (b1.alloc (by simp) _).alloc (by simp; omega) _
  have c0 : wa.cell? ⟨w.heap.size, 0, none⟩ = some (ptr p) := by rw [hwa]; exact cell_later ((Below.refl _ _).alloc (Nat.le_refl _) _) (cell_later ((Below.refl _ _).alloc (Nat.le_refl _) _) (cell_of (heap_alloc_new w _) 0))
  have c1 : wa.cell? ⟨w.heap.size + 1, 0, none⟩ = some (.string s) := by
    rw [hwa]
    have := cell_of (heap_alloc_new (w.alloc (.cells #[ptr p] 23)) (.cells #[.string s] 9)) 0
    rw [show (w.alloc (.cells #[ptr p] 23)).heap.size = w.heap.size + 1 by simp] at this
    exact cell_later ((Below.refl _ _).alloc (Nat.le_refl _) _) this
  have c2 : wa.cell? ⟨w.heap.size + 2, 0, none⟩ = some (.slice bo len bc) := by
    rw [hwa]
    have := cell_of (heap_alloc_new ((w.alloc (.cells #[ptr p] 23)).alloc (.cells #[.string s] 9)) (.cells #[.slice bo len bc] 27)) 0
    rw [show ((w.alloc (.cells #[ptr p] 23)).alloc (.cells #[.string s] 9)).heap.size = w.heap.size + 2 by simp] at this
    exact this
  have hp := h.lt p h.fp
  have hbyK : ∀ w1, wa.grownBy w1 (some p) → Byt w1 bo len X := fun w1 g1 k hk => by
    obtain ⟨z1, b, off, z2, z3⟩ := (hby.later hb) k hk
    refine ⟨z1, b, off, z2, g1.cell z3 fun e => ?_⟩
    simp only [Option.some.injEq] at e
    exact hbF (by omega) _ z2 (by rw [show (⟨b, off, none⟩ : Addr).block = p from e]; exact h.fp)
  have k := changing_w 56 #[.pointer (some ⟨w.heap.size, 0, none⟩), .pointer (some ⟨w.heap.size + 1, 0, none⟩), .pointer (some ⟨w.heap.size + 2, 0, none⟩)] p σ F A loc dv nv sv cv sd ch wa (h.later hb) hi (σ.cnt.wAppend s (bs X len)) (enters_of Tryz.func56 (by kernel_rfl) rfl _) fun w1 g1 h1 =>
    append1_any _ _ _ p σ.cnt F A loc dv nv sv cv sd ch s bo len bc X w1 h1 (inv_any_c (σ := σ) hi) (hbyK w1 g1) hbn hbl (g1.cell c0 (fun e => by simp only [Option.some.injEq] at e; omega)) (g1.cell c1 (fun e => by simp only [Option.some.injEq] at e; omega)) (g1.cell c2 (fun e => by simp only [Option.some.injEq] at e; omega)) (fun e => by have := h.lt _ e; omega) (fun e => by have := h.lt _ e; omega) (fun e => by have := h.lt _ e; omega)
  rw [← append_w] at k
  have HX : Hid (∀ w', Nx RL wa p (σ.append s (bs X len)).2 F w' → Nx RL w p (σ.append s (bs X len)).2 F w') := fun w' hx => hx.start hb
  generalize (σ.append s (bs X len)).1 = r at k ⊢
  clear h hi hb c0 c1 c2 b1 hbyK hby hbF hbn hbl
  unfold ptr at *
  go_enter Tryz.func18, Tryz.ntmps18
  go_wp2_with (go_at_call 51; rw [← hwa]; refine k.mono ?_; rintro e w' ⟨rfl, hx⟩)
  go_ret
  exact ⟨rfl, HX.out _ hx⟩
end Go.Proofs.YtligofmcmjblpaaGreat
