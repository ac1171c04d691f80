import Derived.Test.YtjgfklbhagcbaabPk15
import Derived.Test.YtjgfklbhagcbaabPk16
/- What the document's own MayEdit answers, and the landed May. -/
namespace Go.Proofs.Ytjgfklbhagcbaab
open Go.RowKit
set_option linter.unusedVariables false
set_option linter.unusedSimpArgs false

theorem run_headG {t : TypeId} (ht : Try.prog.underlying t = some (.slice (Try.prog.elem t))) {n : Nat} (w : World) (hn : (sizeOf (Try.prog.elem t)).run Try.prog w = .ok n w) (b off len cap j : Nat) (h2 : j ≤ cap) : (Instr.slice t (.slice (some ⟨b, off, none⟩) len cap) none (some (.int .i64 (j : Int))) none).run Try.prog w = .ok (.slice (some ⟨b, off, none⟩) j cap) w := by
  rw [run_slice_h (P := Try.prog) (w := w) t (some ⟨b, off, none⟩) len cap ht .i64 (j : Int) (by omega) (by omega), hn]
  simp only [Result.andThen, Int.toNat_natCast]
  unfold sliced
  simp [Addr.add]
theorem elemTs : Try.prog.elem 24 = 30 := by kernel_rfl
theorem underTs : Try.prog.underlying 24 = some (.slice (Try.prog.elem 24)) := by rw [elemTs]; exact Try.underlying24
theorem elemIs : Try.prog.elem 35 = 2 := by kernel_rfl
theorem underIs : Try.prog.underlying 35 = some (.slice (Try.prog.elem 35)) := by rw [elemIs]; exact Try.underlying35
theorem run_headT (w : World) (b off len cap j : Nat) (h2 : j ≤ cap) : (Instr.slice 24 (.slice (some ⟨b, off, none⟩) len cap) none (some (.int .i64 (j : Int))) none).run Try.prog w = .ok (.slice (some ⟨b, off, none⟩) j cap) w :=
  run_headG underTs w (by rw [elemTs, Try.sizeOf30]) b off len cap j h2
theorem run_headI (w : World) (b off len cap j : Nat) (h2 : j ≤ cap) : (Instr.slice 35 (.slice (some ⟨b, off, none⟩) len cap) none (some (.int .i64 (j : Int))) none).run Try.prog w = .ok (.slice (some ⟨b, off, none⟩) j cap) w :=
  run_headG underIs w (by rw [elemIs, Try.sizeOf2]) b off len cap j h2
/-- An edit as a value. -/
def edV (e : EdV) (aa : Option Addr) (ac : Nat) (ra : Option Addr) (rc : Nat) : Value := .agg #[.int .i64 e.log, .int .i64 e.next, .int .i64 e.seq, .slice aa e.add.length ac, .slice ra e.rem.length rc]
/-- What an edit that came in owes. -/
structure EdM (w : World) (e : EdV) (aa : Option Addr) (ac : Nat) (ra : Option Addr) (rc : Nat) : Prop where
  log : In64 e.log
  next : In64 e.next
  seq : In64 e.seq
  add : RS lnE w aa e.add.length ac e.add
  rem : RS i64E w ra e.rem.length rc e.rem
theorem EdM.later {w w' : World} {e : EdV} {aa ra : Option Addr} {ac rc : Nat} (h : EdM w e aa ac ra rc) (hb : Below w.heap.size w w') : EdM w' e aa ac ra rc := ⟨h.log, h.next, h.seq, h.add.later hb, h.rem.later hb⟩
/-- The five cells of an edit that was laid into a box. -/
theorem box5 (w : World) (c0 c1 c2 c3 c4 : Value) (t : TypeId) {wx : World} (hb : Below (w.alloc (.cells #[c0, c1, c2, c3, c4] t)).heap.size (w.alloc (.cells #[c0, c1, c2, c3, c4] t)) wx) :
    wx.cell? ⟨w.heap.size, 0, none⟩ = some c0 ∧ wx.cell? ⟨w.heap.size, 1, none⟩ = some c1 ∧ wx.cell? ⟨w.heap.size, 2, none⟩ = some c2 ∧ wx.cell? ⟨w.heap.size, 3, none⟩ = some c3 ∧ wx.cell? ⟨w.heap.size, 4, none⟩ = some c4 := by
  have h := heap_alloc_new w (.cells #[c0, c1, c2, c3, c4] t)
  exact ⟨cell_later hb (by rw [cell_of h]; rfl), cell_later hb (by rw [cell_of h]; rfl), cell_later hb (by rw [cell_of h]; rfl), cell_later hb (by rw [cell_of h]; rfl), cell_later hb (by rw [cell_of h]; rfl)⟩
set_option maxHeartbeats 4000000 in
set_option maxRecDepth 100000 in
theorem emay_any {w : World} {e : EdV} {aa ra : Option Addr} {ac rc : Nat} (h : EdM w e aa ac ra rc) :
    Calls Try.prog 28 #[edV e aa ac ra rc] w fun r w' => r = .returned (.bool (mayEd e)) ∧ Below w.heap.size w w' := by
  obtain ⟨log, next, seq, add, rem⟩ := e
  obtain ⟨i1, i2, i3, ha, hr⟩ := h
  unfold edV mayEd
  simp only at i1 i2 i3 ha hr ⊢
  have hbx := fun (wx : World) hb => box5 w (.int .i64 log) (.int .i64 next) (.int .i64 seq) (.slice aa add.length ac) (.slice ra rem.length rc) 37 (wx := wx) hb
  obtain ⟨W, hW⟩ : ∃ W, W = w.alloc (.cells #[.int .i64 log, .int .i64 next, .int .i64 seq, .slice aa add.length ac, .slice ra rem.length rc] 37) := ⟨_, rfl⟩
  have hWb : Below w.heap.size w W := by rw [hW]; exact (Below.refl _ w).alloc (Nat.le_refl _) _
  rw [← hW] at hbx
  have hA := ead_any (ha.later hWb)
  have HR : Hid (∀ wx, Below W.heap.size W wx → Calls Try.prog 43 #[.slice ra rem.length rc] wx fun e w' => e = .returned (.bool (mayRm rem)) ∧ Below wx.heap.size wx w') := fun wx hb => erm_any ((hr.later hWb).later hb)
  have hM1 := fun wx => emmk_any (w := wx) (n := log)
  have hM2 := fun wx => emmk_any (w := wx) (n := next)
  have hM3 := fun wx => emmk_any (w := wx) (n := seq)
  obtain ⟨b1, h1⟩ : ∃ b, b = mayMk log := ⟨_, rfl⟩
  obtain ⟨b2, h2⟩ : ∃ b, b = mayMk next := ⟨_, rfl⟩
  obtain ⟨b3, h3⟩ : ∃ b, b = mayMk seq := ⟨_, rfl⟩
  obtain ⟨b4, h4⟩ : ∃ b, b = mayAd add := ⟨_, rfl⟩
  obtain ⟨b5, h5⟩ : ∃ b, b = mayRm rem := ⟨_, rfl⟩
  rw [← h1] at hM1 ⊢
  rw [← h2] at hM2 ⊢
  rw [← h3] at hM3 ⊢
  rw [← h4] at hA ⊢
  rw [← h5] at HR ⊢
  have HBX := hidE hbx
  have HWB := hidE hWb
  have HW := hidE hW
  obtain ⟨x0, x1, x2, x3, x4⟩ := hbx _ (Below.refl _ _)
  generalize add.length = na at x3 hA HW HBX
  generalize rem.length = nr at x4 HR HW HBX
  rw [HW.out] at x0 x1 x2 x3 x4 hA
  clear h1 h2 h3 h4 h5 ha hr hWb hW hbx i1 i2 i3
  cases b1
  · go_enter Try.func28, Try.ntmps28
    go_wp2_with (go_at_call 41; refine (hM1 _).mono ?_; rintro e w2 ⟨rfl, hw⟩; obtain rfl := hw.symm)
    exact bodyPost_ret (v := .bool false) (by simp [results, Try.results28, go_sem]) rfl ⟨by simp, by rw [← HW.out]; exact HWB.out⟩
  cases b2
  · go_enter Try.func28, Try.ntmps28
    go_wp2_with (first | (go_at_call_of 41 (Value.int .i64 log); refine (hM1 _).mono ?_; rintro e w2 ⟨rfl, hw⟩; obtain rfl := hw.symm; clear hM1) | (go_at_call_of 41 (Value.int .i64 next); refine (hM2 _).mono ?_; rintro e w2 ⟨rfl, hw⟩; obtain rfl := hw.symm; clear hM2))
    exact bodyPost_ret (v := .bool false) (by simp [results, Try.results28, go_sem]) rfl ⟨by simp, by rw [← HW.out]; exact HWB.out⟩
  cases b3
  · go_enter Try.func28, Try.ntmps28
    go_wp2_with (first | (go_at_call_of 41 (Value.int .i64 log); refine (hM1 _).mono ?_; rintro e w2 ⟨rfl, hw⟩; obtain rfl := hw.symm; clear hM1) | (go_at_call_of 41 (Value.int .i64 next); refine (hM2 _).mono ?_; rintro e w2 ⟨rfl, hw⟩; obtain rfl := hw.symm; clear hM2) | (go_at_call_of 41 (Value.int .i64 seq); refine (hM3 _).mono ?_; rintro e w2 ⟨rfl, hw⟩; obtain rfl := hw.symm))
    exact bodyPost_ret (v := .bool false) (by simp [results, Try.results28, go_sem]) rfl ⟨by simp, by rw [← HW.out]; exact HWB.out⟩
  cases b4
  · go_enter Try.func28, Try.ntmps28
    go_wp2_with (first | (go_at_call_of 41 (Value.int .i64 log); refine (hM1 _).mono ?_; rintro e w2 ⟨rfl, hw⟩; obtain rfl := hw.symm; clear hM1) | (go_at_call_of 41 (Value.int .i64 next); refine (hM2 _).mono ?_; rintro e w2 ⟨rfl, hw⟩; obtain rfl := hw.symm; clear hM2) | (go_at_call_of 41 (Value.int .i64 seq); refine (hM3 _).mono ?_; rintro e w2 ⟨rfl, hw⟩; obtain rfl := hw.symm; clear hM3) | (go_at_call 42; refine hA.mono ?_; rintro e w3 ⟨rfl, c3⟩; rw [← HW.out] at c3))
    exact bodyPost_ret (v := .bool false) (by simp [results, Try.results28, go_sem]) rfl ⟨by simp, HWB.out.trans (c3.mono HWB.out.size)⟩
  · go_enter Try.func28, Try.ntmps28
    go_wp2_with (first | (go_at_call_of 41 (Value.int .i64 log); refine (hM1 _).mono ?_; rintro e w2 ⟨rfl, hw⟩; obtain rfl := hw.symm; clear hM1) | (go_at_call_of 41 (Value.int .i64 next); refine (hM2 _).mono ?_; rintro e w2 ⟨rfl, hw⟩; obtain rfl := hw.symm; clear hM2) | (go_at_call_of 41 (Value.int .i64 seq); refine (hM3 _).mono ?_; rintro e w2 ⟨rfl, hw⟩; obtain rfl := hw.symm; clear hM3) | (go_at_call 42; refine hA.mono ?_; rintro e w3 ⟨rfl, c3⟩; rw [← HW.out] at c3; obtain ⟨y0, y1, y2, y3, y4⟩ := HBX.out _ c3) | (go_at_call 43; refine (HR.out _ c3).mono ?_; rintro e w4 ⟨rfl, c4⟩))
    exact bodyPost_ret (v := .bool b5) (by simp [results, Try.results28, go_sem]) rfl ⟨by simp, HWB.out.trans ((c3.trans (c4.mono c3.size)).mono HWB.out.size)⟩
end Go.Proofs.Ytjgfklbhagcbaab

/- The landed level: a row of one's own is brought into order. -/
namespace Go.Proofs.Ytjgfklbhagcbaab
open Go.RowKit
set_option linter.unusedVariables false
set_option linter.unusedSimpArgs false

theorem gb_refl (w : World) (r : Option Nat) : w.grownBy w r := ⟨rfl, rfl, rfl, Nat.le_refl _, fun _ _ _ => rfl⟩
theorem gb_trans {a b c : World} {r : Option Nat} (h1 : a.grownBy b r) (h2 : b.grownBy c r) : a.grownBy c r :=
  ⟨h2.os.trans h1.os, h2.tape.trans h1.tape, h2.output.trans h1.output, Nat.le_trans h1.size h2.size, fun k hk hne => (h2.block k (Nat.lt_of_lt_of_le hk h1.size) hne).trans (h1.block k hk hne)⟩
theorem gb_below {a b c : World} {r : Option Nat} (h1 : a.grownBy b r) (h2 : Below b.heap.size b c) : a.grownBy c r :=
  ⟨h2.os.trans h1.os, h2.tape.trans h1.tape, h2.output.trans h1.output, Nat.le_trans h1.size h2.size, fun k hk hne => (h2.block k (Nat.lt_of_lt_of_le hk h1.size)).trans (h1.block k hk hne)⟩
theorem Sl.refs_row {B : Nat} {w : World} {v : Value} {xs : List Int} (h : Row B w v xs) (hok : Okb xs) : ∃ ao cap, v = .slice ao xs.length cap ∧ Sl w ao xs.length cap xs ∧ ∀ b, Refs (.slice ao xs.length cap) b → B ≤ b := by
  obtain ⟨ao, cap, rfl, h2⟩ := Sl.ofRow h hok
  exact ⟨ao, cap, rfl, h2, fun b hr => row_refs h hr⟩
set_option maxHeartbeats 4000000 in
set_option maxRecDepth 100000 in
theorem ordered_some {B : Nat} {w : World} {g off cap : Nat} {its : List ItV} (h : RwI B w g off its) (hB : B ≤ w.heap.size) (hn : its.length ≤ 1000000) (hc : its.length ≤ cap) (hc2 : cap ≤ maxLen) (hkl : ∀ t ∈ its.map (·.t), t.least.length ≤ 1000000 ∧ t.most.length ≤ 1000000) :
    Calls Try.prog 10 #[.slice (some ⟨g, off, none⟩) its.length cap] w fun e w' => e = .returned (.slice (some ⟨g, off, none⟩) its.length cap) ∧ ∃ ys, (Below B w w' ∧ w.grownBy w' (some g)) ∧ RS lnE w' (some ⟨g, off, none⟩) its.length cap ys ∧ ys.Perm (its.map (·.t)) ∧ Wk ys := by
  obtain ⟨n, hnn⟩ : ∃ n, n = its.length := ⟨_, rfl⟩
  rw [← hnn] at hn hc ⊢
  have HN := hidS hnn
  have H0 := hidS h
  have HKL := hidS hkl
  have HC := hidS (And.intro hc hc2)
  clear hnn h hc hc2 hkl
  go_enter Try.func10, Try.ntmps10
  go_wp2_with fail
  go_loopg [3, 4, 7] n (fun kx _ _ s7 wr => ∃ (k : Nat) (jts : List ItV), s7 = .int .i64 k ∧ k + kx = n ∧ Hid (jts.length = n ∧ jts.map (·.t) = its.map (·.t) ∧ RwI B wr g off jts ∧ Below B w wr ∧ w.grownBy wr (some g)))
  case atStart => exact ⟨0, its, rfl, by omega, HN.out.symm, rfl, H0.out, Below.refl _ _, gb_refl _ _⟩
  case round =>
    obtain ⟨k, jts, rfl, hg, HK⟩ := hrel
    by_cases hk : k < n
    · have hk' : (k : Int) < (n : Int) := by omega
      obtain ⟨x, hx⟩ : ∃ x, jts[k]? = some x := ⟨_, List.getElem?_eq_getElem (by have := HK.out.1; omega)⟩
      have hok := HK.out.2.2.1.ok x (List.mem_of_getElem? hx)
      have hrow := HK.out.2.2.1.row k x hx
      obtain ⟨r0, f0⟩ := hrow 0 _ rfl
      obtain ⟨r1, f1⟩ := hrow 1 _ rfl
      obtain ⟨r2, f2⟩ := hrow 2 _ rfl
      obtain ⟨r3, f3⟩ := hrow 3 _ rfl
      obtain ⟨r4, f4⟩ := hrow 4 _ rfl
      have hsl := hok.sl (w' := wr) fun c _ _ => rfl
      have hkx := HKL.out x.t (by rw [← HK.out.2.1]; exact List.mem_map_of_mem (List.mem_of_getElem? hx))
      have HKX := hidS hkx
      have HX := hidS (And.intro hx hsl)
      obtain ⟨⟨num, lvl, size, least, most⟩, la, lc, ma, mc⟩ := x
      simp only at r0 r1 r2 r3 r4 f0 f1 f2 f3 f4
      rw [Nat.add_zero] at r0 f0
      have HR := hidS (And.intro hg hk)
      have hk62 : k ≤ 2 ^ 60 := by omega
      obtain ⟨L1, hL1⟩ : ∃ L, L = least.length := ⟨_, rfl⟩
      obtain ⟨L2, hL2⟩ : ∃ L, L = most.length := ⟨_, rfl⟩
      rw [← hL1] at r3
      rw [← hL2] at r4
      have HL := hidS (And.intro hL1 hL2)
      clear hok hrow hsl hkx hx hL1 hL2 hg f0 f1 f2
      have hbx := fun (wx : World) hb => box5 wr (.int .i64 num) (.int .i64 lvl) (.int .i64 size) (.slice la L1 lc) (.slice ma L2 mc) 30 (wx := wx) hb
      obtain ⟨W, hW⟩ : ∃ W, W = wr.alloc (.cells #[.int .i64 num, .int .i64 lvl, .int .i64 size, .slice la L1 lc, .slice ma L2 mc] 30) := ⟨_, rfl⟩
      have hWb : Below wr.heap.size wr W := by rw [hW]; exact (Below.refl _ wr).alloc (Nat.le_refl _) _
      rw [← hW] at hbx
      have glt := HK.out.2.2.1.lt
      have HA : Hid (∀ wx, Below W.heap.size W wx → wx.cell? ⟨wr.heap.size, 3, none⟩ = some (.slice la L1 lc) ∧ wx.cell? ⟨wr.heap.size, 4, none⟩ = some (.slice ma L2 mc) ∧ wx.cell? ⟨g, off + k * 5 + 3, none⟩ = some (.slice la L1 lc) ∧ wx.frozen? ⟨g, off + k * 5 + 3, none⟩ = false ∧ wx.cell? ⟨g, off + k * 5 + 4, none⟩ = some (.slice ma L2 mc) ∧ wx.frozen? ⟨g, off + k * 5 + 4, none⟩ = false) := fun wx hb => by
        obtain ⟨_, _, _, b3, b4⟩ := hbx wx hb
        have hwx := hWb.trans (hb.mono hWb.size)
        have fz : ∀ o, wr.frozen? ⟨g, o, none⟩ = false → wx.frozen? ⟨g, o, none⟩ = false := fun o ho => by simp only [World.frozen?] at ho ⊢; rw [hwx.block _ glt]; exact ho
        exact ⟨b3, b4, cell_later hwx r3, fz _ f3, cell_later hwx r4, fz _ f4⟩
      have HC1 : Hid (∀ wx, Below W.heap.size W wx → Calls Try.prog 21 #[.slice la L1 lc] wx fun e w' => ∃ a c, e = .returned (.slice a L1 c) ∧ Below wx.heap.size wx w' ∧ Below W.heap.size W w' ∧ Sl w' a L1 c least ∧ ∀ b, Refs (.slice a L1 c) b → W.heap.size ≤ b) := fun wx hb => by
        have h0 : Sl wr la L1 lc least := by have := HX.out.2.1; simp only at this; rwa [← HL.out.1] at this
        have h1 := h0.later (hWb.trans (hb.mono hWb.size))
        refine (clone_n h1 (by have := HKX.out; have := HL.out; simp only at *; omega)).mono ?_
        rintro e w' ⟨v, rfl, hr, hb'⟩
        obtain ⟨a, c, rfl, q1, q2⟩ := Sl.refs_row hr h1.2.1
        rw [← HL.out.1] at q1 q2 ⊢
        exact ⟨a, c, rfl, hb', hb.trans (hb'.mono hb.size), q1, fun b hr => Nat.le_trans hb.size (q2 b hr)⟩
      have HC2 : Hid (∀ wx, Below W.heap.size W wx → Calls Try.prog 21 #[.slice ma L2 mc] wx fun e w' => ∃ a c, e = .returned (.slice a L2 c) ∧ Below wx.heap.size wx w' ∧ Below W.heap.size W w' ∧ Sl w' a L2 c most ∧ ∀ b, Refs (.slice a L2 c) b → W.heap.size ≤ b) := fun wx hb => by
        have h0 : Sl wr ma L2 mc most := by have := HX.out.2.2; simp only at this; rwa [← HL.out.2] at this
        have h1 := h0.later (hWb.trans (hb.mono hWb.size))
        refine (clone_n h1 (by have := HKX.out; have := HL.out; simp only at *; omega)).mono ?_
        rintro e w' ⟨v, rfl, hr, hb'⟩
        obtain ⟨a, c, rfl, q1, q2⟩ := Sl.refs_row hr h1.2.1
        rw [← HL.out.2] at q1 q2 ⊢
        exact ⟨a, c, rfl, hb', hb.trans (hb'.mono hb.size), q1, fun b hr => Nat.le_trans hb.size (q2 b hr)⟩
      have HWB := hidS hWb
      have HW := hidS hW
      clear hbx hWb f3 f4 hW
      go_wp2_with fail
      clear r0 r1 r2 r3 r4
      rw [← HW.out]
      obtain ⟨x3, x4, x5, x6, x7, x8⟩ := HA.out W.drew ((Below.refl _ W).drew)
      clear glt
      generalize hP : wr.heap.size = P at x3 x4 ⊢
      have HP := hidS hP
      clear hP
      go_region_law (first | (refine step_fn 21 (args := #[.slice la L1 lc]) rfl rfl (by simp [Act.eval]) (by kernel_rfl) (HC1.out _ ((Below.refl _ W).drew)) ?_; rintro e w2 ⟨a1, c1, rfl, hb12, hb2, hs1, hr1⟩; obtain ⟨y3, y4, y5, y6, y7, y8⟩ := HA.out _ hb2; rw [HP.out] at y3 y4; refine ⟨_, rfl, ?_⟩) | (refine step_fn 21 (args := #[.slice ma L2 mc]) rfl rfl (by simp [Act.eval]) (by kernel_rfl) (HC2.out _ hb2) ?_; rintro e w3 ⟨a2, c2, rfl, hb23, hb3, hs2, hr2⟩; obtain ⟨z3, z4, z5, z6, z7, z8⟩ := HA.out _ hb3; rw [HP.out] at z3 z4; refine ⟨_, rfl, ?_⟩))
      all_goals
        have hwr := HWB.out.trans (hb3.mono HWB.out.size)
        have hR3 := HK.out.2.2.1.later hwr
        have hs1' := hs1.later hb23
        have hgl := HK.out.2.2.1.lt
        have hPUT : RwI B ((w3.setCell ⟨g, off + k * 5 + 3, none⟩ (.slice a1 L1 c1)).setCell ⟨g, off + k * 5 + 4, none⟩ (.slice a2 L2 c2)) g off (jts.set k ⟨⟨num, lvl, size, least, most⟩, a1, c1, a2, c2⟩) := by
          have := RwI.put hR3 HX.out.1 (a1 := a1) (c1 := c1) (a2 := a2) (c2 := c2) (by simp only; rw [← HL.out.1]; exact hs1') (by simp only; rw [← HL.out.2]; exact hs2) (by simp only; rw [← HL.out.1]; intro hr; have := hr1 g hr; have := HWB.out.size; omega) (by simp only; rw [← HL.out.2]; intro hr; have := hr2 g hr; have := HWB.out.size; omega)
          simp only at this
          rwa [← HL.out.1, ← HL.out.2] at this
        have hBW : Below B w ((w3.setCell ⟨g, off + k * 5 + 3, none⟩ (.slice a1 L1 c1)).setCell ⟨g, off + k * 5 + 4, none⟩ (.slice a2 L2 c2)) := by
          have q1 : B ≤ wr.heap.size := Nat.le_trans hB HK.out.2.2.2.1.size
          have q2 := HK.out.2.2.2.1.trans (hwr.mono q1)
          have q3 : B ≤ g := HK.out.2.2.1.new
          have e1 := grown_set w3 g (off + k * 5 + 3) (.slice a1 L1 c1)
          have e2 := grown_set (w3.setCell ⟨g, off + k * 5 + 3, none⟩ (.slice a1 L1 c1)) g (off + k * 5 + 4) (.slice a2 L2 c2)
          refine (q2.grown e1 (Nat.le_trans hB q2.size) ?_).grown e2 (by simp; exact Nat.le_trans hB q2.size) ?_
          all_goals
            intro z hz
            simp at hz
            omega
        have hGW : w.grownBy ((w3.setCell ⟨g, off + k * 5 + 3, none⟩ (.slice a1 L1 c1)).setCell ⟨g, off + k * 5 + 4, none⟩ (.slice a2 L2 c2)) (some g) :=
          gb_trans (gb_trans (gb_below HK.out.2.2.2.2 hwr) (grown_set w3 g (off + k * 5 + 3) (.slice a1 L1 c1))) (grown_set (w3.setCell ⟨g, off + k * 5 + 3, none⟩ (.slice a1 L1 c1)) g (off + k * 5 + 4) (.slice a2 L2 c2))
        have HFIN := hidS (And.intro hPUT (And.intro hBW hGW))
        have HJL : Hid ((jts.set k ⟨⟨num, lvl, size, least, most⟩, a1, c1, a2, c2⟩).length = n ∧ (jts.set k ⟨⟨num, lvl, size, least, most⟩, a1, c1, a2, c2⟩).map (·.t) = its.map (·.t)) := by
          refine ⟨by rw [List.length_set]; exact HK.out.1, ?_⟩
          rw [List.map_set, ← HK.out.2.1]
          obtain ⟨hl, he⟩ := List.getElem?_eq_some_iff.1 HX.out.1
          have : (jts.map (·.t))[k]'(by simpa using hl) = ⟨num, lvl, size, least, most⟩ := by rw [List.getElem_map, he]
          rw [← this, List.set_getElem_self]
        clear hPUT hBW hGW hwr hR3 hs1' hgl hs1 hs2 hr1 hr2 hb12 hb23 hb2 hb3 x3 x4 x5 x6 x7 x8 y3 y4 y5 y6 y7 y8 z3 z4 z5 z6 z7 z8
        generalize (w3.setCell ⟨g, off + k * 5 + 3, none⟩ (.slice a1 L1 c1)).setCell ⟨g, off + k * 5 + 4, none⟩ (.slice a2 L2 c2) = w9 at HFIN ⊢
        go_wp2_with fail
        go_roundg (n - (k + 1))
        case measure => have := HR.out; omega
        case rel => exact ⟨k + 1, _, by go_num, by have := HR.out; omega, HJL.out.1, HJL.out.2, HFIN.out.1, HFIN.out.2.1, HFIN.out.2.2⟩
    · have hk' : ¬ (k : Int) < (n : Int) := by omega
      haveI : Inhabited (ItS wr g) := Classical.inhabited_of_nonempty (itInh wr g)
      obtain ⟨d, hd1, hd2, hd3⟩ := holds_of HK.out.2.2.1
      have hdn : d.size = n := hd1.trans HK.out.1
      have hc := sort_any (cap := cap) d hd3 HK.out.2.2.1.lt (by omega)
      rw [hdn] at hc
      have HD := hidS (And.intro hdn (And.intro hd2 hd3))
      clear hdn hd1 hd2 hd3 hg hk
      go_wp2_with (go_at_call 22; refine hc.mono ?_; rintro e w2 ⟨rfl, d', p1, p2, p3⟩)
      refine bodyPost_ret (v := .slice (some ⟨g, off, none⟩) n cap) (by simp [results, Try.results10, go_sem]) rfl ⟨rfl, ?_⟩
      obtain ⟨ys, q1, q2, q3, q4⟩ := sorted_out d d' HD.out.2.2 HK.out.2.2.1.lt HK.out.2.2.1.new (by rw [HD.out.1]; exact HC.out.1) HC.out.2 (by rw [HD.out.1]; exact p1) (by rw [HD.out.1]; exact p2) p3
      rw [HD.out.1] at q2
      exact ⟨ys, ⟨HK.out.2.2.2.1.trans q1.1, gb_trans HK.out.2.2.2.2 q1.2⟩, q2, by rw [← HK.out.2.1, ← HD.out.2.1]; exact q3, q4⟩
theorem ordered_nil {w : World} : Calls Try.prog 10 #[.slice none 0 0] w fun e w' => e = .returned (.slice none 0 0) ∧ w' = w := by
  go_enter Try.func10, Try.ntmps10
  go_wp2
  refine wp_loop_rounds 1 ?_
  rw [rounds_succ]
  go_wp2_with (go_at_call 22; refine (@sortN_any _ _ _).mono ?_; rintro e w' ⟨rfl, rfl⟩)
  refine bodyPost_ret (v := .slice none 0 0) (by simp [results, Try.results10, go_sem]) rfl ⟨rfl, rfl⟩
/-- A row of one's own, brought into order. -/
theorem ordered_any {B : Nat} {w : World} {v : Value} {xs : List LnV} (h : RowS lnE B w v xs) (hB : B ≤ w.heap.size) (hn : xs.length ≤ 1000000) (hkl : ∀ t ∈ xs, t.least.length ≤ 1000000 ∧ t.most.length ≤ 1000000) :
    Calls Try.prog 10 #[v] w fun e w' => ∃ a c ys, e = .returned (.slice a ys.length c) ∧ Below B w w' ∧ RS lnE w' a ys.length c ys ∧ ys.Perm xs ∧ Wk ys ∧ w.grownBy w' v.ownBlock ∧ .slice a ys.length c = v := by
  rcases rwI_of h with ⟨rfl, rfl⟩ | ⟨g, cap, its, rfl, rfl, h1, h2, h3⟩
  · refine ordered_nil.mono ?_
    rintro e w' ⟨rfl, rfl⟩
    exact ⟨none, 0, [], rfl, Below.refl _ _, RS.nil _, List.Perm.refl _, List.Pairwise.nil, gb_refl _ _, rfl⟩
  · have hl : (its.map (·.t)).length = its.length := by simp
    rw [hl] at h2 hn ⊢
    refine (ordered_some h1 hB hn h2 h3 hkl).mono ?_
    rintro e w' ⟨rfl, ys, q1, q2, q3, q4⟩
    have e : ys.length = its.length := by rw [q3.length_eq, hl]
    exact ⟨_, cap, ys, by rw [e], q1.1, by rw [e]; exact q2, q3, q4, q1.2, by rw [e]⟩
end Go.Proofs.Ytjgfklbhagcbaab

/- The landed level: the lines that are wanted. -/
namespace Go.Proofs.Ytjgfklbhagcbaab
open Go.RowKit
set_option linter.unusedVariables false
set_option linter.unusedSimpArgs false

/-- What is asked of a wish: a function with what it has captured. -/
def Wish (f : FuncId) (cb : Array Value) (p : LnV → Bool) (w : World) : Prop :=
  ∀ wx, Below w.heap.size w wx → ∀ vs t, LnM wx vs t → Calls Try.prog f (#[.agg vs.toArray] ++ cb) wx fun e w' => e = .returned (.bool (p t)) ∧ Below wx.heap.size wx w'
set_option maxHeartbeats 4000000 in
set_option maxRecDepth 100000 in
theorem chosen_any {w : World} {ao : Option Addr} {n cap : Nat} {xs : List LnV} (h : RS lnE w ao n cap xs) (hn : n ≤ 1000000) {f : FuncId} {cb : Array Value} {p : LnV → Bool} (eg : ∀ args w, (callFunc f args).run Try.prog w = .ok (.enter f args) w) (hp : Wish f cb p w) :
    Calls Try.prog 11 #[.slice ao n cap, .func (.func f) #[] cb] w fun e w' => ∃ v, e = .returned v ∧ RowS lnE w.heap.size w' v (xs.filter p) ∧ Below w.heap.size w w' := by
  have hl : xs.length = n := by obtain ⟨us, h1, _⟩ := h; exact h1
  have HL := hidS hl
  have H0 := hidS h
  have HP := hidS hp
  clear hl h hp
  go_enter Try.func11, Try.ntmps11
  go_wp2_with fail
  go_loopg [5, 7, 10] n (fun kx s5 _ s10 wr => ∃ k : Nat, s10 = .int .i64 k ∧ k + kx = n ∧ Hid (RowS lnE w.heap.size wr s5 ((xs.take k).filter p) ∧ Below w.heap.size w wr))
  case atStart => exact ⟨0, rfl, by omega, RowS.nil _ _, Below.refl _ _⟩
  case round =>
    obtain ⟨k, rfl, hg, HK⟩ := hrel
    by_cases hk : k < n
    · have hk' : (k : Int) < (n : Int) := by omega
      obtain ⟨x, hx⟩ : ∃ x, xs[k]? = some x := ⟨_, List.getElem?_eq_getElem (by have := HL.out; omega)⟩
      obtain ⟨b, off, la, lc, ma, mc, rfl, r0, r1, r2, r3, r4, q1, q2, i1, i2, i3⟩ := RS.ln H0.out hx
      replace r0 := cell_later HK.out.2 r0
      replace r1 := cell_later HK.out.2 r1
      replace r2 := cell_later HK.out.2 r2
      replace r3 := cell_later HK.out.2 r3
      replace r4 := cell_later HK.out.2 r4
      have hM : LnM w [.int .i64 x.num, .int .i64 x.lvl, .int .i64 x.size, .slice la x.least.length lc, .slice ma x.most.length mc] x := ⟨la, lc, ma, mc, rfl, q1, q2, i1, i2, i3⟩
      have HX : Hid ((xs.take (k + 1)).filter p = (xs.take k).filter p ++ if p x = true then [x] else []) := by
        obtain ⟨hkl, rfl⟩ := List.getElem?_eq_some_iff.1 hx
        show _ = _
        rw [List.take_add_one, List.getElem?_eq_getElem hkl, List.filter_append]
        simp only [Option.toList]
        congr 1
        by_cases q : p xs[k] = true
        · rw [if_pos q, List.filter_cons_of_pos q]; rfl
        · rw [if_neg q, List.filter_cons_of_neg q]; rfl
      have hbx := fun (wx : World) hb => box5 wr (.int .i64 x.num) (.int .i64 x.lvl) (.int .i64 x.size) (.slice la x.least.length lc) (.slice ma x.most.length mc) 30 (wx := wx) hb
      have HM : Hid (∀ wx, Below wr.heap.size wr wx → LnM wx [.int .i64 x.num, .int .i64 x.lvl, .int .i64 x.size, .slice la x.least.length lc, .slice ma x.most.length mc] x ∧ ∀ v ∈ [.int .i64 x.num, .int .i64 x.lvl, .int .i64 x.size, .slice la x.least.length lc, .slice ma x.most.length mc], ∀ b, Refs v b → b < w.heap.size) := fun wx hb => ⟨El.later (E := lnE) hM (HK.out.2.trans (hb.mono HK.out.2.size)), fun v hv b hr => lnE.lt (hM : lnE.M w _ _) v hv b hr⟩
      obtain ⟨P, hP⟩ : ∃ P, P = p x := ⟨_, rfl⟩
      rw [← hP] at HX
      have HC : Hid (∀ wx, Below wr.heap.size wr wx → Calls Try.prog f (#[.agg #[.int .i64 x.num, .int .i64 x.lvl, .int .i64 x.size, .slice la x.least.length lc, .slice ma x.most.length mc]] ++ cb) wx fun e w' => e = .returned (.bool P) ∧ Below wx.heap.size wx w') := fun wx hb => by
        rw [hP]
        exact HP.out wx (HK.out.2.trans (hb.mono HK.out.2.size)) _ x (HM.out wx hb).1
      obtain ⟨L1, hL1⟩ : ∃ L, L = x.least.length := ⟨_, rfl⟩
      obtain ⟨L2, hL2⟩ : ∃ L, L = x.most.length := ⟨_, rfl⟩
      rw [← hL1] at r3 hbx HC HM
      rw [← hL2] at r4 hbx HC HM
      have HR := hidS (And.intro hg hk)
      have hk62 : k ≤ 2 ^ 60 := by omega
      have HLn : Hid (((xs.take k).filter p).length ≤ 1000000) := Nat.le_trans (List.length_filter_le _ _) (by rw [List.length_take]; omega)
      generalize x.num = num at r0 hbx HC HM
      generalize x.lvl = lvl at r1 hbx HC HM
      generalize x.size = size at r2 hbx HC HM
      obtain ⟨W, hW⟩ : ∃ W, W = wr.alloc (.cells #[.int .i64 num, .int .i64 lvl, .int .i64 size, .slice la L1 lc, .slice ma L2 mc] 30) := ⟨_, rfl⟩
      have hWb : Below wr.heap.size wr W := by rw [hW]; exact (Below.refl _ wr).alloc (Nat.le_refl _) _
      rw [← hW] at hbx
      have HBX := hidS hbx
      have HWB := hidS hWb
      have HW := hidS hW
      have hc := HC.out W hWb
      have HBK : Hid (∀ wx, Below W.heap.size W wx → RowS lnE w.heap.size wx u5 ((xs.take k).filter p) ∧ Below w.heap.size w wx) := fun wx hb => by
        have q := HWB.out.trans (hb.mono HWB.out.size)
        exact ⟨HK.out.1.later q, HK.out.2.trans (q.mono HK.out.2.size)⟩
      obtain ⟨x0, x1, x2, x3, x4⟩ := hbx W (Below.refl _ _)
      rw [HW.out] at x0 x1 x2 x3 x4 hc
      clear hM q1 q2 i1 i2 i3 hbx hWb hW hx hL1 hL2 hP hg
      cases P with
      | false =>
        go_wp2_with (go_at_fn f; refine hc.mono ?_; rintro e w2 ⟨rfl, b2⟩; rw [← HW.out] at b2)
        go_roundg (n - (k + 1))
        case measure => have := HR.out; omega
        case rel => exact ⟨k + 1, by go_num, by have := HR.out; omega, by rw [HX.out]; simp only [Bool.false_eq_true, if_false, List.append_nil]; exact (HBK.out _ b2).1, (HBK.out _ b2).2⟩
      | true =>
        have HAP : Hid (∀ wx, Below W.heap.size W wx → RowS lnE w.heap.size (wx.alloc (.cells #[.int .i64 num, .int .i64 lvl, .int .i64 size, .slice la L1 lc, .slice ma L2 mc] 30)) u5 ((xs.take k).filter p) ∧
            RSu lnE (wx.alloc (.cells #[.int .i64 num, .int .i64 lvl, .int .i64 size, .slice la L1 lc, .slice ma L2 mc] 30)) (some ⟨wx.heap.size, 0, none⟩) 1 1 [.int .i64 num, .int .i64 lvl, .int .i64 size, .slice la L1 lc, .slice ma L2 mc] [x] ∧
            (∀ u ∈ [.int .i64 num, .int .i64 lvl, .int .i64 size, .slice la L1 lc, .slice ma L2 mc], ∀ b, Refs u b → u5.ownBlock ≠ some b) ∧ w.heap.size ≤ (wx.alloc (.cells #[.int .i64 num, .int .i64 lvl, .int .i64 size, .slice la L1 lc, .slice ma L2 mc] 30)).heap.size ∧
            Below w.heap.size w (wx.alloc (.cells #[.int .i64 num, .int .i64 lvl, .int .i64 size, .slice la L1 lc, .slice ma L2 mc] 30))) := fun wx hb => by
          have q := HBK.out wx hb
          have q2 := HM.out wx (HWB.out.trans (hb.mono HWB.out.size))
          have b3 : Below w.heap.size w (wx.alloc (.cells #[.int .i64 num, .int .i64 lvl, .int .i64 size, .slice la L1 lc, .slice ma L2 mc] 30)) := q.2.alloc q.2.size _
          refine ⟨q.1.later ((Below.refl _ wx).alloc (Nat.le_refl _) _), rs_one (E := lnE) q2.1, fun u hu b hr e => ?_, b3.size, b3⟩
          have k1 := q2.2 u hu b hr
          have k2 := (q.1.own_lt e).1
          omega
        go_wp2_with (first | (go_at_fn f; refine hc.mono ?_; rintro e w2 ⟨rfl, b2⟩; rw [← HW.out] at b2; clear x0 x1 x2 x3 x4; obtain ⟨x0, x1, x2, x3, x4⟩ := HBX.out w2 b2) | (at_builtin; refine wpList_appS lnE (t := 24) (z := .agg #[.int .i64 0, .int .i64 0, .int .i64 0, .slice none 0 0, .slice none 0 0]) (bytes := 72) Try.underlying24 lnE_info rfl (by decide) rfl (.tmp 17) (.tmp 19) rfl rfl (HAP.out w2 b2).1 rfl (HAP.out w2 b2).2.1 (HAP.out w2 b2).2.2.1 (by have := HLn.out; omega) (by have := HLn.out; omega) (HAP.out w2 b2).2.2.2.1 ?_; intro v9 w9 r9 g9 m9))
        go_roundg (n - (k + 1))
        case measure => have := HR.out; omega
        case rel => exact ⟨k + 1, by go_num, by have := HR.out; omega, by rw [HX.out]; simp only [if_true]; exact r9, (HAP.out w2 b2).2.2.2.2.grown g9 (HAP.out w2 b2).2.2.2.1 fun z hz => ((HAP.out w2 b2).1.own_lt hz).1⟩
    · have hk' : ¬ (k : Int) < (n : Int) := by omega
      have HF : Hid (RowS lnE w.heap.size wr u5 (xs.filter p)) := by
        have := HK.out.1
        rwa [List.take_of_length_le (by have := HL.out; omega)] at this
      clear hg hk
      go_wp2_with fail
      exact bodyPost_ret (v := u5) (by simp [results, Try.results11, go_sem]) rfl ⟨_, rfl, HF.out, HK.out.2⟩
end Go.Proofs.Ytjgfklbhagcbaab
