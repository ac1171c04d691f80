import Derived.SizedLaws
import Derived.ChangeSlices
import Derived.Carry
import Derived.Test.YtnoackenjfpcmaaPk01
import Derived.Test.YtnoackenjfpcmaaPk09
import Derived.Test.YtnoackenjfpcmaaPk11
import Derived.Test.YtnoackenjfpcmaaPk23
/- The document's own Merge. -/
namespace Go.Proofs.Ytnoackenjfpcmaa
open Go.RowKit
set_option linter.unusedVariables false
set_option linter.unusedSimpArgs false

/-- A guard on what was skipped is not met. -/
theorem wanted_undefM {ops : Array Oper} {o : Oper} {a : Act} {j : Nat} {b : Bool} (hg : o.guard = some (j, b)) (hv : a.eval (.tmp (dstOfR ops j)) = undef) : Region.wanted o (yielded ops a.tmps) = false := by
  have hy : yielded ops a.tmps j = none := by
    unfold yielded
    cases h : ops[j]? with
    | none => rfl
    | some oj =>
      simp only [Option.bind_some]
      cases hd : oj.dst with
      | none => rfl
      | some d =>
        simp only [Option.bind_some]
        have e : dstOfR ops j = d := by unfold dstOfR; rw [h]; simp [hd]
        rw [e] at hv
        by_cases hs : d < a.tmps.size
        · simp only [Act.eval, Array.getD_eq_getD_getElem?, Array.getElem?_eq_getElem hs, Option.getD_some] at hv
          rw [Array.getElem?_eq_getElem hs, hv]
          rfl
        · rw [Array.getElem?_eq_none (Nat.le_of_not_lt hs)]
  unfold Region.wanted
  rw [hg]
  simp [hy]

set_option maxRecDepth 100000 in
theorem putRm (x0 x1 x2 x3 x4 x5 x6 x7 x8 x9 x10 x11 x12 x13 x14 x15 x16 x17 x18 x19 x20 x21 x22 x23 x24 x25 x26 x27 x28 x29 x30 x31 x32 x33 x34 x35 x36 x37 x38 x39 x40 x41 x42 x43 x44 x45 x46 x47 x48 x49 x50 x51 x52 x53 x54 x55 x56 x57 x58 x59 x60 x61 x62 x63 x64 x65 x66 x67 x68 x69 x70 x71 x72 x73 y18 y19 y20 y21 y22 y23 y24 y25 y26 y27 y28 y29 y30 y31 y32 y33 y34 y35 y36 y37 y38 y39 y40 y41 y42 y43 y44 y45 y46 y47 y48 y49 : Value) : putVs ⟨#[x0, x1, x2, x3, x4, x5, x6, x7, x8, x9, x10, x11, x12, x13, x14, x15, x16, x17, x18, x19, x20, x21, x22, x23, x24, x25, x26, x27, x28, x29, x30, x31, x32, x33, x34, x35, x36, x37, x38, x39, x40, x41, x42, x43, x44, x45, x46, x47, x48, x49, x50, x51, x52, x53, x54, x55, x56, x57, x58, x59, x60, x61, x62, x63, x64, x65, x66, x67, x68, x69, x70, x71, x72, x73], []⟩ (List.zip [18, 19, 20, 21, 22, 23, 24, 25, 26, 27, 28, 29, 30, 31, 32, 33, 34, 35, 36, 37, 38, 39, 40, 41, 42, 43, 44, 45, 46, 47, 48, 49] [y18, y19, y20, y21, y22, y23, y24, y25, y26, y27, y28, y29, y30, y31, y32, y33, y34, y35, y36, y37, y38, y39, y40, y41, y42, y43, y44, y45, y46, y47, y48, y49]) = ⟨#[x0, x1, x2, x3, x4, x5, x6, x7, x8, x9, x10, x11, x12, x13, x14, x15, x16, x17, y18, y19, y20, y21, y22, y23, y24, y25, y26, y27, y28, y29, y30, y31, y32, y33, y34, y35, y36, y37, y38, y39, y40, y41, y42, y43, y44, y45, y46, y47, y48, y49, x50, x51, x52, x53, x54, x55, x56, x57, x58, x59, x60, x61, x62, x63, x64, x65, x66, x67, x68, x69, x70, x71, x72, x73], []⟩ := by kernel_rfl

theorem elem59 : Try.prog.elem 59 = 3 := by kernel_rfl
/-- How far each row has come: numbers in a block of one's own. -/
def AtR (w : World) (p : Nat) (A : List Nat) : Prop := ∀ (i a : Nat), A[i]? = some a → w.cell? ⟨p, i, none⟩ = some (.int .i64 (a : Int)) ∧ w.frozen? ⟨p, i, none⟩ = false
theorem AtR.later {w w' : World} {p : Nat} {A : List Nat} (h : AtR w p A) (hp : p < w.heap.size) (hb : Below w.heap.size w w') : AtR w' p A := fun i a ha => by
  obtain ⟨h0, h1⟩ := h i a ha
  refine ⟨cell_later hb h0, ?_⟩
  simp only [World.frozen?] at h1 ⊢; rw [hb.block _ hp]; exact h1
theorem AtR.grown {w w' : World} {p : Nat} {r : Option Nat} {A : List Nat} (h : AtR w p A) (hp : p < w.heap.size) (hg : w.grownBy w' r) (hne : some p ≠ r) : AtR w' p A := fun i a ha => by
  obtain ⟨h0, h1⟩ := h i a ha
  refine ⟨hg.cell h0 hne, ?_⟩
  simp only [World.frozen?] at h1 ⊢; rw [hg.block _ hp hne]; exact h1
theorem AtR.low {w w' : World} {p : Nat} {A : List Nat} (h : AtR w p A) (hb : Below (p + 1) w w') : AtR w' p A := fun i a ha => by
  obtain ⟨h0, h1⟩ := h i a ha
  refine ⟨(World.cell?_of_block (hb.block _ (Nat.lt_succ_self p))).trans h0, ?_⟩
  simp only [World.frozen?] at h1 ⊢; rw [hb.block _ (Nat.lt_succ_self p)]; exact h1
theorem AtR.set {w : World} {p : Nat} {A : List Nat} (h : AtR w p A) {i a : Nat} (ha : A[i]? = some a) (b : Nat) : AtR (w.setCell ⟨p, i, none⟩ (.int .i64 (b : Int))) p (A.set i b) := fun j c hc => by
  rw [World.frozen?_setCell]
  by_cases e : j = i
  · subst e
    rw [List.getElem?_set_self (List.getElem?_eq_some_iff.1 ha).1] at hc
    obtain rfl : b = c := by simpa using hc
    exact ⟨hp_css _ _ _ _ (h j a ha).1, (h j a ha).2⟩
  · rw [List.getElem?_set_ne (fun e' => e e'.symm)] at hc
    exact ⟨(hp_cso _ _ _ _ _ (fun e' => e e'.symm)).trans (h j c hc).1, (h j c hc).2⟩
structure RM (w : World) (rs : List (List EntV)) (p : Nat) (wr : World) (v : Value) (dn : List EntV) (A : List Nat) : Prop where
  row : RowF entE (p + 1) (fun b => b < w.heap.size) wr v dn
  at' : AtR wr p A
  plt : p < wr.heap.size
  pge : w.heap.size ≤ p
  len : rs.length = A.length
  ale : ∀ (i a : Nat) (l : List EntV), A[i]? = some a → rs[i]? = some l → a ≤ l.length
  res : dn ++ (mrgT (rst rs A)).map (·.1) = mrgE rs
  bel : Below w.heap.size w wr
theorem RM.later {w : World} {rs : List (List EntV)} {p : Nat} {wr wx : World} {v : Value} {dn : List EntV} {A : List Nat} (h : RM w rs p wr v dn A) (hb : Below wr.heap.size wr wx) : RM w rs p wx v dn A :=
  ⟨h.row.later hb, h.at'.later h.plt hb, Nat.lt_of_lt_of_le h.plt hb.size, h.pge, h.len, h.ale, h.res, h.bel.trans (hb.mono h.bel.size)⟩
def bstV : Option (Nat × EntV) → Value
  | none => .int .i64 (-1)
  | some (j, _) => .int .i64 (j : Int)
set_option maxHeartbeats 16000000 in
set_option maxRecDepth 100000 in
theorem rmerge_t {w : World} {ao : Option Addr} {n cap : Nat} {rs : List (List EntV)} (h : ErRow w ao n cap rs) (hz : Szr rs) (ho : ∀ l ∈ rs, ordE l) (hsum : sumR rs ≤ 100000) (hn : n ≤ 1000) :
    Calls Try.prog 15 #[.slice ao n cap] w fun r w' => ∃ v, r = .returned v ∧ RowF entE w.heap.size (fun b => b < w.heap.size) w' v (mrgE rs) ∧ Below w.heap.size w w' := by
  have H0 := hidM h
  have HZ := hidM hz
  have HO := hidM ho
  have HLN : Hid (rs.length = n ∧ sumR rs ≤ 100000 ∧ n ≤ 1000 ∧ n ≤ cap) := ⟨h.len.1, hsum, hn, h.len.2.1⟩
  have hn62 : n ≤ 2 ^ 20 := by omega
  have mixed : Try.prog.follows .mixedOrders = true := by kernel_rfl
  obtain ⟨i0, hi0⟩ : ∃ i0, Try.prog.info? 3 = some i0 := Option.isSome_iff_exists.1 (by kernel_rfl)
  have HI : Hid (Try.prog.info? 3 = some i0 ∧ i0.zero = some (.int .i64 0) ∧ i0.size = 1 ∧ i0.bytes = 8) := by
    have e : (Try.prog.info? 3).map (fun i => (i.zero, i.size, i.bytes)) = some (some (.int .i64 0), 1, 8) := by kernel_rfl
    rw [hi0] at e
    simp only [Option.map_some, Option.some.injEq, Prod.mk.injEq] at e
    exact ⟨hi0, e.1, e.2.1, e.2.2⟩
  obtain ⟨TT, hTT⟩ : ∃ t, t = sumR rs := ⟨_, rfl⟩
  have HTT := hidM hTT
  clear h hz ho hsum hn hi0 hTT
  go_enter Try.func15, Try.ntmps15
  go_wp2_with (at_make; refine wpList_make_full w rfl (.tmp 9) (.tmp 9) 59 rfl w.heap.size 3 i0 _ 1 Try.underlying59 HI.out.1 HI.out.2.1 HI.out.2.2.1 .i64 .i64 _ _ n rfl rfl rfl rfl (by rw [HI.out.2.2.2]; omega) (by unfold maxLen; omega) (Nat.le_refl _) ?_; intro w1 hown hg1; have HO1 := hidM (And.intro hown (mk_below hg1)); clear hown hg1)
  have HR0 : Hid (RM w rs w.heap.size w1 (.slice none 0 0) [] (List.replicate n 0)) := by
    have hl := World.ownsRow.lt HO1.out.1 w.heap.size rfl
    have hcs := World.ownsRow.cells HO1.out.1 (g := w.heap.size) rfl
    refine ⟨RowF.nil _ _ _, fun i a ha => ?_, hl.2, Nat.le_refl _, by rw [List.length_replicate]; exact HLN.out.1, fun i a l ha hl => ?_, ?_, HO1.out.2⟩
    · rw [List.getElem?_replicate] at ha
      split at ha
      · rename_i hin
        obtain rfl : 0 = a := by simpa using ha
        have := hcs i (.int .i64 0) (by rw [Nat.mul_one]; rw [show (Value.int IntKind.i64 0).cells = #[.int .i64 0] from rfl, toList_madeCells_one, List.getElem?_replicate, if_pos hin])
        rw [Addr.add_lit, Nat.zero_add] at this
        refine ⟨this, ?_⟩
        rcases HO1.out.1.2 with ⟨e, _⟩ | ⟨g, c, cur, e, _, hg, _⟩
        · cases e
        · simp only [Value.slice.injEq, Option.some.injEq, Addr.mk.injEq, and_true] at e
          obtain ⟨rfl, _⟩ := e
          simp [World.frozen?, hg]
      · cases ha
    · rw [List.getElem?_replicate] at ha
      split at ha
      · obtain rfl : 0 = a := by simpa using ha
        exact Nat.zero_le _
      · cases ha
    · rw [← HLN.out.1, rst_zero]; rfl
  have hP : Hid (w.heap.size = w.heap.size) := rfl
  obtain ⟨p, hp⟩ : ∃ p, p = w.heap.size := ⟨_, rfl⟩
  rw [← hp]
  have HP := hidM hp
  rw [← hp] at HR0
  clear hP hp HO1
  go_loopg [3] (TT + 1) (fun kx s3 wr => ∃ (dn : List EntV) (A : List Nat), Hid (RM w rs p wr s3 dn A ∧ dn.length + kx = TT + 1))
  case atStart => exact ⟨[], List.replicate n 0, by have := HP.out; exact HR0.out, by simp⟩
  case round =>
    obtain ⟨dn, A, HM⟩ := hrel
    obtain ⟨oa, oc, hv⟩ := HM.out.1.row.isl
    obtain ⟨dl, hdl⟩ : ∃ d, d = dn.length := ⟨_, rfl⟩
    rw [← hdl] at hv
    subst hv
    have HDL := hidM hdl
    clear hdl
    go_wp2_with fail
    go_loopg [5, 13] n (fun kx s5 s13 wx => ∃ i : Nat, s13 = .int .i64 (i : Int) ∧ i + kx = n ∧ s5 = bstV (bstP (rst rs A) i) ∧ Hid (Below wr.heap.size wr wx))
    case atStart => exact ⟨0, rfl, by omega, rfl, Below.refl _ _⟩
    case round =>
      obtain ⟨i, rfl, hg, rfl, HB⟩ := hrel
      by_cases hi : i < n
      · have hi1 : (0 : Int) ≤ (i : Int) := by omega
        have hi2 : (i : Int) < (n : Int) := by omega
        obtain ⟨l, hl⟩ : ∃ l, rs[i]? = some l := ⟨_, List.getElem?_eq_getElem (by have := HLN.out; omega)⟩
        obtain ⟨a, ha⟩ : ∃ a, A[i]? = some a := ⟨_, List.getElem?_eq_getElem (by have := HLN.out; have := HM.out.1.len; omega)⟩
        obtain ⟨rb, ro, la, lc, rfl, c0, hrl⟩ := H0.out.at' i l hl
        have hbw := HM.out.1.bel.trans (HB.out.mono HM.out.1.bel.size)
        have hat := HM.out.1.at'.later HM.out.1.plt HB.out
        have hrst := rst_at hl ha
        have HG := hidM (And.intro hg hi)
        have r0 := cell_later hbw c0
        obtain ⟨L, hL⟩ : ∃ L, L = l.length := ⟨_, rfl⟩
        have HLE := hidM hL
        have hL62 : L ≤ 2 ^ 62 := by have := HZ.out.row l (List.mem_of_getElem? hl); omega
        by_cases qa : a < L
        · have ha1 : (0 : Int) ≤ (a : Int) := by omega
          have ha2 : (a : Int) < (L : Int) := by omega
          have hal := ha2
          obtain ⟨x, hx⟩ : ∃ x, l[a]? = some x := ⟨_, List.getElem?_eq_getElem (by omega)⟩
          have hdx := drop_cons hx
          rw [hdx] at hrst
          obtain ⟨b1, o1, ka1, kc1, va1, vc1, rfl, d0, d1, d2, d3, d4, s1, -, -, -⟩ := RS.ent (hrl.later hbw) hx
          have hbest := bstP_spec (rst rs A) i
          cases hB : bstP (rst rs A) i with
          | none =>
            have HN : Hid (bstP (rst rs A) (i + 1) = some (i, x)) := bstP_first hrst hB
            have HRC : Hid (∀ wx, Below wr.heap.size wr wx → wx.cell? ⟨p, i, none⟩ = some (.int .i64 (a : Int)) ∧ True) := fun wx hb => ⟨(hat.later (Nat.lt_of_lt_of_le HM.out.1.plt HB.out.size) hb i a ha).1, trivial⟩
            show Code.wp _ _ _ _ _
            rw [← hL] at r0
            clear hg hi hl ha c0 hrl hbw hat hrst hL qa hx hdx d0 d1 d2 d3 d4 s1 hbest
            simp only [bstV]
            go_upto_region 7 with fail
            obtain ⟨la, hla⟩ : ∃ la, la = some (⟨b1, o1, none⟩ : Addr) := ⟨_, rfl⟩
            rw [← hla]
            clear hla r0
            refine wp_region_vals (by kernel_rfl) (by decide +kernel) 74 rfl (by decide +kernel) [.slice (some ⟨p, 0, none⟩) n n, .int .i64 (i : Int), .pointer (some ⟨p, i, none⟩), .int .i64 (a : Int), .slice la L lc, .int .i64 (L : Int), .bool true, .bool true, .int .i64 (-1), .bool true, .bool true, undef, undef, undef, undef, undef, undef, undef, undef, undef, undef, undef, undef, undef, undef, undef, undef, undef, undef, undef, .bool true, .bool true] rfl ?_ [18, 19, 20, 21, 22, 23, 24, 25, 26, 27, 28, 29, 30, 31, 32, 33, 34, 35, 36, 37, 38, 39, 40, 41, 42, 43, 44, 45, 46, 47, 48, 49] (by decide +kernel) ?_
            rotate_left
            · intro w6 B6
              rename_i hk
              refine hk _ _ ?_
              rw [putRm]
              go_wp2_with fail
              go_roundg (n - (i + 1))
              case measure => have := HG.out; omega
              case rel => exact ⟨i + 1, by go_num, by have := HG.out; omega, by rw [HN.out]; rfl, HB.out.trans (B6.mono HB.out.size)⟩
            -- 0: slot 18
            refine ⟨fun a w c => ?_, ?_⟩
            · have hw := c.want0 rfl
              exact goalR_move hw (.tmp 4) (.inl rfl) ((c.old 4 rfl).trans rfl) rfl
            -- 1: slot 19
            refine ⟨fun a w c => ?_, ?_⟩
            · have hw := c.want0 rfl
              exact goalR_move hw (.tmp 6) (.inl rfl) ((c.old 6 rfl).trans rfl) rfl
            -- 2: slot 20
            refine ⟨fun a w c => ?_, ?_⟩
            · have hw := c.want0 rfl
              have e18 : a.eval (.tmp 18) = _ := c.val 0 _ rfl rfl
              have e19 : a.eval (.tmp 19) = _ := c.val 1 _ rfl rfl
              exact goalR_val hw (by have ec : ∀ v, a.eval (.const v) = v := fun _ => rfl; generalize a.eval = ρ at ec e18 e19 ⊢; simp [execOp, go_sem, ec, e18, e19, elem59, Try.sizeOf3, hi1, hi2]) rfl
            -- 3: slot 21
            refine ⟨fun a w c => ?_, ?_⟩
            · have hw := c.want0 rfl
              have e20 : a.eval (.tmp 20) = _ := c.val 2 _ rfl rfl
              have y0 := (HRC.out w c.below).1
              exact goalR_val hw (by have ec : ∀ v, a.eval (.const v) = v := fun _ => rfl; generalize a.eval = ρ at ec e20 ⊢; simp [execOp, go_sem, ec, e20, y0]) rfl
            -- 4: slot 22
            refine ⟨fun a w c => ?_, ?_⟩
            · have hw := c.want0 rfl
              exact goalR_move hw (.tmp 7) (.inl rfl) ((c.old 7 rfl).trans rfl) rfl
            -- 5: slot 23
            refine ⟨fun a w c => ?_, ?_⟩
            · have e22 : a.eval (.tmp 22) = _ := c.val 4 _ rfl rfl
              exact goalR_val (c.want0 rfl) (by have ec : ∀ v, a.eval (.const v) = v := fun _ => rfl; generalize a.eval = ρ at ec e22 ⊢; simp [execOp, go_sem, ec, e22]) rfl
            -- 6: slot 24
            refine ⟨fun a w c => ?_, ?_⟩
            · have hw := c.want0 rfl
              have e21 : a.eval (.tmp 21) = _ := c.val 3 _ rfl rfl
              have e23 : a.eval (.tmp 23) = _ := c.val 5 _ rfl rfl
              exact goalR_val hw (by have ec : ∀ v, a.eval (.const v) = v := fun _ => rfl; generalize a.eval = ρ at ec e21 e23 ⊢; simp [execOp, go_sem, ec, e21, e23, hal]) rfl
            -- 7: slot 25
            refine ⟨fun a w c => ?_, ?_⟩
            · exact goalR_move (c.want0 rfl) (.tmp 24) (.inl rfl) (c.val 6 _ rfl rfl) rfl
            -- 8: slot 26
            refine ⟨fun a w c => ?_, ?_⟩
            · have hw := c.want 7 true rfl rfl rfl
              exact goalR_move hw (.tmp 5) (.inl rfl) ((c.old 5 rfl).trans rfl) rfl
            -- 9: slot 27
            refine ⟨fun a w c => ?_, ?_⟩
            · have hw := c.want 7 true rfl rfl rfl
              have e26 : a.eval (.tmp 26) = _ := c.val 8 _ rfl rfl
              exact goalR_val hw (by have ec : ∀ v, a.eval (.const v) = v := fun _ => rfl; generalize a.eval = ρ at ec e26 ⊢; simp [execOp, go_sem, ec, ec, e26]) rfl
            -- 10: slot 28
            refine ⟨fun a w c => ?_, ?_⟩
            · exact goalR_move (c.want 7 true rfl rfl rfl) (.tmp 27) (.inl rfl) (c.val 9 _ rfl rfl) rfl
            -- 11: slot 29
            refine ⟨fun a w c => ?_, ?_⟩
            · exact goalR_skip (c.skip 10 false true rfl rfl rfl (by decide)) rfl
            -- 12: slot 30
            refine ⟨fun a w c => ?_, ?_⟩
            · exact goalR_skip (c.skip 10 false true rfl rfl rfl (by decide)) rfl
            -- 13: slot 31
            refine ⟨fun a w c => ?_, ?_⟩
            · exact goalR_skip (c.skip 10 false true rfl rfl rfl (by decide)) rfl
            -- 14: slot 32
            refine ⟨fun a w c => ?_, ?_⟩
            · exact goalR_skip (c.skip 10 false true rfl rfl rfl (by decide)) rfl
            -- 15: slot 33
            refine ⟨fun a w c => ?_, ?_⟩
            · exact goalR_skip (c.skip 10 false true rfl rfl rfl (by decide)) rfl
            -- 16: slot 34
            refine ⟨fun a w c => ?_, ?_⟩
            · exact goalR_skip (c.skip 10 false true rfl rfl rfl (by decide)) rfl
            -- 17: slot 35
            refine ⟨fun a w c => ?_, ?_⟩
            · exact goalR_skip (c.skip 10 false true rfl rfl rfl (by decide)) rfl
            -- 18: slot 36
            refine ⟨fun a w c => ?_, ?_⟩
            · exact goalR_skip (c.skip 10 false true rfl rfl rfl (by decide)) rfl
            -- 19: slot 37
            refine ⟨fun a w c => ?_, ?_⟩
            · exact goalR_skip (c.skip 10 false true rfl rfl rfl (by decide)) rfl
            -- 20: slot 38
            refine ⟨fun a w c => ?_, ?_⟩
            · exact goalR_skip (c.skip 10 false true rfl rfl rfl (by decide)) rfl
            -- 21: slot 39
            refine ⟨fun a w c => ?_, ?_⟩
            · exact goalR_skip (c.skip 10 false true rfl rfl rfl (by decide)) rfl
            -- 22: slot 40
            refine ⟨fun a w c => ?_, ?_⟩
            · exact goalR_skip (c.skip 10 false true rfl rfl rfl (by decide)) rfl
            -- 23: slot 41
            refine ⟨fun a w c => ?_, ?_⟩
            · exact goalR_skip (c.skip 10 false true rfl rfl rfl (by decide)) rfl
            -- 24: slot 42
            refine ⟨fun a w c => ?_, ?_⟩
            · exact goalR_skip (c.skip 10 false true rfl rfl rfl (by decide)) rfl
            -- 25: slot 43
            refine ⟨fun a w c => ?_, ?_⟩
            · exact goalR_skip (c.skip 10 false true rfl rfl rfl (by decide)) rfl
            -- 26: slot 44
            refine ⟨fun a w c => ?_, ?_⟩
            · exact goalR_skip (c.skip 10 false true rfl rfl rfl (by decide)) rfl
            -- 27: slot 45
            refine ⟨fun a w c => ?_, ?_⟩
            · exact goalR_skip (c.skip 10 false true rfl rfl rfl (by decide)) rfl
            -- 28: slot 46
            refine ⟨fun a w c => ?_, ?_⟩
            · exact goalR_skip (c.skip 10 false true rfl rfl rfl (by decide)) rfl
            -- 29: slot 47
            refine ⟨fun a w c => ?_, ?_⟩
            · exact goalR_skip (c.skip 10 false true rfl rfl rfl (by decide)) rfl
            -- 30: slot 48
            refine ⟨fun a w c => ?_, ?_⟩
            · have hw := c.want 7 true rfl rfl rfl
              have e28 : a.eval (.tmp 28) = _ := c.val 10 _ rfl rfl
              exact goalR_val hw (by have ec : ∀ v, a.eval (.const v) = v := fun _ => rfl; generalize a.eval = ρ at ec e28 ⊢; simp [execOp, go_sem, ec, ec, e28]) rfl
            -- 31: slot 49
            refine ⟨fun a w c => ?_, ?_⟩
            · have hw := c.want0 rfl
              have e25 : a.eval (.tmp 25) = _ := c.val 7 _ rfl rfl
              have e48 : a.eval (.tmp 48) = _ := c.val 30 _ rfl rfl
              exact goalR_val hw (by have ec : ∀ v, a.eval (.const v) = v := fun _ => rfl; generalize a.eval = ρ at ec e25 e48 ⊢; simp [execOp, go_sem, ec, ec, e25, e48]) rfl
            exact True.intro

          | some jy =>
            obtain ⟨j, y⟩ := jy
            obtain ⟨hji, ⟨q2, hj⟩, -⟩ := hbest.2 j y hB
            obtain ⟨l2, hl2⟩ : ∃ l, rs[j]? = some l := ⟨_, List.getElem?_eq_getElem (by have := HLN.out; omega)⟩
            obtain ⟨a2, ha2'⟩ : ∃ a, A[j]? = some a := ⟨_, List.getElem?_eq_getElem (by have := HLN.out; have := HM.out.1.len; omega)⟩
            have hrst2 := rst_at hl2 ha2'
            rw [hj] at hrst2
            have hy : l2[a2]? = some y := by
              have e := Option.some.inj hrst2
              have := congrArg (fun z => z[0]?) e
              simp only [List.getElem?_drop, Nat.add_zero] at this
              rw [← this]; rfl
            obtain ⟨rb', ro', la2, lc2, e', c2, hrl2⟩ := H0.out.at' j l2 hl2
            simp only [Option.some.injEq, Addr.mk.injEq, and_true] at e'
            obtain ⟨rfl, rfl⟩ := e'
            have r2 := cell_later hbw c2
            have hrl2n := hrl2.len
            obtain ⟨b2, o2, ka2, kc2, va2, vc2, rfl, f0, f1, f2, f3, f4, t1, -, -, -⟩ := RS.ent (hrl2.later hbw) hy
            have hj1 : (0 : Int) ≤ (j : Int) := by omega
            have hj2 : (j : Int) < (n : Int) := by omega
            have hjn : ¬ ((j : Int) < 0) := by omega
            obtain ⟨L2, hL2⟩ : ∃ L, L = l2.length := ⟨_, rfl⟩
            have hb1 : (0 : Int) ≤ (a2 : Int) := by omega
            have hb2 : (a2 : Int) < (L2 : Int) := by have := (List.getElem?_eq_some_iff.1 hy).1; omega
            have HNT : Hid (ahead x y < 0 → bstP (rst rs A) (i + 1) = some (i, x)) := fun hc => by rw [bstP_next hrst hB, if_pos hc]
            have HNF : Hid (¬ ahead x y < 0 → bstP (rst rs A) (i + 1) = some (j, y)) := fun hc => by rw [bstP_next hrst hB, if_neg hc]
            have HRC : Hid (∀ wx, Below wr.heap.size wr wx → wx.cell? ⟨p, i, none⟩ = some (.int .i64 (a : Int)) ∧ (wx.cell? ⟨b1, o1 + a * 5, none⟩ = some (.slice ka1 x.key.length kc1) ∧ wx.cell? ⟨b1, o1 + a * 5 + 1, none⟩ = some (.int .i64 x.seq) ∧ wx.cell? ⟨b1, o1 + a * 5 + 2, none⟩ = some (.bool x.gone) ∧ wx.cell? ⟨b1, o1 + a * 5 + 3, none⟩ = some (.int .i64 x.till) ∧ wx.cell? ⟨b1, o1 + a * 5 + 4, none⟩ = some (.slice va1 x.val.length vc1)) ∧ wx.cell? ⟨rb, ro + j, none⟩ = some (.slice (some ⟨b2, o2, none⟩) l2.length lc2) ∧ wx.cell? ⟨p, j, none⟩ = some (.int .i64 (a2 : Int)) ∧
                (wx.cell? ⟨b2, o2 + a2 * 5, none⟩ = some (.slice ka2 y.key.length kc2) ∧ wx.cell? ⟨b2, o2 + a2 * 5 + 1, none⟩ = some (.int .i64 y.seq) ∧ wx.cell? ⟨b2, o2 + a2 * 5 + 2, none⟩ = some (.bool y.gone) ∧ wx.cell? ⟨b2, o2 + a2 * 5 + 3, none⟩ = some (.int .i64 y.till) ∧ wx.cell? ⟨b2, o2 + a2 * 5 + 4, none⟩ = some (.slice va2 y.val.length vc2))) := fun wx hb => by
              have hpl := Nat.lt_of_lt_of_le HM.out.1.plt HB.out.size
              exact ⟨(hat.later hpl hb i a ha).1, ⟨cell_later hb d0, cell_later hb d1, cell_later hb d2, cell_later hb d3, cell_later hb d4⟩, cell_later hb r2, (hat.later hpl hb j a2 ha2').1, cell_later hb f0, cell_later hb f1, cell_later hb f2, cell_later hb f3, cell_later hb f4⟩
            have HC : Hid (∀ wx, Below wr.heap.size wr wx → Calls Try.prog 22 #[.agg #[.slice ka1 x.key.length kc1, .int .i64 x.seq, .bool x.gone, .int .i64 x.till, .slice va1 x.val.length vc1], .agg #[.slice ka2 y.key.length kc2, .int .i64 y.seq, .bool y.gone, .int .i64 y.till, .slice va2 y.val.length vc2]] wx fun e w' => e = .returned (.int .i64 (ahead x y)) ∧ Below wx.heap.size wx w') := fun wx hb => by
              have := rahead_any (va := va1) (vc := vc1) (vb := va2) (vd := vc2) (s1.later hb) (t1.later hb)
              unfold entA at this
              exact this
            rw [← hL2] at HRC
            rw [← hL] at r0
            generalize ahead x y = c at HC HNT HNF
            generalize x.key.length = kl1 at HRC HC
            generalize y.key.length = kl2 at HRC HC
            generalize x.val.length = vl1 at HRC HC
            generalize y.val.length = vl2 at HRC HC
            generalize x.seq = sq1 at HRC HC
            generalize y.seq = sq2 at HRC HC
            generalize x.gone = gn1 at HRC HC
            generalize y.gone = gn2 at HRC HC
            generalize x.till = tl1 at HRC HC
            generalize y.till = tl2 at HRC HC
            clear hg hi hl ha c0 hrl hbw hat hrst hL qa hx hdx d0 d1 d2 d3 d4 s1 hbest hj hl2 ha2' hrst2 hy c2 r2 hrl2 hrl2n f0 f1 f2 f3 f4 t1 hL2
            simp only [bstV]
            by_cases hcc : c < 0
            · have HN := hidM (HNT.out hcc)
              clear HNT HNF
              go_upto_region 7 with fail
              clear r0
              refine wp_region_vals (by kernel_rfl) (by decide +kernel) 74 rfl (by decide +kernel) [.slice (some ⟨p, 0, none⟩) n n, .int .i64 (i : Int), .pointer (some ⟨p, i, none⟩), .int .i64 (a : Int), .slice (some ⟨b1, o1, none⟩) L lc, .int .i64 (L : Int), .bool true, .bool true, .int .i64 (j : Int), .bool false, .bool false, .slice (some ⟨b1, o1, none⟩) L lc, .slice (some ⟨p, 0, none⟩) n n, .int .i64 (i : Int), .pointer (some ⟨p, i, none⟩), .int .i64 (a : Int), .pointer (some ⟨b1, o1 + a * 5, none⟩), .agg #[.slice ka1 kl1 kc1, .int .i64 sq1, .bool gn1, .int .i64 tl1, .slice va1 vl1 vc1], .slice (some ⟨rb, ro, none⟩) n cap, .int .i64 (j : Int), .pointer (some ⟨rb, ro + j, none⟩), .slice (some ⟨b2, o2, none⟩) L2 lc2, .slice (some ⟨p, 0, none⟩) n n, .int .i64 (j : Int), .pointer (some ⟨p, j, none⟩), .int .i64 (a2 : Int), .pointer (some ⟨b2, o2 + a2 * 5, none⟩), .agg #[.slice ka2 kl2 kc2, .int .i64 sq2, .bool gn2, .int .i64 tl2, .slice va2 vl2 vc2], .int .i64 c, .bool true, .bool true, .bool true] rfl ?_ [18, 19, 20, 21, 22, 23, 24, 25, 26, 27, 28, 29, 30, 31, 32, 33, 34, 35, 36, 37, 38, 39, 40, 41, 42, 43, 44, 45, 46, 47, 48, 49] (by decide +kernel) ?_
              rotate_left
              · intro w6 B6
                rename_i hk
                refine hk _ _ ?_
                rw [putRm]
                go_wp2_with fail
                go_roundg (n - (i + 1))
                case measure => have := HG.out; omega
                case rel => exact ⟨i + 1, by go_num, by have := HG.out; omega, by rw [HN.out]; rfl, HB.out.trans (B6.mono HB.out.size)⟩
              -- 0: slot 18
              refine ⟨fun a w c => ?_, ?_⟩
              · have hw := c.want0 rfl
                exact goalR_move hw (.tmp 4) (.inl rfl) ((c.old 4 rfl).trans rfl) rfl
              -- 1: slot 19
              refine ⟨fun a w c => ?_, ?_⟩
              · have hw := c.want0 rfl
                exact goalR_move hw (.tmp 6) (.inl rfl) ((c.old 6 rfl).trans rfl) rfl
              -- 2: slot 20
              refine ⟨fun a w c => ?_, ?_⟩
              · have hw := c.want0 rfl
                have e18 : a.eval (.tmp 18) = _ := c.val 0 _ rfl rfl
                have e19 : a.eval (.tmp 19) = _ := c.val 1 _ rfl rfl
                exact goalR_val hw (by have ec : ∀ v, a.eval (.const v) = v := fun _ => rfl; generalize a.eval = ρ at ec e18 e19 ⊢; simp [execOp, go_sem, ec, e18, e19, elem59, Try.sizeOf3, hi1, hi2]) rfl
              -- 3: slot 21
              refine ⟨fun a w c => ?_, ?_⟩
              · have hw := c.want0 rfl
                have e20 : a.eval (.tmp 20) = _ := c.val 2 _ rfl rfl
                have y0 := (HRC.out w c.below).1
                exact goalR_val hw (by have ec : ∀ v, a.eval (.const v) = v := fun _ => rfl; generalize a.eval = ρ at ec e20 ⊢; simp [execOp, go_sem, ec, e20, y0]) rfl
              -- 4: slot 22
              refine ⟨fun a w c => ?_, ?_⟩
              · have hw := c.want0 rfl
                exact goalR_move hw (.tmp 7) (.inl rfl) ((c.old 7 rfl).trans rfl) rfl
              -- 5: slot 23
              refine ⟨fun a w c => ?_, ?_⟩
              · have e22 : a.eval (.tmp 22) = _ := c.val 4 _ rfl rfl
                exact goalR_val (c.want0 rfl) (by have ec : ∀ v, a.eval (.const v) = v := fun _ => rfl; generalize a.eval = ρ at ec e22 ⊢; simp [execOp, go_sem, ec, e22]) rfl
              -- 6: slot 24
              refine ⟨fun a w c => ?_, ?_⟩
              · have hw := c.want0 rfl
                have e21 : a.eval (.tmp 21) = _ := c.val 3 _ rfl rfl
                have e23 : a.eval (.tmp 23) = _ := c.val 5 _ rfl rfl
                exact goalR_val hw (by have ec : ∀ v, a.eval (.const v) = v := fun _ => rfl; generalize a.eval = ρ at ec e21 e23 ⊢; simp [execOp, go_sem, ec, e21, e23, hal]) rfl
              -- 7: slot 25
              refine ⟨fun a w c => ?_, ?_⟩
              · exact goalR_move (c.want0 rfl) (.tmp 24) (.inl rfl) (c.val 6 _ rfl rfl) rfl
              -- 8: slot 26
              refine ⟨fun a w c => ?_, ?_⟩
              · have hw := c.want 7 true rfl rfl rfl
                exact goalR_move hw (.tmp 5) (.inl rfl) ((c.old 5 rfl).trans rfl) rfl
              -- 9: slot 27
              refine ⟨fun a w c => ?_, ?_⟩
              · have hw := c.want 7 true rfl rfl rfl
                have e26 : a.eval (.tmp 26) = _ := c.val 8 _ rfl rfl
                exact goalR_val hw (by have ec : ∀ v, a.eval (.const v) = v := fun _ => rfl; generalize a.eval = ρ at ec e26 ⊢; simp [execOp, go_sem, ec, ec, e26, hjn]) rfl
              -- 10: slot 28
              refine ⟨fun a w c => ?_, ?_⟩
              · exact goalR_move (c.want 7 true rfl rfl rfl) (.tmp 27) (.inl rfl) (c.val 9 _ rfl rfl) rfl
              -- 11: slot 29
              refine ⟨fun a w c => ?_, ?_⟩
              · have hw := c.want 10 false rfl rfl rfl
                exact goalR_move hw (.tmp 7) (.inl rfl) ((c.old 7 rfl).trans rfl) rfl
              -- 12: slot 30
              refine ⟨fun a w c => ?_, ?_⟩
              · have hw := c.want 10 false rfl rfl rfl
                exact goalR_move hw (.tmp 4) (.inl rfl) ((c.old 4 rfl).trans rfl) rfl
              -- 13: slot 31
              refine ⟨fun a w c => ?_, ?_⟩
              · have hw := c.want 10 false rfl rfl rfl
                exact goalR_move hw (.tmp 6) (.inl rfl) ((c.old 6 rfl).trans rfl) rfl
              -- 14: slot 32
              refine ⟨fun a w c => ?_, ?_⟩
              · have hw := c.want 10 false rfl rfl rfl
                have e30 : a.eval (.tmp 30) = _ := c.val 12 _ rfl rfl
                have e31 : a.eval (.tmp 31) = _ := c.val 13 _ rfl rfl
                exact goalR_val hw (by have ec : ∀ v, a.eval (.const v) = v := fun _ => rfl; generalize a.eval = ρ at ec e30 e31 ⊢; simp [execOp, go_sem, ec, e30, e31, elem59, Try.sizeOf3, hi1, hi2]) rfl
              -- 15: slot 33
              refine ⟨fun a w c => ?_, ?_⟩
              · have hw := c.want 10 false rfl rfl rfl
                have e32 : a.eval (.tmp 32) = _ := c.val 14 _ rfl rfl
                have y0 := (HRC.out w c.below).1
                exact goalR_val hw (by have ec : ∀ v, a.eval (.const v) = v := fun _ => rfl; generalize a.eval = ρ at ec e32 ⊢; simp [execOp, go_sem, ec, e32, y0]) rfl
              -- 16: slot 34
              refine ⟨fun a w c => ?_, ?_⟩
              · have hw := c.want 10 false rfl rfl rfl
                have e29 : a.eval (.tmp 29) = _ := c.val 11 _ rfl rfl
                have e33 : a.eval (.tmp 33) = _ := c.val 15 _ rfl rfl
                exact goalR_val hw (by have ec : ∀ v, a.eval (.const v) = v := fun _ => rfl; generalize a.eval = ρ at ec e29 e33 ⊢; simp [execOp, go_sem, ec, e29, e33, elem27, Try.sizeOf35, ha1, ha2]) rfl
              -- 17: slot 35
              refine ⟨fun a w c => ?_, ?_⟩
              · have hw := c.want 10 false rfl rfl rfl
                have e34 : a.eval (.tmp 34) = _ := c.val 16 _ rfl rfl
                obtain ⟨y0, y1, y2, y3, y4⟩ := (HRC.out w c.below).2.1
                exact goalR_val hw (by have ec : ∀ v, a.eval (.const v) = v := fun _ => rfl; generalize a.eval = ρ at ec e34 ⊢; simp [execOp, go_sem, ec, e34, y0, y1, y2, y3, y4]) rfl
              -- 18: slot 36
              refine ⟨fun a w c => ?_, ?_⟩
              · have hw := c.want 10 false rfl rfl rfl
                exact goalR_move hw (.tmp 0) (.inl rfl) ((c.old 0 rfl).trans rfl) rfl
              -- 19: slot 37
              refine ⟨fun a w c => ?_, ?_⟩
              · have hw := c.want 10 false rfl rfl rfl
                exact goalR_move hw (.tmp 5) (.inl rfl) ((c.old 5 rfl).trans rfl) rfl
              -- 20: slot 38
              refine ⟨fun a w c => ?_, ?_⟩
              · have hw := c.want 10 false rfl rfl rfl
                have e36 : a.eval (.tmp 36) = _ := c.val 18 _ rfl rfl
                have e37 : a.eval (.tmp 37) = _ := c.val 19 _ rfl rfl
                exact goalR_val hw (by have ec : ∀ v, a.eval (.const v) = v := fun _ => rfl; generalize a.eval = ρ at ec e36 e37 ⊢; simp [execOp, go_sem, ec, e36, e37, elem22, Try.sizeOf27, hj1, hj2]) rfl
              -- 21: slot 39
              refine ⟨fun a w c => ?_, ?_⟩
              · have hw := c.want 10 false rfl rfl rfl
                have e38 : a.eval (.tmp 38) = _ := c.val 20 _ rfl rfl
                have y0 := (HRC.out w c.below).2.2.1
                exact goalR_val hw (by have ec : ∀ v, a.eval (.const v) = v := fun _ => rfl; generalize a.eval = ρ at ec e38 ⊢; simp [execOp, go_sem, ec, e38, y0]) rfl
              -- 22: slot 40
              refine ⟨fun a w c => ?_, ?_⟩
              · have hw := c.want 10 false rfl rfl rfl
                exact goalR_move hw (.tmp 4) (.inl rfl) ((c.old 4 rfl).trans rfl) rfl
              -- 23: slot 41
              refine ⟨fun a w c => ?_, ?_⟩
              · have hw := c.want 10 false rfl rfl rfl
                exact goalR_move hw (.tmp 5) (.inl rfl) ((c.old 5 rfl).trans rfl) rfl
              -- 24: slot 42
              refine ⟨fun a w c => ?_, ?_⟩
              · have hw := c.want 10 false rfl rfl rfl
                have e40 : a.eval (.tmp 40) = _ := c.val 22 _ rfl rfl
                have e41 : a.eval (.tmp 41) = _ := c.val 23 _ rfl rfl
                exact goalR_val hw (by have ec : ∀ v, a.eval (.const v) = v := fun _ => rfl; generalize a.eval = ρ at ec e40 e41 ⊢; simp [execOp, go_sem, ec, e40, e41, elem59, Try.sizeOf3, hj1, hj2]) rfl
              -- 25: slot 43
              refine ⟨fun a w c => ?_, ?_⟩
              · have hw := c.want 10 false rfl rfl rfl
                have e42 : a.eval (.tmp 42) = _ := c.val 24 _ rfl rfl
                have y0 := (HRC.out w c.below).2.2.2.1
                exact goalR_val hw (by have ec : ∀ v, a.eval (.const v) = v := fun _ => rfl; generalize a.eval = ρ at ec e42 ⊢; simp [execOp, go_sem, ec, e42, y0]) rfl
              -- 26: slot 44
              refine ⟨fun a w c => ?_, ?_⟩
              · have hw := c.want 10 false rfl rfl rfl
                have e39 : a.eval (.tmp 39) = _ := c.val 21 _ rfl rfl
                have e43 : a.eval (.tmp 43) = _ := c.val 25 _ rfl rfl
                exact goalR_val hw (by have ec : ∀ v, a.eval (.const v) = v := fun _ => rfl; generalize a.eval = ρ at ec e39 e43 ⊢; simp [execOp, go_sem, ec, e39, e43, elem27, Try.sizeOf35, hb1, hb2]) rfl
              -- 27: slot 45
              refine ⟨fun a w c => ?_, ?_⟩
              · have hw := c.want 10 false rfl rfl rfl
                have e44 : a.eval (.tmp 44) = _ := c.val 26 _ rfl rfl
                obtain ⟨y0, y1, y2, y3, y4⟩ := (HRC.out w c.below).2.2.2.2
                exact goalR_val hw (by have ec : ∀ v, a.eval (.const v) = v := fun _ => rfl; generalize a.eval = ρ at ec e44 ⊢; simp [execOp, go_sem, ec, e44, y0, y1, y2, y3, y4]) rfl
              -- 28: slot 46
              refine ⟨fun a w c => ?_, ?_⟩
              · have hw := c.want 10 false rfl rfl rfl
                have e35 : a.eval (.tmp 35) = _ := c.val 17 _ rfl rfl
                have e45 : a.eval (.tmp 45) = _ := c.val 27 _ rfl rfl
                exact goalR_fn hw rfl (by simp only [List.map_toArray, List.map_cons, List.map_nil, e35, e45]) (by kernel_rfl) ((HC.out w c.below).mono fun e w' ⟨he, hb⟩ => ⟨_, he, outR_val rfl hb⟩)
              -- 29: slot 47
              refine ⟨fun a w c => ?_, ?_⟩
              · have hw := c.want 10 false rfl rfl rfl
                have e46 : a.eval (.tmp 46) = _ := c.val 28 _ rfl rfl
                exact goalR_val hw (by have ec : ∀ v, a.eval (.const v) = v := fun _ => rfl; generalize a.eval = ρ at ec e46 ⊢; simp [execOp, go_sem, ec, ec, e46, hcc]) rfl
              -- 30: slot 48
              refine ⟨fun a w c => ?_, ?_⟩
              · have hw := c.want 7 true rfl rfl rfl
                have e28 : a.eval (.tmp 28) = _ := c.val 10 _ rfl rfl
                have e47 : a.eval (.tmp 47) = _ := c.val 29 _ rfl rfl
                exact goalR_val hw (by have ec : ∀ v, a.eval (.const v) = v := fun _ => rfl; generalize a.eval = ρ at ec e28 e47 ⊢; simp [execOp, go_sem, ec, ec, e28, e47]) rfl
              -- 31: slot 49
              refine ⟨fun a w c => ?_, ?_⟩
              · have hw := c.want0 rfl
                have e25 : a.eval (.tmp 25) = _ := c.val 7 _ rfl rfl
                have e48 : a.eval (.tmp 48) = _ := c.val 30 _ rfl rfl
                exact goalR_val hw (by have ec : ∀ v, a.eval (.const v) = v := fun _ => rfl; generalize a.eval = ρ at ec e25 e48 ⊢; simp [execOp, go_sem, ec, ec, e25, e48]) rfl
              exact True.intro

            · have HN := hidM (HNF.out hcc)
              clear HNT HNF
              go_upto_region 7 with fail
              clear r0
              refine wp_region_vals (by kernel_rfl) (by decide +kernel) 74 rfl (by decide +kernel) [.slice (some ⟨p, 0, none⟩) n n, .int .i64 (i : Int), .pointer (some ⟨p, i, none⟩), .int .i64 (a : Int), .slice (some ⟨b1, o1, none⟩) L lc, .int .i64 (L : Int), .bool true, .bool true, .int .i64 (j : Int), .bool false, .bool false, .slice (some ⟨b1, o1, none⟩) L lc, .slice (some ⟨p, 0, none⟩) n n, .int .i64 (i : Int), .pointer (some ⟨p, i, none⟩), .int .i64 (a : Int), .pointer (some ⟨b1, o1 + a * 5, none⟩), .agg #[.slice ka1 kl1 kc1, .int .i64 sq1, .bool gn1, .int .i64 tl1, .slice va1 vl1 vc1], .slice (some ⟨rb, ro, none⟩) n cap, .int .i64 (j : Int), .pointer (some ⟨rb, ro + j, none⟩), .slice (some ⟨b2, o2, none⟩) L2 lc2, .slice (some ⟨p, 0, none⟩) n n, .int .i64 (j : Int), .pointer (some ⟨p, j, none⟩), .int .i64 (a2 : Int), .pointer (some ⟨b2, o2 + a2 * 5, none⟩), .agg #[.slice ka2 kl2 kc2, .int .i64 sq2, .bool gn2, .int .i64 tl2, .slice va2 vl2 vc2], .int .i64 c, .bool false, .bool false, .bool false] rfl ?_ [18, 19, 20, 21, 22, 23, 24, 25, 26, 27, 28, 29, 30, 31, 32, 33, 34, 35, 36, 37, 38, 39, 40, 41, 42, 43, 44, 45, 46, 47, 48, 49] (by decide +kernel) ?_
              rotate_left
              · intro w6 B6
                rename_i hk
                refine hk _ _ ?_
                rw [putRm]
                go_wp2_with fail
                go_roundg (n - (i + 1))
                case measure => have := HG.out; omega
                case rel => exact ⟨i + 1, by go_num, by have := HG.out; omega, by rw [HN.out]; rfl, HB.out.trans (B6.mono HB.out.size)⟩
              -- 0: slot 18
              refine ⟨fun a w c => ?_, ?_⟩
              · have hw := c.want0 rfl
                exact goalR_move hw (.tmp 4) (.inl rfl) ((c.old 4 rfl).trans rfl) rfl
              -- 1: slot 19
              refine ⟨fun a w c => ?_, ?_⟩
              · have hw := c.want0 rfl
                exact goalR_move hw (.tmp 6) (.inl rfl) ((c.old 6 rfl).trans rfl) rfl
              -- 2: slot 20
              refine ⟨fun a w c => ?_, ?_⟩
              · have hw := c.want0 rfl
                have e18 : a.eval (.tmp 18) = _ := c.val 0 _ rfl rfl
                have e19 : a.eval (.tmp 19) = _ := c.val 1 _ rfl rfl
                exact goalR_val hw (by have ec : ∀ v, a.eval (.const v) = v := fun _ => rfl; generalize a.eval = ρ at ec e18 e19 ⊢; simp [execOp, go_sem, ec, e18, e19, elem59, Try.sizeOf3, hi1, hi2]) rfl
              -- 3: slot 21
              refine ⟨fun a w c => ?_, ?_⟩
              · have hw := c.want0 rfl
                have e20 : a.eval (.tmp 20) = _ := c.val 2 _ rfl rfl
                have y0 := (HRC.out w c.below).1
                exact goalR_val hw (by have ec : ∀ v, a.eval (.const v) = v := fun _ => rfl; generalize a.eval = ρ at ec e20 ⊢; simp [execOp, go_sem, ec, e20, y0]) rfl
              -- 4: slot 22
              refine ⟨fun a w c => ?_, ?_⟩
              · have hw := c.want0 rfl
                exact goalR_move hw (.tmp 7) (.inl rfl) ((c.old 7 rfl).trans rfl) rfl
              -- 5: slot 23
              refine ⟨fun a w c => ?_, ?_⟩
              · have e22 : a.eval (.tmp 22) = _ := c.val 4 _ rfl rfl
                exact goalR_val (c.want0 rfl) (by have ec : ∀ v, a.eval (.const v) = v := fun _ => rfl; generalize a.eval = ρ at ec e22 ⊢; simp [execOp, go_sem, ec, e22]) rfl
              -- 6: slot 24
              refine ⟨fun a w c => ?_, ?_⟩
              · have hw := c.want0 rfl
                have e21 : a.eval (.tmp 21) = _ := c.val 3 _ rfl rfl
                have e23 : a.eval (.tmp 23) = _ := c.val 5 _ rfl rfl
                exact goalR_val hw (by have ec : ∀ v, a.eval (.const v) = v := fun _ => rfl; generalize a.eval = ρ at ec e21 e23 ⊢; simp [execOp, go_sem, ec, e21, e23, hal]) rfl
              -- 7: slot 25
              refine ⟨fun a w c => ?_, ?_⟩
              · exact goalR_move (c.want0 rfl) (.tmp 24) (.inl rfl) (c.val 6 _ rfl rfl) rfl
              -- 8: slot 26
              refine ⟨fun a w c => ?_, ?_⟩
              · have hw := c.want 7 true rfl rfl rfl
                exact goalR_move hw (.tmp 5) (.inl rfl) ((c.old 5 rfl).trans rfl) rfl
              -- 9: slot 27
              refine ⟨fun a w c => ?_, ?_⟩
              · have hw := c.want 7 true rfl rfl rfl
                have e26 : a.eval (.tmp 26) = _ := c.val 8 _ rfl rfl
                exact goalR_val hw (by have ec : ∀ v, a.eval (.const v) = v := fun _ => rfl; generalize a.eval = ρ at ec e26 ⊢; simp [execOp, go_sem, ec, ec, e26, hjn]) rfl
              -- 10: slot 28
              refine ⟨fun a w c => ?_, ?_⟩
              · exact goalR_move (c.want 7 true rfl rfl rfl) (.tmp 27) (.inl rfl) (c.val 9 _ rfl rfl) rfl
              -- 11: slot 29
              refine ⟨fun a w c => ?_, ?_⟩
              · have hw := c.want 10 false rfl rfl rfl
                exact goalR_move hw (.tmp 7) (.inl rfl) ((c.old 7 rfl).trans rfl) rfl
              -- 12: slot 30
              refine ⟨fun a w c => ?_, ?_⟩
              · have hw := c.want 10 false rfl rfl rfl
                exact goalR_move hw (.tmp 4) (.inl rfl) ((c.old 4 rfl).trans rfl) rfl
              -- 13: slot 31
              refine ⟨fun a w c => ?_, ?_⟩
              · have hw := c.want 10 false rfl rfl rfl
                exact goalR_move hw (.tmp 6) (.inl rfl) ((c.old 6 rfl).trans rfl) rfl
              -- 14: slot 32
              refine ⟨fun a w c => ?_, ?_⟩
              · have hw := c.want 10 false rfl rfl rfl
                have e30 : a.eval (.tmp 30) = _ := c.val 12 _ rfl rfl
                have e31 : a.eval (.tmp 31) = _ := c.val 13 _ rfl rfl
                exact goalR_val hw (by have ec : ∀ v, a.eval (.const v) = v := fun _ => rfl; generalize a.eval = ρ at ec e30 e31 ⊢; simp [execOp, go_sem, ec, e30, e31, elem59, Try.sizeOf3, hi1, hi2]) rfl
              -- 15: slot 33
              refine ⟨fun a w c => ?_, ?_⟩
              · have hw := c.want 10 false rfl rfl rfl
                have e32 : a.eval (.tmp 32) = _ := c.val 14 _ rfl rfl
                have y0 := (HRC.out w c.below).1
                exact goalR_val hw (by have ec : ∀ v, a.eval (.const v) = v := fun _ => rfl; generalize a.eval = ρ at ec e32 ⊢; simp [execOp, go_sem, ec, e32, y0]) rfl
              -- 16: slot 34
              refine ⟨fun a w c => ?_, ?_⟩
              · have hw := c.want 10 false rfl rfl rfl
                have e29 : a.eval (.tmp 29) = _ := c.val 11 _ rfl rfl
                have e33 : a.eval (.tmp 33) = _ := c.val 15 _ rfl rfl
                exact goalR_val hw (by have ec : ∀ v, a.eval (.const v) = v := fun _ => rfl; generalize a.eval = ρ at ec e29 e33 ⊢; simp [execOp, go_sem, ec, e29, e33, elem27, Try.sizeOf35, ha1, ha2]) rfl
              -- 17: slot 35
              refine ⟨fun a w c => ?_, ?_⟩
              · have hw := c.want 10 false rfl rfl rfl
                have e34 : a.eval (.tmp 34) = _ := c.val 16 _ rfl rfl
                obtain ⟨y0, y1, y2, y3, y4⟩ := (HRC.out w c.below).2.1
                exact goalR_val hw (by have ec : ∀ v, a.eval (.const v) = v := fun _ => rfl; generalize a.eval = ρ at ec e34 ⊢; simp [execOp, go_sem, ec, e34, y0, y1, y2, y3, y4]) rfl
              -- 18: slot 36
              refine ⟨fun a w c => ?_, ?_⟩
              · have hw := c.want 10 false rfl rfl rfl
                exact goalR_move hw (.tmp 0) (.inl rfl) ((c.old 0 rfl).trans rfl) rfl
              -- 19: slot 37
              refine ⟨fun a w c => ?_, ?_⟩
              · have hw := c.want 10 false rfl rfl rfl
                exact goalR_move hw (.tmp 5) (.inl rfl) ((c.old 5 rfl).trans rfl) rfl
              -- 20: slot 38
              refine ⟨fun a w c => ?_, ?_⟩
              · have hw := c.want 10 false rfl rfl rfl
                have e36 : a.eval (.tmp 36) = _ := c.val 18 _ rfl rfl
                have e37 : a.eval (.tmp 37) = _ := c.val 19 _ rfl rfl
                exact goalR_val hw (by have ec : ∀ v, a.eval (.const v) = v := fun _ => rfl; generalize a.eval = ρ at ec e36 e37 ⊢; simp [execOp, go_sem, ec, e36, e37, elem22, Try.sizeOf27, hj1, hj2]) rfl
              -- 21: slot 39
              refine ⟨fun a w c => ?_, ?_⟩
              · have hw := c.want 10 false rfl rfl rfl
                have e38 : a.eval (.tmp 38) = _ := c.val 20 _ rfl rfl
                have y0 := (HRC.out w c.below).2.2.1
                exact goalR_val hw (by have ec : ∀ v, a.eval (.const v) = v := fun _ => rfl; generalize a.eval = ρ at ec e38 ⊢; simp [execOp, go_sem, ec, e38, y0]) rfl
              -- 22: slot 40
              refine ⟨fun a w c => ?_, ?_⟩
              · have hw := c.want 10 false rfl rfl rfl
                exact goalR_move hw (.tmp 4) (.inl rfl) ((c.old 4 rfl).trans rfl) rfl
              -- 23: slot 41
              refine ⟨fun a w c => ?_, ?_⟩
              · have hw := c.want 10 false rfl rfl rfl
                exact goalR_move hw (.tmp 5) (.inl rfl) ((c.old 5 rfl).trans rfl) rfl
              -- 24: slot 42
              refine ⟨fun a w c => ?_, ?_⟩
              · have hw := c.want 10 false rfl rfl rfl
                have e40 : a.eval (.tmp 40) = _ := c.val 22 _ rfl rfl
                have e41 : a.eval (.tmp 41) = _ := c.val 23 _ rfl rfl
                exact goalR_val hw (by have ec : ∀ v, a.eval (.const v) = v := fun _ => rfl; generalize a.eval = ρ at ec e40 e41 ⊢; simp [execOp, go_sem, ec, e40, e41, elem59, Try.sizeOf3, hj1, hj2]) rfl
              -- 25: slot 43
              refine ⟨fun a w c => ?_, ?_⟩
              · have hw := c.want 10 false rfl rfl rfl
                have e42 : a.eval (.tmp 42) = _ := c.val 24 _ rfl rfl
                have y0 := (HRC.out w c.below).2.2.2.1
                exact goalR_val hw (by have ec : ∀ v, a.eval (.const v) = v := fun _ => rfl; generalize a.eval = ρ at ec e42 ⊢; simp [execOp, go_sem, ec, e42, y0]) rfl
              -- 26: slot 44
              refine ⟨fun a w c => ?_, ?_⟩
              · have hw := c.want 10 false rfl rfl rfl
                have e39 : a.eval (.tmp 39) = _ := c.val 21 _ rfl rfl
                have e43 : a.eval (.tmp 43) = _ := c.val 25 _ rfl rfl
                exact goalR_val hw (by have ec : ∀ v, a.eval (.const v) = v := fun _ => rfl; generalize a.eval = ρ at ec e39 e43 ⊢; simp [execOp, go_sem, ec, e39, e43, elem27, Try.sizeOf35, hb1, hb2]) rfl
              -- 27: slot 45
              refine ⟨fun a w c => ?_, ?_⟩
              · have hw := c.want 10 false rfl rfl rfl
                have e44 : a.eval (.tmp 44) = _ := c.val 26 _ rfl rfl
                obtain ⟨y0, y1, y2, y3, y4⟩ := (HRC.out w c.below).2.2.2.2
                exact goalR_val hw (by have ec : ∀ v, a.eval (.const v) = v := fun _ => rfl; generalize a.eval = ρ at ec e44 ⊢; simp [execOp, go_sem, ec, e44, y0, y1, y2, y3, y4]) rfl
              -- 28: slot 46
              refine ⟨fun a w c => ?_, ?_⟩
              · have hw := c.want 10 false rfl rfl rfl
                have e35 : a.eval (.tmp 35) = _ := c.val 17 _ rfl rfl
                have e45 : a.eval (.tmp 45) = _ := c.val 27 _ rfl rfl
                exact goalR_fn hw rfl (by simp only [List.map_toArray, List.map_cons, List.map_nil, e35, e45]) (by kernel_rfl) ((HC.out w c.below).mono fun e w' ⟨he, hb⟩ => ⟨_, he, outR_val rfl hb⟩)
              -- 29: slot 47
              refine ⟨fun a w c => ?_, ?_⟩
              · have hw := c.want 10 false rfl rfl rfl
                have e46 : a.eval (.tmp 46) = _ := c.val 28 _ rfl rfl
                exact goalR_val hw (by have ec : ∀ v, a.eval (.const v) = v := fun _ => rfl; generalize a.eval = ρ at ec e46 ⊢; simp [execOp, go_sem, ec, ec, e46, hcc]) rfl
              -- 30: slot 48
              refine ⟨fun a w c => ?_, ?_⟩
              · have hw := c.want 7 true rfl rfl rfl
                have e28 : a.eval (.tmp 28) = _ := c.val 10 _ rfl rfl
                have e47 : a.eval (.tmp 47) = _ := c.val 29 _ rfl rfl
                exact goalR_val hw (by have ec : ∀ v, a.eval (.const v) = v := fun _ => rfl; generalize a.eval = ρ at ec e28 e47 ⊢; simp [execOp, go_sem, ec, ec, e28, e47]) rfl
              -- 31: slot 49
              refine ⟨fun a w c => ?_, ?_⟩
              · have hw := c.want0 rfl
                have e25 : a.eval (.tmp 25) = _ := c.val 7 _ rfl rfl
                have e48 : a.eval (.tmp 48) = _ := c.val 30 _ rfl rfl
                exact goalR_val hw (by have ec : ∀ v, a.eval (.const v) = v := fun _ => rfl; generalize a.eval = ρ at ec e25 e48 ⊢; simp [execOp, go_sem, ec, ec, e25, e48]) rfl
              exact True.intro

        · have hal : ¬ (a : Int) < (L : Int) := by omega
          have HN : Hid (bstP (rst rs A) (i + 1) = bstP (rst rs A) i) := bstP_nil (by rw [hrst, List.drop_eq_nil_of_le (by omega)])
          have HRC : Hid (∀ wx, Below wr.heap.size wr wx → wx.cell? ⟨p, i, none⟩ = some (.int .i64 (a : Int)) ∧ True) := fun wx hb => ⟨(hat.later (Nat.lt_of_lt_of_le HM.out.1.plt HB.out.size) hb i a ha).1, trivial⟩
          rw [← hL] at r0
          clear hg hi hl ha c0 hrl hbw hat hrst hL qa
          generalize hbv : bstV (bstP (rst rs A) i) = bv
          have HBV := hidM hbv
          clear hbv
          go_upto_region 7 with fail
          clear r0
          refine wp_region_vals (by kernel_rfl) (by decide +kernel) 74 rfl (by decide +kernel) [.slice (some ⟨p, 0, none⟩) n n, .int .i64 (i : Int), .pointer (some ⟨p, i, none⟩), .int .i64 (a : Int), .slice la L lc, .int .i64 (L : Int), .bool false, .bool false, undef, undef, undef, undef, undef, undef, undef, undef, undef, undef, undef, undef, undef, undef, undef, undef, undef, undef, undef, undef, undef, undef, undef, .bool false] rfl ?_ [18, 19, 20, 21, 22, 23, 24, 25, 26, 27, 28, 29, 30, 31, 32, 33, 34, 35, 36, 37, 38, 39, 40, 41, 42, 43, 44, 45, 46, 47, 48, 49] (by decide +kernel) ?_
          rotate_left
          · intro w6 B6
            rename_i hk
            refine hk _ _ ?_
            rw [putRm]
            go_wp2_with fail
            go_roundg (n - (i + 1))
            case measure => have := HG.out; omega
            case rel => exact ⟨i + 1, by go_num, by have := HG.out; omega, by rw [HN.out, HBV.out], HB.out.trans (B6.mono HB.out.size)⟩
          -- 0: slot 18
          refine ⟨fun a w c => ?_, ?_⟩
          · have hw := c.want0 rfl
            exact goalR_move hw (.tmp 4) (.inl rfl) ((c.old 4 rfl).trans rfl) rfl
          -- 1: slot 19
          refine ⟨fun a w c => ?_, ?_⟩
          · have hw := c.want0 rfl
            exact goalR_move hw (.tmp 6) (.inl rfl) ((c.old 6 rfl).trans rfl) rfl
          -- 2: slot 20
          refine ⟨fun a w c => ?_, ?_⟩
          · have hw := c.want0 rfl
            have e18 : a.eval (.tmp 18) = _ := c.val 0 _ rfl rfl
            have e19 : a.eval (.tmp 19) = _ := c.val 1 _ rfl rfl
            exact goalR_val hw (by have ec : ∀ v, a.eval (.const v) = v := fun _ => rfl; generalize a.eval = ρ at ec e18 e19 ⊢; simp [execOp, go_sem, ec, e18, e19, elem59, Try.sizeOf3, hi1, hi2]) rfl
          -- 3: slot 21
          refine ⟨fun a w c => ?_, ?_⟩
          · have hw := c.want0 rfl
            have e20 : a.eval (.tmp 20) = _ := c.val 2 _ rfl rfl
            have y0 := (HRC.out w c.below).1
            exact goalR_val hw (by have ec : ∀ v, a.eval (.const v) = v := fun _ => rfl; generalize a.eval = ρ at ec e20 ⊢; simp [execOp, go_sem, ec, e20, y0]) rfl
          -- 4: slot 22
          refine ⟨fun a w c => ?_, ?_⟩
          · have hw := c.want0 rfl
            exact goalR_move hw (.tmp 7) (.inl rfl) ((c.old 7 rfl).trans rfl) rfl
          -- 5: slot 23
          refine ⟨fun a w c => ?_, ?_⟩
          · have e22 : a.eval (.tmp 22) = _ := c.val 4 _ rfl rfl
            exact goalR_val (c.want0 rfl) (by have ec : ∀ v, a.eval (.const v) = v := fun _ => rfl; generalize a.eval = ρ at ec e22 ⊢; simp [execOp, go_sem, ec, e22]) rfl
          -- 6: slot 24
          refine ⟨fun a w c => ?_, ?_⟩
          · have hw := c.want0 rfl
            have e21 : a.eval (.tmp 21) = _ := c.val 3 _ rfl rfl
            have e23 : a.eval (.tmp 23) = _ := c.val 5 _ rfl rfl
            exact goalR_val hw (by have ec : ∀ v, a.eval (.const v) = v := fun _ => rfl; generalize a.eval = ρ at ec e21 e23 ⊢; simp [execOp, go_sem, ec, e21, e23, hal]) rfl
          -- 7: slot 25
          refine ⟨fun a w c => ?_, ?_⟩
          · exact goalR_move (c.want0 rfl) (.tmp 24) (.inl rfl) (c.val 6 _ rfl rfl) rfl
          -- 8: slot 26
          refine ⟨fun a w c => ?_, ?_⟩
          · exact goalR_skip (c.skip 7 true false rfl rfl rfl (by decide)) rfl
          -- 9: slot 27
          refine ⟨fun a w c => ?_, ?_⟩
          · exact goalR_skip (c.skip 7 true false rfl rfl rfl (by decide)) rfl
          -- 10: slot 28
          refine ⟨fun a w c => ?_, ?_⟩
          · exact goalR_skip (c.skip 7 true false rfl rfl rfl (by decide)) rfl
          -- 11: slot 29
          refine ⟨fun a w c => ?_, ?_⟩
          · exact goalR_skip (wanted_undefM rfl (c.val 10 _ rfl rfl)) rfl
          -- 12: slot 30
          refine ⟨fun a w c => ?_, ?_⟩
          · exact goalR_skip (wanted_undefM rfl (c.val 10 _ rfl rfl)) rfl
          -- 13: slot 31
          refine ⟨fun a w c => ?_, ?_⟩
          · exact goalR_skip (wanted_undefM rfl (c.val 10 _ rfl rfl)) rfl
          -- 14: slot 32
          refine ⟨fun a w c => ?_, ?_⟩
          · exact goalR_skip (wanted_undefM rfl (c.val 10 _ rfl rfl)) rfl
          -- 15: slot 33
          refine ⟨fun a w c => ?_, ?_⟩
          · exact goalR_skip (wanted_undefM rfl (c.val 10 _ rfl rfl)) rfl
          -- 16: slot 34
          refine ⟨fun a w c => ?_, ?_⟩
          · exact goalR_skip (wanted_undefM rfl (c.val 10 _ rfl rfl)) rfl
          -- 17: slot 35
          refine ⟨fun a w c => ?_, ?_⟩
          · exact goalR_skip (wanted_undefM rfl (c.val 10 _ rfl rfl)) rfl
          -- 18: slot 36
          refine ⟨fun a w c => ?_, ?_⟩
          · exact goalR_skip (wanted_undefM rfl (c.val 10 _ rfl rfl)) rfl
          -- 19: slot 37
          refine ⟨fun a w c => ?_, ?_⟩
          · exact goalR_skip (wanted_undefM rfl (c.val 10 _ rfl rfl)) rfl
          -- 20: slot 38
          refine ⟨fun a w c => ?_, ?_⟩
          · exact goalR_skip (wanted_undefM rfl (c.val 10 _ rfl rfl)) rfl
          -- 21: slot 39
          refine ⟨fun a w c => ?_, ?_⟩
          · exact goalR_skip (wanted_undefM rfl (c.val 10 _ rfl rfl)) rfl
          -- 22: slot 40
          refine ⟨fun a w c => ?_, ?_⟩
          · exact goalR_skip (wanted_undefM rfl (c.val 10 _ rfl rfl)) rfl
          -- 23: slot 41
          refine ⟨fun a w c => ?_, ?_⟩
          · exact goalR_skip (wanted_undefM rfl (c.val 10 _ rfl rfl)) rfl
          -- 24: slot 42
          refine ⟨fun a w c => ?_, ?_⟩
          · exact goalR_skip (wanted_undefM rfl (c.val 10 _ rfl rfl)) rfl
          -- 25: slot 43
          refine ⟨fun a w c => ?_, ?_⟩
          · exact goalR_skip (wanted_undefM rfl (c.val 10 _ rfl rfl)) rfl
          -- 26: slot 44
          refine ⟨fun a w c => ?_, ?_⟩
          · exact goalR_skip (wanted_undefM rfl (c.val 10 _ rfl rfl)) rfl
          -- 27: slot 45
          refine ⟨fun a w c => ?_, ?_⟩
          · exact goalR_skip (wanted_undefM rfl (c.val 10 _ rfl rfl)) rfl
          -- 28: slot 46
          refine ⟨fun a w c => ?_, ?_⟩
          · exact goalR_skip (wanted_undefM rfl (c.val 10 _ rfl rfl)) rfl
          -- 29: slot 47
          refine ⟨fun a w c => ?_, ?_⟩
          · exact goalR_skip (wanted_undefM rfl (c.val 10 _ rfl rfl)) rfl
          -- 30: slot 48
          refine ⟨fun a w c => ?_, ?_⟩
          · exact goalR_skip (c.skip 7 true false rfl rfl rfl (by decide)) rfl
          -- 31: slot 49
          refine ⟨fun a w c => ?_, ?_⟩
          · have hw := c.want0 rfl
            have e25 : a.eval (.tmp 25) = _ := c.val 7 _ rfl rfl
            exact goalR_val hw (by have ec : ∀ v, a.eval (.const v) = v := fun _ => rfl; generalize a.eval = ρ at ec e25 ⊢; simp [execOp, go_sem, ec, ec, e25]) rfl
          exact True.intro

      · have hi2 : ¬ (i : Int) < (n : Int) := by omega
        have hnn : i = rs.length := by have := HLN.out.1; omega
        cases hB : bstP (rst rs A) i with
        | none =>
          have HE : Hid (dn = mrgE rs) := by
            have := HM.out.1.res
            rw [mrg_rst_end HM.out.1.len (hnn ▸ hB)] at this
            show dn = mrgE rs
            simpa using this
          simp only [bstV]
          clear hg hi hnn
          go_wp2_with fail
          refine bodyPost_ret (v := .slice oa dl oc) (by simp [results, Try.results15, go_sem]) rfl ⟨_, rfl, ?_, HM.out.1.bel.trans (HB.out.mono HM.out.1.bel.size)⟩
          rw [← HE.out]
          exact (HM.out.1.row.later HB.out).base (Nat.le_succ_of_le HM.out.1.pge)
        | some jx =>
          obtain ⟨j, x⟩ := jx
          obtain ⟨l, a, q, hl, ha, hd, hmm⟩ := mrg_rst HO.out HM.out.1.len (hnn ▸ hB)
          have hjn : j < n := by have := (List.getElem?_eq_some_iff.1 hl).1; have := HLN.out.1; omega
          have hj1 : (0 : Int) ≤ (j : Int) := by omega
          have hj2 : (j : Int) < (n : Int) := by omega
          have hjn' : ¬ (j : Int) < 0 := by omega
          have hx : l[a]? = some x := by
            have := List.getElem?_drop (xs := l) (i := a) (j := 0)
            rw [hd] at this
            simpa using this.symm
          have hal := (List.getElem?_eq_some_iff.1 hx).1
          have hbw := HM.out.1.bel.trans (HB.out.mono HM.out.1.bel.size)
          obtain ⟨rb, ro, la, lc, rfl, c0, hrl⟩ := H0.out.at' j l hl
          have hrlt : rb < w.heap.size := World.block_lt_of_cell? _ _ c0
          obtain ⟨L, hL⟩ : ∃ L, L = l.length := ⟨_, rfl⟩
          have hL62 : L ≤ 2 ^ 62 := by have := HZ.out.row l (List.mem_of_getElem? hl); omega
          have ha1 : (0 : Int) ≤ (a : Int) := by omega
          have ha2 : (a : Int) < (L : Int) := by omega
          rw [← hL] at c0
          obtain ⟨b1, o1, ka, kc, va, vc, rfl, d0, d1, d2, d3, d4, hEM, -, hRF⟩ := RSG.ent (RSG.any hrl) hx
          have hblt : b1 < w.heap.size := World.block_lt_of_cell? _ _ d0
          have hat := HM.out.1.at'.later HM.out.1.plt HB.out
          obtain ⟨p0, p1⟩ := hat j a ha
          have hpx : p < wr.heap.size := Nat.lt_of_lt_of_le HM.out.1.plt HB.out.size
          have HDT : Hid (dn.length + 1 ≤ TT) := by
            have e1 := congrArg List.length HM.out.1.res
            rw [List.length_append, hmm, List.length_map, List.length_cons] at e1
            have e2 : (mrgE rs).length = sumR rs := mrgE_len rs
            have := HTT.out
            show _ ≤ _
            omega
          have hdl2 : dn.length ≤ 100000 := by
            have e1 := congrArg List.length HM.out.1.res
            rw [List.length_append] at e1
            have e2 : (mrgE rs).length = sumR rs := mrgE_len rs
            have := HLN.out
            omega
          have HROW : Hid (∀ wy, Below wr.heap.size wr wy → RowF entE (p + 1) (fun b => b < w.heap.size) wy (.slice oa dl oc) dn) := fun wy hb => (HM.out.1.row.later HB.out).later hb
          have hpge := HM.out.1.pge
          have HFX : Hid (∀ wy, Below wr.heap.size wr wy → (wy.cell? ⟨rb, ro + j, none⟩ = some (.slice (some ⟨b1, o1, none⟩) L lc) ∧ wy.cell? ⟨p, j, none⟩ = some (.int .i64 (a : Int))) ∧ wy.cell? ⟨b1, o1 + a * 5, none⟩ = some (.slice ka x.key.length kc) ∧ wy.cell? ⟨b1, o1 + a * 5 + 1, none⟩ = some (.int .i64 x.seq) ∧ wy.cell? ⟨b1, o1 + a * 5 + 2, none⟩ = some (.bool x.gone) ∧ wy.cell? ⟨b1, o1 + a * 5 + 3, none⟩ = some (.int .i64 x.till) ∧ wy.cell? ⟨b1, o1 + a * 5 + 4, none⟩ = some (.slice va x.val.length vc)) := fun wy hb => by
            have hq := hbw.trans (hb.mono hbw.size)
            exact ⟨⟨cell_later hq c0, cell_later hb p0⟩, cell_later hq d0, cell_later hq d1, cell_later hq d2, cell_later hq d3, cell_later hq d4⟩
          have HFG : Hid (∀ wy w', Below wr.heap.size wr wy → Below (p + 1) wy w' → (w'.cell? ⟨rb, ro + j, none⟩ = some (.slice (some ⟨b1, o1, none⟩) L lc) ∧ w'.cell? ⟨p, j, none⟩ = some (.int .i64 (a : Int))) ∧ w'.cell? ⟨b1, o1 + a * 5, none⟩ = some (.slice ka x.key.length kc) ∧ w'.cell? ⟨b1, o1 + a * 5 + 1, none⟩ = some (.int .i64 x.seq) ∧ w'.cell? ⟨b1, o1 + a * 5 + 2, none⟩ = some (.bool x.gone) ∧ w'.cell? ⟨b1, o1 + a * 5 + 3, none⟩ = some (.int .i64 x.till) ∧ w'.cell? ⟨b1, o1 + a * 5 + 4, none⟩ = some (.slice va x.val.length vc)) := fun wy w' hb hg => by
            obtain ⟨⟨f0, f1⟩, f2, f3, f4, f5, f6⟩ := HFX.out wy hb
            have gt : ∀ (b k : Nat) (v : Value), b < p + 1 → wy.cell? ⟨b, k, none⟩ = some v → w'.cell? ⟨b, k, none⟩ = some v := fun b k v hlt h => (World.cell?_of_block (hg.block _ hlt)).trans h
            exact ⟨⟨gt _ _ _ (by omega) f0, gt _ _ _ (by omega) f1⟩, gt _ _ _ (by omega) f2, gt _ _ _ (by omega) f3, gt _ _ _ (by omega) f4, gt _ _ _ (by omega) f5, gt _ _ _ (by omega) f6⟩
          have HEM : Hid (∀ wy, Below wr.heap.size wr wy → EntM wy [.slice ka x.key.length kc, .int .i64 x.seq, .bool x.gone, .int .i64 x.till, .slice va x.val.length vc] x) := fun wy hb => by
            obtain ⟨q0, q1, q2, q3, q4, q5, q6, q7, q8⟩ := hEM
            have hq := hbw.trans (hb.mono hbw.size)
            exact ⟨q0, q1, q2, q3, q4, q5.later hq, q6.later hq, q7, q8⟩
          have HEG := hidM hRF
          have HLT := hidM (And.intro hdl2 (And.intro hbw (And.intro hpx hpge)))
          have HJ := hidM (And.intro hl (And.intro ha (And.intro hd hmm)))
          have HHL := hidM hL
          have HAL := hidM hal
          simp only [bstV]
          clear hg hi hnn hB hl ha hd hmm hx hal hrl hrlt hL hEM hRF hblt hat hdl2 hpge hpx c0 d0 d1 d2 d3 d4 p0 p1 hbw
          generalize x.key.length = kl at HFX HFG HEM HEG ⊢
          generalize x.val.length = vl at HFX HFG HEM HEG ⊢
          go_upto_region 12 with fail
          obtain ⟨wq, hwq⟩ : ∃ z, z = wr := ⟨_, rfl⟩
          have HQ : Hid (Below wr.heap.size wr wq ∧ wq.heap.size = wr.heap.size) := by rw [hwq]; exact ⟨Below.refl _ _, rfl⟩
          rw [← hwq]
          clear hwq
          go_wp2_with fail
          go_region_held_law (fun w' => (w'.cell? ⟨rb, ro + j, none⟩ = some (.slice (some ⟨b1, o1, none⟩) L lc) ∧ w'.cell? ⟨p, j, none⟩ = some (.int .i64 (a : Int))) ∧ w'.cell? ⟨b1, o1 + a * 5, none⟩ = some (.slice ka kl kc) ∧ w'.cell? ⟨b1, o1 + a * 5 + 1, none⟩ = some (.int .i64 x.seq) ∧ w'.cell? ⟨b1, o1 + a * 5 + 2, none⟩ = some (.bool x.gone) ∧ w'.cell? ⟨b1, o1 + a * 5 + 3, none⟩ = some (.int .i64 x.till) ∧ w'.cell? ⟨b1, o1 + a * 5 + 4, none⟩ = some (.slice va vl vc)) (first | exact HFX.out _ HQ.out.1.drew | exact HFX.out _ (HQ.out.1.alloc HQ.out.1.size _).drew | exact HFX.out _ (HQ.out.1.drew.alloc HQ.out.1.drew.size _) | exact HF1) (first | (have HBZ : Hid (Below wr.heap.size wr (wq.alloc (.cells #[.slice ka kl kc, .int .i64 x.seq, .bool x.gone, .int .i64 x.till, .slice va vl vc] 35)).drew) := (HQ.out.1.alloc HQ.out.1.size _).drew; refine step_appG entE (t := 27) (z := .agg #[.slice none 0 0, .int .i64 0, .bool false, .int .i64 0, .slice none 0 0]) (bytes := 72) (B := p + 1) Try.underlying27 entE_info rfl (by decide) rfl (.tmp 55) (.tmp 66) rfl rfl (HROW.out _ HBZ.out) rfl (by first | exact rsg_one (HEM.out _ HQ.out.1.drew) HEG.out | exact (rsg_one (HEM.out _ HQ.out.1) HEG.out).later (Below.refl _ _).drew) (fun b hb => by have := HLT.out.2.2.2; have : b < w.heap.size := hb; omega) (by have := HLT.out; omega) (by have := HLT.out; omega) (by have := HLT.out.2.2.1; have := HQ.out.1.size; simp; omega) ?_; intro v1 w1 r1 g1 b0; have HF1 := HFG.out _ _ HBZ.out b0))
          all_goals
            have HAT : Hid (AtR w1 p A) := (((HM.out.1.at').later HM.out.1.plt HB.out).later HLT.out.2.2.1 HBZ.out).low b0
            have HB1 : Hid (Below w.heap.size w w1) := (HLT.out.2.1.trans (HBZ.out.mono HLT.out.2.1.size)).trans (b0.mono (by have := HLT.out.2.2.2; omega))
            have HS1 : Hid (p < w1.heap.size) := by have := HLT.out.2.2.1; have := HBZ.out.size; have := b0.size; show _ < _; omega
            have HR1 := hidM r1
            obtain ⟨p0, p1⟩ := HAT.out j a HJ.out.2.1
            clear g1 r1 HF1 b0 HBZ
            go_wp2_with fail
            go_roundg (TT - dl)
            case measure => have := HM.out.2; have := HDL.out; have := HDT.out; omega
            case rel =>
              refine ⟨dn ++ [x], A.set j (a + 1), ⟨?_, AtR.set HAT.out HJ.out.2.1 (a + 1), ?_, HM.out.1.pge, ?_, ?_, ?_, ?_⟩, ?_⟩
              · exact HR1.out.grown (hp_gset _ _ _ _) (fun b hb e => by
                  have := (HR1.out.own_lt hb).1
                  simp only [Option.some.injEq] at e
                  omega) (fun b hb e => by
                  simp only [Option.some.injEq] at e
                  have := HM.out.1.pge
                  omega)
              · have := HS1.out; simp; omega
              · rw [List.length_set]; exact HM.out.1.len
              · intro i' a' l' ha' hl'
                by_cases e : i' = j
                · subst e
                  rw [List.getElem?_set_self (List.getElem?_eq_some_iff.1 HJ.out.2.1).1] at ha'
                  obtain rfl : a + 1 = a' := by simpa using ha'
                  have e2 := HJ.out.1
                  rw [hl'] at e2
                  simp only [Option.some.injEq] at e2
                  have := HAL.out
                  subst e2
                  omega
                · rw [List.getElem?_set_ne (fun e' => e e'.symm)] at ha'
                  exact HM.out.1.ale i' a' l' ha' hl'
              · have := HM.out.1.res
                rw [HJ.out.2.2.2, List.map_cons] at this
                rw [List.append_assoc]
                exact this
              · exact HB1.out.grown (hp_gset _ _ _ _) HB1.out.size (fun z hz => by have := HM.out.1.pge; simp only [Option.some.injEq] at hz; omega)
              · have := HDT.out
                have := HDL.out
                rw [List.length_append, List.length_singleton]
                omega
end Go.Proofs.Ytnoackenjfpcmaa

/- The law MergeRows. -/
namespace Go.Proofs.Ytnoackenjfpcmaa
open Go.RowKit
set_option linter.unusedVariables false
set_option linter.unusedSimpArgs false

set_option maxHeartbeats 4000000 in
set_option maxRecDepth 100000 in
/-- What the document asks of Merge. -/
theorem want_t {w : World} {ao : Option Addr} {n cap : Nat} {rs : List (List EntV)} (h : ErRow w ao n cap rs) (hz : Szr rs) (hsum : sumR rs ≤ 40000) (hn : n ≤ 1000) :
    Calls Try.prog 13 #[.slice ao n cap] w fun r w' => ∃ a c, r = .returned (.tuple #[.slice a (mrV rs).length c, .int .i64 (mrC rs : Nat)]) ∧ RS entE w' a (mrV rs).length c (mrV rs) ∧ Below w.heap.size w w' := by
  have H0 := hidM h
  have HZ := hidM hz
  have HLN : Hid (rs.length = n ∧ n ≤ 1000) := ⟨h.len.1, hn⟩
  have hn62 : n ≤ 2 ^ 60 := by omega
  have HCC : Hid ((rs.all ordB = false → mrC rs = 11) ∧ (rs.all ordB = true → 64 < rs.length → mrC rs = 13) ∧ (rs.all ordB = true → ¬ 64 < rs.length → mrC rs = 0)) := by
    refine ⟨fun h1 => ?_, fun h1 h2 => ?_, fun h1 h2 => ?_⟩
    · unfold mrC; rw [h1]; rfl
    · unfold mrC; rw [if_pos h1, if_pos (.inl h2)]
    · unfold mrC; rw [if_pos h1, if_neg (fun q => by rcases q with q | q <;> omega)]
  have HV : Hid (∀ wx, mrC rs ≠ 0 → ∃ a c, (.slice none 0 0 : Value) = .slice a (mrV rs).length c ∧ RS entE wx a (mrV rs).length c (mrV rs)) := fun wx h0 => by
    unfold mrV
    rw [if_neg h0]
    exact ⟨none, 0, rfl, RS.nil wx⟩
  have HM : Hid (rs.all ordB = true → ¬ 64 < rs.length → ∀ wx, Below w.heap.size w wx → Calls Try.prog 15 #[.slice ao n cap] wx fun r w' => ∃ a c, r = .returned (.slice a (mrV rs).length c) ∧ RS entE w' a (mrV rs).length c (mrV rs) ∧ Below w.heap.size w w') := fun h1 h2 wx hb => by
    refine (rmerge_t (h.later hb) hz (all_ord h1) (by omega) hn).mono ?_
    rintro r w' ⟨v, rfl, hr, hb'⟩
    rw [mrV_ok (HCC.out.2.2 h1 h2)]
    obtain ⟨a, c, rfl, hrs⟩ := hr.s.rs
    exact ⟨a, c, rfl, hrs, hb.trans (hb'.mono hb.size)⟩
  clear h hz hsum hn
  go_enter Try.func13, Try.ntmps13
  go_wp2_with fail
  go_loopg [8] n (fun kx s8 wr => ∃ k : Nat, s8 = .int .i64 (k : Int) ∧ k + kx = n ∧ Hid ((rs.take k).all ordB = true ∧ Below w.heap.size w wr))
  case atStart => exact ⟨0, rfl, by omega, by simp, Below.refl _ _⟩
  case round =>
    obtain ⟨k, rfl, hg, HK⟩ := hrel
    by_cases hk : k < n
    · have hk' : (k : Int) < (n : Int) := by omega
      have hk0 : (0 : Int) ≤ (k : Int) := by omega
      obtain ⟨l, hl⟩ : ∃ l, rs[k]? = some l := ⟨_, List.getElem?_eq_getElem (by have := HLN.out; omega)⟩
      obtain ⟨b, off, la, lc, rfl, c0, hrl⟩ := H0.out.at' k l hl
      replace c0 := cell_later HK.out.2 c0
      have hlm := List.mem_of_getElem? hl
      have hord := rord_any (hrl.later HK.out.2) (HZ.out.row l hlm)
      have HT1 : Hid (ordB l = true → (rs.take (k + 1)).all ordB = true) := fun hb => by
        rw [List.take_add_one, hl]
        show (rs.take k ++ [l]).all ordB = true
        rw [List.all_append, HK.out.1]
        simp [hb]
      have HT2 : Hid (ordB l = false → mrC rs = 11) := fun hb => HCC.out.1 (by rw [List.all_eq_false]; exact ⟨l, hlm, by simp [hb]⟩)
      have HG := hidM (And.intro hg hk)
      have hk62 : k ≤ 2 ^ 60 := by omega
      generalize ordB l = ob at hord HT1 HT2
      generalize l.length = L at c0 hord
      clear hg hk hl hrl hlm
      cases ob with
      | true =>
        have HT3 := hidM (HT1.out rfl)
        go_wp2_with (go_at_call 23; refine hord.mono ?_; rintro r w5 ⟨rfl, hb5⟩)
        go_roundg (n - (k + 1))
        case measure => have := HG.out; omega
        case rel => exact ⟨k + 1, by go_num, by have := HG.out; omega, HT3.out, HK.out.2.trans (hb5.mono HK.out.2.size)⟩
      | false =>
        have HT3 := hidM (HT2.out rfl)
        go_wp2_with (go_at_call 23; refine hord.mono ?_; rintro r w5 ⟨rfl, hb5⟩)
        have hb6 := HK.out.2.trans (hb5.mono HK.out.2.size)
        obtain ⟨a, c, e, hrs⟩ := HV.out w5 (by rw [HT3.out]; decide)
        exact bodyPost_ret (v := .tuple #[.slice none 0 0, .int .i64 11]) (by simp [results, Try.results13, go_sem]) rfl ⟨a, c, by rw [HT3.out, e]; rfl, hrs, hb6⟩
    · have hk' : ¬ (k : Int) < (n : Int) := by omega
      have HA : Hid (rs.all ordB = true) := by
        have h1 := HK.out.1
        rw [List.take_of_length_le (by have := HLN.out; omega)] at h1
        exact h1
      have HB := hidM HK.out.2
      by_cases q : 64 < n
      · have q' : (64 : Int) < (n : Int) := by omega
        have HT3 : Hid (mrC rs = 13) := HCC.out.2.1 HA.out (by have := HLN.out; omega)
        clear hk hg q
        go_wp2_with fail
        obtain ⟨a, c, e, hrs⟩ := HV.out wr (by rw [HT3.out]; decide)
        exact bodyPost_ret (v := .tuple #[.slice none 0 0, .int .i64 13]) (by simp [results, Try.results13, go_sem]) rfl ⟨a, c, by rw [HT3.out, e]; rfl, hrs, HB.out⟩
      · have q' : ¬ (64 : Int) < (n : Int) := by omega
        have hM := HM.out HA.out (by have := HLN.out; omega) wr HB.out
        have HT3 : Hid (mrC rs = 0) := HCC.out.2.2 HA.out (by have := HLN.out; omega)
        clear hk hg q
        go_wp2_with (go_at_call 15; refine hM.mono ?_; rintro r w5 ⟨a, c, rfl, hrs, hb5⟩)
        exact bodyPost_ret (v := .tuple #[.slice a (mrV rs).length c, .int .i64 0]) (by simp [results, Try.results13, go_sem]) rfl ⟨a, c, by rw [HT3.out]; rfl, hrs, hb5⟩

theorem ix26_0 (x y : Value) (w : World) : (Instr.index 26 (.agg #[x, y]) (.int .i64 0)).run Try.prog w = .ok x w := by kernel_rfl
theorem ix26_1 (x y : Value) (w : World) : (Instr.index 26 (.agg #[x, y]) (.int .i64 1)).run Try.prog w = .ok y w := by kernel_rfl
set_option maxHeartbeats 4000000 in
set_option maxRecDepth 100000 in
theorem mgrows_any {w : World} {ao : Option Addr} {n cap : Nat} {rs : List (List EntV)} (h : ErRow w ao n cap rs) :
    Calls Try.prog 3 #[.slice ao n cap] w fun e w' => e = .returned (.bool true) ∧ Below w.heap.size w w' := by
  have hli := light16_t h
  have H0 := hidM h
  by_cases hl : litW 0 0 rs = true
  · rw [hl] at hli
    obtain ⟨hz, hsum, hlen, hn70, hord⟩ := lit_srt hl
    have hzr := lit_szr hl
    have hsr : sumR rs ≤ 600 := by
      have := (litW_ok hl).2.1
      unfold sumR
      omega
    have hn : rs.length = n := h.len.1
    have HF : Hid (∀ (a : Option Addr) (c : Nat) (R : List (List EntV)) (w2 wx : World), ErRow w2 a n c R → Szr R → sumR R ≤ 2100 → Below w2.heap.size w2 wx → (Calls Try.prog 12 #[.slice a n c] wx fun r w' => ∃ a' c', r = .returned (.tuple #[.slice a' (mrV R).length c', .int .i64 (mrC R : Nat)]) ∧ RS entE w' a' (mrV R).length c' (mrV R) ∧ Below wx.heap.size wx w') ∧ (∀ wy, Below w2.heap.size w2 wy → Calls Try.prog 13 #[.slice a n c] wy fun r w' => ∃ a' c', r = .returned (.tuple #[.slice a' (mrV R).length c', .int .i64 (mrC R : Nat)]) ∧ RS entE w' a' (mrV R).length c' (mrV R) ∧ Below wy.heap.size wy w')) := fun a c R w2 wx hr hz' hs' hb =>
      ⟨merge_any (hr.later hb) hz', fun wy hb' => want_t (hr.later hb') hz' (by omega) (by omega)⟩
    clear h hl
    go_enter Try.func3, Try.ntmps3
    go_wp2_with (first | (go_at_call 9; refine hli.mono ?_; rintro e w1 ⟨rfl, hb1⟩) | (go_at_call 11; refine (sorted16_t (H0.out.later hb1) (by omega)).mono ?_; rintro e w2 ⟨a2, c2, rfl, hr2, hb2⟩))
    have HB2 : Hid (Below w.heap.size w w2) := hb1.trans (hb2.mono hb1.size)
    have HR : Hid (ErRow w2 ao n cap rs ∧ ErRow w2 a2 n c2 (srtR 0 rs)) := ⟨H0.out.later HB2.out, hr2⟩
    have HD : Hid (Szr rs ∧ sumR rs ≤ 2100 ∧ Szr (srtR 0 rs) ∧ sumR (srtR 0 rs) ≤ 2100) := ⟨hzr, by omega, hz, hsum⟩
    clear hli hb1 hb2 hr2 hz hsum hlen hn70 hord hzr hsr hn
    go_loopg [17] 2 (fun kx s17 wr => ∃ k : Nat, s17 = .int .i64 (k : Int) ∧ k + kx = 2 ∧ Hid (Below w2.heap.size w2 wr))
    case atStart => exact ⟨0, rfl, by omega, Below.refl _ _⟩
    case round =>
      obtain ⟨k, rfl, hg, HK⟩ := hrel
      have h3 : k = 0 ∨ k = 1 ∨ k = 2 := by omega
      rcases h3 with rfl | rfl | rfl
      · have hix := fun x y w => ix26_0 x y w
        obtain ⟨hM, hW⟩ := HF.out ao cap rs w2 wr HR.out.1 HD.out.1 HD.out.2.1 HK.out
        have HW := hidM hW
        clear hW
        obtain ⟨C, hC⟩ : ∃ c, c = mrC rs := ⟨_, rfl⟩
        obtain ⟨V, hV⟩ : ∃ c, c = mrV rs := ⟨_, rfl⟩
        rw [← hC, ← hV] at hM HW
        clear hC hV
        have HG := hidM hg
        clear hg
        go_wp2_with (first | (go_at_call 12; refine hM.mono ?_; rintro r w3 ⟨a3, c3, rfl, hr3, hb3⟩; have HB3 := hidM (HK.out.trans (hb3.mono HK.out.size)); clear hb3) | (go_at_call 13; refine (HW.out _ HB3.out).mono ?_; rintro r w4 ⟨a4, c4, rfl, hr4, hb4⟩; have hse := rsameE_eq (hr3.later hb4) hr4; have HB4 := hidM (HB3.out.trans (hb4.mono HB3.out.size)); clear hb4) | (go_at_call 14; refine hse.mono ?_; rintro r w5 ⟨rfl, hb5⟩))
        go_roundg 1
        case measure => have := HG.out; omega
        case rel => exact ⟨1, by go_num, rfl, HB4.out.trans (hb5.mono HB4.out.size)⟩
      · have hix := fun x y w => ix26_1 x y w
        obtain ⟨hM, hW⟩ := HF.out a2 c2 (srtR 0 rs) w2 wr HR.out.2 HD.out.2.2.1 HD.out.2.2.2 HK.out
        have HW := hidM hW
        clear hW
        obtain ⟨C, hC⟩ : ∃ c, c = mrC (srtR 0 rs) := ⟨_, rfl⟩
        obtain ⟨V, hV⟩ : ∃ c, c = mrV (srtR 0 rs) := ⟨_, rfl⟩
        rw [← hC, ← hV] at hM HW
        clear hC hV
        have HG := hidM hg
        clear hg
        go_wp2_with (first | (go_at_call 12; refine hM.mono ?_; rintro r w3 ⟨a3, c3, rfl, hr3, hb3⟩; have HB3 := hidM (HK.out.trans (hb3.mono HK.out.size)); clear hb3) | (go_at_call 13; refine (HW.out _ HB3.out).mono ?_; rintro r w4 ⟨a4, c4, rfl, hr4, hb4⟩; have hse := rsameE_eq (hr3.later hb4) hr4; have HB4 := hidM (HB3.out.trans (hb4.mono HB3.out.size)); clear hb4) | (go_at_call 14; refine hse.mono ?_; rintro r w5 ⟨rfl, hb5⟩))
        go_roundg 0
        case measure => have := HG.out; omega
        case rel => exact ⟨2, by go_num, rfl, HB4.out.trans (hb5.mono HB4.out.size)⟩
      · clear hg
        go_wp2_with (go_at_call 10; refine (awake16_t _).mono ?_; rintro e w8 ⟨rfl, hb8⟩)
        have hb := HB2.out.trans (HK.out.mono HB2.out.size)
        exact bodyPost_ret (v := .bool true) (by simp [results, Try.results3, go_sem]) rfl ⟨rfl, hb.trans (hb8.mono hb.size)⟩
  · have hl' : litW 0 0 rs = false := by simpa using hl
    rw [hl'] at hli
    clear h hl hl'
    go_enter Try.func3, Try.ntmps3
    go_wp2_with (first | (go_at_call 9; refine hli.mono ?_; rintro e w1 ⟨rfl, hb1⟩) | (go_at_call 10; refine (awake16_t _).mono ?_; rintro e w2 ⟨rfl, hb2⟩))
    exact bodyPost_ret (v := .bool true) (by simp [results, Try.results3, go_sem]) rfl ⟨rfl, hb1.trans (hb2.mono hb1.size)⟩
end Go.Proofs.Ytnoackenjfpcmaa

/- How a slice of bytes that came in is opened. -/
namespace Go.Proofs.Ytnoackenjfpcmaa
open Go.ChangeShapes Go.WideShapes Go.ChangeAt Go.RowKit

theorem cells5 : Try.prog.cellsOf 5 = 1 := by kernel_rfl
theorem bytes5 : Try.prog.bytesOf 5 = 1 := by kernel_rfl

theorem wf_u8 {n : Int} (h : (Lit.int .u8 n).wf = true) : 0 ≤ n ∧ n < 256 := by
  simp [Lit.wf, IntKind.min, IntKind.max, IntKind.bits, IntKind.signed] at h
  omega
theorem wf_u64 {n : Int} (h : (Lit.int .u64 n).wf = true) : 0 ≤ n ∧ n < 18446744073709551616 := by
  simp [Lit.wf, IntKind.min, IntKind.max, IntKind.bits, IntKind.signed] at h
  omega
theorem wf_i64 {n : Int} (h : (Lit.int .i64 n).wf = true) : -9223372036854775808 ≤ n ∧ n ≤ 9223372036854775807 := by
  simp [Lit.wf, IntKind.min, IntKind.max, IntKind.bits, IntKind.signed] at h
  omega

set_option maxRecDepth 100000 in
theorem open33 {H : Type} {enc : TypeId × Value → H} {W : World} {base : Nat} {v : Value} {d : DataW H} {ps : List MemPlace} (hv : Value.okWide Try.prog W .any base 33 v) (h : DataW.Trod enc Try.prog W 0 (fun _ => true) true 33 v d ps) :
    ∃ (ao : Option Addr) (len cap : Nat) (X : Nat → Nat), v = .slice ao len cap ∧ (ao = none → len = 0 ∧ cap = 0) ∧ len ≤ cap ∧ cap ≤ maxLen ∧ Byt W ao len X ∧ (cap = 0 ∨ ∃ e s, d = .slice e s ∧ e.length + s.length = cap) := by
  obtain ⟨a, len, cap, rfl⟩ := okWide_slice Try.underlying33 hv
  obtain ⟨fuel, hf⟩ := h
  rcases open_ints Try.underlying33 Try.underlying5 cells5 hf with ⟨hcs, _⟩ | ⟨x, l, cp, zs, hcs, _, hl, hm, hz, hd, hc, hwf⟩
  · simp [Value.cells] at hcs
    obtain ⟨rfl, rfl, rfl⟩ := hcs
    exact ⟨none, 0, 0, fun _ => 0, rfl, fun _ => ⟨rfl, rfl⟩, Nat.le_refl _, Nat.zero_le _, fun k hk => absurd hk (by omega), .inl rfl⟩
  · simp [Value.cells] at hcs
    obtain ⟨rfl, rfl, rfl⟩ := hcs
    simp only [if_true] at hz
    refine ⟨some x, len, cap, fun k => (zs.getD k 0).toNat, rfl, (fun e => by cases e), hl, hm, fun k hk => ?_, .inr ⟨_, _, (Prod.mk.inj hd).1, ?_⟩⟩
    · have hk' : k < zs.length := by omega
      have w1 := hwf _ (List.getElem_mem hk')
      have e : zs.getD k 0 = zs[k] := by simp [List.getElem?_eq_getElem hk']
      have hr : 0 ≤ zs[k] ∧ zs[k] < 256 := by
        exact wf_u8 w1
      have hcell := hc k hk'
      obtain ⟨b, off, spot⟩ := x
      have hspot : spot = none := by
        have h0 := hc 0 (by omega)
        simpa [Addr.add] using World.cell?_spot h0
      subst hspot
      rw [Addr.add_lit, e] at hcell
      show (zs.getD k 0).toNat < 256 ∧ ∃ b' off', some (⟨b, off, none⟩ : Addr) = some ⟨b', off', none⟩ ∧ W.cell? ⟨b', off' + k, none⟩ = some (.int .u8 ((zs.getD k 0).toNat : Int))
      rw [e]
      refine ⟨by omega, b, off, rfl, ?_⟩
      rw [hcell]
      congr 2
      omega
    · simp [lits]
      omega
end Go.Proofs.Ytnoackenjfpcmaa
