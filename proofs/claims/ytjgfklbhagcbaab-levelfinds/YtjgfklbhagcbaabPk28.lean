import Derived.SizedLaws
import Derived.ChangeSlices
import Derived.Carry
import Derived.Deep.Matrix
import Derived.Test.YtjgfklbhagcbaabPk01
import Derived.Test.YtjgfklbhagcbaabPk04
import Derived.Test.YtjgfklbhagcbaabPk18
import Derived.Test.YtjgfklbhagcbaabPk26
import Derived.Test.YtjgfklbhagcbaabPk27
/- The law on where a key may be. -/
namespace Go.Proofs.Ytjgfklbhagcbaab
open Go.RowKit
set_option linter.unusedVariables false
set_option linter.unusedSimpArgs false
theorem none_beq_some16 (b : Bool) : ((none : Option Bool) == some b) = false := rfl
attribute [local go_sem] undef none_beq_some16

/-- Apart, in one level but 0. -/
def Dj (a b : LnV) : Prop := ordC a b < 0 ∧ (a.lvl = b.lvl → 0 < a.lvl → cmp a.most b.least < 0)
theorem ordC_lvl {a b : LnV} (h : ordC a b < 0) : a.lvl ≤ b.lvl := by
  unfold ordC at h
  by_cases q : a.lvl = b.lvl
  · omega
  · rw [if_pos (show a.lvl ≠ b.lvl from q)] at h
    unfold cmI at h
    split at h
    · omega
    · split at h <;> omega
theorem nxR_dj {p t : LnV} (h : nxR p t = true) : Dj p t := by
  refine ⟨nxR_lt h, fun h1 h2 => ?_⟩
  unfold nxR at h
  rw [decide_eq_true (show p.lvl = t.lvl ∧ 0 < t.lvl from ⟨h1, by omega⟩)] at h
  simp only [Bool.true_and, Bool.and_eq_true, Bool.not_eq_true', decide_eq_false_iff_not] at h
  omega
theorem chn_dj : ∀ {l : List LnV}, chn nxR l = true → (∀ t ∈ l, mayLn t = true) → l.Pairwise Dj
  | [], _, _ => List.Pairwise.nil
  | [x], _, _ => by simp
  | a :: b :: r, h, hm => by
    rw [chn, Bool.and_eq_true] at h
    have ih := chn_dj h.2 fun t ht => hm t (List.mem_cons_of_mem _ ht)
    rw [List.pairwise_cons]
    refine ⟨fun c hc => ?_, ih⟩
    have h1 := nxR_dj h.1
    rcases List.mem_cons.1 hc with rfl | hc
    · exact h1
    · have h2 := (List.pairwise_cons.1 ih).1 c hc
      refine ⟨of_decide_eq_true ((ordC_swo (id : LnV → LnV)).trans a b c (decide_eq_true h1.1) (decide_eq_true h2.1)), fun e0 e1 => ?_⟩
      have l1 := ordC_lvl h1.1
      have l2 := ordC_lvl h2.1
      have k1 := h1.2 (by omega) e1
      have k2 := h2.2 (by omega) (by omega)
      have kb := mayLn_ok (hm b (by simp))
      exact cmp_le_trans (cmp_le3 (by omega) kb.2.2.2.2.2) k2
def meK (K : List Int) (t : LnV) : Bool := decide (0 ≤ cmp t.most K ∧ cmp t.least K ≤ 0)
/-- Of two that hold one key: the second is of a greater level, or both are of level 0, the first with the greater number. -/
theorem dj_key {K : List Int} {p t : LnV} (h : Dj p t) (h0 : 0 ≤ p.lvl) (hp : meK K p = true) (ht : meK K t = true) : p.lvl < t.lvl ∨ (p.lvl = t.lvl ∧ ¬ 0 < t.lvl ∧ ¬ p.num < t.num) := by
  have h1 := of_decide_eq_true hp
  have h2 := of_decide_eq_true ht
  have hl := ordC_lvl h.1
  by_cases q : p.lvl < t.lvl
  · exact .inl q
  · have e : p.lvl = t.lvl := by omega
    by_cases q0 : 0 < t.lvl
    · exfalso
      have k := h.2 e (by omega)
      have k2 := cmp_neg p.most K
      have k3 : cmp K t.least < 0 := cmp_le_trans (a := K) (b := p.most) (c := t.least) (by omega) k
      have k4 := cmp_neg t.least K
      omega
    · refine .inr ⟨e, q0, fun z => ?_⟩
      have := h.1
      unfold ordC cmI at this
      rw [if_neg (show ¬ p.lvl ≠ t.lvl from fun z => z e)] at this
      rw [if_pos (show p.lvl = 0 by omega), if_neg (show ¬ t.num < p.num by omega), if_pos z] at this
      omega
/-- A guard on what was skipped is not met. -/
theorem wanted_undef {ops : Array Oper} {o : Oper} {a : Act} {j : Nat} {b : Bool} (hg : o.guard = some (j, b)) (hv : a.eval (.tmp (dstOfR ops j)) = undef) : Region.wanted o (yielded ops a.tmps) = false := by
  have hy : yielded ops a.tmps j = none := by
    unfold yielded
    cases h : ops[j]? with
    | none => rfl
    | some oj =>
      simp only [Option.bind_some]
      cases hd : oj.dst with
      | none => rfl
      | some d =>
        simp only [Option.bind_some]
        have e : dstOfR ops j = d := by unfold dstOfR; rw [h]; simp [hd]
        rw [e] at hv
        by_cases hs : d < a.tmps.size
        · simp only [Act.eval, Array.getD_eq_getD_getElem?, Array.getElem?_eq_getElem hs, Option.getD_some] at hv
          rw [Array.getElem?_eq_getElem hs, hv]
          rfl
        · rw [Array.getElem?_eq_none (Nat.le_of_not_lt hs)]
  unfold Region.wanted
  rw [hg]
  simp [hy]
set_option maxRecDepth 100000 in
theorem putFd (x0 x1 x2 x3 x4 x5 x6 x7 x8 x9 x10 x11 x12 x13 x14 x15 x16 x17 x18 x19 x20 x21 x22 x23 x24 x25 x26 x27 x28 x29 x30 x31 x32 x33 x34 x35 x36 x37 x38 x39 x40 x41 x42 x43 x44 x45 x46 x47 x48 x49 x50 x51 x52 x53 x54 x55 x56 x57 x58 x59 x60 x61 x62 x63 x64 x65 x66 x67 x68 x69 x70 x71 x72 x73 x74 x75 x76 x77 x78 x79 x80 x81 x82 x83 x84 x85 x86 x87 x88 x89 x90 x91 x92 x93 y46 y47 y48 y49 y50 y51 y52 y53 y54 y55 y56 y57 y58 y59 y60 y61 y62 y63 y64 y65 y66 y67 y68 y69 y70 y71 y72 y73 y74 y75 y76 y77 y78 y79 y80 y81 y82 y83 y84 y85 : Value) : putVs ⟨#[x0, x1, x2, x3, x4, x5, x6, x7, x8, x9, x10, x11, x12, x13, x14, x15, x16, x17, x18, x19, x20, x21, x22, x23, x24, x25, x26, x27, x28, x29, x30, x31, x32, x33, x34, x35, x36, x37, x38, x39, x40, x41, x42, x43, x44, x45, x46, x47, x48, x49, x50, x51, x52, x53, x54, x55, x56, x57, x58, x59, x60, x61, x62, x63, x64, x65, x66, x67, x68, x69, x70, x71, x72, x73, x74, x75, x76, x77, x78, x79, x80, x81, x82, x83, x84, x85, x86, x87, x88, x89, x90, x91, x92, x93], []⟩ (List.zip [46, 47, 48, 49, 50, 51, 52, 53, 54, 55, 56, 57, 58, 59, 60, 61, 62, 63, 64, 65, 66, 67, 68, 69, 70, 71, 72, 73, 74, 75, 76, 77, 78, 79, 80, 81, 82, 83, 84, 85] [y46, y47, y48, y49, y50, y51, y52, y53, y54, y55, y56, y57, y58, y59, y60, y61, y62, y63, y64, y65, y66, y67, y68, y69, y70, y71, y72, y73, y74, y75, y76, y77, y78, y79, y80, y81, y82, y83, y84, y85]) = ⟨#[x0, x1, x2, x3, x4, x5, x6, x7, x8, x9, x10, x11, x12, x13, x14, x15, x16, x17, x18, x19, x20, x21, x22, x23, x24, x25, x26, x27, x28, x29, x30, x31, x32, x33, x34, x35, x36, x37, x38, x39, x40, x41, x42, x43, x44, x45, y46, y47, y48, y49, y50, y51, y52, y53, y54, y55, y56, y57, y58, y59, y60, y61, y62, y63, y64, y65, y66, y67, y68, y69, y70, y71, y72, y73, y74, y75, y76, y77, y78, y79, y80, y81, y82, y83, y84, y85, x86, x87, x88, x89, x90, x91, x92, x93], []⟩ := by kernel_rfl
set_option maxHeartbeats 8000000 in
set_option maxRecDepth 100000 in
theorem finds15_any {w : World} {ao : Option Addr} {en cap : Nat} {es : List EdV} (h : EdRow w ao en cap es) {ka : Option Addr} {kl kc : Nat} {K : List Int} (hK : Sl w ka kl kc K) :
    Calls Try.prog 3 #[.slice ao en cap, .slice ka kl kc] w fun e w' => e = .returned (.bool true) ∧ Below w.heap.size w w' := by
  have hb := built15_t h
  have hmay := bltV_may es
  obtain ⟨R, hR⟩ : ∃ R, R = bltV es := ⟨_, rfl⟩
  rw [← hR] at hb hmay
  have hsm := mayAd_ok (mayVr_ok hmay).2.1
  have HDJ : Hid (R.tabs.Pairwise Dj ∧ R.tabs.length ≤ 200 ∧ (∀ t ∈ R.tabs, (t.least.length ≤ 1000000 ∧ t.most.length ≤ 1000000) ∧ 0 ≤ t.lvl) ∧ Stt R.tabs) := ⟨chn_dj (mayVr_ok hmay).2.2.2 hsm.2.1, hsm.1, fun t ht => by have := mayLn_ok (hsm.2.1 t ht); omega, mayVr_st hmay⟩
  unfold vrV at hb
  have HK := hidS hK
  obtain ⟨tn, htn⟩ : ∃ n, n = R.tabs.length := ⟨_, rfl⟩
  have HTN := hidS htn
  rw [← htn] at hb
  have hkl : K.length = kl := hK.1
  have HKL := hidS hkl
  have hFI : Hid (∀ wx a1 c1, VrM wx R a1 c1 → Below w.heap.size w wx → Calls Try.prog 5 #[.agg #[.int .i64 R.log, .int .i64 R.next, .int .i64 R.seq, .slice a1 tn c1], .slice ka kl kc] wx fun e w' => ∃ fa fc, e = .returned (.slice fa (R.tabs.filter (meK K)).length fc) ∧ RS lnE w' fa (R.tabs.filter (meK K)).length fc (R.tabs.filter (meK K)) ∧ Below wx.heap.size wx w') := fun wx a1 c1 hv hb => by
    rw [htn, ← hkl]
    refine (find_any hv (by have := hK.later hb; rw [← hkl] at this; exact this) (by have := HDJ.out.2.1; omega) (fun t ht => (HDJ.out.2.2.1 t ht).1)).mono ?_
    rintro e w' ⟨a', c', ys, rfl, hb', hr, hp, hk⟩
    have e : ys = R.tabs.filter (meK K) := (st_uniq (List.Pairwise.sublist List.filter_sublist HDJ.out.2.2.2) hk hp.symm).symm
    rw [← e]
    exact ⟨a', c', rfl, hr, hb'⟩
  obtain ⟨F, hF⟩ : ∃ F, F = R.tabs.filter (meK K) := ⟨_, rfl⟩
  obtain ⟨fn, hfn⟩ : ∃ n, n = F.length := ⟨_, rfl⟩
  rw [← hF, ← hfn] at hFI
  have HF := hidS (And.intro hF hfn)
  have hfn2 : fn ≤ 200 := by rw [hfn, hF]; exact Nat.le_trans (List.length_filter_le _ _) HDJ.out.2.1
  have htn2 : tn ≤ 200 := by rw [htn]; exact HDJ.out.2.1
  clear h hK hmay hR hsm htn hkl hF hfn
  have HB := hidS hb
  clear hb
  go_enter Try.func3, Try.ntmps3
  go_upto_region 2 with (go_at_call 4; refine HB.out.mono ?_; rintro e w1 ⟨a1, c1, rfl, hv1, b1⟩)
  obtain ⟨W, hW⟩ : ∃ W, W = w1.alloc (.cells #[.int .i64 R.log, .int .i64 R.next, .int .i64 R.seq, .slice a1 tn c1] 26) := ⟨_, rfl⟩
  have hWb : Below w1.heap.size w1 W := by rw [hW]; exact (Below.refl _ _).alloc (Nat.le_refl _) _
  have HBX : Hid (∀ wx, Below W.heap.size W wx → wx.cell? ⟨w1.heap.size, 0, none⟩ = some (.int .i64 R.log) ∧ wx.cell? ⟨w1.heap.size, 1, none⟩ = some (.int .i64 R.next) ∧ wx.cell? ⟨w1.heap.size, 2, none⟩ = some (.int .i64 R.seq) ∧ wx.cell? ⟨w1.heap.size, 3, none⟩ = some (.slice a1 tn c1)) := fun wx hb => by
    have := box4 w1 (.int .i64 R.log) (.int .i64 R.next) (.int .i64 R.seq) (.slice a1 tn c1) 26 (wx := wx)
    rw [← hW] at this
    exact this hb
  have HEN : Hid (Below w.heap.size w W) := b1.trans (hWb.mono b1.size)
  have HVX : Hid (∀ wx, Below W.heap.size W wx → VrM wx R a1 c1 ∧ Sl wx ka kl kc K) := fun wx hb => ⟨(hv1.later hWb).later hb, HK.out.later (HEN.out.trans (hb.mono HEN.out.size))⟩
  have HFC := hidS (hFI.out W a1 c1 (HVX.out W (Below.refl _ _)).1 HEN.out)
  obtain ⟨x0, x1, x2, x3⟩ := HBX.out _ (Below.refl _ _)
  have HW := hidS hW
  rw [← hW]
  clear hW hWb b1 hv1 hFI HB
  generalize R.log = lg at HBX HW HFC x0
  generalize R.next = nx at HBX HW HFC x1
  generalize R.seq = sq at HBX HW HFC x2
  go_wp2_with (go_at_call 5; refine HFC.out.mono ?_; rintro e w2 ⟨fa, fc, rfl, rf, b2⟩; clear x0 x1 x2 x3; obtain ⟨x0, x1, x2, x3⟩ := HBX.out _ b2)
  have HRF : Hid (RS lnE w2 fa fn fc F ∧ Below W.heap.size W w2) := ⟨rf, b2⟩
  clear x0 x1 x2 x3 rf b2 HFC
  go_loopg [7, 9, 20] tn (fun kx s7 _ s20 wr => ∃ k : Nat, s7 = .int .i64 (((R.tabs.take k).filter (meK K)).length : Nat) ∧ s20 = .int .i64 k ∧ k + kx = tn ∧ Hid (Below w2.heap.size w2 wr))
  case atStart => exact ⟨0, rfl, rfl, by omega, Below.refl _ _⟩
  case round =>
    obtain ⟨k, rfl, rfl, hg, HK2⟩ := hrel
    by_cases hk : k < tn
    · have hk' : (k : Int) < (tn : Int) := by omega
      obtain ⟨x, hx⟩ : ∃ x, R.tabs[k]? = some x := ⟨_, List.getElem?_eq_getElem (by have := HTN.out; omega)⟩
      have hbk : Below W.heap.size W wr := HRF.out.2.trans (HK2.out.mono HRF.out.2.size)
      obtain ⟨b, off, la, lc, ma, mc, rfl, r0, r1, r2, r3, r4, q1, q2, -, -, -⟩ := RS.ln (HTN.out ▸ (HVX.out _ hbk).1.tabs) hx
      have HX : Hid (((R.tabs.take (k + 1)).filter (meK K)).length = ((R.tabs.take k).filter (meK K)).length + if meK K x = true then 1 else 0) := by
        obtain ⟨hkl, rfl⟩ := List.getElem?_eq_some_iff.1 hx
        show _ = _
        rw [List.take_add_one, List.getElem?_eq_getElem hkl, List.filter_append, List.length_append]
        simp only [Option.toList]
        congr 1
        by_cases q : meK K R.tabs[k] = true
        · rw [if_pos q, List.filter_cons_of_pos q]; rfl
        · rw [if_neg q, List.filter_cons_of_neg q]; rfl
      obtain ⟨m, hm⟩ : ∃ m, m = ((R.tabs.take k).filter (meK K)).length := ⟨_, rfl⟩
      have hm62 : m ≤ 200 := by rw [hm]; exact Nat.le_trans (List.length_filter_le _ _) (by rw [List.length_take]; omega)
      rw [← hm] at HX ⊢
      obtain ⟨p1, hp1⟩ : ∃ z, z = cmp x.most K := ⟨_, rfl⟩
      obtain ⟨p2, hp2⟩ : ∃ z, z = cmp x.least K := ⟨_, rfl⟩
      have HC : Hid (∀ wx, Below wr.heap.size wr wx → (Calls Try.prog 6 #[.slice la x.least.length lc, .slice ka kl kc] wx fun e w' => e = .returned (.int .i64 p2) ∧ Below wx.heap.size wx w') ∧ (Calls Try.prog 6 #[.slice ma x.most.length mc, .slice ka kl kc] wx fun e w' => e = .returned (.int .i64 p1) ∧ Below wx.heap.size wx w')) := fun wx hb => by
        have q := (HVX.out _ (hbk.trans (hb.mono hbk.size))).2
        rw [hp1, hp2]
        exact ⟨rcmp_any (q1.later hb) q, rcmp_any (q2.later hb) q⟩
      have HPP : Hid (meK K x = decide (0 ≤ p1 ∧ p2 ≤ 0)) := by show _ = _; rw [hp1, hp2]; rfl
      obtain ⟨P, hP⟩ : ∃ P, P = meK K x := ⟨_, rfl⟩
      rw [← hP] at HX HPP
      have HR := hidS (And.intro hg hk)
      have hk62 : k ≤ 2 ^ 60 := by omega
      have hbx := fun (wx : World) hb => box5 wr (.int .i64 x.num) (.int .i64 x.lvl) (.int .i64 x.size) (.slice la x.least.length lc) (.slice ma x.most.length mc) 30 (wx := wx) hb
      generalize x.num = num at r0 hbx
      generalize x.lvl = lvl at r1 hbx
      generalize x.size = size at r2 hbx
      generalize x.least.length = L1 at r3 hbx HC
      generalize x.most.length = L2 at r4 hbx HC
      obtain ⟨W3, hW3⟩ : ∃ W3, W3 = wr.alloc (.cells #[.int .i64 num, .int .i64 lvl, .int .i64 size, .slice la L1 lc, .slice ma L2 mc] 30) := ⟨_, rfl⟩
      have hb3 : Below wr.heap.size wr W3 := by rw [hW3]; exact (Below.refl _ wr).alloc (Nat.le_refl _) _
      rw [← hW3] at hbx
      have HBX3 := hidS hbx
      have HB3 := hidS hb3
      have HW3 := hidS hW3
      obtain ⟨t0, t1, t2, t3, t4⟩ := hbx _ (Below.refl _ _)
      rw [hW3] at t0 t1 t2 t3 t4
      have HKB : Hid (∀ wx, Below W3.heap.size W3 wx → Below w2.heap.size w2 wx) := fun wx hb => HK2.out.trans ((HB3.out.trans (hb.mono HB3.out.size)).mono HK2.out.size)
      clear q1 q2 hx hp1 hp2 hP hg hk hbx hb3 hW3 hbk hm
      by_cases z2 : p2 ≤ 0
      · by_cases z1 : 0 ≤ p1
        · have HPT : Hid (P = true) := by show _ = _; rw [HPP.out, decide_eq_true ⟨z1, z2⟩]
          go_wp2_with (first | (go_at_call_of 6 (Value.slice la L1 lc); rw [← HW3.out]; refine (HC.out _ HB3.out).1.mono ?_; rintro e w4 ⟨rfl, b4⟩; clear t0 t1 t2 t3 t4; obtain ⟨t0, t1, t2, t3, t4⟩ := HBX3.out w4 b4) | (go_at_call_of 6 (Value.slice ma L2 mc); refine (HC.out _ (HB3.out.trans (b4.mono HB3.out.size))).2.mono ?_; rintro e w5 ⟨rfl, b45⟩; have b5 := b4.trans (b45.mono b4.size); clear t0 t1 t2 t3 t4))
          go_roundg (tn - (k + 1))
          case measure => have := HR.out; omega
          case rel => exact ⟨k + 1, by rw [HX.out, HPT.out]; simp, by go_num, by have := HR.out; omega, HKB.out _ b5⟩
        · have HPT : Hid (P = false) := by show _ = _; rw [HPP.out, decide_eq_false fun z => z1 z.1]
          go_wp2_with (first | (go_at_call_of 6 (Value.slice la L1 lc); rw [← HW3.out]; refine (HC.out _ HB3.out).1.mono ?_; rintro e w4 ⟨rfl, b4⟩; clear t0 t1 t2 t3 t4; obtain ⟨t0, t1, t2, t3, t4⟩ := HBX3.out w4 b4) | (go_at_call_of 6 (Value.slice ma L2 mc); refine (HC.out _ (HB3.out.trans (b4.mono HB3.out.size))).2.mono ?_; rintro e w5 ⟨rfl, b45⟩; have b5 := b4.trans (b45.mono b4.size); clear t0 t1 t2 t3 t4))
          go_roundg (tn - (k + 1))
          case measure => have := HR.out; omega
          case rel => exact ⟨k + 1, by rw [HX.out, HPT.out]; simp, by go_num, by have := HR.out; omega, HKB.out _ b5⟩
      · have HPT : Hid (P = false) := by show _ = _; rw [HPP.out, decide_eq_false fun z => z2 z.2]
        go_wp2_with (go_at_call_of 6 (Value.slice la L1 lc); rw [← HW3.out]; refine (HC.out _ HB3.out).1.mono ?_; rintro e w4 ⟨rfl, b4⟩; clear t0 t1 t2 t3 t4)
        go_roundg (tn - (k + 1))
        case measure => have := HR.out; omega
        case rel => exact ⟨k + 1, by rw [HX.out, HPT.out]; simp, by go_num, by have := HR.out; omega, HKB.out _ b4⟩
    · have hk' : ¬ (k : Int) < (tn : Int) := by omega
      have HFN : Hid (((R.tabs.take k).filter (meK K)).length = fn) := by
        show _ = _
        rw [List.take_of_length_le (by have := HTN.out; omega), HF.out.2, HF.out.1]
      rw [HFN.out]
      have HKC := hidS HK2.out
      clear hg hk HK2 HFN
      go_wp2_with fail
      go_loopg [11, 41] fn (fun kx _ s41 wx => ∃ k : Nat, s41 = .int .i64 k ∧ k + kx = fn ∧ Hid (Below w2.heap.size w2 wx))
      case atStart => exact ⟨0, rfl, by omega, HKC.out⟩
      case round =>
        obtain ⟨j, rfl, hg, HJ⟩ := hrel
        by_cases hj : j < fn
        · have hj' : (j : Int) < (fn : Int) := by omega
          obtain ⟨x, hx⟩ : ∃ x, F[j]? = some x := ⟨_, List.getElem?_eq_getElem (by have := HF.out.2; omega)⟩
          obtain ⟨b, off, la, lc, ma, mc, rfl, r0, r1, r2, r3, r4, -, -, -, -, -⟩ := RS.ln (HRF.out.1.later HJ.out) hx
          have HR := hidS (And.intro hg (And.intro hj hx))
          have HAL : Hid (∀ o, Below w2.heap.size w2 (wr.alloc o)) := fun o => HJ.out.alloc HJ.out.size o
          have hbx := fun (wx : World) hb => box5 wr (.int .i64 x.num) (.int .i64 x.lvl) (.int .i64 x.size) (.slice la x.least.length lc) (.slice ma x.most.length mc) 30 (wx := wx) hb
          cases j with
          | zero =>
            rw [Nat.zero_mul, Nat.add_zero] at r0 r1 r2 r3 r4
            generalize x.num = num at r0 hbx
            generalize x.lvl = lvl at r1 hbx
            generalize x.size = size at r2 hbx
            generalize x.least.length = L1 at r3 hbx
            generalize x.most.length = L2 at r4 hbx
            obtain ⟨t0, t1, t2, t3, t4⟩ := hbx _ (Below.refl _ _)
            clear hg hj hx hbx
            go_wp2_with fail
            go_quiet (fail)
            go_wp2_with fail
            go_roundg (fn - 1)
            case measure => have := HR.out; omega
            case rel => exact ⟨1, by go_num, by have := HR.out; omega, below_drewN (HAL.out _) _⟩
          | succ i =>
            obtain ⟨y, hy⟩ : ∃ y, F[i]? = some y := ⟨_, List.getElem?_eq_getElem (by have := HF.out.2; omega)⟩
            obtain ⟨b', off', la2, lc2, ma2, mc2, he', r0', r1', r2', r3', r4', -, -, -, -, -⟩ := RS.ln (HRF.out.1.later HJ.out) hy
            simp only [Option.some.injEq, Addr.mk.injEq, and_true] at he'
            obtain ⟨rfl, rfl⟩ := he'
            have hdj : y.lvl < x.lvl ∨ (y.lvl = x.lvl ∧ ¬ 0 < x.lvl ∧ ¬ y.num < x.num) := by
              have hpw : F.Pairwise Dj := by rw [HF.out.1]; exact List.Pairwise.sublist List.filter_sublist HDJ.out.1
              obtain ⟨hi1, e1⟩ := List.getElem?_eq_some_iff.1 hy
              obtain ⟨hi2, e2⟩ := List.getElem?_eq_some_iff.1 hx
              have hd := List.pairwise_iff_getElem.1 hpw i (i + 1) hi1 hi2 (Nat.lt_succ_self i)
              rw [e1, e2] at hd
              have my : y ∈ R.tabs.filter (meK K) := by rw [← HF.out.1]; exact List.mem_of_getElem? hy
              have mx : x ∈ R.tabs.filter (meK K) := by rw [← HF.out.1]; exact List.mem_of_getElem? hx
              exact dj_key hd (HDJ.out.2.2.1 y (List.mem_filter.1 my).1).2 (List.mem_filter.1 my).2 (List.mem_filter.1 mx).2
            have hi62 : i ≤ 200 := by omega
            generalize x.num = num at r0 hbx hdj
            generalize x.lvl = lvl at r1 hbx hdj
            generalize x.size = size at r2 hbx
            generalize x.least.length = L1 at r3 hbx
            generalize x.most.length = L2 at r4 hbx
            generalize y.num = num2 at r0' hdj
            generalize y.lvl = lvl2 at r1' hdj
            generalize y.size = size2 at r2'
            generalize y.least.length = L12 at r3'
            generalize y.most.length = L22 at r4'
            obtain ⟨t0, t1, t2, t3, t4⟩ := hbx _ (Below.refl _ _)
            have s0 := cell_later ((Below.refl wr.heap.size wr).alloc (Nat.le_refl _) (.cells #[.int .i64 num, .int .i64 lvl, .int .i64 size, .slice la L1 lc, .slice ma L2 mc] 30)) r0'
            have s1 := cell_later ((Below.refl wr.heap.size wr).alloc (Nat.le_refl _) (.cells #[.int .i64 num, .int .i64 lvl, .int .i64 size, .slice la L1 lc, .slice ma L2 mc] 30)) r1'
            clear hg hj hx hbx hy
            have HRC : Hid (∀ wx, Below (wr.alloc (.cells #[.int .i64 num, .int .i64 lvl, .int .i64 size, .slice la L1 lc, .slice ma L2 mc] 30)).heap.size (wr.alloc (.cells #[.int .i64 num, .int .i64 lvl, .int .i64 size, .slice la L1 lc, .slice ma L2 mc] 30)) wx → wx.cell? ⟨b, off + i * 5, none⟩ = some (.int .i64 num2) ∧ wx.cell? ⟨b, off + i * 5 + 1, none⟩ = some (.int .i64 lvl2) ∧ wx.cell? ⟨wr.heap.size, 0, none⟩ = some (.int .i64 num) ∧ wx.cell? ⟨wr.heap.size, 1, none⟩ = some (.int .i64 lvl)) := fun wx hb => ⟨cell_later hb s0, cell_later hb s1, cell_later hb t0, cell_later hb t1⟩
            have hpos : (0 : Int) < (i : Int) + 1 := by omega
            have hj1 : IntKind.i64.wrap (i : Int) = (i : Int) := by rw [IntKind.wrap_i64]; omega
            have hj2 : wrap64 (i : Int) = (i : Int) := by unfold wrap64; omega
            have hj3 : 0 ≤ (i : Int) := by omega
            have hj4 : (i : Int) < (fn : Int) := by omega
            have hj5 : ¬ ((fn : Int) ≤ (i : Int)) := by omega
            have hj6 : ¬ (fn ≤ i) := by omega
            have hj7 : decide (i < fn) = true := by simp; omega
            have HJJ := hidS (And.intro (And.intro hj1 hj2) (And.intro (And.intro hj3 hj4) (And.intro hj5 (And.intro hj6 hj7))))
            clear hj1 hj2 hj3 hj4 hj5 hj6 hj7
            rcases hdj with q | ⟨q, q0, qn⟩
            · have n1 : ¬ lvl < lvl2 := by omega
              have n2 : (lvl2 == lvl) = false := by simp; omega
              have n3 : True := trivial
              have n4 : True := trivial
              clear q
              go_upto_region 13 with fail
              obtain ⟨⟨hj1, hj2⟩, ⟨hj3, hj4⟩, hj5, hj6, hj7⟩ := HJJ.out
              refine wp_region_vals (by kernel_rfl) (by decide +kernel) 94 rfl (by decide +kernel) [.int .i64 ((i : Int) + 1), .bool true, .bool true, .slice (some ⟨b, off, none⟩) fn fc, .int .i64 ((i : Int) + 1), .int .i64 (i : Int), .pointer (some ⟨b, off + i * 5, none⟩), .pointer (some ⟨b, off + i * 5 + 1, none⟩), .int .i64 lvl2, .pointer (some ⟨wr.heap.size, 1, none⟩), .int .i64 lvl, .bool false, .bool false, .slice (some ⟨b, off, none⟩) fn fc, .int .i64 ((i : Int) + 1), .int .i64 (i : Int), .pointer (some ⟨b, off + i * 5, none⟩), .pointer (some ⟨b, off + i * 5 + 1, none⟩), .int .i64 lvl2, .pointer (some ⟨wr.heap.size, 1, none⟩), .int .i64 lvl, .bool false, .bool false, undef, undef, undef, undef, undef, undef, undef, undef, undef, undef, undef, undef, undef, undef, .bool false, .bool false, .bool false] rfl ?_ [46, 47, 48, 49, 50, 51, 52, 53, 54, 55, 56, 57, 58, 59, 60, 61, 62, 63, 64, 65, 66, 67, 68, 69, 70, 71, 72, 73, 74, 75, 76, 77, 78, 79, 80, 81, 82, 83, 84, 85] (by decide +kernel) ?_
              rotate_left
              · intro w6 B6
                rename_i hk
                refine hk _ _ ?_
                rw [putFd]
                have b6 := (HAL.out (.cells #[.int .i64 num, .int .i64 lvl, .int .i64 size, .slice la L1 lc, .slice ma L2 mc] 30)).trans (B6.mono (HAL.out (.cells #[.int .i64 num, .int .i64 lvl, .int .i64 size, .slice la L1 lc, .slice ma L2 mc] 30)).size)
                go_wp2_with fail
                go_roundg (fn - (i + 1 + 1))
                case measure => have := HR.out; omega
                case rel => exact ⟨i + 1 + 1, by go_num, by have := HR.out; omega, b6⟩
              -- 0: slot 46
              refine ⟨fun a w c => ?_, ?_⟩
              · have hw := c.want0 rfl
                exact goalR_move hw (.tmp 10) (.inl rfl) ((c.old 10 rfl).trans rfl) rfl
              -- 1: slot 47
              refine ⟨fun a w c => ?_, ?_⟩
              · have hw := c.want0 rfl
                have e46 : a.eval (.tmp 46) = _ := c.val 0 _ rfl rfl
                exact goalR_val hw (by have ec : ∀ v, a.eval (.const v) = v := fun _ => rfl; generalize a.eval = ρ at ec e46 ⊢; simp [execOp, go_sem, ec, e46, hpos]) rfl
              -- 2: slot 48
              refine ⟨fun a w c => ?_, ?_⟩
              · exact goalR_move (c.want0 rfl) (.tmp 47) (.inl rfl) (c.val 1 _ rfl rfl) rfl
              -- 3: slot 49
              refine ⟨fun a w c => ?_, ?_⟩
              · have hw := c.want 2 true rfl rfl rfl
                exact goalR_move hw (.tmp 6) (.inl rfl) ((c.old 6 rfl).trans rfl) rfl
              -- 4: slot 50
              refine ⟨fun a w c => ?_, ?_⟩
              · have hw := c.want 2 true rfl rfl rfl
                exact goalR_move hw (.tmp 10) (.inl rfl) ((c.old 10 rfl).trans rfl) rfl
              -- 5: slot 51
              refine ⟨fun a w c => ?_, ?_⟩
              · have hw := c.want 2 true rfl rfl rfl
                have e50 : a.eval (.tmp 50) = _ := c.val 4 _ rfl rfl
                exact goalR_val hw (by have ec : ∀ v, a.eval (.const v) = v := fun _ => rfl; generalize a.eval = ρ at ec e50 ⊢; simp [execOp, go_sem, ec, e50, hj1, hj2]) rfl
              -- 6: slot 52
              refine ⟨fun a w c => ?_, ?_⟩
              · have hw := c.want 2 true rfl rfl rfl
                have e49 : a.eval (.tmp 49) = _ := c.val 3 _ rfl rfl
                have e51 : a.eval (.tmp 51) = _ := c.val 5 _ rfl rfl
                exact goalR_val hw (by have ec : ∀ v, a.eval (.const v) = v := fun _ => rfl; generalize a.eval = ρ at ec e49 e51 ⊢; simp [execOp, go_sem, ec, e49, e51, elemTs, Try.sizeOf30, hj1, hj2, hj3, hj4, hj5, hj6, hj7]) rfl
              -- 7: slot 53
              refine ⟨fun a w c => ?_, ?_⟩
              · have hw := c.want 2 true rfl rfl rfl
                have e52 : a.eval (.tmp 52) = _ := c.val 6 _ rfl rfl
                exact goalR_val hw (by have ec : ∀ v, a.eval (.const v) = v := fun _ => rfl; generalize a.eval = ρ at ec e52 ⊢; simp [execOp, go_sem, ec, e52]) rfl
              -- 8: slot 54
              refine ⟨fun a w c => ?_, ?_⟩
              · have hw := c.want 2 true rfl rfl rfl
                have e53 : a.eval (.tmp 53) = _ := c.val 7 _ rfl rfl
                have y0 := (HRC.out w c.below).2.1
                exact goalR_val hw (by have ec : ∀ v, a.eval (.const v) = v := fun _ => rfl; generalize a.eval = ρ at ec e53 ⊢; simp [execOp, go_sem, ec, e53, y0]) rfl
              -- 9: slot 55
              refine ⟨fun a w c => ?_, ?_⟩
              · have hw := c.want 2 true rfl rfl rfl
                have e11 : a.eval (.tmp 11) = _ := (c.old 11 rfl).trans rfl
                exact goalR_val hw (by have ec : ∀ v, a.eval (.const v) = v := fun _ => rfl; generalize a.eval = ρ at ec e11 ⊢; simp [execOp, go_sem, ec, e11]) rfl
              -- 10: slot 56
              refine ⟨fun a w c => ?_, ?_⟩
              · have hw := c.want 2 true rfl rfl rfl
                have e55 : a.eval (.tmp 55) = _ := c.val 9 _ rfl rfl
                have y0 := (HRC.out w c.below).2.2.2
                exact goalR_val hw (by have ec : ∀ v, a.eval (.const v) = v := fun _ => rfl; generalize a.eval = ρ at ec e55 ⊢; simp [execOp, go_sem, ec, e55, y0]) rfl
              -- 11: slot 57
              refine ⟨fun a w c => ?_, ?_⟩
              · have hw := c.want 2 true rfl rfl rfl
                have e54 : a.eval (.tmp 54) = _ := c.val 8 _ rfl rfl
                have e56 : a.eval (.tmp 56) = _ := c.val 10 _ rfl rfl
                exact goalR_val hw (by have ec : ∀ v, a.eval (.const v) = v := fun _ => rfl; generalize a.eval = ρ at ec e54 e56 ⊢; simp [execOp, go_sem, ec, e54, e56, n1]) rfl
              -- 12: slot 58
              refine ⟨fun a w c => ?_, ?_⟩
              · exact goalR_move (c.want 2 true rfl rfl rfl) (.tmp 57) (.inl rfl) (c.val 11 _ rfl rfl) rfl
              -- 13: slot 59
              refine ⟨fun a w c => ?_, ?_⟩
              · have hw := c.want 12 false rfl rfl rfl
                exact goalR_move hw (.tmp 6) (.inl rfl) ((c.old 6 rfl).trans rfl) rfl
              -- 14: slot 60
              refine ⟨fun a w c => ?_, ?_⟩
              · have hw := c.want 12 false rfl rfl rfl
                exact goalR_move hw (.tmp 10) (.inl rfl) ((c.old 10 rfl).trans rfl) rfl
              -- 15: slot 61
              refine ⟨fun a w c => ?_, ?_⟩
              · have hw := c.want 12 false rfl rfl rfl
                have e60 : a.eval (.tmp 60) = _ := c.val 14 _ rfl rfl
                exact goalR_val hw (by have ec : ∀ v, a.eval (.const v) = v := fun _ => rfl; generalize a.eval = ρ at ec e60 ⊢; simp [execOp, go_sem, ec, e60, hj1, hj2]) rfl
              -- 16: slot 62
              refine ⟨fun a w c => ?_, ?_⟩
              · have hw := c.want 12 false rfl rfl rfl
                have e59 : a.eval (.tmp 59) = _ := c.val 13 _ rfl rfl
                have e61 : a.eval (.tmp 61) = _ := c.val 15 _ rfl rfl
                exact goalR_val hw (by have ec : ∀ v, a.eval (.const v) = v := fun _ => rfl; generalize a.eval = ρ at ec e59 e61 ⊢; simp [execOp, go_sem, ec, e59, e61, elemTs, Try.sizeOf30, hj1, hj2, hj3, hj4, hj5, hj6, hj7]) rfl
              -- 17: slot 63
              refine ⟨fun a w c => ?_, ?_⟩
              · have hw := c.want 12 false rfl rfl rfl
                have e62 : a.eval (.tmp 62) = _ := c.val 16 _ rfl rfl
                exact goalR_val hw (by have ec : ∀ v, a.eval (.const v) = v := fun _ => rfl; generalize a.eval = ρ at ec e62 ⊢; simp [execOp, go_sem, ec, e62]) rfl
              -- 18: slot 64
              refine ⟨fun a w c => ?_, ?_⟩
              · have hw := c.want 12 false rfl rfl rfl
                have e63 : a.eval (.tmp 63) = _ := c.val 17 _ rfl rfl
                have y0 := (HRC.out w c.below).2.1
                exact goalR_val hw (by have ec : ∀ v, a.eval (.const v) = v := fun _ => rfl; generalize a.eval = ρ at ec e63 ⊢; simp [execOp, go_sem, ec, e63, y0]) rfl
              -- 19: slot 65
              refine ⟨fun a w c => ?_, ?_⟩
              · have hw := c.want 12 false rfl rfl rfl
                have e11 : a.eval (.tmp 11) = _ := (c.old 11 rfl).trans rfl
                exact goalR_val hw (by have ec : ∀ v, a.eval (.const v) = v := fun _ => rfl; generalize a.eval = ρ at ec e11 ⊢; simp [execOp, go_sem, ec, e11]) rfl
              -- 20: slot 66
              refine ⟨fun a w c => ?_, ?_⟩
              · have hw := c.want 12 false rfl rfl rfl
                have e65 : a.eval (.tmp 65) = _ := c.val 19 _ rfl rfl
                have y0 := (HRC.out w c.below).2.2.2
                exact goalR_val hw (by have ec : ∀ v, a.eval (.const v) = v := fun _ => rfl; generalize a.eval = ρ at ec e65 ⊢; simp [execOp, go_sem, ec, e65, y0]) rfl
              -- 21: slot 67
              refine ⟨fun a w c => ?_, ?_⟩
              · have hw := c.want 12 false rfl rfl rfl
                have e64 : a.eval (.tmp 64) = _ := c.val 18 _ rfl rfl
                have e66 : a.eval (.tmp 66) = _ := c.val 20 _ rfl rfl
                exact goalR_val hw (by have ec : ∀ v, a.eval (.const v) = v := fun _ => rfl; generalize a.eval = ρ at ec e64 e66 ⊢; simp [execOp, go_sem, ec, e64, e66, n2]) rfl
              -- 22: slot 68
              refine ⟨fun a w c => ?_, ?_⟩
              · exact goalR_move (c.want 12 false rfl rfl rfl) (.tmp 67) (.inl rfl) (c.val 21 _ rfl rfl) rfl
              -- 23: slot 69
              refine ⟨fun a w c => ?_, ?_⟩
              · exact goalR_skip (c.skip 22 true false rfl rfl rfl (by decide)) rfl
              -- 24: slot 70
              refine ⟨fun a w c => ?_, ?_⟩
              · exact goalR_skip (c.skip 22 true false rfl rfl rfl (by decide)) rfl
              -- 25: slot 71
              refine ⟨fun a w c => ?_, ?_⟩
              · exact goalR_skip (c.skip 22 true false rfl rfl rfl (by decide)) rfl
              -- 26: slot 72
              refine ⟨fun a w c => ?_, ?_⟩
              · exact goalR_skip (c.skip 22 true false rfl rfl rfl (by decide)) rfl
              -- 27: slot 73
              refine ⟨fun a w c => ?_, ?_⟩
              · exact goalR_skip (wanted_undef rfl (c.val 26 _ rfl rfl)) rfl
              -- 28: slot 74
              refine ⟨fun a w c => ?_, ?_⟩
              · exact goalR_skip (wanted_undef rfl (c.val 26 _ rfl rfl)) rfl
              -- 29: slot 75
              refine ⟨fun a w c => ?_, ?_⟩
              · exact goalR_skip (wanted_undef rfl (c.val 26 _ rfl rfl)) rfl
              -- 30: slot 76
              refine ⟨fun a w c => ?_, ?_⟩
              · exact goalR_skip (wanted_undef rfl (c.val 26 _ rfl rfl)) rfl
              -- 31: slot 77
              refine ⟨fun a w c => ?_, ?_⟩
              · exact goalR_skip (wanted_undef rfl (c.val 26 _ rfl rfl)) rfl
              -- 32: slot 78
              refine ⟨fun a w c => ?_, ?_⟩
              · exact goalR_skip (wanted_undef rfl (c.val 26 _ rfl rfl)) rfl
              -- 33: slot 79
              refine ⟨fun a w c => ?_, ?_⟩
              · exact goalR_skip (wanted_undef rfl (c.val 26 _ rfl rfl)) rfl
              -- 34: slot 80
              refine ⟨fun a w c => ?_, ?_⟩
              · exact goalR_skip (wanted_undef rfl (c.val 26 _ rfl rfl)) rfl
              -- 35: slot 81
              refine ⟨fun a w c => ?_, ?_⟩
              · exact goalR_skip (wanted_undef rfl (c.val 26 _ rfl rfl)) rfl
              -- 36: slot 82
              refine ⟨fun a w c => ?_, ?_⟩
              · exact goalR_skip (c.skip 22 true false rfl rfl rfl (by decide)) rfl
              -- 37: slot 83
              refine ⟨fun a w c => ?_, ?_⟩
              · have e68 : a.eval (.tmp 68) = _ := c.val 22 _ rfl rfl
                exact goalR_val (c.want 12 false rfl rfl rfl) (by have ec : ∀ v, a.eval (.const v) = v := fun _ => rfl; generalize a.eval = ρ at ec e68 ⊢; simp [execOp, go_sem, ec, e68]) rfl
              -- 38: slot 84
              refine ⟨fun a w c => ?_, ?_⟩
              · have e58 : a.eval (.tmp 58) = _ := c.val 12 _ rfl rfl
                have e83 : a.eval (.tmp 83) = _ := c.val 37 _ rfl rfl
                exact goalR_val (c.want 2 true rfl rfl rfl) (by have ec : ∀ v, a.eval (.const v) = v := fun _ => rfl; generalize a.eval = ρ at ec e58 e83 ⊢; simp [execOp, go_sem, ec, e58, e83]) rfl
              -- 39: slot 85
              refine ⟨fun a w c => ?_, ?_⟩
              · have e48 : a.eval (.tmp 48) = _ := c.val 2 _ rfl rfl
                have e84 : a.eval (.tmp 84) = _ := c.val 38 _ rfl rfl
                exact goalR_val (c.want0 rfl) (by have ec : ∀ v, a.eval (.const v) = v := fun _ => rfl; generalize a.eval = ρ at ec e48 e84 ⊢; simp [execOp, go_sem, ec, e48, e84]) rfl
              exact True.intro
            · have n1 : ¬ lvl < lvl2 := by omega
              have n2 : (lvl2 == lvl) = true := by simp [q]
              have n3 : ¬ 0 < lvl := q0
              have n4 : ¬ num2 < num := qn
              clear q q0 qn
              go_upto_region 13 with fail
              obtain ⟨⟨hj1, hj2⟩, ⟨hj3, hj4⟩, hj5, hj6, hj7⟩ := HJJ.out
              refine wp_region_vals (by kernel_rfl) (by decide +kernel) 94 rfl (by decide +kernel) [.int .i64 ((i : Int) + 1), .bool true, .bool true, .slice (some ⟨b, off, none⟩) fn fc, .int .i64 ((i : Int) + 1), .int .i64 (i : Int), .pointer (some ⟨b, off + i * 5, none⟩), .pointer (some ⟨b, off + i * 5 + 1, none⟩), .int .i64 lvl2, .pointer (some ⟨wr.heap.size, 1, none⟩), .int .i64 lvl, .bool false, .bool false, .slice (some ⟨b, off, none⟩) fn fc, .int .i64 ((i : Int) + 1), .int .i64 (i : Int), .pointer (some ⟨b, off + i * 5, none⟩), .pointer (some ⟨b, off + i * 5 + 1, none⟩), .int .i64 lvl2, .pointer (some ⟨wr.heap.size, 1, none⟩), .int .i64 lvl, .bool true, .bool true, .pointer (some ⟨wr.heap.size, 1, none⟩), .int .i64 lvl, .bool false, .bool false, .slice (some ⟨b, off, none⟩) fn fc, .int .i64 ((i : Int) + 1), .int .i64 (i : Int), .pointer (some ⟨b, off + i * 5, none⟩), .pointer (some ⟨b, off + i * 5, none⟩), .int .i64 num2, .pointer (some ⟨wr.heap.size, 0, none⟩), .int .i64 num, .bool false, .bool false, .bool false, .bool false, .bool false] rfl ?_ [46, 47, 48, 49, 50, 51, 52, 53, 54, 55, 56, 57, 58, 59, 60, 61, 62, 63, 64, 65, 66, 67, 68, 69, 70, 71, 72, 73, 74, 75, 76, 77, 78, 79, 80, 81, 82, 83, 84, 85] (by decide +kernel) ?_
              rotate_left
              · intro w6 B6
                rename_i hk
                refine hk _ _ ?_
                rw [putFd]
                have b6 := (HAL.out (.cells #[.int .i64 num, .int .i64 lvl, .int .i64 size, .slice la L1 lc, .slice ma L2 mc] 30)).trans (B6.mono (HAL.out (.cells #[.int .i64 num, .int .i64 lvl, .int .i64 size, .slice la L1 lc, .slice ma L2 mc] 30)).size)
                go_wp2_with fail
                go_roundg (fn - (i + 1 + 1))
                case measure => have := HR.out; omega
                case rel => exact ⟨i + 1 + 1, by go_num, by have := HR.out; omega, b6⟩
              -- 0: slot 46
              refine ⟨fun a w c => ?_, ?_⟩
              · have hw := c.want0 rfl
                exact goalR_move hw (.tmp 10) (.inl rfl) ((c.old 10 rfl).trans rfl) rfl
              -- 1: slot 47
              refine ⟨fun a w c => ?_, ?_⟩
              · have hw := c.want0 rfl
                have e46 : a.eval (.tmp 46) = _ := c.val 0 _ rfl rfl
                exact goalR_val hw (by have ec : ∀ v, a.eval (.const v) = v := fun _ => rfl; generalize a.eval = ρ at ec e46 ⊢; simp [execOp, go_sem, ec, e46, hpos]) rfl
              -- 2: slot 48
              refine ⟨fun a w c => ?_, ?_⟩
              · exact goalR_move (c.want0 rfl) (.tmp 47) (.inl rfl) (c.val 1 _ rfl rfl) rfl
              -- 3: slot 49
              refine ⟨fun a w c => ?_, ?_⟩
              · have hw := c.want 2 true rfl rfl rfl
                exact goalR_move hw (.tmp 6) (.inl rfl) ((c.old 6 rfl).trans rfl) rfl
              -- 4: slot 50
              refine ⟨fun a w c => ?_, ?_⟩
              · have hw := c.want 2 true rfl rfl rfl
                exact goalR_move hw (.tmp 10) (.inl rfl) ((c.old 10 rfl).trans rfl) rfl
              -- 5: slot 51
              refine ⟨fun a w c => ?_, ?_⟩
              · have hw := c.want 2 true rfl rfl rfl
                have e50 : a.eval (.tmp 50) = _ := c.val 4 _ rfl rfl
                exact goalR_val hw (by have ec : ∀ v, a.eval (.const v) = v := fun _ => rfl; generalize a.eval = ρ at ec e50 ⊢; simp [execOp, go_sem, ec, e50, hj1, hj2]) rfl
              -- 6: slot 52
              refine ⟨fun a w c => ?_, ?_⟩
              · have hw := c.want 2 true rfl rfl rfl
                have e49 : a.eval (.tmp 49) = _ := c.val 3 _ rfl rfl
                have e51 : a.eval (.tmp 51) = _ := c.val 5 _ rfl rfl
                exact goalR_val hw (by have ec : ∀ v, a.eval (.const v) = v := fun _ => rfl; generalize a.eval = ρ at ec e49 e51 ⊢; simp [execOp, go_sem, ec, e49, e51, elemTs, Try.sizeOf30, hj1, hj2, hj3, hj4, hj5, hj6, hj7]) rfl
              -- 7: slot 53
              refine ⟨fun a w c => ?_, ?_⟩
              · have hw := c.want 2 true rfl rfl rfl
                have e52 : a.eval (.tmp 52) = _ := c.val 6 _ rfl rfl
                exact goalR_val hw (by have ec : ∀ v, a.eval (.const v) = v := fun _ => rfl; generalize a.eval = ρ at ec e52 ⊢; simp [execOp, go_sem, ec, e52]) rfl
              -- 8: slot 54
              refine ⟨fun a w c => ?_, ?_⟩
              · have hw := c.want 2 true rfl rfl rfl
                have e53 : a.eval (.tmp 53) = _ := c.val 7 _ rfl rfl
                have y0 := (HRC.out w c.below).2.1
                exact goalR_val hw (by have ec : ∀ v, a.eval (.const v) = v := fun _ => rfl; generalize a.eval = ρ at ec e53 ⊢; simp [execOp, go_sem, ec, e53, y0]) rfl
              -- 9: slot 55
              refine ⟨fun a w c => ?_, ?_⟩
              · have hw := c.want 2 true rfl rfl rfl
                have e11 : a.eval (.tmp 11) = _ := (c.old 11 rfl).trans rfl
                exact goalR_val hw (by have ec : ∀ v, a.eval (.const v) = v := fun _ => rfl; generalize a.eval = ρ at ec e11 ⊢; simp [execOp, go_sem, ec, e11]) rfl
              -- 10: slot 56
              refine ⟨fun a w c => ?_, ?_⟩
              · have hw := c.want 2 true rfl rfl rfl
                have e55 : a.eval (.tmp 55) = _ := c.val 9 _ rfl rfl
                have y0 := (HRC.out w c.below).2.2.2
                exact goalR_val hw (by have ec : ∀ v, a.eval (.const v) = v := fun _ => rfl; generalize a.eval = ρ at ec e55 ⊢; simp [execOp, go_sem, ec, e55, y0]) rfl
              -- 11: slot 57
              refine ⟨fun a w c => ?_, ?_⟩
              · have hw := c.want 2 true rfl rfl rfl
                have e54 : a.eval (.tmp 54) = _ := c.val 8 _ rfl rfl
                have e56 : a.eval (.tmp 56) = _ := c.val 10 _ rfl rfl
                exact goalR_val hw (by have ec : ∀ v, a.eval (.const v) = v := fun _ => rfl; generalize a.eval = ρ at ec e54 e56 ⊢; simp [execOp, go_sem, ec, e54, e56, n1]) rfl
              -- 12: slot 58
              refine ⟨fun a w c => ?_, ?_⟩
              · exact goalR_move (c.want 2 true rfl rfl rfl) (.tmp 57) (.inl rfl) (c.val 11 _ rfl rfl) rfl
              -- 13: slot 59
              refine ⟨fun a w c => ?_, ?_⟩
              · have hw := c.want 12 false rfl rfl rfl
                exact goalR_move hw (.tmp 6) (.inl rfl) ((c.old 6 rfl).trans rfl) rfl
              -- 14: slot 60
              refine ⟨fun a w c => ?_, ?_⟩
              · have hw := c.want 12 false rfl rfl rfl
                exact goalR_move hw (.tmp 10) (.inl rfl) ((c.old 10 rfl).trans rfl) rfl
              -- 15: slot 61
              refine ⟨fun a w c => ?_, ?_⟩
              · have hw := c.want 12 false rfl rfl rfl
                have e60 : a.eval (.tmp 60) = _ := c.val 14 _ rfl rfl
                exact goalR_val hw (by have ec : ∀ v, a.eval (.const v) = v := fun _ => rfl; generalize a.eval = ρ at ec e60 ⊢; simp [execOp, go_sem, ec, e60, hj1, hj2]) rfl
              -- 16: slot 62
              refine ⟨fun a w c => ?_, ?_⟩
              · have hw := c.want 12 false rfl rfl rfl
                have e59 : a.eval (.tmp 59) = _ := c.val 13 _ rfl rfl
                have e61 : a.eval (.tmp 61) = _ := c.val 15 _ rfl rfl
                exact goalR_val hw (by have ec : ∀ v, a.eval (.const v) = v := fun _ => rfl; generalize a.eval = ρ at ec e59 e61 ⊢; simp [execOp, go_sem, ec, e59, e61, elemTs, Try.sizeOf30, hj1, hj2, hj3, hj4, hj5, hj6, hj7]) rfl
              -- 17: slot 63
              refine ⟨fun a w c => ?_, ?_⟩
              · have hw := c.want 12 false rfl rfl rfl
                have e62 : a.eval (.tmp 62) = _ := c.val 16 _ rfl rfl
                exact goalR_val hw (by have ec : ∀ v, a.eval (.const v) = v := fun _ => rfl; generalize a.eval = ρ at ec e62 ⊢; simp [execOp, go_sem, ec, e62]) rfl
              -- 18: slot 64
              refine ⟨fun a w c => ?_, ?_⟩
              · have hw := c.want 12 false rfl rfl rfl
                have e63 : a.eval (.tmp 63) = _ := c.val 17 _ rfl rfl
                have y0 := (HRC.out w c.below).2.1
                exact goalR_val hw (by have ec : ∀ v, a.eval (.const v) = v := fun _ => rfl; generalize a.eval = ρ at ec e63 ⊢; simp [execOp, go_sem, ec, e63, y0]) rfl
              -- 19: slot 65
              refine ⟨fun a w c => ?_, ?_⟩
              · have hw := c.want 12 false rfl rfl rfl
                have e11 : a.eval (.tmp 11) = _ := (c.old 11 rfl).trans rfl
                exact goalR_val hw (by have ec : ∀ v, a.eval (.const v) = v := fun _ => rfl; generalize a.eval = ρ at ec e11 ⊢; simp [execOp, go_sem, ec, e11]) rfl
              -- 20: slot 66
              refine ⟨fun a w c => ?_, ?_⟩
              · have hw := c.want 12 false rfl rfl rfl
                have e65 : a.eval (.tmp 65) = _ := c.val 19 _ rfl rfl
                have y0 := (HRC.out w c.below).2.2.2
                exact goalR_val hw (by have ec : ∀ v, a.eval (.const v) = v := fun _ => rfl; generalize a.eval = ρ at ec e65 ⊢; simp [execOp, go_sem, ec, e65, y0]) rfl
              -- 21: slot 67
              refine ⟨fun a w c => ?_, ?_⟩
              · have hw := c.want 12 false rfl rfl rfl
                have e64 : a.eval (.tmp 64) = _ := c.val 18 _ rfl rfl
                have e66 : a.eval (.tmp 66) = _ := c.val 20 _ rfl rfl
                exact goalR_val hw (by have ec : ∀ v, a.eval (.const v) = v := fun _ => rfl; generalize a.eval = ρ at ec e64 e66 ⊢; simp [execOp, go_sem, ec, e64, e66, n2]) rfl
              -- 22: slot 68
              refine ⟨fun a w c => ?_, ?_⟩
              · exact goalR_move (c.want 12 false rfl rfl rfl) (.tmp 67) (.inl rfl) (c.val 21 _ rfl rfl) rfl
              -- 23: slot 69
              refine ⟨fun a w c => ?_, ?_⟩
              · have hw := c.want 22 true rfl rfl rfl
                have e11 : a.eval (.tmp 11) = _ := (c.old 11 rfl).trans rfl
                exact goalR_val hw (by have ec : ∀ v, a.eval (.const v) = v := fun _ => rfl; generalize a.eval = ρ at ec e11 ⊢; simp [execOp, go_sem, ec, e11]) rfl
              -- 24: slot 70
              refine ⟨fun a w c => ?_, ?_⟩
              · have hw := c.want 22 true rfl rfl rfl
                have e69 : a.eval (.tmp 69) = _ := c.val 23 _ rfl rfl
                have y0 := (HRC.out w c.below).2.2.2
                exact goalR_val hw (by have ec : ∀ v, a.eval (.const v) = v := fun _ => rfl; generalize a.eval = ρ at ec e69 ⊢; simp [execOp, go_sem, ec, e69, y0]) rfl
              -- 25: slot 71
              refine ⟨fun a w c => ?_, ?_⟩
              · have hw := c.want 22 true rfl rfl rfl
                have e70 : a.eval (.tmp 70) = _ := c.val 24 _ rfl rfl
                exact goalR_val hw (by have ec : ∀ v, a.eval (.const v) = v := fun _ => rfl; generalize a.eval = ρ at ec e70 ⊢; simp [execOp, go_sem, ec, e70, n3]) rfl
              -- 26: slot 72
              refine ⟨fun a w c => ?_, ?_⟩
              · exact goalR_move (c.want 22 true rfl rfl rfl) (.tmp 71) (.inl rfl) (c.val 25 _ rfl rfl) rfl
              -- 27: slot 73
              refine ⟨fun a w c => ?_, ?_⟩
              · have hw := c.want 26 false rfl rfl rfl
                exact goalR_move hw (.tmp 6) (.inl rfl) ((c.old 6 rfl).trans rfl) rfl
              -- 28: slot 74
              refine ⟨fun a w c => ?_, ?_⟩
              · have hw := c.want 26 false rfl rfl rfl
                exact goalR_move hw (.tmp 10) (.inl rfl) ((c.old 10 rfl).trans rfl) rfl
              -- 29: slot 75
              refine ⟨fun a w c => ?_, ?_⟩
              · have hw := c.want 26 false rfl rfl rfl
                have e74 : a.eval (.tmp 74) = _ := c.val 28 _ rfl rfl
                exact goalR_val hw (by have ec : ∀ v, a.eval (.const v) = v := fun _ => rfl; generalize a.eval = ρ at ec e74 ⊢; simp [execOp, go_sem, ec, e74, hj1, hj2]) rfl
              -- 30: slot 76
              refine ⟨fun a w c => ?_, ?_⟩
              · have hw := c.want 26 false rfl rfl rfl
                have e73 : a.eval (.tmp 73) = _ := c.val 27 _ rfl rfl
                have e75 : a.eval (.tmp 75) = _ := c.val 29 _ rfl rfl
                exact goalR_val hw (by have ec : ∀ v, a.eval (.const v) = v := fun _ => rfl; generalize a.eval = ρ at ec e73 e75 ⊢; simp [execOp, go_sem, ec, e73, e75, elemTs, Try.sizeOf30, hj1, hj2, hj3, hj4, hj5, hj6, hj7]) rfl
              -- 31: slot 77
              refine ⟨fun a w c => ?_, ?_⟩
              · have hw := c.want 26 false rfl rfl rfl
                have e76 : a.eval (.tmp 76) = _ := c.val 30 _ rfl rfl
                exact goalR_val hw (by have ec : ∀ v, a.eval (.const v) = v := fun _ => rfl; generalize a.eval = ρ at ec e76 ⊢; simp [execOp, go_sem, ec, e76]) rfl
              -- 32: slot 78
              refine ⟨fun a w c => ?_, ?_⟩
              · have hw := c.want 26 false rfl rfl rfl
                have e77 : a.eval (.tmp 77) = _ := c.val 31 _ rfl rfl
                have y0 := (HRC.out w c.below).1
                exact goalR_val hw (by have ec : ∀ v, a.eval (.const v) = v := fun _ => rfl; generalize a.eval = ρ at ec e77 ⊢; simp [execOp, go_sem, ec, e77, y0]) rfl
              -- 33: slot 79
              refine ⟨fun a w c => ?_, ?_⟩
              · have hw := c.want 26 false rfl rfl rfl
                have e11 : a.eval (.tmp 11) = _ := (c.old 11 rfl).trans rfl
                exact goalR_val hw (by have ec : ∀ v, a.eval (.const v) = v := fun _ => rfl; generalize a.eval = ρ at ec e11 ⊢; simp [execOp, go_sem, ec, e11]) rfl
              -- 34: slot 80
              refine ⟨fun a w c => ?_, ?_⟩
              · have hw := c.want 26 false rfl rfl rfl
                have e79 : a.eval (.tmp 79) = _ := c.val 33 _ rfl rfl
                have y0 := (HRC.out w c.below).2.2.1
                exact goalR_val hw (by have ec : ∀ v, a.eval (.const v) = v := fun _ => rfl; generalize a.eval = ρ at ec e79 ⊢; simp [execOp, go_sem, ec, e79, y0]) rfl
              -- 35: slot 81
              refine ⟨fun a w c => ?_, ?_⟩
              · have hw := c.want 26 false rfl rfl rfl
                have e78 : a.eval (.tmp 78) = _ := c.val 32 _ rfl rfl
                have e80 : a.eval (.tmp 80) = _ := c.val 34 _ rfl rfl
                exact goalR_val hw (by have ec : ∀ v, a.eval (.const v) = v := fun _ => rfl; generalize a.eval = ρ at ec e78 e80 ⊢; simp [execOp, go_sem, ec, e78, e80, n4]) rfl
              -- 36: slot 82
              refine ⟨fun a w c => ?_, ?_⟩
              · have e72 : a.eval (.tmp 72) = _ := c.val 26 _ rfl rfl
                have e81 : a.eval (.tmp 81) = _ := c.val 35 _ rfl rfl
                exact goalR_val (c.want 22 true rfl rfl rfl) (by have ec : ∀ v, a.eval (.const v) = v := fun _ => rfl; generalize a.eval = ρ at ec e72 e81 ⊢; simp [execOp, go_sem, ec, e72, e81]) rfl
              -- 37: slot 83
              refine ⟨fun a w c => ?_, ?_⟩
              · have e68 : a.eval (.tmp 68) = _ := c.val 22 _ rfl rfl
                have e82 : a.eval (.tmp 82) = _ := c.val 36 _ rfl rfl
                exact goalR_val (c.want 12 false rfl rfl rfl) (by have ec : ∀ v, a.eval (.const v) = v := fun _ => rfl; generalize a.eval = ρ at ec e68 e82 ⊢; simp [execOp, go_sem, ec, e68, e82]) rfl
              -- 38: slot 84
              refine ⟨fun a w c => ?_, ?_⟩
              · have e58 : a.eval (.tmp 58) = _ := c.val 12 _ rfl rfl
                have e83 : a.eval (.tmp 83) = _ := c.val 37 _ rfl rfl
                exact goalR_val (c.want 2 true rfl rfl rfl) (by have ec : ∀ v, a.eval (.const v) = v := fun _ => rfl; generalize a.eval = ρ at ec e58 e83 ⊢; simp [execOp, go_sem, ec, e58, e83]) rfl
              -- 39: slot 85
              refine ⟨fun a w c => ?_, ?_⟩
              · have e48 : a.eval (.tmp 48) = _ := c.val 2 _ rfl rfl
                have e84 : a.eval (.tmp 84) = _ := c.val 38 _ rfl rfl
                exact goalR_val (c.want0 rfl) (by have ec : ∀ v, a.eval (.const v) = v := fun _ => rfl; generalize a.eval = ρ at ec e48 e84 ⊢; simp [execOp, go_sem, ec, e48, e84]) rfl
              exact True.intro
        · have hj' : ¬ (j : Int) < (fn : Int) := by omega
          have hbe := HEN.out.trans ((HRF.out.2.trans (HJ.out.mono HRF.out.2.size)).mono HEN.out.size)
          have HBE := hidS hbe
          have hff : ((fn : Int) == (fn : Int)) = true := by simp
          clear hg hj hbe
          go_wp2_with (go_at_call 7; refine (awake15_t _).mono ?_; rintro e w6 ⟨rfl, b6⟩)
          exact bodyPost_ret (v := .bool true) (by simp [results, Try.results3, go_sem]) rfl ⟨rfl, HBE.out.trans (b6.mono HBE.out.size)⟩
end Go.Proofs.Ytjgfklbhagcbaab

/- How a slice of bytes that came in is opened. -/
namespace Go.Proofs.Ytjgfklbhagcbaab
open Go.ChangeShapes Go.WideShapes Go.ChangeAt Go.RowKit

theorem cells5 : Try.prog.cellsOf 5 = 1 := by kernel_rfl
theorem bytes5 : Try.prog.bytesOf 5 = 1 := by kernel_rfl

theorem wf_u8 {n : Int} (h : (Lit.int .u8 n).wf = true) : 0 ≤ n ∧ n < 256 := by
  simp [Lit.wf, IntKind.min, IntKind.max, IntKind.bits, IntKind.signed] at h
  omega
theorem wf_u64 {n : Int} (h : (Lit.int .u64 n).wf = true) : 0 ≤ n ∧ n < 18446744073709551616 := by
  simp [Lit.wf, IntKind.min, IntKind.max, IntKind.bits, IntKind.signed] at h
  omega
theorem wf_i64 {n : Int} (h : (Lit.int .i64 n).wf = true) : -9223372036854775808 ≤ n ∧ n ≤ 9223372036854775807 := by
  simp [Lit.wf, IntKind.min, IntKind.max, IntKind.bits, IntKind.signed] at h
  omega

set_option maxRecDepth 100000 in
theorem open23 {H : Type} {enc : TypeId × Value → H} {W : World} {base : Nat} {v : Value} {d : DataW H} {ps : List MemPlace} (hv : Value.okWide Try.prog W .any base 23 v) (h : DataW.Trod enc Try.prog W 0 (fun _ => true) true 23 v d ps) :
    ∃ (ao : Option Addr) (len cap : Nat) (X : Nat → Nat), v = .slice ao len cap ∧ (ao = none → len = 0 ∧ cap = 0) ∧ len ≤ cap ∧ cap ≤ maxLen ∧ Byt W ao len X ∧ (cap = 0 ∨ ∃ e s, d = .slice e s ∧ e.length + s.length = cap) := by
  obtain ⟨a, len, cap, rfl⟩ := okWide_slice Try.underlying23 hv
  obtain ⟨fuel, hf⟩ := h
  rcases open_ints Try.underlying23 Try.underlying5 cells5 hf with ⟨hcs, _⟩ | ⟨x, l, cp, zs, hcs, _, hl, hm, hz, hd, hc, hwf⟩
  · simp [Value.cells] at hcs
    obtain ⟨rfl, rfl, rfl⟩ := hcs
    exact ⟨none, 0, 0, fun _ => 0, rfl, fun _ => ⟨rfl, rfl⟩, Nat.le_refl _, Nat.zero_le _, fun k hk => absurd hk (by omega), .inl rfl⟩
  · simp [Value.cells] at hcs
    obtain ⟨rfl, rfl, rfl⟩ := hcs
    simp only [if_true] at hz
    refine ⟨some x, len, cap, fun k => (zs.getD k 0).toNat, rfl, (fun e => by cases e), hl, hm, fun k hk => ?_, .inr ⟨_, _, (Prod.mk.inj hd).1, ?_⟩⟩
    · have hk' : k < zs.length := by omega
      have w1 := hwf _ (List.getElem_mem hk')
      have e : zs.getD k 0 = zs[k] := by simp [List.getElem?_eq_getElem hk']
      have hr : 0 ≤ zs[k] ∧ zs[k] < 256 := by
        exact wf_u8 w1
      have hcell := hc k hk'
      obtain ⟨b, off, spot⟩ := x
      have hspot : spot = none := by
        have h0 := hc 0 (by omega)
        simpa [Addr.add] using World.cell?_spot h0
      subst hspot
      rw [Addr.add_lit, e] at hcell
      show (zs.getD k 0).toNat < 256 ∧ ∃ b' off', some (⟨b, off, none⟩ : Addr) = some ⟨b', off', none⟩ ∧ W.cell? ⟨b', off' + k, none⟩ = some (.int .u8 ((zs.getD k 0).toNat : Int))
      rw [e]
      refine ⟨by omega, b, off, rfl, ?_⟩
      rw [hcell]
      congr 2
      omega
    · simp [lits]
      omega
end Go.Proofs.Ytjgfklbhagcbaab

/- How slices of bytes, and slices of slices of bytes, that came in are opened: as lists. -/
namespace Go.Proofs.Ytjgfklbhagcbaab
open Go.ChangeShapes Go.WideShapes Go.ChangeAt Go.RowKit Go.Deep
set_option linter.unusedVariables false

theorem cells23 : Try.prog.cellsOf 23 = 1 := by kernel_rfl
theorem sl_bs {w : World} {ao : Option Addr} {len cap : Nat} {X : Nat → Nat} (h1 : ao = none → len = 0 ∧ cap = 0) (h2 : len ≤ cap) (h3 : cap ≤ maxLen) (h4 : Byt w ao len X) : Sl w ao len cap (bs X len) := by
  refine ⟨bs_length X len, okb_bs h4, h1, h2, h3, fun k hk => ?_⟩
  have e : xof (bs X len) k = X k := by
    unfold xof
    rw [bs_getD X len k hk]
    exact Int.toNat_natCast _
  rw [e]
  exact h4 k hk
end Go.Proofs.Ytjgfklbhagcbaab
