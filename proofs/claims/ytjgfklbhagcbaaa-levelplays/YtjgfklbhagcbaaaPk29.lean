import Derived.Test.YtjgfklbhagcbaaaPk21
import Derived.Test.YtjgfklbhagcbaaaPk27
import Derived.Test.YtjgfklbhagcbaaaPk28
/- The document's Overlap. -/
namespace Go.Proofs.Ytjgfklbhagcbaaa
open Go.RowKit
set_option linter.unusedVariables false
set_option linter.unusedSimpArgs false

def meetB (K M : List Int) (t : LnV) : Bool := decide (0 ≤ cmp t.most K ∧ cmp t.least M ≤ 0)
set_option maxHeartbeats 8000000 in
set_option maxRecDepth 100000 in
theorem rover_t {w : World} {v : VrV} {ao : Option Addr} {cap : Nat} {G : Nat → Prop} (hv : RSG lnE G w ao v.tabs.length cap v.tabs) (hG : ∀ b, G b → b < w.heap.size) (hn : v.tabs.length ≤ 1000000) (l : Int) {ka ma2 : Option Addr} {kc mc2 : Nat} {K M : List Int} (hK : Sl w ka K.length kc K) (hM2 : Sl w ma2 M.length mc2 M) :
    Calls Try.prog 23 #[vrV v ao cap, .int .i64 l, .slice ka K.length kc, .slice ma2 M.length mc2] w fun e w' => ∃ u, e = .returned u ∧ RowF lnE w.heap.size G w' u ((atL v.tabs l).filter (meetB K M)) ∧ Below w.heap.size w w' := by
  obtain ⟨p, hp⟩ : ∃ p : LnV → Bool, p = meetB K M := ⟨_, rfl⟩
  rw [← hp]
  have HPX : Hid (∀ t, p t = decide (0 ≤ cmp t.most K ∧ cmp t.least M ≤ 0)) := fun t => by rw [hp]; rfl
  obtain ⟨xs, hF⟩ : ∃ F, F = atL v.tabs l := ⟨_, rfl⟩
  obtain ⟨n, hnF⟩ : ∃ n, n = xs.length := ⟨_, rfl⟩
  have hn6 : n ≤ 1000000 := by rw [hnF, hF]; exact Nat.le_trans (List.length_filter_le _ _) hn
  rw [← hF]
  have HL : Hid (xs.length = n) := hnF.symm
  unfold vrV
  obtain ⟨W, hW⟩ : ∃ W, W = w.alloc (.cells #[.int .i64 v.log, .int .i64 v.next, .int .i64 v.seq, .slice ao v.tabs.length cap] 24) := ⟨_, rfl⟩
  have hWb : Below w.heap.size w W := by rw [hW]; exact (Below.refl _ w).alloc (Nat.le_refl _) _
  have hbx := fun (wx : World) hb => box4 w (.int .i64 v.log) (.int .i64 v.next) (.int .i64 v.seq) (.slice ao v.tabs.length cap) 24 (wx := wx) hb
  obtain ⟨x0, x1, x2, x3⟩ := hbx _ (Below.refl _ _)
  have hat : Calls Try.prog 19 #[.agg #[.int .i64 v.log, .int .i64 v.next, .int .i64 v.seq, .slice ao v.tabs.length cap], .int .i64 l] W fun e w' => ∃ a1 c1, e = .returned (.slice a1 n c1) ∧ RSG lnE G w' a1 n c1 xs ∧ Below w.heap.size w w' := (ratg_t (hv.later hWb) (fun b hb => Nat.lt_of_lt_of_le (hG b hb) hWb.size) hn l).mono fun e w' hh => by
    obtain ⟨u, rfl, hr, hb⟩ := hh
    obtain ⟨a1, c1, e1, hr1⟩ := hr.rsg
    have e2 : v.tabs.filter (fun t => decide (t.lvl = l)) = xs := hF.symm
    rw [e2, ← hnF] at e1 hr1
    exact ⟨a1, c1, by rw [e1], hr1, hWb.trans (hb.mono hWb.size)⟩
  have HG := hidS hG
  clear hG
  have HKS : Hid (Sl w ka K.length kc K ∧ Sl w ma2 M.length mc2 M) := ⟨hK, hM2⟩
  clear hF hnF hbx hv hn hp hK hM2
  generalize v.tabs.length = tn at x3 hW hat ⊢
  generalize v.log = lg0 at x0 hW hat ⊢
  generalize v.next = nx0 at x1 hW hat ⊢
  generalize v.seq = sq0 at x2 hW hat ⊢
  generalize hLK : K.length = LK at HKS ⊢
  generalize hLM : M.length = LM at HKS ⊢
  rw [hW] at hat
  clear hW hWb
  have HLK := hidS (And.intro hLK hLM)
  clear hLK hLM
  go_enter Try.func23, Try.ntmps23
  go_wp2_with (go_at_call 19; refine hat.mono ?_; rintro e w1 ⟨a1, c1, rfl, r1, b1⟩)
  have R1 := hidS (And.intro r1 b1)
  clear r1 b1 x0 x1 x2 x3 hat
  have HG1 : Hid (∀ b, G b → b < w1.heap.size) := fun b hb => Nat.lt_of_lt_of_le (HG.out b hb) R1.out.2.size
  go_loopg [9, 11, 16] n (fun kx s5 _ s11 wr => ∃ k : Nat, s11 = .int .i64 k ∧ k + kx = n ∧ Hid (RowF lnE w1.heap.size G wr s5 ((xs.take k).filter p) ∧ Below w1.heap.size w1 wr))
  case atStart => exact ⟨0, rfl, by omega, RowF.nil _ _ _, Below.refl _ _⟩
  case round =>
    obtain ⟨k, rfl, hg, HK⟩ := hrel
    by_cases hk : k < n
    · have hk' : (k : Int) < (n : Int) := by omega
      obtain ⟨x, hx⟩ : ∃ x, xs[k]? = some x := ⟨_, List.getElem?_eq_getElem (by have := HL.out; omega)⟩
      obtain ⟨b, off, la, lc, ma, mc, rfl, r0, r1, r2, r3, r4, hM, ⟨q1, q2⟩, gq⟩ := RSG.ln R1.out.1 hx
      replace r0 := cell_later HK.out.2 r0
      replace r1 := cell_later HK.out.2 r1
      replace r2 := cell_later HK.out.2 r2
      replace r3 := cell_later HK.out.2 r3
      replace r4 := cell_later HK.out.2 r4
      have HX : Hid ((xs.take (k + 1)).filter p = (xs.take k).filter p ++ if p x = true then [x] else []) := by
        obtain ⟨hkl, rfl⟩ := List.getElem?_eq_some_iff.1 hx
        show _ = _
        rw [List.take_add_one, List.getElem?_eq_getElem hkl, List.filter_append]
        simp only [Option.toList]
        congr 1
        by_cases q : p xs[k] = true
        · rw [if_pos q, List.filter_cons_of_pos q]; rfl
        · rw [if_neg q, List.filter_cons_of_neg q]; rfl
      have hbx := fun (wx : World) hb => box5 wr (.int .i64 x.num) (.int .i64 x.lvl) (.int .i64 x.size) (.slice la x.least.length lc) (.slice ma x.most.length mc) 54 (wx := wx) hb
      have HM : Hid (∀ wx, Below wr.heap.size wr wx → LnM wx [.int .i64 x.num, .int .i64 x.lvl, .int .i64 x.size, .slice la x.least.length lc, .slice ma x.most.length mc] x ∧ ∀ v ∈ [.int .i64 x.num, .int .i64 x.lvl, .int .i64 x.size, .slice la x.least.length lc, .slice ma x.most.length mc], ∀ b, Refs v b → G b) := fun wx hb => ⟨El.later (E := lnE) hM (HK.out.2.trans (hb.mono HK.out.2.size)), gq⟩
      obtain ⟨P, hP⟩ : ∃ P, P = p x := ⟨_, rfl⟩
      rw [← hP] at HX
      obtain ⟨p1, hp1⟩ : ∃ z, z = cmp x.most K := ⟨_, rfl⟩
      obtain ⟨p2, hp2⟩ : ∃ z, z = cmp x.least M := ⟨_, rfl⟩
      have HC : Hid (∀ wx, Below wr.heap.size wr wx → (Calls Try.prog 34 #[.slice ma x.most.length mc, .slice ka LK kc] wx fun e w' => e = .returned (.int .i64 p1) ∧ Below wx.heap.size wx w') ∧ (Calls Try.prog 34 #[.slice la x.least.length lc, .slice ma2 LM mc2] wx fun e w' => e = .returned (.int .i64 p2) ∧ Below wx.heap.size wx w')) := fun wx hb => by
        have q := HK.out.2.trans (hb.mono HK.out.2.size)
        have qq := R1.out.2.trans (q.mono R1.out.2.size)
        rw [hp1, hp2]
        exact ⟨rcmp_any (q2.later q) (HKS.out.1.later qq), rcmp_any (q1.later q) (HKS.out.2.later qq)⟩
      have HPP : Hid (P = decide (0 ≤ p1 ∧ p2 ≤ 0)) := by show _ = _; rw [hP, HPX.out, ← hp1, ← hp2]
      clear hp1 hp2
      obtain ⟨L1, hL1⟩ : ∃ L, L = x.least.length := ⟨_, rfl⟩
      obtain ⟨L2, hL2⟩ : ∃ L, L = x.most.length := ⟨_, rfl⟩
      rw [← hL1] at r3 hbx HM HC
      rw [← hL2] at r4 hbx HM HC
      have HR := hidS (And.intro hg hk)
      have hk62 : k ≤ 2 ^ 60 := by omega
      have HLn : Hid (((xs.take k).filter p).length ≤ 1000000) := Nat.le_trans (List.length_filter_le _ _) (by rw [List.length_take]; omega)
      generalize x.num = num at r0 hbx HM
      generalize x.lvl = lvl at r1 hbx HM
      generalize x.size = size at r2 hbx HM
      obtain ⟨W, hW⟩ : ∃ W, W = wr.alloc (.cells #[.int .i64 num, .int .i64 lvl, .int .i64 size, .slice la L1 lc, .slice ma L2 mc] 54) := ⟨_, rfl⟩
      have hWb : Below wr.heap.size wr W := by rw [hW]; exact (Below.refl _ wr).alloc (Nat.le_refl _) _
      rw [← hW] at hbx
      have HBX := hidS hbx
      have HWB := hidS hWb
      have HW := hidS hW
      have HBK : Hid (∀ wx, Below W.heap.size W wx → RowF lnE w1.heap.size G wx u9 ((xs.take k).filter p) ∧ Below w1.heap.size w1 wx) := fun wx hb => by
        have q := HWB.out.trans (hb.mono HWB.out.size)
        exact ⟨HK.out.1.later q, HK.out.2.trans (q.mono HK.out.2.size)⟩
      obtain ⟨x0, x1, x2, x3, x4⟩ := hbx W (Below.refl _ _)
      rw [HW.out] at x0 x1 x2 x3 x4
      clear hM q1 q2 gq hbx hWb hW hx hL1 hL2 hP hg
      have HWB1 : Below wr.heap.size wr (wr.alloc (.cells #[.int .i64 num, .int .i64 lvl, .int .i64 size, .slice la L1 lc, .slice ma L2 mc] 54)) := (Below.refl _ wr).alloc (Nat.le_refl _) _
      have HWB2 := hidS HWB1
      clear HWB1
      by_cases z1 : 0 ≤ p1
      · by_cases z2 : p2 ≤ 0
        · have HPT : Hid (P = true) := by show _ = _; rw [HPP.out, decide_eq_true ⟨z1, z2⟩]
          have HAP : Hid (∀ wx, Below W.heap.size W wx → RowF lnE w1.heap.size G (wx.alloc (.cells #[.int .i64 num, .int .i64 lvl, .int .i64 size, .slice la L1 lc, .slice ma L2 mc] 54)) u9 ((xs.take k).filter p) ∧
              RSG lnE G (wx.alloc (.cells #[.int .i64 num, .int .i64 lvl, .int .i64 size, .slice la L1 lc, .slice ma L2 mc] 54)) (some ⟨wx.heap.size, 0, none⟩) 1 1 [x] ∧
              w1.heap.size ≤ (wx.alloc (.cells #[.int .i64 num, .int .i64 lvl, .int .i64 size, .slice la L1 lc, .slice ma L2 mc] 54)).heap.size ∧
              Below w1.heap.size w1 (wx.alloc (.cells #[.int .i64 num, .int .i64 lvl, .int .i64 size, .slice la L1 lc, .slice ma L2 mc] 54))) := fun wx hb => by
            have q := HBK.out wx hb
            have q2 := HM.out wx (HWB.out.trans (hb.mono HWB.out.size))
            have b3 : Below w1.heap.size w1 (wx.alloc (.cells #[.int .i64 num, .int .i64 lvl, .int .i64 size, .slice la L1 lc, .slice ma L2 mc] 54)) := q.2.alloc q.2.size _
            exact ⟨q.1.later ((Below.refl _ wx).alloc (Nat.le_refl _) _), rsg_one (E := lnE) q2.1 q2.2, b3.size, b3⟩
          go_wp2_with (first | (go_at_call_of 34 (Value.slice ma L2 mc); refine (HC.out _ HWB2.out).1.mono ?_; rintro e w2 ⟨rfl, b2⟩; rw [← HW.out] at b2; clear x0 x1 x2 x3 x4; obtain ⟨x0, x1, x2, x3, x4⟩ := HBX.out w2 b2) | (go_at_call_of 34 (Value.slice la L1 lc); refine (HC.out _ (HWB.out.trans (b2.mono HWB.out.size))).2.mono ?_; rintro e w3 ⟨rfl, b23⟩; have b3 := b2.trans (b23.mono b2.size); clear x0 x1 x2 x3 x4; obtain ⟨x0, x1, x2, x3, x4⟩ := HBX.out w3 b3) | (at_builtin; refine wpList_appG lnE (t := 22) (z := .agg #[.int .i64 0, .int .i64 0, .int .i64 0, .slice none 0 0, .slice none 0 0]) (bytes := 72) Try.underlying22 lnE_info rfl (by decide) rfl (.tmp 32) (.tmp 34) rfl rfl (HAP.out w3 b3).1 rfl (HAP.out w3 b3).2.1 HG1.out (by have := HLn.out; omega) (by have := HLn.out; omega) (HAP.out w3 b3).2.2.1 ?_; intro v9 w9 r9 g9))
          go_roundg (n - (k + 1))
          case measure => have := HR.out; omega
          case rel => exact ⟨k + 1, by go_num, by have := HR.out; omega, by rw [HX.out, HPT.out]; simp only [if_true]; exact r9, (HAP.out w3 b3).2.2.2.trans g9⟩
        · have HPT : Hid (P = false) := by show _ = _; rw [HPP.out, decide_eq_false fun z => z2 z.2]
          go_wp2_with (first | (go_at_call_of 34 (Value.slice ma L2 mc); refine (HC.out _ HWB2.out).1.mono ?_; rintro e w2 ⟨rfl, b2⟩; rw [← HW.out] at b2; clear x0 x1 x2 x3 x4; obtain ⟨x0, x1, x2, x3, x4⟩ := HBX.out w2 b2) | (go_at_call_of 34 (Value.slice la L1 lc); refine (HC.out _ (HWB.out.trans (b2.mono HWB.out.size))).2.mono ?_; rintro e w3 ⟨rfl, b23⟩; have b3 := b2.trans (b23.mono b2.size); clear x0 x1 x2 x3 x4; obtain ⟨x0, x1, x2, x3, x4⟩ := HBX.out w3 b3))
          go_roundg (n - (k + 1))
          case measure => have := HR.out; omega
          case rel => exact ⟨k + 1, by go_num, by have := HR.out; omega, by rw [HX.out, HPT.out]; simp only [Bool.false_eq_true, if_false, List.append_nil]; exact (HBK.out _ b3).1, (HBK.out _ b3).2⟩
      · have HPT : Hid (P = false) := by show _ = _; rw [HPP.out, decide_eq_false fun z => z1 z.1]
        go_wp2_with (first | (go_at_call_of 34 (Value.slice ma L2 mc); refine (HC.out _ HWB2.out).1.mono ?_; rintro e w2 ⟨rfl, b2⟩; rw [← HW.out] at b2; clear x0 x1 x2 x3 x4; obtain ⟨x0, x1, x2, x3, x4⟩ := HBX.out w2 b2))
        go_roundg (n - (k + 1))
        case measure => have := HR.out; omega
        case rel => exact ⟨k + 1, by go_num, by have := HR.out; omega, by rw [HX.out, HPT.out]; simp only [Bool.false_eq_true, if_false, List.append_nil]; exact (HBK.out _ b2).1, (HBK.out _ b2).2⟩
    · have hk' : ¬ (k : Int) < (n : Int) := by omega
      have HF : Hid (RowF lnE w1.heap.size G wr u9 (xs.filter p)) := by
        have := HK.out.1
        rwa [List.take_of_length_le (by have := HL.out; omega)] at this
      clear hg hk
      go_wp2_with fail
      exact bodyPost_ret (v := u9) (by simp [results, Try.results23, go_sem]) rfl ⟨_, rfl, HF.out.base R1.out.2.size, R1.out.2.trans (HK.out.2.mono R1.out.2.size)⟩
end Go.Proofs.Ytjgfklbhagcbaaa

/- The document's Find. -/
namespace Go.Proofs.Ytjgfklbhagcbaaa
open Go.RowKit
set_option linter.unusedVariables false
set_option linter.unusedSimpArgs false

def findR (tabs : List LnV) (K : List Int) (n : Nat) : List LnV := (List.range n).flatMap fun (l : Nat) => (atL tabs (l : Int)).filter (meetB K K)
theorem findR_succ (tabs : List LnV) (K : List Int) (n : Nat) : findR tabs K (n + 1) = findR tabs K n ++ (atL tabs n).filter (meetB K K) := by
  unfold findR
  rw [List.range_succ, List.flatMap_append]
  simp
theorem atL_le (tabs : List LnV) (l : Int) : (atL tabs l).length ≤ tabs.length := List.length_filter_le _ _
theorem findR_le (tabs : List LnV) (K : List Int) : ∀ n, (findR tabs K n).length ≤ n * tabs.length
  | 0 => by simp [findR]
  | n + 1 => by
    rw [findR_succ, List.length_append, Nat.add_mul]
    have := findR_le tabs K n
    have := Nat.le_trans (List.length_filter_le (meetB K K) (atL tabs n)) (atL_le tabs n)
    omega
set_option maxHeartbeats 8000000 in
set_option maxRecDepth 100000 in
theorem rfind_t {w : World} {v : VrV} {ao : Option Addr} {cap : Nat} (hv : VrM w v ao cap) (hn : v.tabs.length ≤ 1000000) {ka : Option Addr} {kc : Nat} {K : List Int} (hK : Sl w ka K.length kc K) :
    Calls Try.prog 25 #[vrV v ao cap, .slice ka K.length kc] w fun e w' => ∃ u, e = .returned u ∧ RowS lnE w.heap.size w' u (findR v.tabs K 4) ∧ Below w.heap.size w w' := by
  obtain ⟨W, hW⟩ : ∃ W, W = w.alloc (.cells #[.int .i64 v.log, .int .i64 v.next, .int .i64 v.seq, .slice ao v.tabs.length cap] 24) := ⟨_, rfl⟩
  have hWb : Below w.heap.size w W := by rw [hW]; exact (Below.refl _ w).alloc (Nat.le_refl _) _
  have hbx := fun (wx : World) hb => box4 w (.int .i64 v.log) (.int .i64 v.next) (.int .i64 v.seq) (.slice ao v.tabs.length cap) 24 (wx := wx) hb
  rw [← hW] at hbx
  have HOV : Hid (∀ wx (k : Nat), Below W.heap.size W wx → Calls Try.prog 23 #[.agg #[.int .i64 v.log, .int .i64 v.next, .int .i64 v.seq, .slice ao v.tabs.length cap], .int .i64 (k : Int), .slice ka K.length kc, .slice ka K.length kc] wx fun e w' => ∃ a1 n1 c1, e = .returned (.slice a1 n1 c1) ∧ n1 ≤ 1000000 ∧ RSG lnE (fun b => b < w.heap.size) w' a1 n1 c1 ((atL v.tabs k).filter (meetB K K)) ∧ Below wx.heap.size wx w') := fun wx k hb => by
    have q := hWb.trans (hb.mono hWb.size)
    refine (rover_t (G := fun b => b < w.heap.size) ((RSG.any hv.tabs).later q) (fun b hb => Nat.lt_of_lt_of_le hb q.size) hn k (hK.later q) (hK.later q)).mono ?_
    rintro e w' ⟨u, rfl, hr, hb2⟩
    obtain ⟨a1, c1, rfl, hr1⟩ := hr.rsg
    exact ⟨a1, _, c1, rfl, Nat.le_trans (Nat.le_trans (List.length_filter_le _ _) (atL_le _ _)) hn, hr1, hb2⟩
  have HLE : Hid (∀ k, k ≤ 4 → (findR v.tabs K k).length ≤ 4000000) := fun k hk => by
    have := findR_le v.tabs K k
    have := Nat.mul_le_mul hk hn
    omega
  have HSU := hidS (findR_succ v.tabs K)
  have HG : Hid (∀ b, b < w.heap.size → b < W.heap.size) := fun b hb => Nat.lt_of_lt_of_le hb hWb.size
  have HWB := hidS hWb
  have HBX := hidS hbx
  unfold vrV
  generalize v.tabs.length = tn at HOV HBX hW ⊢
  generalize v.log = lg0 at HOV HBX hW ⊢
  generalize v.next = nx0 at HOV HBX hW ⊢
  generalize v.seq = sq0 at HOV HBX hW ⊢
  have HW := hidS hW
  generalize K.length = LK at HOV ⊢
  clear hv hn hK hbx hWb hW
  go_enter Try.func25, Try.ntmps25
  go_wp2_with fail
  rw [← HW.out]
  go_loopg [5, 7] 4 (fun kx s5 s7 wr => ∃ k : Nat, s7 = .int .i64 k ∧ k + kx = 4 ∧ Hid (RowF lnE W.heap.size (fun b => b < w.heap.size) wr s5 (findR v.tabs K k) ∧ Below W.heap.size W wr))
  case atStart => exact ⟨0, rfl, rfl, RowF.nil _ _ _, Below.refl _ _⟩
  case round =>
    obtain ⟨k, rfl, hg, HK⟩ := hrel
    by_cases hk : k < 4
    · have hk' : (k : Int) < 4 := by omega
      have HR := hidS (And.intro hg hk)
      have hk62 : k ≤ 2 ^ 60 := by omega
      obtain ⟨x0, x1, x2, x3⟩ := HBX.out _ HK.out.2
      clear hg hk
      go_wp2_with (first | (go_at_call 23; refine (HOV.out _ k HK.out.2).mono ?_; rintro e w2 ⟨a1, n1, c1, rfl, hn1, r2, b2⟩; have R2 := hidS (And.intro r2 (And.intro (HK.out.2.trans (b2.mono HK.out.2.size)) (And.intro (HK.out.1.later b2) hn1))); clear r2 b2 hn1 x0 x1 x2 x3) | (at_builtin; refine wpList_appG lnE (t := 22) (z := .agg #[.int .i64 0, .int .i64 0, .int .i64 0, .slice none 0 0, .slice none 0 0]) (bytes := 72) (B := W.heap.size) Try.underlying22 lnE_info rfl (by decide) rfl (.tmp 10) (.tmp 15) rfl rfl R2.out.2.2.1 rfl R2.out.1 HG.out (by have := HLE.out k (by have := HR.out; omega); have := R2.out.2.2.2; omega) (by have := HLE.out k (by have := HR.out; omega); have := R2.out.2.2.2; omega) R2.out.2.1.size ?_; intro v9 w9 r9 g9))
      go_roundg (4 - (k + 1))
      case measure => have := HR.out; omega
      case rel => exact ⟨k + 1, by go_num, by have := HR.out; omega, by rw [HSU.out]; exact r9, R2.out.2.1.trans g9⟩
    · have hk' : ¬ (k : Int) < 4 := by omega
      obtain rfl : k = 4 := by omega
      clear hg hk
      go_wp2_with fail
      exact bodyPost_ret (v := u5) (by simp [results, Try.results25, go_sem]) rfl ⟨_, rfl, HK.out.1.s.base HWB.out.size, HWB.out.trans (HK.out.2.mono HWB.out.size)⟩
end Go.Proofs.Ytjgfklbhagcbaaa

/- A version in a box of its own. -/
namespace Go.Proofs.Ytjgfklbhagcbaaa
open Go.RowKit
set_option linter.unusedVariables false
set_option linter.unusedSimpArgs false

/-- The world behind a store of four cells. -/
def s4 (w : World) (P : Nat) (v0 v1 v2 v3 : Value) : World := (((w.setCell ⟨P, 0, none⟩ v0).setCell ⟨P, 1, none⟩ v1).setCell ⟨P, 2, none⟩ v2).setCell ⟨P, 3, none⟩ v3
theorem s4_size (w : World) (P : Nat) (v0 v1 v2 v3 : Value) : (s4 w P v0 v1 v2 v3).heap.size = w.heap.size := by simp [s4, World.setCell]
theorem s4_heap (w : World) {P b : Nat} (v0 v1 v2 v3 : Value) (h : b ≠ P) : (s4 w P v0 v1 v2 v3).heap[b]? = w.heap[b]? := by
  unfold s4
  rw [Below.heap_setCell _ ⟨P, 3, none⟩ _ _ h, Below.heap_setCell _ ⟨P, 2, none⟩ _ _ h, Below.heap_setCell _ ⟨P, 1, none⟩ _ _ h, Below.heap_setCell _ ⟨P, 0, none⟩ _ _ h]
theorem s4_blk {w : World} {P : Nat} {c0 c1 c2 c3 : Value} {t : TypeId} (h : w.heap[P]? = some (.cells #[c0, c1, c2, c3] t (0, 0))) (v0 v1 v2 v3 : Value) : (s4 w P v0 v1 v2 v3).heap[P]? = some (.cells #[v0, v1, v2, v3] t (0, 0)) := by
  unfold s4
  rw [heap_set (heap_set (heap_set (heap_set h 0 v0) 1 v1) 2 v2) 3 v3]; rfl
/-- A version's rows stay where another version's box alone is changed. -/
theorem vr_other {w w' : World} {R : VrV} {a : Option Addr} {c P : Nat} {x0 x1 x2 : Int} {a2 : Option Addr} {n2 c2 : Nat} {t : TypeId} (h : VrM w R a c) (hk : w.heap[P]? = some (.cells #[.int .i64 x0, .int .i64 x1, .int .i64 x2, .slice a2 n2 c2] t (0, 0))) (hh : ∀ b, b ≠ P → w'.heap[b]? = w.heap[b]?) : VrM w' R a c := by
  obtain ⟨h1, h2, h3, h4⟩ := h
  refine ⟨h1, h2, h3, ?_⟩
  generalize R.tabs = l at h4 ⊢
  cases l with
  | nil =>
    obtain ⟨us, q1, q2, q3, q4, q5, q6⟩ := h4
    obtain rfl : us = [] := q5
    exact ⟨[], q1, q2, q3, q4, rfl, fun j u hu => by simp at hu⟩
  | cons x l =>
    refine rs_other hk no_u8 (fun b _ hne => hh b hne) h4 fun b off e z => ?_
    obtain ⟨b', off', la, lc, ma, mc, e', -, -, -, -, r4, -⟩ := RS.ln h4 (i := 0) (o := x) rfl
    rw [e] at e'
    simp only [Option.some.injEq, Addr.mk.injEq, and_true] at e'
    obtain ⟨rfl, rfl⟩ := e'
    subst z
    rw [cell_of hk] at r4
    have hs : (#[Value.int .i64 x0, .int .i64 x1, .int .i64 x2, .slice a2 n2 c2] : Array Value)[off + 0 * 5 + 4]? = none := by
      rw [Array.getElem?_eq_none]
      simp
    rw [hs] at r4
    cases r4
def BoxV (P : Nat) (R : VrV) (a : Option Addr) (c : Nat) (wx : World) : Prop := wx.heap[P]? = some (.cells #[.int .i64 R.log, .int .i64 R.next, .int .i64 R.seq, .slice a R.tabs.length c] 24 (0, 0)) ∧ VrM wx R a c
theorem BoxV.lt {P : Nat} {R : VrV} {a : Option Addr} {c : Nat} {wx : World} (h : BoxV P R a c wx) : P < wx.heap.size := (Array.getElem?_eq_some_iff.1 h.1).1
theorem BoxV.later {P : Nat} {R : VrV} {a : Option Addr} {c : Nat} {wx wy : World} (h : BoxV P R a c wx) (hb : Below wx.heap.size wx wy) : BoxV P R a c wy := ⟨(hb.block P h.lt).trans h.1, h.2.later hb⟩
theorem BoxV.cells {P : Nat} {R : VrV} {a : Option Addr} {c : Nat} {wx : World} (h : BoxV P R a c wx) :
    (wx.cell? ⟨P, 0, none⟩ = some (.int .i64 R.log) ∧ wx.cell? ⟨P, 1, none⟩ = some (.int .i64 R.next) ∧ wx.cell? ⟨P, 2, none⟩ = some (.int .i64 R.seq) ∧ wx.cell? ⟨P, 3, none⟩ = some (.slice a R.tabs.length c)) ∧ wx.frozen? ⟨P, 0, none⟩ = false ∧ wx.frozen? ⟨P, 1, none⟩ = false ∧ wx.frozen? ⟨P, 2, none⟩ = false ∧ wx.frozen? ⟨P, 3, none⟩ = false := by
  have q := fun i z hz => blk_cells (wx := wx) h.1 h.lt (Below.refl _ _) i z hz
  exact ⟨⟨(q 0 _ rfl).1, (q 1 _ rfl).1, (q 2 _ rfl).1, (q 3 _ rfl).1⟩, (q 0 _ rfl).2, (q 1 _ rfl).2, (q 2 _ rfl).2, (q 3 _ rfl).2⟩
theorem BoxV.set {P : Nat} {R R' : VrV} {a a' : Option Addr} {c c' : Nat} {wx : World} (h : BoxV P R a c wx) (hm : VrM wx R' a' c') : BoxV P R' a' c' (s4 wx P (.int .i64 R'.log) (.int .i64 R'.next) (.int .i64 R'.seq) (.slice a' R'.tabs.length c')) :=
  ⟨s4_blk h.1 _ _ _ _, vr_other hm h.1 fun b hb => s4_heap _ _ _ _ _ hb⟩
theorem BoxV.other {P P2 : Nat} {R R2 : VrV} {a a2 : Option Addr} {c c2 : Nat} {wx : World} (h : BoxV P R a c wx) (h2 : BoxV P2 R2 a2 c2 wx) (hne : P ≠ P2) (v0 v1 v2 v3 : Value) : BoxV P R a c (s4 wx P2 v0 v1 v2 v3) :=
  ⟨(s4_heap _ _ _ _ _ hne).trans h.1, vr_other h.2 h2.1 fun b hb => s4_heap _ _ _ _ _ hb⟩
theorem vr_s4 {P2 : Nat} {R R2 : VrV} {a a2 : Option Addr} {c c2 : Nat} {wx : World} (h : VrM wx R a c) (h2 : BoxV P2 R2 a2 c2 wx) (v0 v1 v2 v3 : Value) : VrM (s4 wx P2 v0 v1 v2 v3) R a c := vr_other h h2.1 fun b hb => s4_heap _ _ _ _ _ hb
theorem s4_below {B P : Nat} {a w : World} (h : Below B a w) (hP : B ≤ P) (hs : B ≤ a.heap.size) (v0 v1 v2 v3 : Value) : Below B a (s4 w P v0 v1 v2 v3) := below_set4 h hP hs v0 v1 v2 v3
theorem box_new (w : World) {R : VrV} {a : Option Addr} {c : Nat} (h : VrM w R a c) : BoxV w.heap.size R a c (w.alloc (.cells #[.int .i64 R.log, .int .i64 R.next, .int .i64 R.seq, .slice a R.tabs.length c] 24)) := ⟨heap_alloc_new w _, h.later ((Below.refl _ _).alloc (Nat.le_refl _) _)⟩
theorem noVr_m (w : World) : VrM w noVr none 0 := ⟨by unfold In64 noVr; simp, by unfold In64 noVr; simp, by unfold In64 noVr; simp, RS.nil _⟩
/-- The version that edits make, each as far as it is taken. -/
def stepV (v : VrV) (e : EdV) : VrV := if apE v e = 0 then apV v e else v
theorem stepV_may {v : VrV} (h : mayVr v = true) (e : EdV) : mayVr (stepV v e) = true := by
  unfold stepV
  by_cases q : apE v e = 0
  · rw [if_pos q]
    unfold apV
    rw [if_pos q]
    unfold apE at q
    split at q
    · split at q
      · omega
      · split at q
        · omega
        · split at q
          · omega
          · split at q
            · omega
            · split at q
              · assumption
              · omega
    · omega
  · rw [if_neg q]; exact h
end Go.Proofs.Ytjgfklbhagcbaaa
