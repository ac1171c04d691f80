/- The document's own Get. -/
import Derived.Test.YtaefddnmldbgiaaDoorMlat
import Derived.Test.YtaefddnmldbgiaaDoorRrd
namespace Go.Proofs.YtaefddnmldbgiaaDoor
open Go.RowKit
set_option linter.unusedVariables false
set_option linter.unusedSimpArgs false

theorem cells_set5 {w : World} {p : Nat} {c0 c1 c2 c3 c4 : Value} {t : TypeId} (h : w.heap[p]? = some (.cells #[c0, c1, c2, c3, c4] t (0, 0))) (a b c d e : Value) :
    let wf := ((((w.setCell ⟨p, 0, none⟩ a).setCell ⟨p, 1, none⟩ b).setCell ⟨p, 2, none⟩ c).setCell ⟨p, 3, none⟩ d).setCell ⟨p, 4, none⟩ e
    wf.cell? ⟨p, 0, none⟩ = some a ∧ wf.cell? ⟨p, 1, none⟩ = some b ∧ wf.cell? ⟨p, 2, none⟩ = some c ∧ wf.cell? ⟨p, 3, none⟩ = some d ∧ wf.cell? ⟨p, 4, none⟩ = some e := by
  have hs := heap_set (heap_set (heap_set (heap_set (heap_set h 0 a) 1 b) 2 c) 3 d) 4 e
  refine ⟨?_, ?_, ?_, ?_, ?_⟩ <;> rw [cell_of hs] <;> rfl
theorem below_set5 {w wx : World} (h : Below w.heap.size w wx) (a b c d e : Value) : Below w.heap.size w (((((wx.setCell ⟨w.heap.size, 0, none⟩ a).setCell ⟨w.heap.size, 1, none⟩ b).setCell ⟨w.heap.size, 2, none⟩ c).setCell ⟨w.heap.size, 3, none⟩ d).setCell ⟨w.heap.size, 4, none⟩ e) :=
  Below.grown h (grown_trans (grown_trans (grown_trans (grown_trans (grown_set wx w.heap.size 0 a) (grown_set _ w.heap.size 1 b)) (grown_set _ w.heap.size 2 c)) (grown_set _ w.heap.size 3 d)) (grown_set _ w.heap.size 4 e)) h.size (fun k hk => by simp only [Option.some.injEq] at hk; omega)
set_option maxHeartbeats 4000000 in
set_option maxRecDepth 100000 in
theorem rgetE_any {w : World} {ao : Option Addr} {len cap : Nat} {l : List EntV} {fa : Option Addr} {fl fc : Nat} {key : List Int} {s : Int} (h : RS entE w ao len cap l) (hf : Sl w fa fl fc key) (hl : len ≤ 1000000) :
    Calls Tryd.prog 17 #[.slice ao len cap, .slice fa fl fc, .int .i64 s] w fun r w' => Below w.heap.size w w' ∧ ((getE l key s = none ∧ r = .returned (.tuple #[ent0, .bool false])) ∨ ∃ x ka kc va vc, getE l key s = some x ∧ r = .returned (.tuple #[entA ka kc va vc x, .bool true]) ∧ EntM w' [.slice ka x.key.length kc, .int .i64 x.seq, .bool x.gone, .int .i64 x.till, .slice va x.val.length vc] x) := by
  obtain ⟨W, hW⟩ : ∃ W, W = w.alloc (.cells #[.slice none 0 0, .int .i64 0, .bool false, .int .i64 0, .slice none 0 0] 28) := ⟨_, rfl⟩
  have b0 : Below w.heap.size w W := by rw [hW]; exact (Below.refl _ w).alloc (Nat.le_refl _) _
  have hWs : W.heap.size = w.heap.size + 1 := by rw [hW]; simp
  have hq : W.heap[w.heap.size]? = some (.cells #[.slice none 0 0, .int .i64 0, .bool false, .int .i64 0, .slice none 0 0] 28 (0, 0)) := by rw [hW]; exact heap_alloc_new w _
  have HQ : Hid (∀ wx, Below W.heap.size W wx → wx.heap[w.heap.size]? = some (.cells #[.slice none 0 0, .int .i64 0, .bool false, .int .i64 0, .slice none 0 0] 28 (0, 0))) := fun wx hb => (hb.block _ (by omega)).trans hq
  have HS : Hid (RS entE w ao len cap l ∧ Sl W fa fl fc key ∧ Below w.heap.size w W ∧ W.heap.size = w.heap.size + 1) := ⟨h, hf.later b0, b0, hWs⟩
  have hln : l.length = len := h.len.1
  have hl62 : len ≤ 2 ^ 61 := by omega
  have H0 : Hid (getE (l.take 0) key s = none ∧ Below W.heap.size W W) := ⟨rfl, Below.refl _ _⟩
  have HW := hid hW
  clear h hf hl b0 hq hWs hW
  go_enter Tryd.func17, Tryd.ntmps17
  go_wp2_with fail
  rw [← HW.out]
  go_loopg [9, 12] len (fun g _ i wr => ∃ k : Nat, k + g = len ∧ i = .int .i64 (k : Int) ∧ Hid (getE (l.take k) key s = none ∧ Below W.heap.size W wr))
  case atStart => exact ⟨0, by omega, rfl, H0⟩
  case round =>
    obtain ⟨k, hk, rfl, HK⟩ := hrel
    by_cases hkl : k < len
    · have hkl' : (k : Int) < (len : Int) := by omega
      have hkx : k < l.length := by omega
      have hox := List.getElem?_eq_getElem hkx
      have hno := getE_take HK.out.1 hkx
      have hys := getE_some HK.out.1 hkx
      obtain ⟨b, off, ka, kc, va, vc, rfl, e0, e1, e2, e3, e4, sk, sv, i1, i2⟩ := RS.ent HS.out.1 hox
      have bw : Below w.heap.size w wr := HS.out.2.2.1.trans (HK.out.2.mono HS.out.2.2.1.size)
      have d0 := cell_later bw e0
      have d1 := cell_later bw e1
      have d2 := cell_later bw e2
      have d3 := cell_later bw e3
      have d4 := cell_later bw e4
      clear e0 e1 e2 e3 e4
      generalize l[k] = o at d0 d1 d2 d3 d4 sk sv i1 i2 hno hys
      have hk62 : k ≤ 2 ^ 61 := by omega
      obtain ⟨GK, HG⟩ : ∃ g, Hid (g < gk ∧ k + 1 + g = len) := ⟨gk - 1, by omega, by omega⟩
      obtain ⟨W1, hW1⟩ : ∃ W1, W1 = wr.alloc (.cells #[.slice ka o.key.length kc, .int .i64 o.seq, .bool o.gone, .int .i64 o.till, .slice va o.val.length vc] 28) := ⟨_, rfl⟩
      have b1 : Below wr.heap.size wr W1 := by rw [hW1]; exact (Below.refl _ _).alloc (Nat.le_refl _) _
      have hbx : ∀ wx, Below W1.heap.size W1 wx → _ := fun wx hb => box_cells wr (.slice ka o.key.length kc) (.int .i64 o.seq) (.bool o.gone) (.int .i64 o.till) (.slice va o.val.length vc) 28 (wx := wx) (by rw [← hW1]; exact hb)
      have HBX := hid hbx
      have HB1 : Hid (Below W.heap.size W W1) := HK.out.2.trans (b1.mono HK.out.2.size)
      have hcc := rcmp_any ((sk.later bw).later b1) ((HS.out.2.1.later HK.out.2).later b1)
      have HEM : Hid (∀ wx, Below w.heap.size w wx → EntM wx [.slice ka o.key.length kc, .int .i64 o.seq, .bool o.gone, .int .i64 o.till, .slice va o.val.length vc] o) := fun wx hb => ⟨ka, kc, va, vc, rfl, sk.later hb, sv.later hb, i1, i2⟩
      have HLT : Hid (wr.heap.size ≤ W1.heap.size ∧ Below wr.heap.size wr W1 ∧ w.heap.size < wr.heap.size) := ⟨b1.size, b1, by have := HK.out.2.size; have := HS.out.2.2.2; omega⟩
      have HW1 := hid hW1
      have HNO := hid hno
      have HYS := hid hys
      generalize cmp o.key key = c at hcc HNO HYS
      obtain ⟨kl, hkl2⟩ : ∃ n, n = o.key.length := ⟨_, rfl⟩
      obtain ⟨ln, hln2⟩ : ∃ n, n = o.val.length := ⟨_, rfl⟩
      obtain ⟨seq, hsq⟩ : ∃ n, n = o.seq := ⟨_, rfl⟩
      obtain ⟨gone, hgn⟩ : ∃ n, n = o.gone := ⟨_, rfl⟩
      obtain ⟨till, htt⟩ : ∃ n, n = o.till := ⟨_, rfl⟩
      rw [← hkl2] at d0 HBX HW1 hcc
      rw [← hln2] at d4 HBX HW1
      rw [← hsq] at d1 HBX HW1 HNO HYS
      rw [← hgn] at d2 HBX HW1
      rw [← htt] at d3 HBX HW1
      have HEQ : Hid (kl = o.key.length ∧ ln = o.val.length ∧ seq = o.seq ∧ gone = o.gone ∧ till = o.till) := ⟨hkl2, hln2, hsq, hgn, htt⟩
      clear hkl2 hln2 hsq hgn htt sk sv i1 i2 hox hk hbx hW1 hno hys b1 bw
      go_upto_region 4 with fail
      rw [← HW1.out]
      obtain ⟨x0, x1, x2, x3, x4⟩ := HBX.out _ (Below.refl _ _)
      go_wp2_with fail
      refine hcc.mono ?_
      rintro e w2 ⟨rfl, b2⟩
      obtain ⟨y0, y1, y2, y3, y4⟩ := HBX.out _ b2
      have b3 : Below W.heap.size W w2 := HB1.out.trans (b2.mono HB1.out.size)
      clear x0 x1 x2 x3 x4 d0 d1 d2 d3 d4 hcc
      by_cases q1 : c = 0
      · by_cases q2 : seq ≤ s
        · have q1' : (c == 0) = true := by simpa using q1
          have q2' : decide (seq ≤ s) = true := by simpa using q2
          have hg := HQ.out _ b3
          have z0 : w2.cell? ⟨w.heap.size, 0, none⟩ = some (.slice none 0 0) := by rw [cell_of hg]; rfl
          have z1 : w2.cell? ⟨w.heap.size, 1, none⟩ = some (.int .i64 0) := by rw [cell_of hg]; rfl
          have z2 : w2.cell? ⟨w.heap.size, 2, none⟩ = some (.bool false) := by rw [cell_of hg]; rfl
          have z3 : w2.cell? ⟨w.heap.size, 3, none⟩ = some (.int .i64 0) := by rw [cell_of hg]; rfl
          have z4 : w2.cell? ⟨w.heap.size, 4, none⟩ = some (.slice none 0 0) := by rw [cell_of hg]; rfl
          have f0 := frozen_of hg 0
          have f1 := frozen_of hg 1
          have f2 := frozen_of hg 2
          have f3 := frozen_of hg 3
          have f4 := frozen_of hg 4
          have HGT := hid (HYS.out q1 q2)
          have HB3 := hid b3
          have HBF := hid (below_set5 (HS.out.2.2.1.trans (b3.mono HS.out.2.2.1.size)) (.slice ka kl kc) (.int .i64 seq) (.bool gone) (.int .i64 till) (.slice va ln vc))
          obtain ⟨o0, o1, o2, o3, o4⟩ := cells_set5 hg (.slice ka kl kc) (.int .i64 seq) (.bool gone) (.int .i64 till) (.slice va ln vc)
          have HO : Hid (_ ∧ _ ∧ _ ∧ _ ∧ _) := ⟨o0, o1, o2, o3, o4⟩
          clear q1 q2 HYS HNO hg b2 b3 o0 o1 o2 o3 o4
          go_wp2_with fail
          obtain ⟨o0, o1, o2, o3, o4⟩ := HO.out
          refine bodyPost_ret (v := .tuple #[.agg #[.slice ka kl kc, .int .i64 seq, .bool gone, .int .i64 till, .slice va ln vc], .bool true]) (by simp [results, Tryd.results17, go_sem, o0, o1, o2, o3, o4]) rfl ⟨HBF.out, .inr ⟨o, ka, kc, va, vc, HGT.out, ?_, HEM.out _ HBF.out⟩⟩
          obtain ⟨g1, g2, g3, g4, g5⟩ := HEQ.out
          unfold entA
          rw [g1, g2, g3, g4, g5]
        · have q1' : (c == 0) = true := by simpa using q1
          have q2' : decide (seq ≤ s) = false := by simpa using q2
          have HN : Hid (getE (l.take (k + 1)) key s = none) := by show _ = _; rw [HNO.out, if_neg (fun h => q2 h.2)]
          have HB3 := hid b3
          clear q1 q2 HYS HNO b2 b3
          go_wp2_with fail
          go_roundg GK
          case measure => exact HG.out.1
          case rel => exact ⟨k + 1, HG.out.2, by go_num, HN.out, HB3.out⟩
      · have q1' : (c == 0) = false := by simpa using q1
        have HN : Hid (getE (l.take (k + 1)) key s = none) := by show _ = _; rw [HNO.out, if_neg (fun h => q1 h.1)]
        have HB3 := hid b3
        clear q1 HYS HNO b2 b3
        go_wp2_with fail
        go_roundg GK
        case measure => exact HG.out.1
        case rel => exact ⟨k + 1, HG.out.2, by go_num, HN.out, HB3.out⟩
    · have hkl' : (len : Int) ≤ (k : Int) := by omega
      have HE : Hid (getE l key s = none) := by
        have := HK.out.1
        rw [List.take_of_length_le (by omega)] at this
        exact this
      have hg := HQ.out _ HK.out.2
      have z0 : wr.cell? ⟨w.heap.size, 0, none⟩ = some (.slice none 0 0) := by rw [cell_of hg]; rfl
      have z1 : wr.cell? ⟨w.heap.size, 1, none⟩ = some (.int .i64 0) := by rw [cell_of hg]; rfl
      have z2 : wr.cell? ⟨w.heap.size, 2, none⟩ = some (.bool false) := by rw [cell_of hg]; rfl
      have z3 : wr.cell? ⟨w.heap.size, 3, none⟩ = some (.int .i64 0) := by rw [cell_of hg]; rfl
      have z4 : wr.cell? ⟨w.heap.size, 4, none⟩ = some (.slice none 0 0) := by rw [cell_of hg]; rfl
      have f0 := frozen_of hg 0
      have f1 := frozen_of hg 1
      have f2 := frozen_of hg 2
      have f3 := frozen_of hg 3
      have f4 := frozen_of hg 4
      have HBF := hid (below_set5 (HS.out.2.2.1.trans (HK.out.2.mono HS.out.2.2.1.size)) (.slice none 0 0) (.int .i64 0) (.bool false) (.int .i64 0) (.slice none 0 0))
      obtain ⟨o0, o1, o2, o3, o4⟩ := cells_set5 hg (.slice none 0 0) (.int .i64 0) (.bool false) (.int .i64 0) (.slice none 0 0)
      have HO : Hid (_ ∧ _ ∧ _ ∧ _ ∧ _) := ⟨o0, o1, o2, o3, o4⟩
      clear hk hkl hg o0 o1 o2 o3 o4
      go_wp2_with fail
      obtain ⟨o0, o1, o2, o3, o4⟩ := HO.out
      exact bodyPost_ret (v := .tuple #[.agg #[.slice none 0 0, .int .i64 0, .bool false, .int .i64 0, .slice none 0 0], .bool false]) (by simp [results, Tryd.results17, go_sem, o0, o1, o2, o3, o4]) rfl ⟨HBF.out, .inl ⟨HE.out, rfl⟩⟩
end Go.Proofs.YtaefddnmldbgiaaDoor
