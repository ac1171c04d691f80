import Derived.Test.YtaefddnmldbgiaaDoorPk09
import Derived.Test.YtaefddnmldbgiaaDoorPk12
/- The document's own Get. -/
namespace Go.Proofs.YtaefddnmldbgiaaDoor
open Go.RowKit
set_option linter.unusedVariables false
set_option linter.unusedSimpArgs false

theorem cells_set5 {w : World} {p : Nat} {c0 c1 c2 c3 c4 : Value} {t : TypeId} (h : w.heap[p]? = some (.cells #[c0, c1, c2, c3, c4] t (0, 0))) (a b c d e : Value) :
    let wf := ((((w.setCell ⟨p, 0, none⟩ a).setCell ⟨p, 1, none⟩ b).setCell ⟨p, 2, none⟩ c).setCell ⟨p, 3, none⟩ d).setCell ⟨p, 4, none⟩ e
    wf.cell? ⟨p, 0, none⟩ = some a ∧ wf.cell? ⟨p, 1, none⟩ = some b ∧ wf.cell? ⟨p, 2, none⟩ = some c ∧ wf.cell? ⟨p, 3, none⟩ = some d ∧ wf.cell? ⟨p, 4, none⟩ = some e := by
  have hs := heap_set (heap_set (heap_set (heap_set (heap_set h 0 a) 1 b) 2 c) 3 d) 4 e
  refine ⟨?_, ?_, ?_, ?_, ?_⟩ <;> rw [cell_of hs] <;> rfl
theorem below_set5 {w wx : World} (h : Below w.heap.size w wx) (a b c d e : Value) : Below w.heap.size w (((((wx.setCell ⟨w.heap.size, 0, none⟩ a).setCell ⟨w.heap.size, 1, none⟩ b).setCell ⟨w.heap.size, 2, none⟩ c).setCell ⟨w.heap.size, 3, none⟩ d).setCell ⟨w.heap.size, 4, none⟩ e) :=
  Below.grown h (grown_trans (grown_trans (grown_trans (grown_trans (grown_set wx w.heap.size 0 a) (grown_set _ w.heap.size 1 b)) (grown_set _ w.heap.size 2 c)) (grown_set _ w.heap.size 3 d)) (grown_set _ w.heap.size 4 e)) h.size (fun k hk => by simp only [Option.some.injEq] at hk; omega)
set_option maxHeartbeats 4000000 in
set_option maxRecDepth 100000 in
theorem rgetE_any {w : World} {ao : Option Addr} {len cap : Nat} {l : List EntV} {fa : Option Addr} {fl fc : Nat} {key : List Int} {s : Int} (h : RS entE w ao len cap l) (hf : Sl w fa fl fc key) (hl : len ≤ 1000000) :
    Calls Tryd.prog 17 #[.slice ao len cap, .slice fa fl fc, .int .i64 s] w fun r w' => Below w.heap.size w w' ∧ ((getE l key s = none ∧ r = .returned (.tuple #[ent0, .bool false])) ∨ ∃ x ka kc va vc, getE l key s = some x ∧ r = .returned (.tuple #[entA ka kc va vc x, .bool true]) ∧ EntM w' [.slice ka x.key.length kc, .int .i64 x.seq, .bool x.gone, .int .i64 x.till, .slice va x.val.length vc] x) := by
  obtain ⟨W, hW⟩ : ∃ W, W = w.alloc (.cells #[.slice none 0 0, .int .i64 0, .bool false, .int .i64 0, .slice none 0 0] 28) := ⟨_, rfl⟩
  have b0 : Below w.heap.size w W := by rw [hW]; exact (Below.refl _ w).alloc (Nat.le_refl _) _
  have hWs : W.heap.size = w.heap.size + 1 := by rw [hW]; simp
  have hq : W.heap[w.heap.size]? = some (.cells #[.slice none 0 0, .int .i64 0, .bool false, .int .i64 0, .slice none 0 0] 28 (0, 0)) := by rw [hW]; exact heap_alloc_new w _
  have HQ : Hid (∀ wx, Below W.heap.size W wx → wx.heap[w.heap.size]? = some (.cells #[.slice none 0 0, .int .i64 0, .bool false, .int .i64 0, .slice none 0 0] 28 (0, 0))) := fun wx hb => (hb.block _ (by omega)).trans hq
  have HS : Hid (RS entE w ao len cap l ∧ Sl W fa fl fc key ∧ Below w.heap.size w W ∧ W.heap.size = w.heap.size + 1) := ⟨h, hf.later b0, b0, hWs⟩
  have hln : l.length = len := h.len.1
  have hl62 : len ≤ 2 ^ 61 := by omega
  have H0 : Hid (getE (l.take 0) key s = none ∧ Below W.heap.size W W) := ⟨rfl, Below.refl _ _⟩
  have HW := hid hW
  clear h hf hl b0 hq hWs hW
  go_enter Tryd.func17, Tryd.ntmps17
  go_wp2_with fail
  rw [← HW.out]
  go_loopg [9, 12] len (fun g _ i wr => ∃ k : Nat, k + g = len ∧ i = .int .i64 (k : Int) ∧ Hid (getE (l.take k) key s = none ∧ Below W.heap.size W wr))
  case atStart => exact ⟨0, by omega, rfl, H0⟩
  case round =>
    obtain ⟨k, hk, rfl, HK⟩ := hrel
    by_cases hkl : k < len
    · have hkl' : (k : Int) < (len : Int) := by omega
      have hkx : k < l.length := by omega
      have hox := List.getElem?_eq_getElem hkx
      have hno := getE_take HK.out.1 hkx
      have hys := getE_some HK.out.1 hkx
      obtain ⟨b, off, ka, kc, va, vc, rfl, e0, e1, e2, e3, e4, sk, sv, i1, i2⟩ := RS.ent HS.out.1 hox
      have bw : Below w.heap.size w wr := HS.out.2.2.1.trans (HK.out.2.mono HS.out.2.2.1.size)
      have d0 := cell_later bw e0
      have d1 := cell_later bw e1
      have d2 := cell_later bw e2
      have d3 := cell_later bw e3
      have d4 := cell_later bw e4
      clear e0 e1 e2 e3 e4
      generalize l[k] = o at d0 d1 d2 d3 d4 sk sv i1 i2 hno hys
      have hk62 : k ≤ 2 ^ 61 := by omega
      obtain ⟨GK, HG⟩ : ∃ g, Hid (g < gk ∧ k + 1 + g = len) := ⟨gk - 1, by omega, by omega⟩
      obtain ⟨W1, hW1⟩ : ∃ W1, W1 = wr.alloc (.cells #[.slice ka o.key.length kc, .int .i64 o.seq, .bool o.gone, .int .i64 o.till, .slice va o.val.length vc] 28) := ⟨_, rfl⟩
      have b1 : Below wr.heap.size wr W1 := by rw [hW1]; exact (Below.refl _ _).alloc (Nat.le_refl _) _
      have hbx : ∀ wx, Below W1.heap.size W1 wx → _ := fun wx hb => box_cells wr (.slice ka o.key.length kc) (.int .i64 o.seq) (.bool o.gone) (.int .i64 o.till) (.slice va o.val.length vc) 28 (wx := wx) (by rw [← hW1]; exact hb)
      have HBX := hid hbx
      have HB1 : Hid (Below W.heap.size W W1) := HK.out.2.trans (b1.mono HK.out.2.size)
      have hcc := rcmp_any ((sk.later bw).later b1) ((HS.out.2.1.later HK.out.2).later b1)
      have HEM : Hid (∀ wx, Below w.heap.size w wx → EntM wx [.slice ka o.key.length kc, .int .i64 o.seq, .bool o.gone, .int .i64 o.till, .slice va o.val.length vc] o) := fun wx hb => ⟨ka, kc, va, vc, rfl, sk.later hb, sv.later hb, i1, i2⟩
      have HLT : Hid (wr.heap.size ≤ W1.heap.size ∧ Below wr.heap.size wr W1 ∧ w.heap.size < wr.heap.size) := ⟨b1.size, b1, by have := HK.out.2.size; have := HS.out.2.2.2; omega⟩
      have HW1 := hid hW1
      have HNO := hid hno
      have HYS := hid hys
      generalize cmp o.key key = c at hcc HNO HYS
      obtain ⟨kl, hkl2⟩ : ∃ n, n = o.key.length := ⟨_, rfl⟩
      obtain ⟨ln, hln2⟩ : ∃ n, n = o.val.length := ⟨_, rfl⟩
      obtain ⟨seq, hsq⟩ : ∃ n, n = o.seq := ⟨_, rfl⟩
      obtain ⟨gone, hgn⟩ : ∃ n, n = o.gone := ⟨_, rfl⟩
      obtain ⟨till, htt⟩ : ∃ n, n = o.till := ⟨_, rfl⟩
      rw [← hkl2] at d0 HBX HW1 hcc
      rw [← hln2] at d4 HBX HW1
      rw [← hsq] at d1 HBX HW1 HNO HYS
      rw [← hgn] at d2 HBX HW1
      rw [← htt] at d3 HBX HW1
      have HEQ : Hid (kl = o.key.length ∧ ln = o.val.length ∧ seq = o.seq ∧ gone = o.gone ∧ till = o.till) := ⟨hkl2, hln2, hsq, hgn, htt⟩
      clear hkl2 hln2 hsq hgn htt sk sv i1 i2 hox hk hbx hW1 hno hys b1 bw
      go_upto_region 4 with fail
      rw [← HW1.out]
      obtain ⟨x0, x1, x2, x3, x4⟩ := HBX.out _ (Below.refl _ _)
      go_wp2_with fail
      refine hcc.mono ?_
      rintro e w2 ⟨rfl, b2⟩
      obtain ⟨y0, y1, y2, y3, y4⟩ := HBX.out _ b2
      have b3 : Below W.heap.size W w2 := HB1.out.trans (b2.mono HB1.out.size)
      clear x0 x1 x2 x3 x4 d0 d1 d2 d3 d4 hcc
      by_cases q1 : c = 0
      · by_cases q2 : seq ≤ s
        · have q1' : (c == 0) = true := by simpa using q1
          have q2' : decide (seq ≤ s) = true := by simpa using q2
          have hg := HQ.out _ b3
          have z0 : w2.cell? ⟨w.heap.size, 0, none⟩ = some (.slice none 0 0) := by rw [cell_of hg]; rfl
          have z1 : w2.cell? ⟨w.heap.size, 1, none⟩ = some (.int .i64 0) := by rw [cell_of hg]; rfl
          have z2 : w2.cell? ⟨w.heap.size, 2, none⟩ = some (.bool false) := by rw [cell_of hg]; rfl
          have z3 : w2.cell? ⟨w.heap.size, 3, none⟩ = some (.int .i64 0) := by rw [cell_of hg]; rfl
          have z4 : w2.cell? ⟨w.heap.size, 4, none⟩ = some (.slice none 0 0) := by rw [cell_of hg]; rfl
          have f0 := frozen_of hg 0
          have f1 := frozen_of hg 1
          have f2 := frozen_of hg 2
          have f3 := frozen_of hg 3
          have f4 := frozen_of hg 4
          have HGT := hid (HYS.out q1 q2)
          have HB3 := hid b3
          have HBF := hid (below_set5 (HS.out.2.2.1.trans (b3.mono HS.out.2.2.1.size)) (.slice ka kl kc) (.int .i64 seq) (.bool gone) (.int .i64 till) (.slice va ln vc))
          obtain ⟨o0, o1, o2, o3, o4⟩ := cells_set5 hg (.slice ka kl kc) (.int .i64 seq) (.bool gone) (.int .i64 till) (.slice va ln vc)
          have HO : Hid (_ ∧ _ ∧ _ ∧ _ ∧ _) := ⟨o0, o1, o2, o3, o4⟩
          clear q1 q2 HYS HNO hg b2 b3 o0 o1 o2 o3 o4
          go_wp2_with fail
          obtain ⟨o0, o1, o2, o3, o4⟩ := HO.out
          refine bodyPost_ret (v := .tuple #[.agg #[.slice ka kl kc, .int .i64 seq, .bool gone, .int .i64 till, .slice va ln vc], .bool true]) (by simp [results, Tryd.results17, go_sem, o0, o1, o2, o3, o4]) rfl ⟨HBF.out, .inr ⟨o, ka, kc, va, vc, HGT.out, ?_, HEM.out _ HBF.out⟩⟩
          obtain ⟨g1, g2, g3, g4, g5⟩ := HEQ.out
          unfold entA
          rw [g1, g2, g3, g4, g5]
        · have q1' : (c == 0) = true := by simpa using q1
          have q2' : decide (seq ≤ s) = false := by simpa using q2
          have HN : Hid (getE (l.take (k + 1)) key s = none) := by show _ = _; rw [HNO.out, if_neg (fun h => q2 h.2)]
          have HB3 := hid b3
          clear q1 q2 HYS HNO b2 b3
          go_wp2_with fail
          go_roundg GK
          case measure => exact HG.out.1
          case rel => exact ⟨k + 1, HG.out.2, by go_num, HN.out, HB3.out⟩
      · have q1' : (c == 0) = false := by simpa using q1
        have HN : Hid (getE (l.take (k + 1)) key s = none) := by show _ = _; rw [HNO.out, if_neg (fun h => q1 h.1)]
        have HB3 := hid b3
        clear q1 HYS HNO b2 b3
        go_wp2_with fail
        go_roundg GK
        case measure => exact HG.out.1
        case rel => exact ⟨k + 1, HG.out.2, by go_num, HN.out, HB3.out⟩
    · have hkl' : (len : Int) ≤ (k : Int) := by omega
      have HE : Hid (getE l key s = none) := by
        have := HK.out.1
        rw [List.take_of_length_le (by omega)] at this
        exact this
      have hg := HQ.out _ HK.out.2
      have z0 : wr.cell? ⟨w.heap.size, 0, none⟩ = some (.slice none 0 0) := by rw [cell_of hg]; rfl
      have z1 : wr.cell? ⟨w.heap.size, 1, none⟩ = some (.int .i64 0) := by rw [cell_of hg]; rfl
      have z2 : wr.cell? ⟨w.heap.size, 2, none⟩ = some (.bool false) := by rw [cell_of hg]; rfl
      have z3 : wr.cell? ⟨w.heap.size, 3, none⟩ = some (.int .i64 0) := by rw [cell_of hg]; rfl
      have z4 : wr.cell? ⟨w.heap.size, 4, none⟩ = some (.slice none 0 0) := by rw [cell_of hg]; rfl
      have f0 := frozen_of hg 0
      have f1 := frozen_of hg 1
      have f2 := frozen_of hg 2
      have f3 := frozen_of hg 3
      have f4 := frozen_of hg 4
      have HBF := hid (below_set5 (HS.out.2.2.1.trans (HK.out.2.mono HS.out.2.2.1.size)) (.slice none 0 0) (.int .i64 0) (.bool false) (.int .i64 0) (.slice none 0 0))
      obtain ⟨o0, o1, o2, o3, o4⟩ := cells_set5 hg (.slice none 0 0) (.int .i64 0) (.bool false) (.int .i64 0) (.slice none 0 0)
      have HO : Hid (_ ∧ _ ∧ _ ∧ _ ∧ _) := ⟨o0, o1, o2, o3, o4⟩
      clear hk hkl hg o0 o1 o2 o3 o4
      go_wp2_with fail
      obtain ⟨o0, o1, o2, o3, o4⟩ := HO.out
      exact bodyPost_ret (v := .tuple #[.agg #[.slice none 0 0, .int .i64 0, .bool false, .int .i64 0, .slice none 0 0], .bool false]) (by simp [results, Tryd.results17, go_sem, o0, o1, o2, o3, o4]) rfl ⟨HBF.out, .inl ⟨HE.out, rfl⟩⟩
end Go.Proofs.YtaefddnmldbgiaaDoor

/- The document's own Ordered, of rows in order. -/
namespace Go.Proofs.YtaefddnmldbgiaaDoor
open Go.RowKit
set_option linter.unusedVariables false
set_option linter.unusedSimpArgs false

set_option maxHeartbeats 4000000 in
set_option maxRecDepth 100000 in
theorem rordE_any {w : World} {ao : Option Addr} {len cap : Nat} {l : List EntV} (h : RS entE w ao len cap l) (hl : len ≤ 1000000) (ho : ordE l) :
    Calls Tryd.prog 26 #[.slice ao len cap] w fun r w' => r = .returned (.bool true) ∧ Below w.heap.size w w' := by
  have HS : Hid (RS entE w ao len cap l ∧ ordE l ∧ len ≤ 1000000) := ⟨h, ho, hl⟩
  have hln : l.length = len := h.len.1
  have hl62 : len ≤ 2 ^ 61 := by omega
  clear h hl ho
  go_enter Tryd.func26, Tryd.ntmps26
  go_wp2_with fail
  go_loopg [3] len (fun g i wr => ∃ k : Nat, (k + g = len ∨ (k = 0 ∧ g = len)) ∧ i = .int .i64 ((k + 1 : Nat) : Int) ∧ Hid (Below w.heap.size w wr))
  case atStart => exact ⟨0, .inr ⟨rfl, rfl⟩, rfl, Below.refl _ _⟩
  case round =>
    obtain ⟨k, hk, rfl, HK⟩ := hrel
    by_cases hkl : k + 1 < len
    · have hkl' : (k : Int) + 1 < (len : Int) := by omega
      have hdl : decide ((k : Int) + 1 < (len : Int)) = true := by simpa using hkl'
      have hx1 : k < l.length := by omega
      have hx2 : k + 1 < l.length := by omega
      obtain ⟨b, off, ka, kc, va, vc, hab, d0, d1, d2, d3, d4, s1, s2, i1, i2⟩ := RS.ent (HS.out.1.later HK.out) (List.getElem?_eq_getElem hx1)
      obtain ⟨b', off', kb, kd, vb, vd, hab', e0, e1, e2, e3, e4, t1, t2, j1, j2⟩ := RS.ent (HS.out.1.later HK.out) (List.getElem?_eq_getElem hx2)
      rw [hab] at hab'
      simp only [Option.some.injEq, Addr.mk.injEq, and_true] at hab'
      obtain ⟨rfl, rfl⟩ := hab'
      subst hab
      have hah : ahead l[k] l[k + 1] < 0 := List.pairwise_iff_getElem.1 HS.out.2.1 _ _ hx1 hx2 (by omega)
      have hA := rahead_any (va := va) (vc := vc) (vb := vb) (vd := vd) (s1.drewN 1) (t1.drewN 1)
      unfold entA at hA
      generalize ahead l[k] l[k + 1] = c at hA hah
      generalize l[k] = o at d0 d1 d2 d3 d4 hA
      generalize l[k + 1] = o' at e0 e1 e2 e3 e4 hA
      generalize o.key.length = kl at d0 hA
      generalize o.val.length = ln at d4 hA
      generalize o.seq = seq at d1 hA
      generalize o.gone = gone at d2 hA
      generalize o.till = till at d3 hA
      generalize o'.key.length = kl2 at e0 hA
      generalize o'.val.length = ln2 at e4 hA
      generalize o'.seq = seq2 at e1 hA
      generalize o'.gone = gone2 at e2 hA
      generalize o'.till = till2 at e3 hA
      have hk62 : k ≤ 2 ^ 60 := by have := HS.out.2.2; omega
      have hwa : IntKind.i64.wrap ((k : Int) + 1 - 1) = (k : Int) := by rw [IntKind.wrap_i64]; omega
      have hwb : wrap64 ((k : Int) + 1 - 1) = (k : Int) := by unfold wrap64; omega
      have hwc : IntKind.i64.wrap (k : Int) = (k : Int) := by rw [IntKind.wrap_i64]; omega
      have hwd : wrap64 (k : Int) = (k : Int) := by unfold wrap64; omega
      have hkl0 : (k : Int) < (len : Int) := by omega
      have hkl3 : k < len := by omega
      have hge : decide (c ≥ 0) = false := by simp; omega
      have hge2 : decide (0 ≤ c) = false := by simp; omega
      obtain ⟨GK, HG⟩ : ∃ g, Hid (g < gk ∧ k + 1 + g = len) := ⟨len - (k + 1), by omega, by omega⟩
      have HKB : Hid (∀ wx, Below wr.drew.heap.size wr.drew wx → Below w.heap.size w wx) := fun wx hb => HK.out.drew.trans (hb.mono HK.out.drew.size)
      clear s1 s2 i1 i2 t1 t2 j1 j2 hk
      go_wp2_with fail
      go_region_held_law (fun w' => (w'.cell? ⟨b, off + k * 5, none⟩ = some (.slice ka kl kc) ∧ w'.cell? ⟨b, off + k * 5 + 1, none⟩ = some (.int .i64 seq) ∧ w'.cell? ⟨b, off + k * 5 + 2, none⟩ = some (.bool gone) ∧ w'.cell? ⟨b, off + k * 5 + 3, none⟩ = some (.int .i64 till) ∧ w'.cell? ⟨b, off + k * 5 + 4, none⟩ = some (.slice va ln vc)) ∧ (w'.cell? ⟨b, off + (k + 1) * 5, none⟩ = some (.slice kb kl2 kd) ∧ w'.cell? ⟨b, off + (k + 1) * 5 + 1, none⟩ = some (.int .i64 seq2) ∧ w'.cell? ⟨b, off + (k + 1) * 5 + 2, none⟩ = some (.bool gone2) ∧ w'.cell? ⟨b, off + (k + 1) * 5 + 3, none⟩ = some (.int .i64 till2) ∧ w'.cell? ⟨b, off + (k + 1) * 5 + 4, none⟩ = some (.slice vb ln2 vd))) (first | exact ⟨⟨d0, d1, d2, d3, d4⟩, ⟨e0, e1, e2, e3, e4⟩⟩ | exact ⟨⟨cell_later hb5 d0, cell_later hb5 d1, cell_later hb5 d2, cell_later hb5 d3, cell_later hb5 d4⟩, ⟨cell_later hb5 e0, cell_later hb5 e1, cell_later hb5 e2, cell_later hb5 e3, cell_later hb5 e4⟩⟩) (first | (go_at_call 41; refine hA.mono ?_; rintro e w5 ⟨rfl, hb5⟩))
      go_wp2_with fail
      go_roundg GK
      case measure => exact HG.out.1
      case rel => exact ⟨k + 1, .inl HG.out.2, by go_num, HKB.out _ hb5⟩
    · have hkl' : (len : Int) ≤ (k : Int) + 1 := by omega
      clear hk hkl
      go_wp2_with fail
      exact bodyPost_ret (v := .bool true) (by simp [results, Tryd.results26, go_sem]) rfl ⟨rfl, HK.out⟩
end Go.Proofs.YtaefddnmldbgiaaDoor

/- The law's own filling of a mem, of any mem. -/
namespace Go.Proofs.YtaefddnmldbgiaaDoor
open Go.RowKit
set_option linter.unusedVariables false
set_option linter.unusedSimpArgs false

theorem light9_any {w : World} {ka va : Option Addr} {kc vc : Nat} {e : EntV} : Calls Tryd.prog 25 #[entA ka kc va vc e] w fun r w' => r = .returned (.bool (decide (e.key.length ≤ 3000 ∧ e.val.length ≤ 3000))) ∧ Below w.heap.size w w' := by
  obtain ⟨key, seq, gone, till, vl⟩ := e
  unfold entA
  simp only
  generalize key.length = kl
  generalize vl.length = ln
  go_enter Tryd.func25, Tryd.ntmps25
  go_wp2_with fail
  all_goals
    go_ret
    refine ⟨congrArg (fun b => Ending.returned (.bool b)) ?_, (Below.refl _ w).alloc (Nat.le_refl _) _⟩
    rw [Bool.eq_iff_iff]
    simp
    try omega
theorem RowF.kept {α : Type} {E : El α} {B : Nat} {G F : Nat → Prop} {w w' : World} {v : Value} {xs : List α} (h : RowF E B G w v xs) (hk : Kept F w w') (h1 : ∀ g, v.ownBlock = some g → ¬ F g) (h2 : ∀ b, G b → ¬ F b) : RowF E B G w' v xs := by
  obtain ⟨us, hown, g2, g3, g4⟩ := h
  refine ⟨us, ⟨hown.1, ?_⟩, g2.keep fun u hu b hr => hk.block b (g2.lt u hu b hr) (h2 b (g4 u hu b hr)), g3, g4⟩
  rcases hown.2 with q | ⟨g, cap, cur, q1, q2, q3, q4⟩
  · exact .inl q
  · exact .inr ⟨g, cap, cur, q1, q2, by rw [hk.block g (Array.getElem?_eq_some_iff.1 q3).1 (h1 g (by rw [q1]; rfl))]; exact q3, q4⟩
/-- A mem and the document's own row, side by side. -/
def FillS (D : PM) (w : World) (p : Nat) (n : Nat) (wx : World) (v : Value) : Prop :=
  ∃ F L, D.R wx p L F ∧ ordE L ∧ okE L ∧ L.length ≤ n ∧ RowF entE w.heap.size (fun b => b < w.heap.size) wx v L ∧ (∀ g, v.ownBlock = some g → ¬ F g) ∧ (∀ k, F k → w.heap.size ≤ k) ∧ Below w.heap.size w wx

theorem FillS.later {D : PM} {w : World} {p n : Nat} {wx wy : World} {v : Value} (h : FillS D w p n wx v) (hb : Below wx.heap.size wx wy) : FillS D w p n wy v := by
  obtain ⟨F, L, a1, a2, a3, a4, a5, a6, a7, a8⟩ := h
  exact ⟨F, L, PM.later a1 hb, a2, a3, a4, a5.later hb, a6, a7, a8.trans (hb.mono a8.size)⟩
theorem addE_bad {l : List EntV} {e : EntV} (h : mayE e = false) : addE l e = (1, l) := by unfold addE; rw [if_pos h]
theorem addE_has {l : List EntV} {e : EntV} (h : mayE e = true) (h2 : hasE l e = true) : addE l e = (6, l) := by unfold addE; rw [if_neg (by rw [h]; decide), if_pos h2]
theorem addE_put {l : List EntV} {e : EntV} (h : mayE e = true) (h2 : hasE l e = false) : addE l e = (0, putE l e) := by unfold addE; rw [if_neg (by rw [h]; decide), if_neg (by rw [h2]; decide)]

set_option maxHeartbeats 8000000 in
set_option maxRecDepth 100000 in
theorem filled_any (D : PM) {w : World} {ao : Option Addr} {len cap : Nat} {l : List EntV} (hG : D.G w) (h : RS entE w ao len cap l) :
    Calls Tryd.prog 9 #[.slice ao len cap] w fun r w' => ∃ p v, r = .returned (.tuple #[pm p, v, .bool true]) ∧ FillS D w p 80 w' v := by
  have HGD : Hid (∀ wx, Below w.heap.size w wx → D.G wx) := fun wx hb => D.gk hG hb
  have HS : Hid (RSG entE (fun b => b < w.heap.size) w ao len cap l) := RSG.any h
  have hln : l.length = len := h.len.1
  have hl63 : len ≤ 2 ^ 63 - 1 := by have := h.len.2; unfold maxLen at this; omega
  have hnew := D.new hG
  clear hG HGD
  clear h
  go_enter Tryd.func9, Tryd.ntmps9
  go_wp2_with fail
  refine hnew.mono ?_
  rintro e w1 ⟨p, F0, rfl, r0, hF0, b0⟩
  have H0 : Hid (FillS D w p 0 w1 (.slice none 0 0)) := ⟨F0, [], r0, ord_nil, ok_nil, Nat.le_refl _, RowF.nil _ _ _, (fun g hg => by cases hg), hF0, b0⟩
  clear hnew r0 hF0 b0
  have HPN : Hid (∀ v wx, (∃ n, n ≤ 80 ∧ FillS D w p n wx v) → FillS D w p 80 wx v) := fun v wx ⟨n, hn, F, L, a1, a2, a3, a4, a5⟩ => ⟨F, L, a1, a2, a3, by omega, a5⟩
  go_upto_block 0 with fail
  go_cut [6, 7, 8, 9, 10, 11, 15] from 16 to 53 (fun v _ _ _ _ _ _ wx => Hid (FillS D w p 80 wx v))
  case first =>
    go_wp2_with fail
    go_loopg [6, 7, 8, 9, 10, 11, 15] len (fun g v _ _ _ _ _ i wr => ∃ k : Nat, k + g = len ∧ i = .int .i64 (k : Int) ∧ Hid (k ≤ 80 ∧ FillS D w p k wr v))
    case atStart => exact ⟨0, by omega, rfl, Nat.zero_le _, H0⟩
    case round =>
      obtain ⟨k, hk, rfl, HK⟩ := hrel
      by_cases hkl : k < len
      · have hkl' : (k : Int) < (len : Int) := by omega
        have hkx : k < l.length := by omega
        obtain ⟨F, L, r1, o1, ok1, n1, row1, own1, hF, bel⟩ := HK.out.2
        obtain ⟨b, off, ka, kc, va, vc, rfl, e0, e1, e2, e3, e4, hem, sk, heg⟩ := RSG.ent HS.out (List.getElem?_eq_getElem hkx)
        have d0 := cell_later bel e0
        have d1 := cell_later bel e1
        have d2 := cell_later bel e2
        have d3 := cell_later bel e3
        have d4 := cell_later bel e4
        clear e0 e1 e2 e3 e4
        generalize l[k] = o at d0 d1 d2 d3 d4 hem sk heg
        obtain ⟨ra, rc, hv6, hrsg⟩ := row1.rsg
        subst hv6
        have hk62 : k ≤ 2 ^ 61 := by have := HK.out.1; omega
        obtain ⟨GK, HG⟩ : ∃ g, Hid (g < gk ∧ k + 1 + g = len) := ⟨gk - 1, by omega, by omega⟩
        obtain ⟨W1, hW1⟩ : ∃ W1, W1 = wr.alloc (.cells #[.slice ka o.key.length kc, .int .i64 o.seq, .bool o.gone, .int .i64 o.till, .slice va o.val.length vc] 28) := ⟨_, rfl⟩
        have b1 : Below wr.heap.size wr W1 := by rw [hW1]; exact (Below.refl _ _).alloc (Nat.le_refl _) _
        have hbx : ∀ wx, Below W1.heap.size W1 wx → _ := fun wx hb => box_cells wr (.slice ka o.key.length kc) (.int .i64 o.seq) (.bool o.gone) (.int .i64 o.till) (.slice va o.val.length vc) 28 (wx := wx) (by rw [← hW1]; exact hb)
        have HBX := hid hbx
        have HBr : Hid (∀ wx, Below W1.heap.size W1 wx → Below wr.heap.size wr wx) := fun wx hb => b1.trans (hb.mono b1.size)
        have HBw : Hid (∀ wx, Below W1.heap.size W1 wx → Below w.heap.size w wx) := fun wx hb => bel.trans ((b1.trans (hb.mono b1.size)).mono bel.size)
        have HRW : Hid (∀ wx, Below wr.heap.size wr wx → Below w.heap.size w wx) := fun wx hb => bel.trans (hb.mono bel.size)
        have HLG := hid (light9_any (w := W1) (ka := ka) (kc := kc) (va := va) (vc := vc) (e := o))
        have HM1 : Hid (∀ wx, Calls Tryd.prog 27 #[entA ka kc va vc o] wx fun r w' => r = .returned (.bool (mayE o)) ∧ Below wx.heap.size wx w') := fun wx => rmayE_any
        have HM2 : Hid (∀ wx, Below w.heap.size w wx → Calls Tryd.prog 29 #[entA ka kc va vc o] wx fun r w' => r = .returned (.bool (mayE o)) ∧ Below wx.heap.size wx w') := fun wx hb => D.may (El.later (E := entE) hem hb)
        have HPUT : Hid (∀ wx, Below wr.heap.size wr wx → Calls Tryd.prog 28 #[.slice ra L.length rc, entA ka kc va vc o] wx fun r w' => Below wx.heap.size wx w' ∧ ((hasE L o = true ∧ r = .returned (.tuple #[.slice ra L.length rc, .bool false])) ∨ (hasE L o = false ∧ ∃ v, r = .returned (.tuple #[v, .bool true]) ∧ RowF entE wx.heap.size (fun b => b < w.heap.size) w' v (putE L o)))) := fun wx hb => rputE_any (hrsg.later hb) (El.later (E := entE) hem (HRW.out _ hb)) (fun b hb' => Nat.lt_of_lt_of_le hb' (HRW.out _ hb).size) heg (by have := HK.out.1; omega) o1
        have HADD : Hid (o.key.length ≤ 3000 → o.val.length ≤ 3000 → ∀ wx, Below wr.heap.size wr wx → Calls Tryd.prog 23 #[pm p, entA ka kc va vc o] wx fun r w' => r = .returned (.int .i64 ((addE L o).1 : Nat)) ∧ ∃ F', D.R w' p (addE L o).2 F' ∧ Kept F wx w' ∧ ∀ k, F' k → F k ∨ wx.heap.size ≤ k) := fun g1 g2 wx hb => D.add (PM.later r1 hb) o1 ok1 (by have := HK.out.1; omega) (El.later (E := entE) hem (HRW.out _ hb)) (fun u hu b hr hb' => by have := heg u hu b hr; have := hF b hb'; omega) g1 g2
        have HR0 : Hid (∀ k, F k → k < wr.heap.size) := D.lt r1
        have HST0 : Hid (ordE L ∧ okE L ∧ L.length ≤ k ∧ RowF entE w.heap.size (fun b => b < w.heap.size) wr (.slice ra L.length rc) L ∧ (∀ g, (Value.slice ra L.length rc).ownBlock = some g → ¬ F g) ∧ (∀ k, F k → w.heap.size ≤ k) ∧ Below w.heap.size w wr) := ⟨o1, ok1, n1, row1, own1, hF, bel⟩
        have HFS : Hid (∀ wx, Below wr.heap.size wr wx → FillS D w p k wx (.slice ra L.length rc)) := fun wx hb => HK.out.2.later hb
        have HK8 := hid HK.out.1
        have HW1 := hid hW1
        unfold entA at HLG HM1 HM2 HPUT HADD
        clear r1 o1 ok1 n1 row1 own1 hF hrsg hem sk heg hbx hW1 hk HK bel b1
        by_cases h80 : 80 ≤ k
        · have h80' : (80 : Int) ≤ (k : Int) := by omega
          go_upto_region 6 with fail
          rw [← HW1.out]
          clear h80
          go_wp2_with fail
          go_meet
          exact HPN.out _ _ ⟨k, HK8.out, HFS.out _ (HBr.out _ (Below.refl _ _))⟩
        · have h80' : ¬ (80 : Int) ≤ (k : Int) := by omega
          have HK1 : Hid (k + 1 ≤ 80) := by show _ ≤ _; omega
          clear h80
          go_upto_region 6 with fail
          rw [← HW1.out]
          obtain ⟨y0, y1, y2, y3, y4⟩ := HBX.out _ (Below.refl _ _)
          go_wp2_with fail
          refine HLG.out.mono ?_
          rintro e w2 ⟨rfl, b2⟩
          clear y0 y1 y2 y3 y4 d0 d1 d2 d3 d4
          by_cases hlg : o.key.length ≤ 3000 ∧ o.val.length ≤ 3000
          · have hlg' : decide (o.key.length ≤ 3000 ∧ o.val.length ≤ 3000) = true := by simpa using hlg
            rw [hlg']
            have HADD := hid (HADD.out hlg.1 hlg.2)
            clear hlg hlg'
            obtain ⟨y0, y1, y2, y3, y4⟩ := HBX.out _ b2
            go_wp2_with fail
            refine (HM1.out _).mono ?_
            rintro e w3 ⟨rfl, b3⟩
            have cW := b2.trans (b3.mono b2.size)
            clear y0 y1 y2 y3 y4
            have cR := HBr.out _ cW
            cases hmy : mayE o with
            | false =>
              have ea := addE_bad (l := L) hmy
              rw [ea] at HADD
              obtain ⟨x0, x1, x2, x3, x4⟩ := HBX.out _ cW
              go_wp2_with fail
              refine (HM2.out _ (HBw.out _ cW)).mono ?_
              rintro e w5 ⟨rfl, b5⟩
              have cW5 := cW.trans (b5.mono cW.size)
              have cr5 := cR.trans (b5.mono cR.size)
              clear x0 x1 x2 x3 x4
              obtain ⟨x0, x1, x2, x3, x4⟩ := HBX.out _ cW5
              rw [hmy]
              go_wp2_with fail
              refine (HADD.out _ cr5).mono ?_
              rintro e w6 ⟨rfl, F', r6, k6, f6⟩
              have HST : Hid (FillS D w p (k + 1) w6 (.slice ra L.length rc)) := ⟨F', L, r6, HST0.out.1, HST0.out.2.1, by have := HST0.out.2.2.1; omega, (HST0.out.2.2.2.1.later cr5).kept k6 HST0.out.2.2.2.2.1 (fun b hb hFb => by have := HST0.out.2.2.2.2.2.1 b hFb; omega), (fun g hg hFg => by
                rcases f6 g hFg with q | q
                · exact HST0.out.2.2.2.2.1 g hg q
                · have := (HST0.out.2.2.2.1.own_lt hg).2; have := cr5.size; omega), (fun j hj => by
                rcases f6 j hj with q | q
                · exact HST0.out.2.2.2.2.2.1 j q
                · have := cr5.size; have := HST0.out.2.2.2.2.2.2.size; omega), (HRW.out _ cr5).trans (k6.below (HRW.out _ cr5).size HST0.out.2.2.2.2.2.1)⟩
              clear x0 x1 x2 x3 x4
              go_wp2_with fail
              go_roundg GK
              case measure => exact HG.out.1
              case rel => exact ⟨k + 1, HG.out.2, by go_num, HK1.out, HST.out⟩
            | true =>
              obtain ⟨y0, y1, y2, y3, y4⟩ := HBX.out _ cW
              go_wp2_with fail
              refine (HPUT.out _ cR).mono ?_
              rintro e w4 ⟨b4, ⟨hhs, rfl⟩ | ⟨hhs, v', rfl, row'⟩⟩
              · have cW0 := cW
                have cR0 := cR
                clear y0 y1 y2 y3 y4
                replace cW := cW0.trans (b4.mono cW0.size)
                replace cR := cR0.trans (b4.mono cR0.size)
                have ea := addE_has hmy hhs
                rw [ea] at HADD
                obtain ⟨x0, x1, x2, x3, x4⟩ := HBX.out _ cW
                go_wp2_with fail
                refine (HM2.out _ (HBw.out _ cW)).mono ?_
                rintro e w5 ⟨rfl, b5⟩
                have cW5 := cW.trans (b5.mono cW.size)
                have cr5 := cR.trans (b5.mono cR.size)
                clear x0 x1 x2 x3 x4
                obtain ⟨x0, x1, x2, x3, x4⟩ := HBX.out _ cW5
                rw [hmy]
                go_wp2_with fail
                refine (HADD.out _ cr5).mono ?_
                rintro e w6 ⟨rfl, F', r6, k6, f6⟩
                have HST : Hid (FillS D w p (k + 1) w6 (.slice ra L.length rc)) := ⟨F', L, r6, HST0.out.1, HST0.out.2.1, by have := HST0.out.2.2.1; omega, (HST0.out.2.2.2.1.later cr5).kept k6 HST0.out.2.2.2.2.1 (fun b hb hFb => by have := HST0.out.2.2.2.2.2.1 b hFb; omega), (fun g hg hFg => by
                  rcases f6 g hFg with q | q
                  · exact HST0.out.2.2.2.2.1 g hg q
                  · have := (HST0.out.2.2.2.1.own_lt hg).2; have := cr5.size; omega), (fun j hj => by
                  rcases f6 j hj with q | q
                  · exact HST0.out.2.2.2.2.2.1 j q
                  · have := cr5.size; have := HST0.out.2.2.2.2.2.2.size; omega), (HRW.out _ cr5).trans (k6.below (HRW.out _ cr5).size HST0.out.2.2.2.2.2.1)⟩
                clear x0 x1 x2 x3 x4
                go_wp2_with fail
                go_roundg GK
                case measure => exact HG.out.1
                case rel => exact ⟨k + 1, HG.out.2, by go_num, HK1.out, HST.out⟩
              · have cW0 := cW
                have cR0 := cR
                clear y0 y1 y2 y3 y4
                replace cW := cW0.trans (b4.mono cW0.size)
                replace cR := cR0.trans (b4.mono cR0.size)
                have ea := addE_put hmy hhs
                rw [ea] at HADD
                have HROW := hid row'
                have HC0 := hid cR0.size
                obtain ⟨x0, x1, x2, x3, x4⟩ := HBX.out _ cW
                go_wp2_with fail
                refine (HM2.out _ (HBw.out _ cW)).mono ?_
                rintro e w5 ⟨rfl, b5⟩
                have cW5 := cW.trans (b5.mono cW.size)
                have cr5 := cR.trans (b5.mono cR.size)
                clear x0 x1 x2 x3 x4
                obtain ⟨x0, x1, x2, x3, x4⟩ := HBX.out _ cW5
                rw [hmy]
                go_wp2_with fail
                refine (HADD.out _ cr5).mono ?_
                rintro e w6 ⟨rfl, F', r6, k6, f6⟩
                have hown : ∀ g, v'.ownBlock = some g → wr.heap.size ≤ g ∧ g < w5.heap.size := fun g hg => by
                  have q1 := HROW.out.own_lt hg
                  have q2 := HC0.out
                  have q3 := b5.size
                  omega
                have HST : Hid (FillS D w p (k + 1) w6 v') := ⟨F', putE L o, r6, putE_ord HST0.out.1 hhs, by have := addE_ok HST0.out.2.1 o; rw [ea] at this; exact this, by rw [putE_len]; have := HST0.out.2.2.1; omega, ((HROW.out.later b5).base (Nat.le_trans HST0.out.2.2.2.2.2.2.size HC0.out)).kept k6 (fun g hg hFg => by have := hown g hg; have := HR0.out g hFg; omega) (fun b hb hFb => by have := HST0.out.2.2.2.2.2.1 b hFb; omega), (fun g hg hFg => by
                  have := hown g hg
                  rcases f6 g hFg with q | q
                  · have := HR0.out g q; omega
                  · omega), (fun j hj => by
                  rcases f6 j hj with q | q
                  · exact HST0.out.2.2.2.2.2.1 j q
                  · have := cr5.size; have := HST0.out.2.2.2.2.2.2.size; omega), (HRW.out _ cr5).trans (k6.below (HRW.out _ cr5).size HST0.out.2.2.2.2.2.1)⟩
                clear x0 x1 x2 x3 x4
                go_wp2_with fail
                go_roundg GK
                case measure => exact HG.out.1
                case rel => exact ⟨k + 1, HG.out.2, by go_num, HK1.out, HST.out⟩
          · have hlg' : decide (o.key.length ≤ 3000 ∧ o.val.length ≤ 3000) = false := by rw [decide_eq_false_iff_not]; exact hlg
            rw [hlg']
            clear hlg hlg'
            go_wp2_with fail
            go_meet
            exact HPN.out _ _ ⟨k, HK8.out, HFS.out _ (HBr.out _ b2)⟩
      · have hkl' : (len : Int) ≤ (k : Int) := by omega
        clear hk hkl
        go_wp2_with fail
        go_meet
        exact HPN.out _ _ ⟨k, HK.out.1, HK.out.2⟩
  case rest =>
    unfold pm
    go_wp2_with fail
    refine bodyPost_ret (v := .tuple #[pm p, u6, .bool true]) (by simp [results, Tryd.results9, go_sem, pm]) rfl ⟨p, u6, rfl, hcut⟩
end Go.Proofs.YtaefddnmldbgiaaDoor
