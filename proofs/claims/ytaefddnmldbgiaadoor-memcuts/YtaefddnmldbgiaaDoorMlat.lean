/- The document's own Latest, Get and Ordered. -/
import Derived.Test.YtaefddnmldbgiaaDoorMseen
namespace Go.Proofs.YtaefddnmldbgiaaDoor
open Go.RowKit
set_option linter.unusedVariables false
set_option linter.unusedSimpArgs false

def notGone (l : List EntV) : List EntV := l.filter fun e => !e.gone
theorem notGone_take {l : List EntV} {k : Nat} (h : k < l.length) : notGone (l.take (k + 1)) = notGone (l.take k) ++ (if l[k].gone then [] else [l[k]]) := by
  unfold notGone
  rw [List.take_add_one, List.getElem?_eq_getElem h, List.filter_append]
  simp only [Option.toList]
  congr 1
  cases hh : l[k].gone <;> simp [hh]
theorem notGone_len (l : List EntV) : (notGone l).length ≤ l.length := List.length_filter_le _ _
set_option maxHeartbeats 4000000 in
set_option maxRecDepth 100000 in
theorem rlatestE_any {w : World} {ao : Option Addr} {len cap : Nat} {l : List EntV} {G : Nat → Prop} {fa ta : Option Addr} {fl fc tl tc : Nat} {fr ub : List Int} {s : Int} (h : RSG entE G w ao len cap l) (hf : Sl w fa fl fc fr) (ht : Sl w ta tl tc ub) (hG : ∀ b, G b → b < w.heap.size) (hl : len ≤ 1000000) :
    Calls Tryd.prog 22 #[.slice ao len cap, .slice fa fl fc, .slice ta tl tc, .int .i64 s] w fun r w' => ∃ v, r = .returned v ∧ RowF entE w.heap.size G w' v (latestE l fr ub s) ∧ Below w.heap.size w w' := by
  have hls := rlistE_any h hf ht hG hl
  have hll := listE_len l fr ub
  have hln : l.length = len := h.rs.len.1
  have hsl := seenE_len (listE l fr ub) s
  have HSN : Hid (∀ {w1 : World} {a1 : Option Addr} {c1 : Nat}, Below w.heap.size w w1 → RSG entE G w1 a1 (listE l fr ub).length c1 (listE l fr ub) → Calls Tryd.prog 37 #[.slice a1 (listE l fr ub).length c1, .int .i64 s] w1 fun r w' => ∃ v, r = .returned v ∧ RowF entE w1.heap.size G w' v (seenE (listE l fr ub) s) ∧ Below w1.heap.size w1 w') := fun hb hr => rseenE_any hr (fun b hb' => Nat.lt_of_lt_of_le (hG b hb') hb.size) (by omega)
  have HGG := hid hG
  have HL0 : Hid ((seenE (listE l fr ub) s).length ≤ 1000000) := by show _ ≤ _; omega
  have e0 : latestE l fr ub s = notGone (seenE (listE l fr ub) s) := rfl
  rw [e0]
  generalize listE l fr ub = L1 at hls HSN HL0
  generalize seenE L1 s = L2 at HSN HL0 ⊢
  clear h hf ht hG hl hll hln hsl e0
  go_enter Tryd.func22, Tryd.ntmps22
  go_wp2_with fail
  refine hls.mono ?_
  rintro e w1 ⟨v1, rfl, r1, b1⟩
  obtain ⟨a1, c1, hv1, g1⟩ := r1.rsg
  subst hv1
  have hsn := HSN.out b1 g1
  clear hls
  go_wp2_with fail
  refine hsn.mono ?_
  rintro e w2 ⟨v2, rfl, r2, b2⟩
  obtain ⟨a2, c2, hv2, g2⟩ := r2.rsg
  subst hv2
  obtain ⟨len, hlen⟩ : ∃ n, n = L2.length := ⟨_, rfl⟩
  rw [← hlen] at g2 ⊢
  have HS := hid g2
  have hl62 : len ≤ 2 ^ 61 := by have := HL0.out; omega
  have H0 : Hid (RowF entE w2.heap.size G w2 (.slice none 0 0) (notGone (L2.take 0)) ∧ Below w2.heap.size w2 w2) := ⟨RowF.nil _ _ _, Below.refl _ _⟩
  have HB2 : Hid (Below w.heap.size w w2) := b1.trans (b2.mono b1.size)
  clear hsn r1 r2 b1 b2 g1 g2 HSN
  go_wp2_with fail
  go_loopg [9, 11, 19] len (fun g v _ i wr => ∃ k : Nat, k + g = len ∧ i = .int .i64 (k : Int) ∧ Hid (RowF entE w2.heap.size G wr v (notGone (L2.take k)) ∧ Below w2.heap.size w2 wr))
  case atStart => exact ⟨0, by omega, rfl, H0⟩
  case round =>
    obtain ⟨k, hk, rfl, HK⟩ := hrel
    by_cases hkl : k < len
    · have hkl' : (k : Int) < (len : Int) := by omega
      have hkx : k < L2.length := by omega
      have hox := List.getElem?_eq_getElem hkx
      have hlt := notGone_take hkx
      have hll := notGone_len (L2.take k)
      rw [List.length_take] at hll
      obtain ⟨b, off, ka, kc, va, vc, rfl, d0, d1, d2, d3, d4, hem, sk, heg⟩ := RSG.ent (HS.out.later HK.out.2) hox
      generalize L2[k] = o at d0 d1 d2 d3 d4 hem sk heg hlt
      have HEG := hid heg
      have HLN : Hid ((notGone (L2.take k)).length + 1 ≤ 2000000 ∧ ((notGone (L2.take k)).length + 1) * 72 ≤ 140737488355328) := by have := HL0.out; constructor <;> omega
      have HLT := hid hlt
      have hk62 : k ≤ 2 ^ 61 := by omega
      obtain ⟨GK, HG⟩ : ∃ g, Hid (g < gk ∧ k + 1 + g = len) := ⟨gk - 1, by omega, by omega⟩
      obtain ⟨W1, hW1⟩ : ∃ W1, W1 = wr.alloc (.cells #[.slice ka o.key.length kc, .int .i64 o.seq, .bool o.gone, .int .i64 o.till, .slice va o.val.length vc] 28) := ⟨_, rfl⟩
      have b1 : Below wr.heap.size wr W1 := by rw [hW1]; exact (Below.refl _ _).alloc (Nat.le_refl _) _
      have hbx := box_cells wr (.slice ka o.key.length kc) (.int .i64 o.seq) (.bool o.gone) (.int .i64 o.till) (.slice va o.val.length vc) 28 (wx := W1) (by rw [← hW1]; exact Below.refl _ _)
      have HBX := hid hbx
      have HR := hid (HK.out.1.later b1)
      have HEM := hid (El.later (E := entE) hem b1)
      have HBL : Hid (Below w2.heap.size w2 W1) := HK.out.2.trans (b1.mono HK.out.2.size)
      have HSZ : Hid (w2.heap.size ≤ W1.heap.size) := HBL.out.size
      have HW1 := hid hW1
      have HG2 : Hid (∀ b, G b → b < w2.heap.size) := fun b hb => Nat.lt_of_lt_of_le (HGG.out b hb) HB2.out.size
      obtain ⟨kl, hkl2⟩ : ∃ n, n = o.key.length := ⟨_, rfl⟩
      obtain ⟨ln, hln2⟩ : ∃ n, n = o.val.length := ⟨_, rfl⟩
      obtain ⟨seq, hsq⟩ : ∃ n, n = o.seq := ⟨_, rfl⟩
      obtain ⟨gone, hgn⟩ : ∃ n, n = o.gone := ⟨_, rfl⟩
      obtain ⟨till, htt⟩ : ∃ n, n = o.till := ⟨_, rfl⟩
      rw [← hkl2] at d0 HEM HEG HBX HW1
      rw [← hln2] at d4 HEM HEG HBX HW1
      rw [← hsq] at d1 HEM HEG HBX HW1
      rw [← hgn] at d2 HEM HEG HLT HBX HW1
      rw [← htt] at d3 HEM HEG HBX HW1
      clear hkl2 hln2 hsq hgn htt sk heg hlt hll hox b1 hk hem hbx hW1
      cases gone with
      | true =>
        go_upto_region 5 with fail
        rw [← HW1.out]
        obtain ⟨y0, y1, y2, y3, y4⟩ := HBX.out
        go_wp2_with fail
        go_roundg GK
        case measure => exact HG.out.1
        case rel => exact ⟨k + 1, HG.out.2, by go_num, by rw [HLT.out]; simpa using HR.out, HBL.out⟩
      | false =>
        go_upto_region 5 with fail
        rw [← HW1.out]
        obtain ⟨y0, y1, y2, y3, y4⟩ := HBX.out
        go_wp2_with (at_builtin; refine wpList_appG entE (t := 22) (z := .agg #[.slice none 0 0, .int .i64 0, .bool false, .int .i64 0, .slice none 0 0]) (bytes := 72) (B := w2.heap.size) Tryd.underlying22 entE_info rfl (by decide) rfl (.tmp 26) (.tmp 28) rfl rfl (HR.out.alloc _) rfl (rsg_one HEM.out HEG.out) HG2.out (by have := HLN.out; omega) (by have := HLN.out; omega) (by have := HSZ.out; simp; omega) ?_; intro v9 w9 r9 b9; have HR9 := hid r9; have HB9 : Hid (Below w2.heap.size w2 w9) := (HBL.out.alloc HSZ.out _).trans b9)
        go_roundg GK
        case measure => exact HG.out.1
        case rel => exact ⟨k + 1, HG.out.2, by go_num, by rw [HLT.out]; simpa using HR9.out, HB9.out⟩
    · have hkl' : (len : Int) ≤ (k : Int) := by omega
      have HE : Hid (L2.take k = L2) := List.take_of_length_le (by omega)
      clear hk hkl
      go_wp2_with fail
      exact bodyPost_ret (v := u9) (by simp [results, Tryd.results22, go_sem]) rfl ⟨u9, rfl, by have := HK.out.1; rw [HE.out] at this; exact this.base HB2.out.size, HB2.out.trans (HK.out.2.mono HB2.out.size)⟩
end Go.Proofs.YtaefddnmldbgiaaDoor
