import Derived.Test.YtaefddnmldbgiaaDoorPk06
import Derived.Test.YtaefddnmldbgiaaDoorPk07
import Derived.Test.YtaefddnmldbgiaaDoorPk11
/- The document's own Seen. -/
namespace Go.Proofs.YtaefddnmldbgiaaDoor
open Go.RowKit
set_option linter.unusedVariables false
set_option linter.unusedSimpArgs false

theorem seen1_yes {s : Int} {out : List EntV} {e : EntV} (h1 : e.seq ≤ s) (h2 : out = [] ∨ ∃ x, out.getLast? = some x ∧ cmp x.key e.key ≠ 0) : seen1 s out e = out ++ [e] := by unfold seen1; rw [if_pos ⟨h1, h2⟩]
theorem seen1_old {s : Int} {out : List EntV} {e : EntV} (h1 : ¬ e.seq ≤ s) : seen1 s out e = out := by unfold seen1; rw [if_neg (fun h => h1 h.1)]
theorem seen1_like {s : Int} {out : List EntV} {e x : EntV} (hx : out.getLast? = some x) (h : cmp x.key e.key = 0) : seen1 s out e = out := by
  unfold seen1
  rw [if_neg]
  rintro ⟨_, h2 | ⟨y, hy, hn⟩⟩
  · rw [h2] at hx; cases hx
  · rw [hx] at hy
    simp only [Option.some.injEq] at hy
    subst hy
    exact hn h
set_option maxHeartbeats 4000000 in
set_option maxRecDepth 100000 in
theorem rseenE_any {w : World} {ao : Option Addr} {len cap : Nat} {l : List EntV} {G : Nat → Prop} {s : Int} (h : RSG entE G w ao len cap l) (hG : ∀ b, G b → b < w.heap.size) (hl : len ≤ 1000000) :
    Calls Tryd.prog 37 #[.slice ao len cap, .int .i64 s] w fun r w' => ∃ v, r = .returned v ∧ RowF entE w.heap.size G w' v (seenE l s) ∧ Below w.heap.size w w' := by
  have HS : Hid (RSG entE G w ao len cap l) := h
  have HGG := hid hG
  have hln : l.length = len := h.rs.len.1
  have hl62 : len ≤ 2 ^ 61 := by omega
  have H0 : Hid (RowF entE w.heap.size G w (.slice none 0 0) (seenE (l.take 0) s) ∧ Below w.heap.size w w) := ⟨RowF.nil _ _ _, Below.refl _ _⟩
  have HL0 : Hid (len ≤ 1000000) := hl
  clear h hG hl
  go_enter Tryd.func37, Tryd.ntmps37
  go_wp2_with fail
  go_loopg [5, 7, 8, 11] len (fun g v _ _ i wr => ∃ k : Nat, k + g = len ∧ i = .int .i64 (k : Int) ∧ Hid (RowF entE w.heap.size G wr v (seenE (l.take k) s) ∧ Below w.heap.size w wr))
  case atStart => exact ⟨0, by omega, rfl, H0⟩
  case round =>
    obtain ⟨k, hk, rfl, HK⟩ := hrel
    by_cases hkl : k < len
    · have hkl' : (k : Int) < (len : Int) := by omega
      have hkx : k < l.length := by omega
      have hox := List.getElem?_eq_getElem hkx
      have hlt := seenE_take (s := s) hkx
      have hll := seenE_len (l.take k) s
      rw [List.length_take] at hll
      obtain ⟨b, off, ka, kc, va, vc, rfl, d0, d1, d2, d3, d4, hem, sk, heg⟩ := RSG.ent (HS.out.later HK.out.2) hox
      generalize l[k] = o at d0 d1 d2 d3 d4 hem sk heg hlt
      have HEG := hid heg
      have HLN : Hid ((seenE (l.take k) s).length + 1 ≤ 2000000 ∧ ((seenE (l.take k) s).length + 1) * 72 ≤ 140737488355328) := by have := HL0.out; constructor <;> omega
      have HLT := hid hlt
      have hk62 : k ≤ 2 ^ 61 := by omega
      obtain ⟨GK, HG⟩ : ∃ g, Hid (g < gk ∧ k + 1 + g = len) := ⟨gk - 1, by omega, by omega⟩
      obtain ⟨oa, oc, hv5, hout⟩ := HK.out.1.rsg
      subst hv5
      obtain ⟨n, hn⟩ : ∃ n, n = (seenE (l.take k) s).length := ⟨_, rfl⟩
      have hn62 : n ≤ 2 ^ 61 := by omega
      obtain ⟨W1, hW1⟩ : ∃ W1, W1 = wr.alloc (.cells #[.slice ka o.key.length kc, .int .i64 o.seq, .bool o.gone, .int .i64 o.till, .slice va o.val.length vc] 28) := ⟨_, rfl⟩
      have b1 : Below wr.heap.size wr W1 := by rw [hW1]; exact (Below.refl _ _).alloc (Nat.le_refl _) _
      have hbx : ∀ wx, Below W1.heap.size W1 wx → _ := fun wx hb => box_cells wr (.slice ka o.key.length kc) (.int .i64 o.seq) (.bool o.gone) (.int .i64 o.till) (.slice va o.val.length vc) 28 (wx := wx) (by rw [← hW1]; exact hb)
      have HBX := hid hbx
      have HR : Hid (RowF entE w.heap.size G W1 (.slice oa n oc) (seenE (l.take k) s)) := by have := HK.out.1.later b1; rw [← hn] at this; exact this
      have HEM0 := hid (El.later (E := entE) hem b1)
      have HBL0 : Hid (Below w.heap.size w W1) := HK.out.2.trans (b1.mono HK.out.2.size)
      have HSK := hid (sk.later b1)
      have HOUT := hid (hout.later b1)
      have HW1 := hid hW1
      rw [← hn] at HOUT ⊢
      have HN : Hid (n = (seenE (l.take k) s).length) := hn
      have hsq' : o.seq ≤ s ∨ ¬ o.seq ≤ s := by omega
      have HST : Hid ((¬ o.seq ≤ s → seen1 s (seenE (l.take k) s) o = seenE (l.take k) s) ∧ (o.seq ≤ s → n = 0 → seen1 s (seenE (l.take k) s) o = seenE (l.take k) s ++ [o])) := ⟨fun h => seen1_old h, fun h h0 => seen1_yes h (.inl (List.eq_nil_of_length_eq_zero (by omega)))⟩
      obtain ⟨kl, hkl2⟩ : ∃ n, n = o.key.length := ⟨_, rfl⟩
      obtain ⟨ln, hln2⟩ : ∃ n, n = o.val.length := ⟨_, rfl⟩
      obtain ⟨seq, hsq⟩ : ∃ n, n = o.seq := ⟨_, rfl⟩
      obtain ⟨gone, hgn⟩ : ∃ n, n = o.gone := ⟨_, rfl⟩
      obtain ⟨till, htt⟩ : ∃ n, n = o.till := ⟨_, rfl⟩
      have HSQ : Hid (seq = o.seq) := hsq
      rw [← hsq] at hsq'
      rw [← hkl2] at d0 HEM0 HEG HSK HBX HW1
      rw [← hln2] at d4 HEM0 HEG HBX HW1
      rw [← hsq] at d1 HEM0 HEG HBX HW1 HST
      rw [← hgn] at d2 HEM0 HEG HBX HW1
      rw [← htt] at d3 HEM0 HEG HBX HW1
      clear hkl2 hln2 hgn htt heg hlt hll hox b1 hk hbx hW1 sk hem hout HK hn hsq
      rcases hsq' with q1 | q1
      · by_cases q2 : n = 0
        · have q2' : ((n : Int) == 0) = true := by simp; omega
          have q2a : (n == 0) = true := by simpa using q2
          have q2b : decide (n = 0) = true := by simpa using q2
          have q1' : decide (seq ≤ s) = true := by simpa using q1
          have HE := hid (HST.out.2 q1 q2)
          clear q2 HST
          go_upto_region 6 with fail
          rw [← HW1.out]
          obtain ⟨x0, x1, x2, x3, x4⟩ := HBX.out _ (Below.refl _ _)
          go_quiet (fail)
          have bq : Below W1.heap.size W1 (W1.drewN nq) := below_drewN (Below.refl _ _) _
          have HEM := hid (El.later (E := entE) HEM0.out bq)
          have HBL : Hid (Below w.heap.size w (W1.drewN nq)) := below_drewN HBL0.out _
          have HSZ : Hid (w.heap.size ≤ (W1.drewN nq).heap.size) := HBL.out.size
          have HR := hid (HR.out.later bq)
          obtain ⟨y0, y1, y2, y3, y4⟩ := HBX.out _ bq
          clear x0 x1 x2 x3 x4 bq
          generalize W1.drewN nq = wq at HEM HBL HSZ HR y0 y1 y2 y3 y4 ⊢
          go_wp2_with (at_builtin; refine wpList_appG entE (t := 22) (z := .agg #[.slice none 0 0, .int .i64 0, .bool false, .int .i64 0, .slice none 0 0]) (bytes := 72) (B := w.heap.size) Tryd.underlying22 entE_info rfl (by decide) rfl (.tmp 37) (.tmp 39) rfl rfl (HR.out.alloc _) rfl (rsg_one HEM.out HEG.out) HGG.out (by have := HLN.out; omega) (by have := HLN.out; omega) (by have := HSZ.out; simp; omega) ?_; intro v9 w9 r9 b9; have HR9 := hid r9; have HB9 : Hid (Below w.heap.size w w9) := (HBL.out.alloc HSZ.out _).trans b9)
          go_roundg GK
          case measure => exact HG.out.1
          case rel => exact ⟨k + 1, HG.out.2, by go_num, by rw [HLT.out, HE.out]; exact HR9.out, HB9.out⟩
        · have q2' : ((n : Int) == 0) = false := by simp; omega
          have q2a : (n == 0) = false := by simpa using q2
          have q1' : decide (seq ≤ s) = true := by simpa using q1
          obtain ⟨m, hm⟩ : ∃ m, n = m + 1 := ⟨n - 1, by omega⟩
          have hlast : (seenE (l.take k) s)[m]? = (seenE (l.take k) s).getLast? := by rw [List.getLast?_eq_getElem?, ← HN.out, hm]; rfl
          obtain ⟨x, hx⟩ : ∃ x, (seenE (l.take k) s)[m]? = some x := ⟨_, List.getElem?_eq_getElem (by rw [← HN.out]; omega)⟩
          obtain ⟨b', off', ka', kc', va', vc', rfl, e0, e1, e2, e3, e4, hem', sk', heg'⟩ := RSG.ent HOUT.out hx
          clear heg' hem' e1 e2 e3 e4
          rw [hx] at hlast
          have HE2 : Hid ((cmp x.key o.key = 0 → seen1 s (seenE (l.take k) s) o = seenE (l.take k) s) ∧ (cmp x.key o.key ≠ 0 → seen1 s (seenE (l.take k) s) o = seenE (l.take k) s ++ [o])) := ⟨fun h => seen1_like hlast.symm h, fun h => seen1_yes (by rw [← HSQ.out]; exact q1) (.inr ⟨x, hlast.symm, h⟩)⟩
          have hcc := rcmp_any (sk'.drewN 1) (HSK.out.drewN 1)
          obtain ⟨x0, x1, x2, x3, x4⟩ := HBX.out _ (Below.refl _ _)
          generalize cmp x.key o.key = c at HE2 hcc
          generalize x.key.length = kl3 at e0 hcc sk'
          have hm62 : m ≤ 2 ^ 61 := by omega
          have hmn : (m : Int) < (n : Int) := by omega
          have hmw : wrap64 ((n : Int) - 1) = (m : Int) := by unfold wrap64; omega
          have hmi : IntKind.i64.wrap ((n : Int) - 1) = (m : Int) := by rw [IntKind.wrap_i64]; omega
          clear q2 HST hx hlast sk' hm
          go_upto_region 6 with fail
          rw [← HW1.out]
          by_cases q3 : c = 0
          · have q3' : (c != 0) = false := by simpa using q3
            have HE := hid (HE2.out.1 q3)
            clear HE2 q3
            go_region_held_law (fun w' => w'.cell? ⟨wr.heap.size, 0, none⟩ = some (.slice ka kl kc) ∧ w'.cell? ⟨wr.heap.size, 1, none⟩ = some (.int .i64 seq) ∧ w'.cell? ⟨b', off' + m * 5, none⟩ = some (.slice ka' kl3 kc')) (first | exact ⟨x0, x1, e0⟩ | exact ⟨cell_later hb5 x0, cell_later hb5 x1, cell_later hb5 e0⟩) (first | (go_at_call 34; refine hcc.mono ?_; rintro e w5 ⟨rfl, hb5⟩))
            have HBL : Hid (Below w.heap.size w w5) := HBL0.out.drew.trans (hb5.mono HBL0.out.drew.size)
            have HR := hid ((HR.out.later (Below.refl _ _).drew).later hb5)
            go_wp2_with fail
            go_roundg GK
            case measure => exact HG.out.1
            case rel => exact ⟨k + 1, HG.out.2, by go_num, by rw [HLT.out, HE.out]; exact HR.out, HBL.out⟩
          · have q3' : (c != 0) = true := by simpa using q3
            have HE := hid (HE2.out.2 q3)
            clear HE2 q3
            go_region_held_law (fun w' => w'.cell? ⟨wr.heap.size, 0, none⟩ = some (.slice ka kl kc) ∧ w'.cell? ⟨wr.heap.size, 1, none⟩ = some (.int .i64 seq) ∧ w'.cell? ⟨b', off' + m * 5, none⟩ = some (.slice ka' kl3 kc')) (first | exact ⟨x0, x1, e0⟩ | exact ⟨cell_later hb5 x0, cell_later hb5 x1, cell_later hb5 e0⟩) (first | (go_at_call 34; refine hcc.mono ?_; rintro e w5 ⟨rfl, hb5⟩))
            have bq : Below W1.heap.size W1 w5 := (Below.refl W1.heap.size W1).drew.trans (hb5.mono (Below.refl W1.heap.size W1).drew.size)
            have HEM := hid (El.later (E := entE) HEM0.out bq)
            have HBL : Hid (Below w.heap.size w w5) := HBL0.out.trans (bq.mono HBL0.out.size)
            have HSZ : Hid (w.heap.size ≤ w5.heap.size) := HBL.out.size
            have HR := hid (HR.out.later bq)
            obtain ⟨y0, y1, y2, y3, y4⟩ := HBX.out _ bq
            clear x0 x1 x2 x3 x4 bq e0 hcc hb5
            go_wp2_with (at_builtin; refine wpList_appG entE (t := 22) (z := .agg #[.slice none 0 0, .int .i64 0, .bool false, .int .i64 0, .slice none 0 0]) (bytes := 72) (B := w.heap.size) Tryd.underlying22 entE_info rfl (by decide) rfl (.tmp 37) (.tmp 39) rfl rfl (HR.out.alloc _) rfl (rsg_one HEM.out HEG.out) HGG.out (by have := HLN.out; omega) (by have := HLN.out; omega) (by have := HSZ.out; simp; omega) ?_; intro v9 w9 r9 b9; have HR9 := hid r9; have HB9 : Hid (Below w.heap.size w w9) := (HBL.out.alloc HSZ.out _).trans b9)
            go_roundg GK
            case measure => exact HG.out.1
            case rel => exact ⟨k + 1, HG.out.2, by go_num, by rw [HLT.out, HE.out]; exact HR9.out, HB9.out⟩
      · have q1' : decide (seq ≤ s) = false := by simpa using q1
        have HE := hid (HST.out.1 q1)
        clear HST
        go_upto_region 6 with fail
        rw [← HW1.out]
        obtain ⟨x0, x1, x2, x3, x4⟩ := HBX.out _ (Below.refl _ _)
        go_quiet (fail)
        go_wp2_with fail
        go_roundg GK
        case measure => exact HG.out.1
        case rel => exact ⟨k + 1, HG.out.2, by go_num, by rw [HLT.out, HE.out]; exact HR.out.later (below_drewN (Below.refl _ W1) nq), below_drewN HBL0.out _⟩
    · have hkl' : (len : Int) ≤ (k : Int) := by omega
      have HE : Hid (l.take k = l) := List.take_of_length_le (by omega)
      clear hk hkl
      go_wp2_with fail
      exact bodyPost_ret (v := u5) (by simp [results, Tryd.results37, go_sem]) rfl ⟨u5, rfl, by have := HK.out.1; rw [HE.out] at this; exact this, HK.out.2⟩
end Go.Proofs.YtaefddnmldbgiaaDoor

/- The document's own Latest, Get and Ordered. -/
namespace Go.Proofs.YtaefddnmldbgiaaDoor
open Go.RowKit
set_option linter.unusedVariables false
set_option linter.unusedSimpArgs false

def notGone (l : List EntV) : List EntV := l.filter fun e => !e.gone
theorem notGone_take {l : List EntV} {k : Nat} (h : k < l.length) : notGone (l.take (k + 1)) = notGone (l.take k) ++ (if l[k].gone then [] else [l[k]]) := by
  unfold notGone
  rw [List.take_add_one, List.getElem?_eq_getElem h, List.filter_append]
  simp only [Option.toList]
  congr 1
  cases hh : l[k].gone <;> simp [hh]
theorem notGone_len (l : List EntV) : (notGone l).length ≤ l.length := List.length_filter_le _ _
set_option maxHeartbeats 4000000 in
set_option maxRecDepth 100000 in
theorem rlatestE_any {w : World} {ao : Option Addr} {len cap : Nat} {l : List EntV} {G : Nat → Prop} {fa ta : Option Addr} {fl fc tl tc : Nat} {fr ub : List Int} {s : Int} (h : RSG entE G w ao len cap l) (hf : Sl w fa fl fc fr) (ht : Sl w ta tl tc ub) (hG : ∀ b, G b → b < w.heap.size) (hl : len ≤ 1000000) :
    Calls Tryd.prog 22 #[.slice ao len cap, .slice fa fl fc, .slice ta tl tc, .int .i64 s] w fun r w' => ∃ v, r = .returned v ∧ RowF entE w.heap.size G w' v (latestE l fr ub s) ∧ Below w.heap.size w w' := by
  have hls := rlistE_any h hf ht hG hl
  have hll := listE_len l fr ub
  have hln : l.length = len := h.rs.len.1
  have hsl := seenE_len (listE l fr ub) s
  have HSN : Hid (∀ {w1 : World} {a1 : Option Addr} {c1 : Nat}, Below w.heap.size w w1 → RSG entE G w1 a1 (listE l fr ub).length c1 (listE l fr ub) → Calls Tryd.prog 37 #[.slice a1 (listE l fr ub).length c1, .int .i64 s] w1 fun r w' => ∃ v, r = .returned v ∧ RowF entE w1.heap.size G w' v (seenE (listE l fr ub) s) ∧ Below w1.heap.size w1 w') := fun hb hr => rseenE_any hr (fun b hb' => Nat.lt_of_lt_of_le (hG b hb') hb.size) (by omega)
  have HGG := hid hG
  have HL0 : Hid ((seenE (listE l fr ub) s).length ≤ 1000000) := by show _ ≤ _; omega
  have e0 : latestE l fr ub s = notGone (seenE (listE l fr ub) s) := rfl
  rw [e0]
  generalize listE l fr ub = L1 at hls HSN HL0
  generalize seenE L1 s = L2 at HSN HL0 ⊢
  clear h hf ht hG hl hll hln hsl e0
  go_enter Tryd.func22, Tryd.ntmps22
  go_wp2_with fail
  refine hls.mono ?_
  rintro e w1 ⟨v1, rfl, r1, b1⟩
  obtain ⟨a1, c1, hv1, g1⟩ := r1.rsg
  subst hv1
  have hsn := HSN.out b1 g1
  clear hls
  go_wp2_with fail
  refine hsn.mono ?_
  rintro e w2 ⟨v2, rfl, r2, b2⟩
  obtain ⟨a2, c2, hv2, g2⟩ := r2.rsg
  subst hv2
  obtain ⟨len, hlen⟩ : ∃ n, n = L2.length := ⟨_, rfl⟩
  rw [← hlen] at g2 ⊢
  have HS := hid g2
  have hl62 : len ≤ 2 ^ 61 := by have := HL0.out; omega
  have H0 : Hid (RowF entE w2.heap.size G w2 (.slice none 0 0) (notGone (L2.take 0)) ∧ Below w2.heap.size w2 w2) := ⟨RowF.nil _ _ _, Below.refl _ _⟩
  have HB2 : Hid (Below w.heap.size w w2) := b1.trans (b2.mono b1.size)
  clear hsn r1 r2 b1 b2 g1 g2 HSN
  go_wp2_with fail
  go_loopg [9, 11, 19] len (fun g v _ i wr => ∃ k : Nat, k + g = len ∧ i = .int .i64 (k : Int) ∧ Hid (RowF entE w2.heap.size G wr v (notGone (L2.take k)) ∧ Below w2.heap.size w2 wr))
  case atStart => exact ⟨0, by omega, rfl, H0⟩
  case round =>
    obtain ⟨k, hk, rfl, HK⟩ := hrel
    by_cases hkl : k < len
    · have hkl' : (k : Int) < (len : Int) := by omega
      have hkx : k < L2.length := by omega
      have hox := List.getElem?_eq_getElem hkx
      have hlt := notGone_take hkx
      have hll := notGone_len (L2.take k)
      rw [List.length_take] at hll
      obtain ⟨b, off, ka, kc, va, vc, rfl, d0, d1, d2, d3, d4, hem, sk, heg⟩ := RSG.ent (HS.out.later HK.out.2) hox
      generalize L2[k] = o at d0 d1 d2 d3 d4 hem sk heg hlt
      have HEG := hid heg
      have HLN : Hid ((notGone (L2.take k)).length + 1 ≤ 2000000 ∧ ((notGone (L2.take k)).length + 1) * 72 ≤ 140737488355328) := by have := HL0.out; constructor <;> omega
      have HLT := hid hlt
      have hk62 : k ≤ 2 ^ 61 := by omega
      obtain ⟨GK, HG⟩ : ∃ g, Hid (g < gk ∧ k + 1 + g = len) := ⟨gk - 1, by omega, by omega⟩
      obtain ⟨W1, hW1⟩ : ∃ W1, W1 = wr.alloc (.cells #[.slice ka o.key.length kc, .int .i64 o.seq, .bool o.gone, .int .i64 o.till, .slice va o.val.length vc] 28) := ⟨_, rfl⟩
      have b1 : Below wr.heap.size wr W1 := by rw [hW1]; exact (Below.refl _ _).alloc (Nat.le_refl _) _
      have hbx := box_cells wr (.slice ka o.key.length kc) (.int .i64 o.seq) (.bool o.gone) (.int .i64 o.till) (.slice va o.val.length vc) 28 (wx := W1) (by rw [← hW1]; exact Below.refl _ _)
      have HBX := hid hbx
      have HR := hid (HK.out.1.later b1)
      have HEM := hid (El.later (E := entE) hem b1)
      have HBL : Hid (Below w2.heap.size w2 W1) := HK.out.2.trans (b1.mono HK.out.2.size)
      have HSZ : Hid (w2.heap.size ≤ W1.heap.size) := HBL.out.size
      have HW1 := hid hW1
      have HG2 : Hid (∀ b, G b → b < w2.heap.size) := fun b hb => Nat.lt_of_lt_of_le (HGG.out b hb) HB2.out.size
      obtain ⟨kl, hkl2⟩ : ∃ n, n = o.key.length := ⟨_, rfl⟩
      obtain ⟨ln, hln2⟩ : ∃ n, n = o.val.length := ⟨_, rfl⟩
      obtain ⟨seq, hsq⟩ : ∃ n, n = o.seq := ⟨_, rfl⟩
      obtain ⟨gone, hgn⟩ : ∃ n, n = o.gone := ⟨_, rfl⟩
      obtain ⟨till, htt⟩ : ∃ n, n = o.till := ⟨_, rfl⟩
      rw [← hkl2] at d0 HEM HEG HBX HW1
      rw [← hln2] at d4 HEM HEG HBX HW1
      rw [← hsq] at d1 HEM HEG HBX HW1
      rw [← hgn] at d2 HEM HEG HLT HBX HW1
      rw [← htt] at d3 HEM HEG HBX HW1
      clear hkl2 hln2 hsq hgn htt sk heg hlt hll hox b1 hk hem hbx hW1
      cases gone with
      | true =>
        go_upto_region 5 with fail
        rw [← HW1.out]
        obtain ⟨y0, y1, y2, y3, y4⟩ := HBX.out
        go_wp2_with fail
        go_roundg GK
        case measure => exact HG.out.1
        case rel => exact ⟨k + 1, HG.out.2, by go_num, by rw [HLT.out]; simpa using HR.out, HBL.out⟩
      | false =>
        go_upto_region 5 with fail
        rw [← HW1.out]
        obtain ⟨y0, y1, y2, y3, y4⟩ := HBX.out
        go_wp2_with (at_builtin; refine wpList_appG entE (t := 22) (z := .agg #[.slice none 0 0, .int .i64 0, .bool false, .int .i64 0, .slice none 0 0]) (bytes := 72) (B := w2.heap.size) Tryd.underlying22 entE_info rfl (by decide) rfl (.tmp 26) (.tmp 28) rfl rfl (HR.out.alloc _) rfl (rsg_one HEM.out HEG.out) HG2.out (by have := HLN.out; omega) (by have := HLN.out; omega) (by have := HSZ.out; simp; omega) ?_; intro v9 w9 r9 b9; have HR9 := hid r9; have HB9 : Hid (Below w2.heap.size w2 w9) := (HBL.out.alloc HSZ.out _).trans b9)
        go_roundg GK
        case measure => exact HG.out.1
        case rel => exact ⟨k + 1, HG.out.2, by go_num, by rw [HLT.out]; simpa using HR9.out, HB9.out⟩
    · have hkl' : (len : Int) ≤ (k : Int) := by omega
      have HE : Hid (L2.take k = L2) := List.take_of_length_le (by omega)
      clear hk hkl
      go_wp2_with fail
      exact bodyPost_ret (v := u9) (by simp [results, Tryd.results22, go_sem]) rfl ⟨u9, rfl, by have := HK.out.1; rw [HE.out] at this; exact this.base HB2.out.size, HB2.out.trans (HK.out.2.mono HB2.out.size)⟩
end Go.Proofs.YtaefddnmldbgiaaDoor

/- The document's own reader: Number, Bytes, Flag, End. -/
namespace Go.Proofs.YtaefddnmldbgiaaDoor
open Go.RowKit
set_option linter.unusedVariables false
set_option linter.unusedSimpArgs false

theorem heap_set {w : World} {p : Nat} {C : Array Value} {t : TypeId} {f : Nat × Nat} (h : w.heap[p]? = some (.cells C t f)) (k : Nat) (v : Value) : (w.setCell ⟨p, k, none⟩ v).heap[p]? = some (.cells (C.setIfInBounds k v) t f) := by
  simp only [World.setCell, Array.getElem?_modify, if_true, h]
  rfl
theorem frozen_of {w : World} {p : Nat} {C : Array Value} {t : TypeId} (h : w.heap[p]? = some (.cells C t (0, 0))) (k : Nat) : w.frozen? ⟨p, k, none⟩ = false := by
  simp [World.frozen?, h]
theorem grown_set (w : World) (p k : Nat) (v : Value) : w.grownBy (w.setCell ⟨p, k, none⟩ v) (some p) :=
  ⟨rfl, rfl, rfl, by simp [World.setCell], fun i hi hn => Below.heap_setCell _ _ _ _ (fun e => hn (by rw [e]))⟩
theorem below_grown {w w' : World} (h : Below w.heap.size w w') (r : Option Nat) : w.grownBy w' r := ⟨h.os, h.tape, h.output, h.size, fun k hk _ => h.block k hk⟩
theorem grown_trans {w w' w'' : World} {r : Option Nat} (h : w.grownBy w' r) (g : w'.grownBy w'' r) : w.grownBy w'' r :=
  ⟨g.os.trans h.os, g.tape.trans h.tape, g.output.trans h.output, Nat.le_trans h.size g.size, fun k hk hn => (g.block k (Nat.lt_of_lt_of_le hk h.size) hn).trans (h.block k hk hn)⟩
theorem refs_cut {w : World} {ao : Option Addr} {len cap i j : Nat} {xs : List Int} {b : Nat} (hs : Sl w ao len cap xs) (hj : j ≤ len) (h : Refs (.slice (cutA ao cap i) (j - i) (cap - i)) b) : Refs (.slice ao len cap) b := by
  obtain ⟨off, l, c, e, h0⟩ := h
  simp only [Value.slice.injEq] at e
  obtain ⟨e1, rfl, rfl⟩ := e
  have hl := hs.2.2.2.1
  obtain ⟨_, b', off', e', _⟩ := hs.2.2.2.2.2 0 (by omega)
  subst e'
  unfold cutA at e1
  rw [if_neg (by omega)] at e1
  have e2 : (some ((⟨b', off', none⟩ : Addr).add i)) = some (⟨b, off, none⟩ : Addr) := e1
  rw [Addr.add_lit] at e2
  simp only [Option.some.injEq, Addr.mk.injEq, and_true] at e2
  obtain ⟨rfl, _⟩ := e2
  exact ⟨off', len, cap, rfl, by omega⟩
theorem rdB_okb {most : Nat} {s : Rd} (h : Okb s.1) : Okb (rdB most s).1 := by
  unfold rdB
  split
  · exact fun x hx => by cases hx
  · split
    · exact fun x hx => by cases hx
    · exact tb_okb h
theorem rdN_le {most : Nat} {s : Rd} : (rdN most s).1 ≤ most := by
  unfold rdN
  split
  · exact Nat.zero_le _
  · split
    · exact Nat.zero_le _
    · split
      · exact Nat.zero_le _
      · rename_i h; exact Nat.le_of_not_lt h

end Go.Proofs.YtaefddnmldbgiaaDoor
