/- The document's own Seen. -/
import Derived.Test.YtaefddnmldbgiaaDoorMlist
namespace Go.Proofs.YtaefddnmldbgiaaDoor
open Go.RowKit
set_option linter.unusedVariables false
set_option linter.unusedSimpArgs false

theorem seen1_yes {s : Int} {out : List EntV} {e : EntV} (h1 : e.seq ≤ s) (h2 : out = [] ∨ ∃ x, out.getLast? = some x ∧ cmp x.key e.key ≠ 0) : seen1 s out e = out ++ [e] := by unfold seen1; rw [if_pos ⟨h1, h2⟩]
theorem seen1_old {s : Int} {out : List EntV} {e : EntV} (h1 : ¬ e.seq ≤ s) : seen1 s out e = out := by unfold seen1; rw [if_neg (fun h => h1 h.1)]
theorem seen1_like {s : Int} {out : List EntV} {e x : EntV} (hx : out.getLast? = some x) (h : cmp x.key e.key = 0) : seen1 s out e = out := by
  unfold seen1
  rw [if_neg]
  rintro ⟨_, h2 | ⟨y, hy, hn⟩⟩
  · rw [h2] at hx; cases hx
  · rw [hx] at hy
    simp only [Option.some.injEq] at hy
    subst hy
    exact hn h
set_option maxHeartbeats 4000000 in
set_option maxRecDepth 100000 in
theorem rseenE_any {w : World} {ao : Option Addr} {len cap : Nat} {l : List EntV} {G : Nat → Prop} {s : Int} (h : RSG entE G w ao len cap l) (hG : ∀ b, G b → b < w.heap.size) (hl : len ≤ 1000000) :
    Calls Tryd.prog 37 #[.slice ao len cap, .int .i64 s] w fun r w' => ∃ v, r = .returned v ∧ RowF entE w.heap.size G w' v (seenE l s) ∧ Below w.heap.size w w' := by
  have HS : Hid (RSG entE G w ao len cap l) := h
  have HGG := hid hG
  have hln : l.length = len := h.rs.len.1
  have hl62 : len ≤ 2 ^ 61 := by omega
  have H0 : Hid (RowF entE w.heap.size G w (.slice none 0 0) (seenE (l.take 0) s) ∧ Below w.heap.size w w) := ⟨RowF.nil _ _ _, Below.refl _ _⟩
  have HL0 : Hid (len ≤ 1000000) := hl
  clear h hG hl
  go_enter Tryd.func37, Tryd.ntmps37
  go_wp2_with fail
  go_loopg [5, 7, 8, 11] len (fun g v _ _ i wr => ∃ k : Nat, k + g = len ∧ i = .int .i64 (k : Int) ∧ Hid (RowF entE w.heap.size G wr v (seenE (l.take k) s) ∧ Below w.heap.size w wr))
  case atStart => exact ⟨0, by omega, rfl, H0⟩
  case round =>
    obtain ⟨k, hk, rfl, HK⟩ := hrel
    by_cases hkl : k < len
    · have hkl' : (k : Int) < (len : Int) := by omega
      have hkx : k < l.length := by omega
      have hox := List.getElem?_eq_getElem hkx
      have hlt := seenE_take (s := s) hkx
      have hll := seenE_len (l.take k) s
      rw [List.length_take] at hll
      obtain ⟨b, off, ka, kc, va, vc, rfl, d0, d1, d2, d3, d4, hem, sk, heg⟩ := RSG.ent (HS.out.later HK.out.2) hox
      generalize l[k] = o at d0 d1 d2 d3 d4 hem sk heg hlt
      have HEG := hid heg
      have HLN : Hid ((seenE (l.take k) s).length + 1 ≤ 2000000 ∧ ((seenE (l.take k) s).length + 1) * 72 ≤ 140737488355328) := by have := HL0.out; constructor <;> omega
      have HLT := hid hlt
      have hk62 : k ≤ 2 ^ 61 := by omega
      obtain ⟨GK, HG⟩ : ∃ g, Hid (g < gk ∧ k + 1 + g = len) := ⟨gk - 1, by omega, by omega⟩
      obtain ⟨oa, oc, hv5, hout⟩ := HK.out.1.rsg
      subst hv5
      obtain ⟨n, hn⟩ : ∃ n, n = (seenE (l.take k) s).length := ⟨_, rfl⟩
      have hn62 : n ≤ 2 ^ 61 := by omega
      obtain ⟨W1, hW1⟩ : ∃ W1, W1 = wr.alloc (.cells #[.slice ka o.key.length kc, .int .i64 o.seq, .bool o.gone, .int .i64 o.till, .slice va o.val.length vc] 28) := ⟨_, rfl⟩
      have b1 : Below wr.heap.size wr W1 := by rw [hW1]; exact (Below.refl _ _).alloc (Nat.le_refl _) _
      have hbx : ∀ wx, Below W1.heap.size W1 wx → _ := fun wx hb => box_cells wr (.slice ka o.key.length kc) (.int .i64 o.seq) (.bool o.gone) (.int .i64 o.till) (.slice va o.val.length vc) 28 (wx := wx) (by rw [← hW1]; exact hb)
      have HBX := hid hbx
      have HR : Hid (RowF entE w.heap.size G W1 (.slice oa n oc) (seenE (l.take k) s)) := by have := HK.out.1.later b1; rw [← hn] at this; exact this
      have HEM0 := hid (El.later (E := entE) hem b1)
      have HBL0 : Hid (Below w.heap.size w W1) := HK.out.2.trans (b1.mono HK.out.2.size)
      have HSK := hid (sk.later b1)
      have HOUT := hid (hout.later b1)
      have HW1 := hid hW1
      rw [← hn] at HOUT ⊢
      have HN : Hid (n = (seenE (l.take k) s).length) := hn
      have hsq' : o.seq ≤ s ∨ ¬ o.seq ≤ s := by omega
      have HST : Hid ((¬ o.seq ≤ s → seen1 s (seenE (l.take k) s) o = seenE (l.take k) s) ∧ (o.seq ≤ s → n = 0 → seen1 s (seenE (l.take k) s) o = seenE (l.take k) s ++ [o])) := ⟨fun h => seen1_old h, fun h h0 => seen1_yes h (.inl (List.eq_nil_of_length_eq_zero (by omega)))⟩
      obtain ⟨kl, hkl2⟩ : ∃ n, n = o.key.length := ⟨_, rfl⟩
      obtain ⟨ln, hln2⟩ : ∃ n, n = o.val.length := ⟨_, rfl⟩
      obtain ⟨seq, hsq⟩ : ∃ n, n = o.seq := ⟨_, rfl⟩
      obtain ⟨gone, hgn⟩ : ∃ n, n = o.gone := ⟨_, rfl⟩
      obtain ⟨till, htt⟩ : ∃ n, n = o.till := ⟨_, rfl⟩
      have HSQ : Hid (seq = o.seq) := hsq
      rw [← hsq] at hsq'
      rw [← hkl2] at d0 HEM0 HEG HSK HBX HW1
      rw [← hln2] at d4 HEM0 HEG HBX HW1
      rw [← hsq] at d1 HEM0 HEG HBX HW1 HST
      rw [← hgn] at d2 HEM0 HEG HBX HW1
      rw [← htt] at d3 HEM0 HEG HBX HW1
      clear hkl2 hln2 hgn htt heg hlt hll hox b1 hk hbx hW1 sk hem hout HK hn hsq
      rcases hsq' with q1 | q1
      · by_cases q2 : n = 0
        · have q2' : ((n : Int) == 0) = true := by simp; omega
          have q2a : (n == 0) = true := by simpa using q2
          have q2b : decide (n = 0) = true := by simpa using q2
          have q1' : decide (seq ≤ s) = true := by simpa using q1
          have HE := hid (HST.out.2 q1 q2)
          clear q2 HST
          go_upto_region 6 with fail
          rw [← HW1.out]
          obtain ⟨x0, x1, x2, x3, x4⟩ := HBX.out _ (Below.refl _ _)
          go_quiet (fail)
          have bq : Below W1.heap.size W1 (W1.drewN nq) := below_drewN (Below.refl _ _) _
          have HEM := hid (El.later (E := entE) HEM0.out bq)
          have HBL : Hid (Below w.heap.size w (W1.drewN nq)) := below_drewN HBL0.out _
          have HSZ : Hid (w.heap.size ≤ (W1.drewN nq).heap.size) := HBL.out.size
          have HR := hid (HR.out.later bq)
          obtain ⟨y0, y1, y2, y3, y4⟩ := HBX.out _ bq
          clear x0 x1 x2 x3 x4 bq
          generalize W1.drewN nq = wq at HEM HBL HSZ HR y0 y1 y2 y3 y4 ⊢
          go_wp2_with (at_builtin; refine wpList_appG entE (t := 22) (z := .agg #[.slice none 0 0, .int .i64 0, .bool false, .int .i64 0, .slice none 0 0]) (bytes := 72) (B := w.heap.size) Tryd.underlying22 entE_info rfl (by decide) rfl (.tmp 37) (.tmp 39) rfl rfl (HR.out.alloc _) rfl (rsg_one HEM.out HEG.out) HGG.out (by have := HLN.out; omega) (by have := HLN.out; omega) (by have := HSZ.out; simp; omega) ?_; intro v9 w9 r9 b9; have HR9 := hid r9; have HB9 : Hid (Below w.heap.size w w9) := (HBL.out.alloc HSZ.out _).trans b9)
          go_roundg GK
          case measure => exact HG.out.1
          case rel => exact ⟨k + 1, HG.out.2, by go_num, by rw [HLT.out, HE.out]; exact HR9.out, HB9.out⟩
        · have q2' : ((n : Int) == 0) = false := by simp; omega
          have q2a : (n == 0) = false := by simpa using q2
          have q1' : decide (seq ≤ s) = true := by simpa using q1
          obtain ⟨m, hm⟩ : ∃ m, n = m + 1 := ⟨n - 1, by omega⟩
          have hlast : (seenE (l.take k) s)[m]? = (seenE (l.take k) s).getLast? := by rw [List.getLast?_eq_getElem?, ← HN.out, hm]; rfl
          obtain ⟨x, hx⟩ : ∃ x, (seenE (l.take k) s)[m]? = some x := ⟨_, List.getElem?_eq_getElem (by rw [← HN.out]; omega)⟩
          obtain ⟨b', off', ka', kc', va', vc', rfl, e0, e1, e2, e3, e4, hem', sk', heg'⟩ := RSG.ent HOUT.out hx
          clear heg' hem' e1 e2 e3 e4
          rw [hx] at hlast
          have HE2 : Hid ((cmp x.key o.key = 0 → seen1 s (seenE (l.take k) s) o = seenE (l.take k) s) ∧ (cmp x.key o.key ≠ 0 → seen1 s (seenE (l.take k) s) o = seenE (l.take k) s ++ [o])) := ⟨fun h => seen1_like hlast.symm h, fun h => seen1_yes (by rw [← HSQ.out]; exact q1) (.inr ⟨x, hlast.symm, h⟩)⟩
          have hcc := rcmp_any (sk'.drewN 1) (HSK.out.drewN 1)
          obtain ⟨x0, x1, x2, x3, x4⟩ := HBX.out _ (Below.refl _ _)
          generalize cmp x.key o.key = c at HE2 hcc
          generalize x.key.length = kl3 at e0 hcc sk'
          have hm62 : m ≤ 2 ^ 61 := by omega
          have hmn : (m : Int) < (n : Int) := by omega
          have hmw : wrap64 ((n : Int) - 1) = (m : Int) := by unfold wrap64; omega
          have hmi : IntKind.i64.wrap ((n : Int) - 1) = (m : Int) := by rw [IntKind.wrap_i64]; omega
          clear q2 HST hx hlast sk' hm
          go_upto_region 6 with fail
          rw [← HW1.out]
          by_cases q3 : c = 0
          · have q3' : (c != 0) = false := by simpa using q3
            have HE := hid (HE2.out.1 q3)
            clear HE2 q3
            go_region_held_law (fun w' => w'.cell? ⟨wr.heap.size, 0, none⟩ = some (.slice ka kl kc) ∧ w'.cell? ⟨wr.heap.size, 1, none⟩ = some (.int .i64 seq) ∧ w'.cell? ⟨b', off' + m * 5, none⟩ = some (.slice ka' kl3 kc')) (first | exact ⟨x0, x1, e0⟩ | exact ⟨cell_later hb5 x0, cell_later hb5 x1, cell_later hb5 e0⟩) (first | (go_at_call 34; refine hcc.mono ?_; rintro e w5 ⟨rfl, hb5⟩))
            have HBL : Hid (Below w.heap.size w w5) := HBL0.out.drew.trans (hb5.mono HBL0.out.drew.size)
            have HR := hid ((HR.out.later (Below.refl _ _).drew).later hb5)
            go_wp2_with fail
            go_roundg GK
            case measure => exact HG.out.1
            case rel => exact ⟨k + 1, HG.out.2, by go_num, by rw [HLT.out, HE.out]; exact HR.out, HBL.out⟩
          · have q3' : (c != 0) = true := by simpa using q3
            have HE := hid (HE2.out.2 q3)
            clear HE2 q3
            go_region_held_law (fun w' => w'.cell? ⟨wr.heap.size, 0, none⟩ = some (.slice ka kl kc) ∧ w'.cell? ⟨wr.heap.size, 1, none⟩ = some (.int .i64 seq) ∧ w'.cell? ⟨b', off' + m * 5, none⟩ = some (.slice ka' kl3 kc')) (first | exact ⟨x0, x1, e0⟩ | exact ⟨cell_later hb5 x0, cell_later hb5 x1, cell_later hb5 e0⟩) (first | (go_at_call 34; refine hcc.mono ?_; rintro e w5 ⟨rfl, hb5⟩))
            have bq : Below W1.heap.size W1 w5 := (Below.refl W1.heap.size W1).drew.trans (hb5.mono (Below.refl W1.heap.size W1).drew.size)
            have HEM := hid (El.later (E := entE) HEM0.out bq)
            have HBL : Hid (Below w.heap.size w w5) := HBL0.out.trans (bq.mono HBL0.out.size)
            have HSZ : Hid (w.heap.size ≤ w5.heap.size) := HBL.out.size
            have HR := hid (HR.out.later bq)
            obtain ⟨y0, y1, y2, y3, y4⟩ := HBX.out _ bq
            clear x0 x1 x2 x3 x4 bq e0 hcc hb5
            go_wp2_with (at_builtin; refine wpList_appG entE (t := 22) (z := .agg #[.slice none 0 0, .int .i64 0, .bool false, .int .i64 0, .slice none 0 0]) (bytes := 72) (B := w.heap.size) Tryd.underlying22 entE_info rfl (by decide) rfl (.tmp 37) (.tmp 39) rfl rfl (HR.out.alloc _) rfl (rsg_one HEM.out HEG.out) HGG.out (by have := HLN.out; omega) (by have := HLN.out; omega) (by have := HSZ.out; simp; omega) ?_; intro v9 w9 r9 b9; have HR9 := hid r9; have HB9 : Hid (Below w.heap.size w w9) := (HBL.out.alloc HSZ.out _).trans b9)
            go_roundg GK
            case measure => exact HG.out.1
            case rel => exact ⟨k + 1, HG.out.2, by go_num, by rw [HLT.out, HE.out]; exact HR9.out, HB9.out⟩
      · have q1' : decide (seq ≤ s) = false := by simpa using q1
        have HE := hid (HST.out.1 q1)
        clear HST
        go_upto_region 6 with fail
        rw [← HW1.out]
        obtain ⟨x0, x1, x2, x3, x4⟩ := HBX.out _ (Below.refl _ _)
        go_quiet (fail)
        go_wp2_with fail
        go_roundg GK
        case measure => exact HG.out.1
        case rel => exact ⟨k + 1, HG.out.2, by go_num, by rw [HLT.out, HE.out]; exact HR.out.later (below_drewN (Below.refl _ W1) nq), below_drewN HBL0.out _⟩
    · have hkl' : (len : Int) ≤ (k : Int) := by omega
      have HE : Hid (l.take k = l) := List.take_of_length_le (by omega)
      clear hk hkl
      go_wp2_with fail
      exact bodyPost_ret (v := u5) (by simp [results, Tryd.results37, go_sem]) rfl ⟨u5, rfl, by have := HK.out.1; rw [HE.out] at this; exact this, HK.out.2⟩
end Go.Proofs.YtaefddnmldbgiaaDoor
