/- What the landed batch takes from bytes: a change. -/
import Derived.Test.YtcielnkkbccldaaLbtk
import Derived.Test.YtcielnkkbccldaaBtake
import Derived.Test.YtcielnkkbccldaaBtakew
namespace Go.Proofs.Ytcielnkkbccldaa
open Go.RowKit
set_option linter.unusedVariables false
set_option linter.unusedSimpArgs false

/-- Where the walk stands: the answer's place, the change under way. -/
structure TO (w wx : World) (C : Array Value) : Prop where
  bR : wx.heap[w.heap.size]? = some (.cells #[.slice none 0 0, .bool false, .int .i64 0, .slice none 0 0] 42 (0, 0))
  bo : wx.heap[w.heap.size + 1]? = some (.cells C 42 (0, 0))
  bel : Below w.heap.size w wx
theorem TO.later {w wx wy : World} {C : Array Value} (h : TO w wx C) (hb : Below wx.heap.size wx wy) : TO w wy C :=
  ⟨(hb.block _ (Array.getElem?_eq_some_iff.1 h.bR).1).trans h.bR, (hb.block _ (Array.getElem?_eq_some_iff.1 h.bo).1).trans h.bo, h.bel.trans (hb.mono h.bel.size)⟩
theorem TO.set {w wx : World} {C : Array Value} (h : TO w wx C) (k : Nat) (u : Value) : TO w (wx.setCell ⟨w.heap.size + 1, k, none⟩ u) (C.setIfInBounds k u) := by
  have hg := grown_set wx (w.heap.size + 1) k u
  refine ⟨?_, heap_set h.bo k u, Below.grown h.bel hg h.bel.size fun k e => ?_⟩
  · rw [hg.block _ (Array.getElem?_eq_some_iff.1 h.bR).1 (fun e => by simp only [Option.some.injEq] at e; omega)]; exact h.bR
  · simp only [Option.some.injEq] at e
    omega
theorem TO.facts {w wx : World} {c0 c1 c2 c3 : Value} (h : TO w wx #[c0, c1, c2, c3]) :
    wx.cell? ⟨w.heap.size + 1, 0, none⟩ = some c0 ∧ wx.cell? ⟨w.heap.size + 1, 1, none⟩ = some c1 ∧ wx.cell? ⟨w.heap.size + 1, 2, none⟩ = some c2 ∧ wx.cell? ⟨w.heap.size + 1, 3, none⟩ = some c3 ∧
    wx.frozen? ⟨w.heap.size + 1, 0, none⟩ = false ∧ wx.frozen? ⟨w.heap.size + 1, 1, none⟩ = false ∧ wx.frozen? ⟨w.heap.size + 1, 2, none⟩ = false ∧ wx.frozen? ⟨w.heap.size + 1, 3, none⟩ = false :=
  ⟨by rw [cell_of h.bo]; rfl, by rw [cell_of h.bo]; rfl, by rw [cell_of h.bo]; rfl, by rw [cell_of h.bo]; rfl, frozen_of h.bo 0, frozen_of h.bo 1, frozen_of h.bo 2, frozen_of h.bo 3⟩
theorem TO.res {w wx : World} {C : Array Value} (h : TO w wx C) :
    wx.cell? ⟨w.heap.size, 0, none⟩ = some (.slice none 0 0) ∧ wx.cell? ⟨w.heap.size, 1, none⟩ = some (.bool false) ∧ wx.cell? ⟨w.heap.size, 2, none⟩ = some (.int .i64 0) ∧ wx.cell? ⟨w.heap.size, 3, none⟩ = some (.slice none 0 0) ∧
    wx.frozen? ⟨w.heap.size, 0, none⟩ = false ∧ wx.frozen? ⟨w.heap.size, 1, none⟩ = false ∧ wx.frozen? ⟨w.heap.size, 2, none⟩ = false ∧ wx.frozen? ⟨w.heap.size, 3, none⟩ = false :=
  ⟨by rw [cell_of h.bR]; rfl, by rw [cell_of h.bR]; rfl, by rw [cell_of h.bR]; rfl, by rw [cell_of h.bR]; rfl, frozen_of h.bR 0, frozen_of h.bR 1, frozen_of h.bR 2, frozen_of h.bR 3⟩
/-- The answer is laid. -/
def lay4 (w wx : World) (x0 x1 x2 x3 : Value) : World := (((wx.setCell ⟨w.heap.size, 0, none⟩ x0).setCell ⟨w.heap.size, 1, none⟩ x1).setCell ⟨w.heap.size, 2, none⟩ x2).setCell ⟨w.heap.size, 3, none⟩ x3
theorem lay4_grown (w wx : World) (x0 x1 x2 x3 : Value) : wx.grownBy (lay4 w wx x0 x1 x2 x3) (some w.heap.size) :=
  grown_trans (grown_trans (grown_trans (grown_set _ _ _ _) (grown_set _ _ _ _)) (grown_set _ _ _ _)) (grown_set _ _ _ _)
theorem TO.fin {w wx : World} {C : Array Value} (h : TO w wx C) (x0 x1 x2 x3 : Value) :
    (lay4 w wx x0 x1 x2 x3).cell? ⟨w.heap.size, 0, none⟩ = some x0 ∧ (lay4 w wx x0 x1 x2 x3).cell? ⟨w.heap.size, 1, none⟩ = some x1 ∧ (lay4 w wx x0 x1 x2 x3).cell? ⟨w.heap.size, 2, none⟩ = some x2 ∧ (lay4 w wx x0 x1 x2 x3).cell? ⟨w.heap.size, 3, none⟩ = some x3 ∧ Below w.heap.size w (lay4 w wx x0 x1 x2 x3) := by
  have hb := heap_set (heap_set (heap_set (heap_set h.bR 0 x0) 1 x1) 2 x2) 3 x3
  refine ⟨?_, ?_, ?_, ?_, Below.grown h.bel (lay4_grown w wx x0 x1 x2 x3) h.bel.size fun k e => ?_⟩
  · unfold lay4; rw [cell_of hb]; rfl
  · unfold lay4; rw [cell_of hb]; rfl
  · unfold lay4; rw [cell_of hb]; rfl
  · unfold lay4; rw [cell_of hb]; rfl
  · simp only [Option.some.injEq] at e
    omega
theorem to_begin (w : World) : TO w ((w.alloc (.cells #[.slice none 0 0, .bool false, .int .i64 0, .slice none 0 0] 42)).alloc (.cells #[.slice none 0 0, .bool false, .int .i64 0, .slice none 0 0] 42)) #[.slice none 0 0, .bool false, .int .i64 0, .slice none 0 0] := by
  have b1 : Below w.heap.size w (w.alloc (.cells #[.slice none 0 0, .bool false, .int .i64 0, .slice none 0 0] 42)) := (Below.refl _ _).alloc (Nat.le_refl _) _
  have hs : (w.alloc (.cells #[.slice none 0 0, .bool false, .int .i64 0, .slice none 0 0] 42)).heap.size = w.heap.size + 1 := by simp
  have b2 := (Below.refl _ (w.alloc (.cells #[.slice none 0 0, .bool false, .int .i64 0, .slice none 0 0] 42))).alloc (Nat.le_refl _) (.cells #[.slice none 0 0, .bool false, .int .i64 0, .slice none 0 0] 42)
  refine ⟨?_, ?_, b1.trans (b2.mono (by omega))⟩
  · rw [b2.block w.heap.size (by omega)]; exact heap_alloc_new w _
  · rw [← hs]; exact heap_alloc_new _ _
theorem Sb.later {ob : Nat} {w w' : World} {a : Option Addr} {c : Nat} {xs : List Int} (h : Sb ob w a c xs) (hb : Below w.heap.size w w') : Sb ob w' a c xs := ⟨h.1.later hb, h.2⟩
theorem tb_ok {d : List Int} {most : Nat} (h : Okb d) : Okb (tb d most).2.1 := by
  unfold tb
  split
  · exact fun x hx => by cases hx
  · split
    · exact fun x hx => by cases hx
    · split
      · exact fun x hx => by cases hx
      · exact fun x hx => h x (List.mem_of_mem_drop (List.mem_of_mem_take hx))
theorem rdB_ok {most : Nat} {d key : List Int} {st : Rd} (h : rdB most (d, 0) = (key, st)) (hd : Okb d) : Okb key := by
  have e : (rdB most (d, 0)).1 = key := by rw [h]
  rw [← e]
  unfold rdB
  simp only [ne_eq, not_true_eq_false, if_false]
  split
  · exact fun x hx => by cases hx
  · exact tb_ok hd
theorem rdB_okr {most : Nat} {d key l : List Int} {er : Nat} (h : rdB most (d, 0) = (key, l, er)) (hd : Okb d) : Okb l := by
  have e : (rdB most (d, 0)).2.1 = l := by rw [h]
  rw [← e]
  unfold rdB
  simp only [ne_eq, not_true_eq_false, if_false]
  split
  · exact hd
  · exact fun x hx => hd x (List.mem_of_mem_drop hx)
/-- A change, taken; none where something is wrong. -/
def noOp : OpV := ⟨[], false, 0, []⟩
def tkO (d : List Int) : OpV := if (deO (d, 0)).2.2 ≠ 0 then noOp else (deO (d, 0)).1

set_option maxHeartbeats 4000000 in
set_option maxRecDepth 100000 in
theorem btop_any {w : World} {ao : Option Addr} {len cap : Nat} {d : List Int} (h : Sl w ao len cap d) (hl : len ≤ 175921860444160) :
    Calls Try.prog 30 #[.slice ao len cap] w fun e w' => ∃ ka kc va vc r, e = .returned (.tuple #[.agg #[.slice ka (tkO d).key.length kc, .bool (tkO d).gone, .int .i64 (tkO d).till, .slice va (tkO d).val.length vc], r, .int .i64 ((deO (d, 0)).2.2 : Nat)]) ∧
      Sb (w.heap.size + 1) w' ka kc (tkO d).key ∧ Sb (w.heap.size + 1) w' va vc (tkO d).val ∧ In64 (tkO d).till ∧ Rests ao len cap d r (rst (deO (d, 0)).2) ∧ Below w.heap.size w w' := by
  have HT0 : Hid (TO w _ _) := to_begin w
  have HS0 : Hid (Sl w ao len cap d ∧ len ≤ 175921860444160) := ⟨h, hl⟩
  obtain ⟨W, hW⟩ : ∃ W, W = ((w.alloc (.cells #[.slice none 0 0, .bool false, .int .i64 0, .slice none 0 0] 42)).alloc (.cells #[.slice none 0 0, .bool false, .int .i64 0, .slice none 0 0] 42)) := ⟨_, rfl⟩
  rw [← hW] at HT0
  have HW : Hid (W = ((w.alloc (.cells #[.slice none 0 0, .bool false, .int .i64 0, .slice none 0 0] 42)).alloc (.cells #[.slice none 0 0, .bool false, .int .i64 0, .slice none 0 0] 42))) := hW
  obtain ⟨E, hE⟩ : ∃ E, E = (deO (d, 0)).2.2 := ⟨_, rfl⟩
  rw [← hE]
  have HE : Hid (E = (deO (d, 0)).2.2) := hE
  have hk := btkind_any (h.later HT0.out.bel)
  obtain ⟨⟨g, l1, e1⟩, hF⟩ : ∃ x, rdF (d, 0) = x := ⟨_, rfl⟩
  rw [hF] at hk
  have HF : Hid (rdF (d, 0) = (g, l1, e1)) := hF
  simp only at hk
  clear h hl hE hF hW
  go_enter Try.func30, Try.ntmps30
  go_wp2_with fail
  refine wp_scope_jumps 0 (fun a' w' => (E ≠ 0 ∧ ∃ C, TO w w' C) ∧ ∃ (u0 u1 u3 u4 u5 u6 u7 u9 u10 u11 u12 u13 u14 u15 u16 u17 u18 u19 u20 u21 u22 u23 u24 u25 u26 u27 u28 u29 u30 u31 u32 u33 u34 u35 u36 u37 u38 u39 u40 u41 u42 u43 u44 u45 u46 u47 u48 u49 u50 u51 u52 u53 u54 : Value), a' = { tmps := #[u0, u1, .pointer (some ⟨w.heap.size, 0, none⟩), u3, u4, u5, u6, u7, .int .i64 (E : Nat), u9, u10, u11, u12, u13, u14, u15, u16, u17, u18, u19, u20, u21, u22, u23, u24, u25, u26, u27, u28, u29, u30, u31, u32, u33, u34, u35, u36, u37, u38, u39, u40, u41, u42, u43, u44, u45, u46, u47, u48, u49, u50, u51, u52, u53, u54], defers := [] }) (fun _ _ => 0) rfl ?_ ?_
  · go_upto_region 2 with fail
    rw [← HW.out]
    by_cases q1 : e1 = 0
    · subst q1
      have H1 : Hid (rdF (d, 0) = (g, l1, 0)) := HF.out
      clear HF
      cases g with
      | true =>
        rw [show flg true = 1 from rfl, show rst (l1, 0) = l1 from rfl] at hk
        obtain ⟨⟨key, l2, e2⟩, hB2⟩ : ∃ x, rdB 512 (l1, 0) = x := ⟨_, rfl⟩
        have H2 : Hid (rdB 512 (l1, 0) = (key, l2, e2)) := hB2
        have HL1 : Hid (l1.length ≤ 175921860444160) := by
          have h1 := rdF_len (d, 0)
          rw [H1.out] at h1
          have h2 := HS0.out
          have h3 := h2.1.1
          show l1.length ≤ _
          simp only at h1
          omega
        clear hB2
        go_upto_region 5 with (go_at_call 40; refine hk.mono ?_; rintro e w1 ⟨r1, rfl, s1, b1⟩; obtain ⟨a1, c1, rfl, K1⟩ := s1 _ (HS0.out.1.later HT0.out.bel); have T1 := HT0.out.later b1; obtain ⟨y0, y1, y2, y3, f0, f1, f2, f3⟩ := T1.facts)
        have T1' : TO w (w1.setCell ⟨w.heap.size + 1, 1, none⟩ (.bool true)) #[.slice none 0 0, .bool true, .int .i64 0, .slice none 0 0] := T1.set 1 (.bool true)
        have X1 : Hid (Rests ao len cap d (.slice a1 l1.length c1) l1) := s1
        have hB := btbytes_any ((s1 w HS0.out.1).sl.later T1'.bel) HL1.out 512 (by omega)
        have HT1 : Hid (TO w _ _) := T1'
        obtain ⟨W1, hW1⟩ : ∃ W1, W1 = w1.setCell ⟨w.heap.size + 1, 1, none⟩ (.bool true) := ⟨_, rfl⟩
        rw [← hW1] at hB HT1 ⊢
        rw [H2.out] at hB
        simp only at hB
        have HR2 : Hid (Okb key ∧ w.heap.size + 1 < W1.heap.size ∧ Okb l2) := ⟨rdB_ok H2.out (s1 w HS0.out.1).sl.2.1, (Array.getElem?_eq_some_iff.1 HT1.out.bo).1, rdB_okr H2.out (s1 w HS0.out.1).sl.2.1⟩
        clear T1 T1' K1 hk s1 b1 hW1 y0 y1 y2 y3 f0 f1 f2 f3
        by_cases q2 : e2 = 0
        · subst q2
          have HEE : Hid (deO (d, 0) = (⟨key, true, 0, []⟩, (l2, 0))) := by
            show _ = _
            unfold deO
            rw [H1.out]
            simp only [if_true]
            rw [H2.out]
          obtain rfl : E = 0 := by rw [HE.out, HEE.out]
          clear HE
          go_wp2_with (go_at_call 41; refine hB.mono ?_; rintro e w2 ⟨v2, r2, rfl, R2, S2, b2⟩; obtain ⟨a2, c2, rfl, K2⟩ := sb_row R2 HR2.out.2.1 HR2.out.1; have T2 := HT1.out.later b2; obtain ⟨y0, y1, y2, y3, f0, f1, f2, f3⟩ := T2.facts; have T3 : TO w (w2.setCell ⟨w.heap.size + 1, 0, none⟩ (.slice a2 key.length c2)) #[.slice a2 key.length c2, .bool true, .int .i64 0, .slice none 0 0] := T2.set 0 (.slice a2 key.length c2); obtain ⟨x0, x1, x2, x3, g0, g1, g2, g3⟩ := T3.facts; obtain ⟨z0, z1, z2, z3, h0, h1, h2, h3⟩ := T3.res)
          obtain ⟨o0, o1, o2, o3, ob⟩ := T3.fin (.slice a2 key.length c2) (.bool true) (.int .i64 0) (.slice none 0 0)
          have K3 := (K2.grown (grown_set w2 (w.heap.size + 1) 0 (.slice a2 key.length c2)) (Nat.le_refl _)).grown (lay4_grown w _ (.slice a2 key.length c2) (.bool true) (.int .i64 0) (.slice none 0 0)) (by omega)
          have HO := Hid.mk' ob
          have HK3 := Hid.mk' K3
          unfold lay4 at o0 o1 o2 o3 HO HK3
          simp only [Exit.jump]
          refine bodyPost_ret (v := .tuple #[.agg #[.slice a2 key.length c2, .bool true, .int .i64 0, .slice none 0 0], r2, .int .i64 0]) (by simp [results, Try.results30, go_sem, o0, o1, o2, o3]) rfl ?_
          have e1 : tkO d = ⟨key, true, 0, []⟩ := by unfold tkO; rw [HEE.out]; simp
          have e2 : rst (deO (d, 0)).2 = rst (l2, 0) := by rw [HEE.out]
          rw [e1, e2]
          exact ⟨a2, c2, none, 0, r2, rfl, HK3.out, Sb.nil _ _, in64_0, X1.out.trans S2, HO.out⟩
        · have hne : ((e2 : Int) != 0) = true := by simp; omega
          have HEN : Hid (E ≠ 0 ∧ E = e2) := by
            have : E = e2 := by
              rw [HE.out]
              unfold deO
              rw [H1.out]
              simp only [if_true]
              rw [H2.out]
            exact ⟨by omega, this⟩
          obtain rfl : E = e2 := HEN.out.2
          clear q2
          go_wp2_with (go_at_call 41; refine hB.mono ?_; rintro e w2 ⟨v2, r2, rfl, R2, S2, b2⟩; obtain ⟨a2, c2, rfl, K2⟩ := sb_row R2 HR2.out.2.1 HR2.out.1; have T2 := HT1.out.later b2; obtain ⟨y0, y1, y2, y3, f0, f1, f2, f3⟩ := T2.facts)
          go_step3
          exact ⟨rfl, ⟨HEN.out.1, _, T2.set 0 (.slice a2 key.length c2)⟩, _, _, _, _, _, _, _, _, _, _, _, _, _, _, _, _, _, _, _, _, _, _, _, _, _, _, _, _, _, _, _, _, _, _, _, _, _, _, _, _, _, _, _, _, _, _, _, _, _, _, _, _, _, rfl⟩
      | false =>
        rw [show flg false = 0 from rfl, show rst (l1, 0) = l1 from rfl] at hk
        obtain ⟨⟨key, l2, e2⟩, hB2⟩ : ∃ x, rdB 512 (l1, 0) = x := ⟨_, rfl⟩
        have H2 : Hid (rdB 512 (l1, 0) = (key, l2, e2)) := hB2
        have HL1 : Hid (l1.length ≤ 175921860444160) := by
          have h1 := rdF_len (d, 0)
          rw [H1.out] at h1
          have h2 := HS0.out
          have h3 := h2.1.1
          show l1.length ≤ _
          simp only at h1
          omega
        clear hB2
        go_upto_region 5 with (go_at_call 40; refine hk.mono ?_; rintro e w1 ⟨r1, rfl, s1, b1⟩; obtain ⟨a1, c1, rfl, K1⟩ := s1 _ (HS0.out.1.later HT0.out.bel); have T1 := HT0.out.later b1; obtain ⟨y0, y1, y2, y3, f0, f1, f2, f3⟩ := T1.facts)
        have T1' : TO w (w1.setCell ⟨w.heap.size + 1, 1, none⟩ (.bool false)) #[.slice none 0 0, .bool false, .int .i64 0, .slice none 0 0] := T1.set 1 (.bool false)
        have X1 : Hid (Rests ao len cap d (.slice a1 l1.length c1) l1) := s1
        have hB := btbytes_any ((s1 w HS0.out.1).sl.later T1'.bel) HL1.out 512 (by omega)
        have HT1 : Hid (TO w _ _) := T1'
        obtain ⟨W1, hW1⟩ : ∃ W1, W1 = w1.setCell ⟨w.heap.size + 1, 1, none⟩ (.bool false) := ⟨_, rfl⟩
        rw [← hW1] at hB HT1 ⊢
        rw [H2.out] at hB
        simp only at hB
        have HR2 : Hid (Okb key ∧ w.heap.size + 1 < W1.heap.size ∧ Okb l2) := ⟨rdB_ok H2.out (s1 w HS0.out.1).sl.2.1, (Array.getElem?_eq_some_iff.1 HT1.out.bo).1, rdB_okr H2.out (s1 w HS0.out.1).sl.2.1⟩
        clear T1 T1' K1 hk s1 b1 hW1 y0 y1 y2 y3 f0 f1 f2 f3
        by_cases q2 : e2 = 0
        · subst q2
          rw [show rst (l2, 0) = l2 from rfl] at hB
          obtain ⟨⟨m, l3, e3⟩, hN3⟩ : ∃ x, rdN 4611686018427387904 (l2, 0) = x := ⟨_, rfl⟩
          have H3 : Hid (rdN 4611686018427387904 (l2, 0) = (m, l3, e3)) := hN3
          have HL2 : Hid (l2.length ≤ 175921860444160) := by
            have h1 := rdB_len 512 (l1, 0)
            rw [H2.out] at h1
            have := HL1.out
            show l2.length ≤ _
            simp only at h1
            omega
          clear hN3
          go_upto_region 9 with (go_at_call 41; refine hB.mono ?_; rintro e w2 ⟨v2, r2, rfl, R2, S2, b2⟩; obtain ⟨a2, c2, rfl, K2⟩ := sb_row R2 HR2.out.2.1 HR2.out.1; have T2 := HT1.out.later b2; obtain ⟨y0, y1, y2, y3, f0, f1, f2, f3⟩ := T2.facts; have T3 : TO w (w2.setCell ⟨w.heap.size + 1, 0, none⟩ (.slice a2 key.length c2)) #[.slice a2 key.length c2, .bool false, .int .i64 0, .slice none 0 0] := T2.set 0 (.slice a2 key.length c2); obtain ⟨x0, x1, x2, x3, g0, g1, g2, g3⟩ := T3.facts; have K3 := K2.grown (grown_set w2 (w.heap.size + 1) 0 (.slice a2 key.length c2)) (Nat.le_refl _); obtain ⟨a3, c3, rfl, _⟩ := S2 _ (X1.out w HS0.out.1).sl)
          have X2 : Hid (Rests ao len cap d (.slice a3 l2.length c3) l2) := X1.out.trans S2
          have hN := btnum_any ((X2.out w HS0.out.1).sl.later T3.bel) 4611686018427387904 (by omega)
          rw [H3.out] at hN
          simp only at hN
          obtain ⟨W2, hW2⟩ : ∃ W2, W2 = w2.setCell ⟨w.heap.size + 1, 0, none⟩ (.slice a2 key.length c2) := ⟨_, rfl⟩
          rw [← hW2] at hN T3 K3 ⊢
          have HT2 : Hid (TO w W2 #[.slice a2 key.length c2, .bool false, .int .i64 0, .slice none 0 0] ∧ Sb (w.heap.size + 1) W2 a2 c2 key) := ⟨T3, K3⟩
          clear T2 T3 K2 K3 hB R2 S2 b2 hW2 y0 y1 y2 y3 f0 f1 f2 f3 x0 x1 x2 x3 g0 g1 g2 g3 HT1
          by_cases q3 : e3 = 0
          · subst q3
            rw [show rst (l3, 0) = l3 from rfl] at hN
            obtain ⟨⟨vl, l4, e4⟩, hV4⟩ : ∃ x, rdB 2048 (l3, 0) = x := ⟨_, rfl⟩
            have H4 : Hid (rdB 2048 (l3, 0) = (vl, l4, e4)) := hV4
            have HL3 : Hid (l3.length ≤ 175921860444160) := by
              have h1 := rdN_len 4611686018427387904 (l2, 0)
              rw [H3.out] at h1
              have := HL2.out
              show l3.length ≤ _
              simp only at h1
              omega
            have HM : Hid (m ≤ 4611686018427387904) := by
              have h1 := rdN_le (most := 4611686018427387904) (s := (l2, 0))
              rw [H3.out] at h1
              exact h1
            have hm63 : m ≤ 2 ^ 63 - 1 := by have := HM.out; omega
            clear hV4
            go_upto_region 11 with (go_at_call 29; refine hN.mono ?_; rintro e w3 ⟨r3, rfl, S3, b3⟩; have T3 := HT2.out.1.later b3; have K3 := HT2.out.2.later b3; obtain ⟨y0, y1, y2, y3, f0, f1, f2, f3⟩ := T3.facts; have T4 : TO w (w3.setCell ⟨w.heap.size + 1, 2, none⟩ (.int .i64 (m : Nat))) #[.slice a2 key.length c2, .bool false, .int .i64 (m : Nat), .slice none 0 0] := T3.set 2 (.int .i64 (m : Nat)); have K4 := K3.grown (grown_set w3 (w.heap.size + 1) 2 (.int .i64 (m : Nat))) (Nat.le_refl _); obtain ⟨a4, c4, rfl, _⟩ := S3 _ (X2.out w HS0.out.1).sl)
            have X3 : Hid (Rests ao len cap d (.slice a4 l3.length c4) l3) := X2.out.trans S3
            have hV := btbytes_any ((X3.out w HS0.out.1).sl.later T4.bel) HL3.out 2048 (by omega)
            rw [H4.out] at hV
            simp only at hV
            obtain ⟨W3, hW3⟩ : ∃ W3, W3 = w3.setCell ⟨w.heap.size + 1, 2, none⟩ (.int .i64 (m : Nat)) := ⟨_, rfl⟩
            rw [← hW3] at hV T4 K4 ⊢
            have HT3 : Hid (TO w W3 #[.slice a2 key.length c2, .bool false, .int .i64 (m : Nat), .slice none 0 0] ∧ Sb (w.heap.size + 1) W3 a2 c2 key) := ⟨T4, K4⟩
            have HR3 : Hid (Okb vl ∧ w.heap.size + 1 < W3.heap.size) := ⟨rdB_ok H4.out (X3.out w HS0.out.1).sl.2.1, (Array.getElem?_eq_some_iff.1 HT3.out.1.bo).1⟩
            clear T3 T4 K3 K4 hN S3 b3 hW3 y0 y1 y2 y3 f0 f1 f2 f3 HT2
            by_cases q4 : e4 = 0
            · subst q4
              have HEE : Hid (deO (d, 0) = (⟨key, false, (m : Int), vl⟩, (l4, 0))) := by
                show _ = _
                unfold deO
                rw [H1.out]
                simp only [Bool.false_eq_true, if_false]
                rw [H2.out]
                simp only
                rw [H3.out]
                simp only
                rw [H4.out]
              obtain rfl : E = 0 := by rw [HE.out, HEE.out]
              clear HE
              go_wp2_with (go_at_call 41; refine hV.mono ?_; rintro e w4 ⟨v4, r4, rfl, R4, S4, b4⟩; obtain ⟨a5, c5, rfl, K5⟩ := sb_row R4 HR3.out.2 HR3.out.1; have T5 := HT3.out.1.later b4; have K6 := HT3.out.2.later b4; obtain ⟨y0, y1, y2, y3, f0, f1, f2, f3⟩ := T5.facts; have T6 : TO w (w4.setCell ⟨w.heap.size + 1, 3, none⟩ (.slice a5 vl.length c5)) #[.slice a2 key.length c2, .bool false, .int .i64 (m : Nat), .slice a5 vl.length c5] := T5.set 3 (.slice a5 vl.length c5); obtain ⟨x0, x1, x2, x3, g0, g1, g2, g3⟩ := T6.facts; obtain ⟨z0, z1, z2, z3, h0, h1, h2, h3⟩ := T6.res)
              obtain ⟨o0, o1, o2, o3, ob⟩ := T6.fin (.slice a2 key.length c2) (.bool false) (.int .i64 (m : Nat)) (.slice a5 vl.length c5)
              have K7 := (K6.grown (grown_set w4 (w.heap.size + 1) 3 (.slice a5 vl.length c5)) (Nat.le_refl _)).grown (lay4_grown w _ (.slice a2 key.length c2) (.bool false) (.int .i64 (m : Nat)) (.slice a5 vl.length c5)) (by omega)
              have K8 := (K5.grown (grown_set w4 (w.heap.size + 1) 3 (.slice a5 vl.length c5)) (Nat.le_refl _)).grown (lay4_grown w _ (.slice a2 key.length c2) (.bool false) (.int .i64 (m : Nat)) (.slice a5 vl.length c5)) (by omega)
              have HO := Hid.mk' ob
              have HK7 := Hid.mk' K7
              have HK8 := Hid.mk' K8
              unfold lay4 at o0 o1 o2 o3 HO HK7 HK8
              simp only [Exit.jump]
              refine bodyPost_ret (v := .tuple #[.agg #[.slice a2 key.length c2, .bool false, .int .i64 (m : Nat), .slice a5 vl.length c5], r4, .int .i64 0]) (by simp [results, Try.results30, go_sem, o0, o1, o2, o3]) rfl ?_
              have e1 : tkO d = ⟨key, false, (m : Int), vl⟩ := by unfold tkO; rw [HEE.out]; simp
              have e2 : rst (deO (d, 0)).2 = rst (l4, 0) := by rw [HEE.out]
              rw [e1, e2]
              exact ⟨a2, c2, a5, c5, r4, rfl, HK7.out, HK8.out, ⟨by show _ ≤ (m : Int); omega, by show (m : Int) ≤ _; have := HM.out; omega⟩, X3.out.trans S4, HO.out⟩
            · have hne : ((e4 : Int) != 0) = true := by simp; omega
              have HEN : Hid (E ≠ 0 ∧ E = e4) := by
                have : E = e4 := by
                  rw [HE.out]
                  unfold deO
                  rw [H1.out]
                  simp only [Bool.false_eq_true, if_false]
                  rw [H2.out]
                  simp only
                  rw [H3.out]
                  simp only
                  rw [H4.out]
                exact ⟨by omega, this⟩
              obtain rfl : E = e4 := HEN.out.2
              clear q4
              go_wp2_with (go_at_call 41; refine hV.mono ?_; rintro e w4 ⟨v4, r4, rfl, R4, S4, b4⟩; obtain ⟨a5, c5, rfl, K5⟩ := sb_row R4 HR3.out.2 HR3.out.1; have T5 := HT3.out.1.later b4; obtain ⟨y0, y1, y2, y3, f0, f1, f2, f3⟩ := T5.facts)
              go_step3
              exact ⟨rfl, ⟨HEN.out.1, _, T5.set 3 (.slice a5 vl.length c5)⟩, _, _, _, _, _, _, _, _, _, _, _, _, _, _, _, _, _, _, _, _, _, _, _, _, _, _, _, _, _, _, _, _, _, _, _, _, _, _, _, _, _, _, _, _, _, _, _, _, _, _, _, _, _, rfl⟩
          · have hne : ((e3 : Int) != 0) = true := by simp; omega
            have HEN : Hid (E ≠ 0 ∧ E = e3) := by
              have : E = e3 := by
                rw [HE.out]
                unfold deO
                rw [H1.out]
                simp only [Bool.false_eq_true, if_false]
                rw [H2.out]
                simp only
                rw [H3.out]
                simp only
                rw [rdB_err (s := (l3, e3)) q3]
              exact ⟨by omega, this⟩
            have hm63 : m ≤ 2 ^ 63 - 1 := by
              have h1 := rdN_le (most := 4611686018427387904) (s := (l2, 0))
              rw [H3.out] at h1
              have : m ≤ 4611686018427387904 := h1
              omega
            obtain rfl : E = e3 := HEN.out.2
            clear q3
            go_wp2_with (go_at_call 29; refine hN.mono ?_; rintro e w3 ⟨r3, rfl, S3, b3⟩; have T3 := HT2.out.1.later b3; obtain ⟨y0, y1, y2, y3, f0, f1, f2, f3⟩ := T3.facts)
            go_step3
            exact ⟨rfl, ⟨HEN.out.1, _, T3.set 2 (.int .i64 (m : Nat))⟩, _, _, _, _, _, _, _, _, _, _, _, _, _, _, _, _, _, _, _, _, _, _, _, _, _, _, _, _, _, _, _, _, _, _, _, _, _, _, _, _, _, _, _, _, _, _, _, _, _, _, _, _, _, rfl⟩
        · have hne : ((e2 : Int) != 0) = true := by simp; omega
          have HEN : Hid (E ≠ 0 ∧ E = e2) := by
            have : E = e2 := by
              rw [HE.out]
              unfold deO
              rw [H1.out]
              simp only [Bool.false_eq_true, if_false]
              rw [H2.out]
              simp only
              rw [rdN_err (s := (l2, e2)) q2]
              simp only
              rw [rdB_err (s := (l2, e2)) q2]
            exact ⟨by omega, this⟩
          obtain rfl : E = e2 := HEN.out.2
          clear q2
          go_wp2_with (go_at_call 41; refine hB.mono ?_; rintro e w2 ⟨v2, r2, rfl, R2, S2, b2⟩; obtain ⟨a2, c2, rfl, K2⟩ := sb_row R2 HR2.out.2.1 HR2.out.1; have T2 := HT1.out.later b2; obtain ⟨y0, y1, y2, y3, f0, f1, f2, f3⟩ := T2.facts)
          go_step3
          exact ⟨rfl, ⟨HEN.out.1, _, T2.set 0 (.slice a2 key.length c2)⟩, _, _, _, _, _, _, _, _, _, _, _, _, _, _, _, _, _, _, _, _, _, _, _, _, _, _, _, _, _, _, _, _, _, _, _, _, _, _, _, _, _, _, _, _, _, _, _, _, _, _, _, _, _, rfl⟩
    · have hne : ((e1 : Int) != 0) = true := by simp; omega
      have HEE : Hid (E = e1 ∧ E ≠ 0) := by
        have hg : g = false := by
          have := HF.out
          unfold rdF at this
          simp only [ne_eq, not_true_eq_false, if_false] at this
          cases d with
          | nil => simp only [Prod.mk.injEq] at this; exact this.1.symm
          | cons c r =>
            simp only [Prod.mk.injEq] at this
            obtain ⟨t1, t2, t3⟩ := this
            split at t3
            · rw [← t1]; simp; omega
            · omega
        have : E = e1 := by
          rw [HE.out]
          unfold deO
          rw [HF.out, hg]
          simp only [Bool.false_eq_true, if_false]
          rw [rdB_err (s := (l1, e1)) q1]
          simp only
          rw [rdN_err (s := (l1, e1)) q1]
          simp only
          rw [rdB_err (s := (l1, e1)) q1]
        exact ⟨this, by omega⟩
      obtain rfl : E = e1 := HEE.out.1
      clear q1
      go_wp2_with (go_at_call 40; refine hk.mono ?_; rintro e w1 ⟨r1, rfl, s1, b1⟩)
      go_step3
      exact ⟨rfl, ⟨HEE.out.2, _, HT0.out.later b1⟩, _, _, _, _, _, _, _, _, _, _, _, _, _, _, _, _, _, _, _, _, _, _, _, _, _, _, _, _, _, _, _, _, _, _, _, _, _, _, _, _, _, _, _, _, _, _, _, _, _, _, _, _, _, rfl⟩
  · rintro a' w' ⟨⟨hne, C, T⟩, u0, u1, u3, u4, u5, u6, u7, u9, u10, u11, u12, u13, u14, u15, u16, u17, u18, u19, u20, u21, u22, u23, u24, u25, u26, u27, u28, u29, u30, u31, u32, u33, u34, u35, u36, u37, u38, u39, u40, u41, u42, u43, u44, u45, u46, u47, u48, u49, u50, u51, u52, u53, u54, rfl⟩
    have HT : Hid (TO w w' C ∧ E ≠ 0) := ⟨T, hne⟩
    obtain ⟨y0, y1, y2, y3, f0, f1, f2, f3⟩ := T.res
    obtain ⟨o0, o1, o2, o3, ob⟩ := T.fin (.slice none 0 0) (.bool false) (.int .i64 0) (.slice none 0 0)
    unfold lay4 at o0 o1 o2 o3 ob
    have HO : Hid _ := Hid.mk' ob
    clear T hne ob
    go_wp2_with fail
    simp only [Exit.jump]
    refine bodyPost_ret (v := .tuple #[.agg #[.slice none 0 0, .bool false, .int .i64 0, .slice none 0 0], .slice none 0 0, .int .i64 (E : Nat)]) (by simp [results, Try.results30, go_sem, o0, o1, o2, o3]) rfl ?_
    have e1 : tkO d = noOp := by unfold tkO; rw [if_pos (by rw [← HE.out]; exact HT.out.2)]
    have e2 : rst (deO (d, 0)).2 = [] := by unfold rst; rw [if_pos (by rw [← HE.out]; exact HT.out.2)]
    rw [e1, e2]
    exact ⟨none, 0, none, 0, .slice none 0 0, rfl, Sb.nil _ _, Sb.nil _ _, in64_0, Rests.nil _ _ _ _, HO.out⟩
end Go.Proofs.Ytcielnkkbccldaa
