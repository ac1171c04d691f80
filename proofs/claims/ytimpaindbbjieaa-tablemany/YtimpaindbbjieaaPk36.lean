import Derived.Deep.RegionHeldLaw
import Derived.Test.YtimpaindbbjieaaPk05
import Derived.Test.YtimpaindbbjieaaPk08
import Derived.Test.YtimpaindbbjieaaPk18
import Derived.Test.YtimpaindbbjieaaPk35
/- The landed table: rows of the index. -/
namespace Go.Proofs.Ytimpaindbbjieaa
open Go.RowKit
set_option linter.unusedVariables false
set_option linter.unusedSimpArgs false

/-- The answer of takeRow and where it stands, under way. -/
structure TRt (w wx : World) (x0 x1 x2 y0 y1 : Value) : Prop where
  b0 : wx.heap[w.heap.size]? = some (.cells #[x0, x1, x2] 86 (0, 0))
  b1 : wx.heap[w.heap.size + 1]? = some (.cells #[y0, y1] 74 (0, 0))
  bel : Below w.heap.size w wx
theorem TRt.later {w wx wy : World} {x0 x1 x2 y0 y1 : Value} (h : TRt w wx x0 x1 x2 y0 y1) (hb : Below wx.heap.size wx wy) : TRt w wy x0 x1 x2 y0 y1 :=
  ⟨(hb.block _ (Array.getElem?_eq_some_iff.1 h.b0).1).trans h.b0, (hb.block _ (Array.getElem?_eq_some_iff.1 h.b1).1).trans h.b1, h.bel.trans (hb.mono h.bel.size)⟩
theorem TRt.facts {w wx : World} {x0 x1 x2 y0 y1 : Value} (h : TRt w wx x0 x1 x2 y0 y1) :
    wx.cell? ⟨w.heap.size, 0, none⟩ = some x0 ∧ wx.cell? ⟨w.heap.size, 1, none⟩ = some x1 ∧ wx.cell? ⟨w.heap.size, 2, none⟩ = some x2 ∧ wx.cell? ⟨w.heap.size + 1, 0, none⟩ = some y0 ∧ wx.cell? ⟨w.heap.size + 1, 1, none⟩ = some y1 ∧
    wx.frozen? ⟨w.heap.size, 0, none⟩ = false ∧ wx.frozen? ⟨w.heap.size, 1, none⟩ = false ∧ wx.frozen? ⟨w.heap.size, 2, none⟩ = false ∧ wx.frozen? ⟨w.heap.size + 1, 0, none⟩ = false ∧ wx.frozen? ⟨w.heap.size + 1, 1, none⟩ = false :=
  ⟨by rw [cell_of h.b0]; rfl, by rw [cell_of h.b0]; rfl, by rw [cell_of h.b0]; rfl, by rw [cell_of h.b1]; rfl, by rw [cell_of h.b1]; rfl, frozen_of h.b0 0, frozen_of h.b0 1, frozen_of h.b0 2, frozen_of h.b1 0, frozen_of h.b1 1⟩
/-- Three cells, laid. -/
def lay3 (p : Nat) (wx : World) (x0 x1 x2 : Value) : World := ((wx.setCell ⟨p, 0, none⟩ x0).setCell ⟨p, 1, none⟩ x1).setCell ⟨p, 2, none⟩ x2
theorem lay3_grown (p : Nat) (wx : World) (x0 x1 x2 : Value) : wx.grownBy (lay3 p wx x0 x1 x2) (some p) := grown_trans (grown_trans (grown_set _ _ _ _) (grown_set _ _ _ _)) (grown_set _ _ _ _)
theorem TRt.set1 {w wx : World} {x0 x1 x2 y0 y1 : Value} (h : TRt w wx x0 x1 x2 y0 y1) (u0 u1 : Value) : TRt w (lay2 (w.heap.size + 1) wx u0 u1) x0 x1 x2 u0 u1 :=
  ⟨by rw [(lay2_grown (w.heap.size + 1) wx u0 u1).block _ (Array.getElem?_eq_some_iff.1 h.b0).1 (fun e => by simp only [Option.some.injEq] at e; omega)]; exact h.b0, lay2_block h.b1 u0 u1, lay2_below h.bel (Nat.le_refl _) (by omega) _ _⟩
theorem TRt.fin {w wx : World} {x0 x1 x2 y0 y1 : Value} (h : TRt w wx x0 x1 x2 y0 y1) (u0 u1 u2 : Value) :
    (lay3 w.heap.size wx u0 u1 u2).cell? ⟨w.heap.size, 0, none⟩ = some u0 ∧ (lay3 w.heap.size wx u0 u1 u2).cell? ⟨w.heap.size, 1, none⟩ = some u1 ∧ (lay3 w.heap.size wx u0 u1 u2).cell? ⟨w.heap.size, 2, none⟩ = some u2 ∧ Below w.heap.size w (lay3 w.heap.size wx u0 u1 u2) := by
  have hb : (lay3 w.heap.size wx u0 u1 u2).heap[w.heap.size]? = some (.cells #[u0, u1, u2] 86 (0, 0)) := by
    have hb := heap_set (heap_set (heap_set h.b0 0 u0) 1 u1) 2 u2
    unfold lay3
    rw [hb]
    rfl
  refine ⟨by rw [cell_of hb]; rfl, by rw [cell_of hb]; rfl, by rw [cell_of hb]; rfl, h.bel.trans (Below.grown (Below.refl _ wx) (lay3_grown _ wx u0 u1 u2) h.bel.size fun k e => ?_)⟩
  simp only [Option.some.injEq] at e
  omega
theorem trt_begin (w : World) : TRt w ((w.alloc (.cells #[.int .i64 0, .int .i64 0, .slice none 0 0] 86)).alloc (.cells #[.int .i64 0, .int .i64 0] 74)) (.int .i64 0) (.int .i64 0) (.slice none 0 0) (.int .i64 0) (.int .i64 0) := by
  have b1 : Below w.heap.size w (w.alloc (.cells #[.int .i64 0, .int .i64 0, .slice none 0 0] 86)) := (Below.refl _ _).alloc (Nat.le_refl _) _
  have hs : (w.alloc (.cells #[.int .i64 0, .int .i64 0, .slice none 0 0] 86)).heap.size = w.heap.size + 1 := by simp
  have b2 := (Below.refl _ (w.alloc (.cells #[.int .i64 0, .int .i64 0, .slice none 0 0] 86))).alloc (Nat.le_refl _) (.cells #[.int .i64 0, .int .i64 0] 74)
  refine ⟨?_, ?_, b1.trans (b2.mono (by omega))⟩
  · rw [b2.block w.heap.size (by omega)]; exact heap_alloc_new w _
  · rw [← hs]; exact heap_alloc_new _ _
/-- What takeRow answers. -/
def RwR (o : Option (RowV × Nat)) (B : Nat) (e : Ending) (w' : World) : Prop :=
  (o = none ∧ e = .returned (.tuple #[.agg #[.int .i64 0, .int .i64 0, .slice none 0 0], .int .i64 0, .bool false])) ∨
  ∃ r a c, o = some r ∧ e = .returned (.tuple #[.agg #[.int .i64 (r.1.sp.1 : Int), .int .i64 (r.1.sp.2 : Int), .slice a r.1.last.length c], .int .i64 (r.2 : Int), .bool true]) ∧ Row B w' (.slice a r.1.last.length c) r.1.last
/-- What takeRow answers, walked. -/
theorem rwT_eq {xs : List Int} {room e1 n1 e2 p n2 e3 q n3 : Nat} {k1 : List Int} (h1 : tb xs 512 = (e1, k1, n1)) (h2 : tk (xs.drop n1) = (e2, p, n2)) (h3 : tk (xs.drop (n1 + n2)) = (e3, q, n3)) :
    rwT xs room = if e1 ≠ 0 ∨ k1 = [] then none else if e2 ≠ 0 then none else if e3 ≠ 0 then none else match spO p q room with | none => none | some s => some (⟨s, k1⟩, n1 + n2 + n3) := by
  unfold rwT
  rw [h1]
  simp only
  rw [h2]
  simp only
  rw [h3]
  rfl
set_option maxHeartbeats 4000000 in
set_option maxRecDepth 100000 in
theorem row_t {w : World} {ao : Option Addr} {len cap room : Nat} {xs : List Int} (h : Sl w ao len cap xs) (hl : len ≤ 5000000) (hr : room ≤ 5000000) :
    Calls Try.prog 76 #[.slice ao len cap, .int .i64 (room : Int)] w fun e w' => RwR (rwT xs room) w.heap.size e w' ∧ Below w.heap.size w w' := by
  obtain ⟨⟨e1, k1, n1⟩, h1⟩ : ∃ x, tb xs 512 = x := ⟨_, rfl⟩
  obtain ⟨⟨e2, p, n2⟩, h2⟩ : ∃ x, tk (xs.drop n1) = x := ⟨_, rfl⟩
  obtain ⟨⟨e3, q, n3⟩, h3⟩ : ∃ x, tk (xs.drop (n1 + n2)) = x := ⟨_, rfl⟩
  have hEQ := rwT_eq (room := room) h1 h2 h3
  obtain ⟨O, hO⟩ : ∃ O, O = rwT xs room := ⟨_, rfl⟩
  rw [← hO] at hEQ ⊢
  have HEQ := hid hEQ
  have hln := h.1
  have hok1 : Okb k1 := by have := tb_okb (most := 512) h.2.1; rw [h1] at this; exact this
  have hn1 : e1 = 0 → 1 ≤ n1 ∧ n1 ≤ len := fun z => by
    have := tb_used (xs := xs) (most := 512) (by rw [h1]; exact z)
    rw [h1, hln] at this
    exact ⟨this.1, this.2.1⟩
  have hn2 : e1 = 0 → e2 = 0 → n1 + n2 ≤ len := fun z z2 => by
    have := (tk_used (xs := xs.drop n1) (by rw [h2]; exact z2)).2
    rw [h2, List.length_drop, hln] at this
    have := hn1 z
    simp only at *
    omega
  have hp64 : p < 18446744073709551616 := by have := tk_lt (xs.drop n1); rw [h2] at this; exact this
  have hq64 : q < 18446744073709551616 := by have := tk_lt (xs.drop (n1 + n2)); rw [h3] at this; exact this
  have hn3 : e1 = 0 → e2 = 0 → e3 = 0 → n1 + n2 + n3 ≤ len := fun z z2 z3 => by
    have := (tk_used (xs := xs.drop (n1 + n2)) (by rw [h3]; exact z3)).2
    rw [h3, List.length_drop, hln] at this
    have := hn2 z z2
    simp only at *
    omega
  obtain ⟨W, hW⟩ : ∃ W, (w.alloc (.cells #[.int .i64 0, .int .i64 0, .slice none 0 0] 86)).alloc (.cells #[.int .i64 0, .int .i64 0] 74) = W := ⟨_, rfl⟩
  have T0 : TRt w W (.int .i64 0) (.int .i64 0) (.slice none 0 0) (.int .i64 0) (.int .i64 0) := by rw [← hW]; exact trt_begin w
  have HT0 := hid T0
  have HSZ : Hid (W.heap.size = w.heap.size + 2) := by show _ = _; rw [← hW]; simp
  have ht1 := tb_l (h.later T0.bel) (by omega) 512 (by omega)
  rw [h1] at ht1
  simp only at ht1
  have HTK1 : Hid (e1 = 0 → ∀ wx, Below w.heap.size w wx → Calls Try.prog 98 #[.slice (cutA ao cap n1) (len - n1) (cap - n1)] wx fun e w' => e = .returned (.tuple #[.int .u64 (p : Int), .int .i64 (n2 : Int), .int .i64 (e2 : Int)]) ∧ w' = wx) := fun z wx hb => by
    have := tk_l ((h.later hb).from n1 (hn1 z).2)
    rw [h2] at this
    exact this
  have HTK2 : Hid (e1 = 0 → e2 = 0 → ∀ wx, Below w.heap.size w wx → Calls Try.prog 98 #[.slice (cutA ao cap (n1 + n2)) (len - (n1 + n2)) (cap - (n1 + n2))] wx fun e w' => e = .returned (.tuple #[.int .u64 (q : Int), .int .i64 (n3 : Int), .int .i64 (e3 : Int)]) ∧ w' = wx) := fun z z2 wx hb => by
    have := tk_l ((h.later hb).from (n1 + n2) (hn2 z z2))
    rw [h3] at this
    exact this
  have HCF1 : Hid (e1 = 0 → ∀ w, (Instr.slice 25 (.slice ao len cap) (some (.int .i64 (n1 : Int))) none none).run Try.prog w = .ok (.slice (cutA ao cap n1) (len - n1) (cap - n1)) w) := fun z w => run_from w ao len cap n1 (hn1 z).2 h.2.2.2.1
  obtain ⟨M, hM⟩ : ∃ M, M = n1 + n2 := ⟨_, rfl⟩
  rw [← hM] at HTK2
  have HCF2 : Hid (e1 = 0 → e2 = 0 → ∀ w, (Instr.slice 25 (.slice ao len cap) (some (.int .i64 (M : Int))) none none).run Try.prog w = .ok (.slice (cutA ao cap M) (len - M) (cap - M)) w) := fun z z2 w => run_from w ao len cap M (by rw [hM]; exact hn2 z z2) h.2.2.2.1
  have HSP : Hid (∀ wx, Calls Try.prog 73 #[.int .u64 (p : Int), .int .u64 (q : Int), .int .i64 (room : Int)] wx fun e w' => e = .returned (spR (spO p q room)) ∧ Below wx.heap.size wx w') := fun wx => spw_t hp64 hq64 (by omega)
  have HN : Hid ((e1 = 0 → n1 ≤ len) ∧ (e1 = 0 → e2 = 0 → n1 + n2 ≤ len) ∧ (e1 = 0 → e2 = 0 → e3 = 0 → n1 + n2 + n3 ≤ len) ∧ len ≤ 5000000 ∧ M = n1 + n2) := ⟨fun z => (hn1 z).2, hn2, hn3, hl, hM⟩
  have HOK := hid hok1
  generalize cutA ao cap n1 = b1 at HTK1 HCF1
  generalize len - n1 = b2 at HTK1 HCF1
  generalize cap - n1 = b3 at HTK1 HCF1
  generalize cutA ao cap M = d1 at HTK2 HCF2
  generalize len - M = d2 at HTK2 HCF2
  generalize cap - M = d3 at HTK2 HCF2
  clear h hl hr h1 h2 h3 hO hEQ hln hok1 hn1 hn2 hn3 hp64 hq64 T0 hM
  go_enter Try.func76, Try.ntmps76
  go_wp2_with fail
  refine wp_scope_jumps 0 (fun a' w' => (O = none ∧ ∃ x0 x1 x2 y0 y1, TRt w w' x0 x1 x2 y0 y1) ∧ ∃ (u0 u1 u2 u3 u5 u6 u7 u8 u9 u10 u11 u12 u13 u14 u15 u16 u17 u18 u19 u20 u21 u22 u23 u24 u25 u26 u27 u28 u29 u30 u31 u32 u33 u34 u35 u36 u37 u38 u39 u40 u41 u42 u43 u44 u45 u46 u47 u48 u49 u50 u51 u52 u53 u54 u55 u56 u57 u58 u59 u60 u61 u62 u63 u64 u65 u66 u67 u68 : Value), a' = { tmps := #[u0, u1, u2, u3, .pointer (some ⟨w.heap.size, 0, none⟩), u5, u6, u7, u8, u9, u10, u11, u12, u13, u14, u15, u16, u17, u18, u19, u20, u21, u22, u23, u24, u25, u26, u27, u28, u29, u30, u31, u32, u33, u34, u35, u36, u37, u38, u39, u40, u41, u42, u43, u44, u45, u46, u47, u48, u49, u50, u51, u52, u53, u54, u55, u56, u57, u58, u59, u60, u61, u62, u63, u64, u65, u66, u67, u68], defers := [] }) (fun _ _ => 0) rfl ?_ ?_
  · go_upto_region 6 with (go_at_call 97; refine ht1.mono ?_; rintro e w1 ⟨v1, rfl, r1, c1⟩)
    obtain ⟨a1, c1', hv1, s1⟩ := Sl.ofRow r1 HOK.out
    subst hv1
    have T1 := hid (HT0.out.later c1)
    have HR1 := hid (r1.base (B' := w.heap.size) HT0.out.bel.size)
    have HOWN : Hid (∀ g, (Value.slice a1 k1.length c1').ownBlock = some g → w.heap.size + 2 ≤ g) := fun g hg => by have := (Row.own_ltT r1 hg).1; have := HSZ.out; omega
    clear ht1 r1 s1 c1
    by_cases q1 : e1 = 0
    · subst q1
      have HN1 := hid (HN.out.1 rfl)
      have HNb := hid (HN.out.2.1 rfl)
      have HNc := hid (HN.out.2.2.1 rfl)
      have HNd := hid HN.out.2.2.2
      have hcf1 := HCF1.out rfl
      have hk1 := HTK1.out rfl _ T1.out.bel
      have HCF2b := hid (HCF2.out rfl)
      have HTK2b := hid (HTK2.out rfl)
      clear HN HCF1 HTK1 HCF2 HTK2
      by_cases q2 : k1 = []
      · have HO : Hid (O = none) := by show _ = _; rw [HEQ.out, if_pos (.inr q2)]
        subst q2
        clear HEQ
        go_wp2_with fail
        go_step3
        exact ⟨rfl, ⟨HO.out, _, _, _, _, _, T1.out⟩, _, _, _, _, _, _, _, _, _, _, _, _, _, _, _, _, _, _, _, _, _, _, _, _, _, _, _, _, _, _, _, _, _, _, _, _, _, _, _, _, _, _, _, _, _, _, _, _, _, _, _, _, _, _, _, _, _, _, _, _, _, _, _, _, _, _, _, _, rfl⟩
      · have hkl : ¬ ((k1.length : Int) = 0) := by
          intro z
          exact q2 (List.eq_nil_of_length_eq_zero (by omega))
        have HQ2 := hid q2
        generalize hKL : k1.length = KL at hkl HR1 HOWN ⊢
        have HKL := hid hKL
        have hn1 : n1 ≤ 2 ^ 60 := by have := HN1.out; have := HNd.out.1; omega
        clear q2 hKL
        go_upto_region 8 with (go_at_call 98; refine hk1.mono ?_; rintro e w' ⟨rfl, hw⟩; obtain rfl := hw.symm)
        clear hk1 hcf1
        by_cases q3 : e2 = 0
        · subst q3
          have hM2 : (n1 : Int) + (n2 : Int) = (M : Int) := by have := HNd.out.2; omega
          have hM62 : M ≤ 2 ^ 60 := by have := HNb.out rfl; have := HNd.out; omega
          have HNe := hid (HNc.out rfl)
          have hM3 : wrap64 ((n1 : Int) + (n2 : Int)) = (M : Int) := by rw [hM2]; unfold wrap64; omega
          have hcf2 := HCF2b.out rfl
          have hk2 := HTK2b.out rfl _ T1.out.bel
          clear HCF2b HTK2b HNb HNc
          go_upto_region 11 with (go_at_call 98; refine hk2.mono ?_; rintro e w' ⟨rfl, hw⟩; obtain rfl := hw.symm)
          clear hk2 hcf2
          by_cases q4 : e3 = 0
          · subst q4
            have hn3 : n1 + n2 + n3 ≤ 5000000 := by have := HNe.out rfl; have := HNd.out; omega
            obtain ⟨L, hL⟩ : ∃ L, L = n1 + n2 + n3 := ⟨_, rfl⟩
            have hMn : (M : Int) + (n3 : Int) = (L : Int) := by have := HNd.out.2; omega
            have HLL := hid hL
            have hL62 : L ≤ 2 ^ 60 := by omega
            clear HNe hL
            obtain ⟨A, f, hA, hA1, hA2⟩ := spR_is (spO p q room)
            have hsp := HSP.out w1
            rw [hA] at hsp
            obtain ⟨A0, A1⟩ := A
            simp only at hsp
            have HAF := hid (And.intro hA1 hA2)
            clear hA hA1 hA2
            have hn3b : n3 ≤ 2 ^ 60 := by omega
            go_upto_region 14 with (go_at_call 73; refine hsp.mono ?_; rintro e w2 ⟨rfl, c2⟩; have T2 := T1.out.later c2; obtain ⟨y0, y1, y2, y3, y4, f0, f1, f2, f3, f4⟩ := T2.facts; have HR2 := hid (HR1.out.later c2))
            have T3 := hid (T2.set1 (.int .i64 (A0 : Int)) (.int .i64 (A1 : Int)))
            have HR3 := hid (HR2.out.other (lay2_grown (w.heap.size + 1) w2 (.int .i64 (A0 : Int)) (.int .i64 (A1 : Int))) fun g hg e => by have := HOWN.out g hg; simp only [Option.some.injEq] at e; omega)
            unfold lay2 at T3 HR3
            generalize (w2.setCell ⟨w.heap.size + 1, 0, none⟩ (.int .i64 (A0 : Int))).setCell ⟨w.heap.size + 1, 1, none⟩ (.int .i64 (A1 : Int)) = w3 at T3 HR3 ⊢
            clear y0 y1 y2 y3 y4 f0 f1 f2 f3 f4 T2 hsp c2
            cases f with
            | false =>
              have HO : Hid (O = none) := by
                show _ = _
                rw [HEQ.out, if_neg (by simp [HQ2.out]), if_neg (by simp), if_neg (by simp), HAF.out.2 rfl]
              clear HEQ HAF
              go_wp2_with fail
              go_step3
              exact ⟨rfl, ⟨HO.out, _, _, _, _, _, T3.out⟩, _, _, _, _, _, _, _, _, _, _, _, _, _, _, _, _, _, _, _, _, _, _, _, _, _, _, _, _, _, _, _, _, _, _, _, _, _, _, _, _, _, _, _, _, _, _, _, _, _, _, _, _, _, _, _, _, _, _, _, _, _, _, _, _, _, _, _, _, rfl⟩
            | true =>
              have HO : Hid (O = some (⟨(A0, A1), k1⟩, n1 + n2 + n3)) := by
                show _ = _
                rw [HEQ.out, if_neg (by simp [HQ2.out]), if_neg (by simp), if_neg (by simp), HAF.out.1 rfl]
              clear HEQ HAF
              obtain ⟨y0, y1, y2, y3, y4, f0, f1, f2, f3, f4⟩ := T3.out.facts
              obtain ⟨z0, z1, z2, HB⟩ := T3.out.fin (.int .i64 (A0 : Int)) (.int .i64 (A1 : Int)) (.slice a1 KL c1')
              have HR4 := hid (HR3.out.other (lay3_grown w.heap.size w3 (.int .i64 (A0 : Int)) (.int .i64 (A1 : Int)) (.slice a1 KL c1')) fun g hg e => by have := HOWN.out g hg; simp only [Option.some.injEq] at e; omega)
              have HB := hid HB
              unfold lay3 at z0 z1 z2 HB HR4
              have HZ := hid (And.intro z0 (And.intro z1 z2))
              clear z0 z1 z2
              go_wp2_with fail
              obtain ⟨z0, z1, z2⟩ := HZ.out
              simp only [Exit.jump]
              refine bodyPost_ret (v := .tuple #[.agg #[.int .i64 (A0 : Int), .int .i64 (A1 : Int), .slice a1 KL c1'], .int .i64 (L : Int), .bool true]) (by simp [results, Try.results76, go_sem, z0, z1, z2]) rfl ⟨.inr ⟨_, a1, c1', HO.out, ?_, ?_⟩, HB.out⟩
              · rw [HLL.out, ← HKL.out]
              · rw [HKL.out]; exact HR4.out
          · have HO : Hid (O = none) := by show _ = _; rw [HEQ.out, if_neg (by simp [HQ2.out]), if_neg (by simp), if_pos q4]
            have q4' : ¬ ((e3 : Int) = 0) := by omega
            clear HEQ q4
            go_wp2_with fail
            go_step3
            exact ⟨rfl, ⟨HO.out, _, _, _, _, _, T1.out⟩, _, _, _, _, _, _, _, _, _, _, _, _, _, _, _, _, _, _, _, _, _, _, _, _, _, _, _, _, _, _, _, _, _, _, _, _, _, _, _, _, _, _, _, _, _, _, _, _, _, _, _, _, _, _, _, _, _, _, _, _, _, _, _, _, _, _, _, _, rfl⟩
        · have HO : Hid (O = none) := by show _ = _; rw [HEQ.out, if_neg (by simp [HQ2.out]), if_pos q3]
          have q3' : ¬ ((e2 : Int) = 0) := by omega
          clear HEQ q3
          go_wp2_with fail
          go_step3
          exact ⟨rfl, ⟨HO.out, _, _, _, _, _, T1.out⟩, _, _, _, _, _, _, _, _, _, _, _, _, _, _, _, _, _, _, _, _, _, _, _, _, _, _, _, _, _, _, _, _, _, _, _, _, _, _, _, _, _, _, _, _, _, _, _, _, _, _, _, _, _, _, _, _, _, _, _, _, _, _, _, _, _, _, _, _, rfl⟩
    · have HO : Hid (O = none) := by show _ = _; rw [HEQ.out, if_pos (.inl q1)]
      have q1' : ¬ ((e1 : Int) = 0) := by omega
      clear HEQ q1
      go_wp2_with fail
      go_step3
      exact ⟨rfl, ⟨HO.out, _, _, _, _, _, T1.out⟩, _, _, _, _, _, _, _, _, _, _, _, _, _, _, _, _, _, _, _, _, _, _, _, _, _, _, _, _, _, _, _, _, _, _, _, _, _, _, _, _, _, _, _, _, _, _, _, _, _, _, _, _, _, _, _, _, _, _, _, _, _, _, _, _, _, _, _, _, rfl⟩
  · rintro a' w' ⟨⟨hO, x0, x1, x2, y0', y1', T⟩, u0, u1, u2, u3, u5, u6, u7, u8, u9, u10, u11, u12, u13, u14, u15, u16, u17, u18, u19, u20, u21, u22, u23, u24, u25, u26, u27, u28, u29, u30, u31, u32, u33, u34, u35, u36, u37, u38, u39, u40, u41, u42, u43, u44, u45, u46, u47, u48, u49, u50, u51, u52, u53, u54, u55, u56, u57, u58, u59, u60, u61, u62, u63, u64, u65, u66, u67, u68, rfl⟩
    have HO := hid hO
    obtain ⟨y0, y1, y2, y3, y4, f0, f1, f2, f3, f4⟩ := T.facts
    obtain ⟨z0, z1, z2, HB⟩ := T.fin (.int .i64 0) (.int .i64 0) (.slice none 0 0)
    have HB := hid HB
    unfold lay3 at z0 z1 z2 HB
    clear T hO
    go_wp2_with fail
    simp only [Exit.jump]
    exact bodyPost_ret (v := .tuple #[.agg #[.int .i64 0, .int .i64 0, .slice none 0 0], .int .i64 0, .bool false]) (by simp [results, Try.results76, go_sem, z0, z1, z2]) rfl ⟨.inl ⟨HO.out, rfl⟩, HB.out⟩
end Go.Proofs.Ytimpaindbbjieaa

/- The document's own TakeBatch: the walk. -/
namespace Go.Proofs.Ytimpaindbbjieaa
open Go.RowKit
set_option linter.unusedVariables false
set_option linter.unusedSimpArgs false

theorem RowF.slice {α : Type} {E : El α} {B : Nat} {F : Nat → Prop} {w : World} {v : Value} {xs : List α} (h : RowF E B F w v xs) : ∃ a c, v = .slice a xs.length c ∧ RS E w a xs.length c xs := h.s.rs
theorem RowF.slice' {α : Type} {E : El α} {B : Nat} {F : Nat → Prop} {w : World} {v : Value} {xs : List α} (h : RowF E B F w v xs) : ∃ a n c, v = .slice a n c ∧ n = xs.length := by
  obtain ⟨a, c, e, _⟩ := h.s.rs
  exact ⟨a, _, c, e, rfl⟩
theorem Hid.mk' {p : Prop} (h : p) : Hid p := h
theorem in64_0 : In64 0 := ⟨by decide, by decide⟩
end Go.Proofs.Ytimpaindbbjieaa

/- The landed block: all entries, taken from bytes. -/
namespace Go.Proofs.Ytimpaindbbjieaa
open Go.RowKit
set_option linter.unusedVariables false
set_option linter.unusedSimpArgs false

/-- Where the walk stands: the entry ahead, the row so far. -/
structure TAk (w wx : World) (v : Value) (es : List EntV) (ka : Option Addr) (kc : Nat) (va : Option Addr) (vc : Nat) (o : EntV) : Prop where
  bo : wx.heap[w.heap.size]? = some (.cells #[.slice ka o.key.length kc, .int .i64 o.seq, .bool o.gone, .int .i64 o.till, .slice va o.val.length vc] 34 (0, 0))
  sk : Sg (fun b => w.heap.size + 1 ≤ b) wx ka kc o.key
  row : RowF entE (w.heap.size + 1) (fun b => w.heap.size + 1 ≤ b) wx v es
  bel : Below w.heap.size w wx
theorem TAk.sz {w wx : World} {v : Value} {es : List EntV} {ka : Option Addr} {kc : Nat} {va : Option Addr} {vc : Nat} {o : EntV} (h : TAk w wx v es ka kc va vc o) : w.heap.size + 1 ≤ wx.heap.size := (Array.getElem?_eq_some_iff.1 h.bo).1
theorem tak_begin (w : World) : TAk w (w.alloc (.cells #[.slice none 0 0, .int .i64 0, .bool false, .int .i64 0, .slice none 0 0] 34)) (.slice none 0 0) [] none 0 none 0 noE :=
  ⟨heap_alloc_new w _, Sg.nil _ _, RowF.nil _ _ _, (Below.refl _ _).alloc (Nat.le_refl _) _⟩
theorem TAk.facts {w wx : World} {v : Value} {es : List EntV} {ka : Option Addr} {kc : Nat} {va : Option Addr} {vc : Nat} {o : EntV} (h : TAk w wx v es ka kc va vc o) {wy : World} (hb : Below wx.heap.size wx wy) :
    wy.cell? ⟨w.heap.size, 0, none⟩ = some (.slice ka o.key.length kc) ∧ wy.cell? ⟨w.heap.size, 1, none⟩ = some (.int .i64 o.seq) ∧ wy.cell? ⟨w.heap.size, 2, none⟩ = some (.bool o.gone) ∧ wy.cell? ⟨w.heap.size, 3, none⟩ = some (.int .i64 o.till) ∧ wy.cell? ⟨w.heap.size, 4, none⟩ = some (.slice va o.val.length vc) ∧
    wy.frozen? ⟨w.heap.size, 0, none⟩ = false ∧ wy.frozen? ⟨w.heap.size, 1, none⟩ = false ∧ wy.frozen? ⟨w.heap.size, 2, none⟩ = false ∧ wy.frozen? ⟨w.heap.size, 3, none⟩ = false ∧ wy.frozen? ⟨w.heap.size, 4, none⟩ = false := by
  have hbo := (hb.block _ (Array.getElem?_eq_some_iff.1 h.bo).1).trans h.bo
  exact ⟨by rw [cell_of hbo]; rfl, by rw [cell_of hbo]; rfl, by rw [cell_of hbo]; rfl, by rw [cell_of hbo]; rfl, by rw [cell_of hbo]; rfl, frozen_of hbo 0, frozen_of hbo 1, frozen_of hbo 2, frozen_of hbo 3, frozen_of hbo 4⟩
/-- The next entry is laid in its place. -/
theorem TAk.next {w wx wy : World} {v : Value} {es : List EntV} {ka0 : Option Addr} {kc0 : Nat} {va0 : Option Addr} {vc0 : Nat} {o0 : EntV} (h : TAk w wx v es ka0 kc0 va0 vc0 o0) (hb : Below wx.heap.size wx wy) {ka : Option Addr} {kc : Nat} {va : Option Addr} {vc : Nat} {o : EntV}
    (hk : Sg (fun b => wx.heap.size ≤ b) wy ka kc o.key) (hv : Sg (fun b => wx.heap.size ≤ b) wy va vc o.val) :
    TAk w (lay5 w.heap.size wy (.slice ka o.key.length kc) (.int .i64 o.seq) (.bool o.gone) (.int .i64 o.till) (.slice va o.val.length vc)) v es ka kc va vc o ∧ Sg (fun b => wx.heap.size ≤ b) (lay5 w.heap.size wy (.slice ka o.key.length kc) (.int .i64 o.seq) (.bool o.gone) (.int .i64 o.till) (.slice va o.val.length vc)) ka kc o.key ∧ Sg (fun b => wx.heap.size ≤ b) (lay5 w.heap.size wy (.slice ka o.key.length kc) (.int .i64 o.seq) (.bool o.gone) (.int .i64 o.till) (.slice va o.val.length vc)) va vc o.val := by
  have hg := lay5_grown w.heap.size wy (.slice ka o.key.length kc) (.int .i64 o.seq) (.bool o.gone) (.int .i64 o.till) (.slice va o.val.length vc)
  have hsz := h.sz
  have hk2 := hk.grown hg fun b hb e => by simp only [Option.some.injEq] at e; omega
  have hv2 := hv.grown hg fun b hb e => by simp only [Option.some.injEq] at e; omega
  have hbo := (hb.block _ (Array.getElem?_eq_some_iff.1 h.bo).1).trans h.bo
  have hbl := h.bel.trans (hb.mono h.bel.size)
  refine ⟨⟨lay5_block hbo _ _ _ _ _, hk2.weak fun b _ hb => by omega, (h.row.later hb).grown hg (fun b e e' => ?_) (fun b e e' => ?_), Below.grown hbl hg hbl.size fun k e => ?_⟩, hk2, hv2⟩
  · have := (h.row.own_lt e).1
    simp only [Option.some.injEq] at e'
    omega
  · simp only [Option.some.injEq] at e'
    omega
  · simp only [Option.some.injEq] at e
    omega
/-- The row takes the entry. -/
theorem TAk.ready {w wx : World} {v : Value} {es : List EntV} {ka : Option Addr} {kc : Nat} {va : Option Addr} {vc : Nat} {o : EntV} {m : Nat} (h : TAk w wx v es ka kc va vc o) (hm : w.heap.size + 1 ≤ m) (hown : ∀ b, v.ownBlock = some b → b < m) (hk : Sg (fun b => m ≤ b) wx ka kc o.key) (hv : Sg (fun b => m ≤ b) wx va vc o.val) (h1 : In64 o.seq) (h2 : In64 o.till) :
    RowF entE (w.heap.size + 1) (fun b => w.heap.size + 1 ≤ b) (wx.alloc (.cells #[.slice ka o.key.length kc, .int .i64 o.seq, .bool o.gone, .int .i64 o.till, .slice va o.val.length vc] 34)) v es ∧
    RSu entE (wx.alloc (.cells #[.slice ka o.key.length kc, .int .i64 o.seq, .bool o.gone, .int .i64 o.till, .slice va o.val.length vc] 34)) (some ⟨wx.heap.size, 0, none⟩) 1 1 [.slice ka o.key.length kc, .int .i64 o.seq, .bool o.gone, .int .i64 o.till, .slice va o.val.length vc] [o] ∧
    (∀ u ∈ ([.slice ka o.key.length kc, .int .i64 o.seq, .bool o.gone, .int .i64 o.till, .slice va o.val.length vc] : List Value), ∀ b, Refs u b → v.ownBlock ≠ some b) ∧
    (∀ u ∈ ([.slice ka o.key.length kc, .int .i64 o.seq, .bool o.gone, .int .i64 o.till, .slice va o.val.length vc] : List Value), ∀ b, Refs u b → w.heap.size + 1 ≤ b) ∧
    w.heap.size + 1 ≤ (wx.alloc (.cells #[.slice ka o.key.length kc, .int .i64 o.seq, .bool o.gone, .int .i64 o.till, .slice va o.val.length vc] 34)).heap.size ∧
    (∀ w9 v9, (wx.alloc (.cells #[.slice ka o.key.length kc, .int .i64 o.seq, .bool o.gone, .int .i64 o.till, .slice va o.val.length vc] 34)).grownBy w9 v.ownBlock → RowF entE (w.heap.size + 1) (fun b => w.heap.size + 1 ≤ b) w9 v9 (es ++ [o]) → TAk w w9 v9 (es ++ [o]) ka kc va vc o) := by
  have hb : Below wx.heap.size wx (wx.alloc (.cells #[.slice ka o.key.length kc, .int .i64 o.seq, .bool o.gone, .int .i64 o.till, .slice va o.val.length vc] 34)) := (Below.refl _ wx).alloc (Nat.le_refl _) _
  have hM : entE.M wx [.slice ka o.key.length kc, .int .i64 o.seq, .bool o.gone, .int .i64 o.till, .slice va o.val.length vc] o := ⟨ka, kc, va, vc, rfl, hk.1, hv.1, h1, h2⟩
  have hsz := h.sz
  have hbo := (hb.block _ (Array.getElem?_eq_some_iff.1 h.bo).1).trans h.bo
  have hbl := h.bel.trans (hb.mono h.bel.size)
  have hgt : ∀ u ∈ ([.slice ka o.key.length kc, .int .i64 o.seq, .bool o.gone, .int .i64 o.till, .slice va o.val.length vc] : List Value), ∀ b, Refs u b → m ≤ b := fun u hu b hr => by
    simp only [List.mem_cons, List.not_mem_nil, or_false] at hu
    rcases hu with rfl | rfl | rfl | rfl | rfl
    · exact hk.2 b hr
    · exact (refs_int hr).elim
    · exact (refs_bool hr).elim
    · exact (refs_int hr).elim
    · exact hv.2 b hr
  refine ⟨h.row.later hb, rs_one hM, fun u hu b hr e => ?_, fun u hu b hr => ?_, by simp; omega, fun w9 v9 hg hr9 => ⟨?_, ?_, hr9, Below.grown hbl hg hbl.size (fun k e => ?_)⟩⟩
  · have := hgt u hu b hr
    have := hown b e
    omega
  · have := hgt u hu b hr
    omega
  · rw [hg.block w.heap.size (by simp; omega) (fun e => ?_)]
    · exact hbo
    · have := (h.row.own_lt e.symm).1
      omega
  · refine ((hk.later hb).grown hg fun b hb' e => ?_).weak fun b _ hb' => by omega
    have := hown b e.symm
    omega
  · have := (h.row.own_lt e).1
    omega

theorem tA_step {n : Nat} {key l : List Int} {acc : List EntV} {T : Nat × List EntV} (h : T = ((tA (n + 1) key l).1, acc ++ (tA (n + 1) key l).2)) (hl : l ≠ []) : ((tE key l).1 ≠ 0 → T.1 = (tE key l).1) ∧ ((tE key l).1 = 0 → T = ((tA n (tE key l).2.1.key (tE key l).2.2).1, (acc ++ [(tE key l).2.1]) ++ (tA n (tE key l).2.1.key (tE key l).2.2).2)) := by
  unfold tA at h
  rw [if_neg hl] at h
  refine ⟨fun q => ?_, fun q => ?_⟩
  · rw [if_pos q] at h
    rw [h]
  · rw [if_neg (not_not_intro q)] at h
    rw [h]
    simp
theorem tA_nil (n : Nat) (key : List Int) : tA n key [] = (0, []) := by
  cases n with
  | zero => rfl
  | succ n => unfold tA; rw [if_pos rfl]
theorem take_more {acc : List EntV} {o : EntV} (h : (acc.take 401).length ≤ 400) : (acc ++ [o]).take 401 = acc.take 401 ++ [o] := by
  rw [List.length_take] at h
  have h1 : acc.length ≤ 400 := by omega
  rw [List.take_of_length_le (by simp; omega), List.take_of_length_le (by omega)]
theorem take_same {acc : List EntV} {o : EntV} (h : 400 < (acc.take 401).length) : (acc ++ [o]).take 401 = acc.take 401 := by
  rw [List.length_take] at h
  exact List.take_append_of_le_length (by omega)

/-- A row of entries that leans on new memory alone. -/
def RGV (B : Nat) (w : World) (v : Value) (xs : List EntV) : Prop := ∃ a c, v = .slice a xs.length c ∧ RSG entE (fun b => B ≤ b) w a xs.length c xs ∧ ∀ b off, a = some ⟨b, off, none⟩ → B ≤ b
theorem RGV.rsv {B : Nat} {w : World} {v : Value} {xs : List EntV} (h : RGV B w v xs) : RSV entE w v xs := by
  obtain ⟨a, c, e, h, _⟩ := h
  exact ⟨a, c, e, h.rs⟩
theorem RGV.nil (B : Nat) (w : World) : RGV B w (.slice none 0 0) [] := ⟨none, 0, rfl, ⟨[], ⟨rfl, fun _ => ⟨rfl, rfl⟩, Nat.le_refl _, Nat.zero_le _, rfl, fun j u hu => by simp at hu⟩, fun u hu => by cases hu⟩, fun b o e => by cases e⟩
theorem RSG.weakG {α : Type} {E : El α} {G G' : Nat → Prop} {w : World} {ao : Option Addr} {len cap : Nat} {xs : List α} (h : RSG E G w ao len cap xs) (hG : ∀ b, G b → G' b) : RSG E G' w ao len cap xs := by
  obtain ⟨us, h1, h2⟩ := h
  exact ⟨us, h1, fun u hu b hr => hG b (h2 u hu b hr)⟩
theorem RGV.ofRow {B C : Nat} {w : World} {v : Value} {xs : List EntV} (h : RowF entE C (fun b => B + 1 ≤ b) w v xs) (hC : B ≤ C) : RGV B w v xs := by
  have h0 := h
  obtain ⟨a, c, e, h⟩ := h.rsg
  exact ⟨a, c, e, h.weakG fun b hb => by omega, fun b o eb => by
    have := (h0.own_lt (g := b) (by rw [e, eb]; rfl)).1
    omega⟩
set_option maxHeartbeats 4000000 in
set_option maxRecDepth 100000 in
theorem tallG_k {w : World} {ao : Option Addr} {len cap : Nat} {d : List Int} (h : Sl w ao len cap d) (hl : len ≤ 5000000) {N : Nat} (hN : len ≤ N) :
    Calls Try.prog 81 #[.slice ao len cap] w fun e w' => ∃ v, e = .returned (.tuple #[v, .int .i64 ((tA N [] d).1 : Nat)]) ∧ RGV w.heap.size w' v (if (tA N [] d).1 = 0 then (tA N [] d).2.take 401 else []) ∧ Below w.heap.size w w' := by
  have hdl : d.length = len := h.1
  obtain ⟨T, hT⟩ : ∃ T, T = tA N [] d := ⟨_, rfl⟩
  rw [← hT]
  obtain ⟨R, hR⟩ : ∃ R, R = (if T.1 = 0 then T.2.take 401 else []) := ⟨_, rfl⟩
  obtain ⟨E0, hE0⟩ : ∃ E0, E0 = T.1 := ⟨_, rfl⟩
  rw [← hR, ← hE0]
  have HER : Hid (E0 = T.1 ∧ R = (if T.1 = 0 then T.2.take 401 else [])) := ⟨hE0, hR⟩
  clear hR hE0
  have HS : Hid (Sl w ao len cap d ∧ len ≤ 5000000) := ⟨h, hl⟩
  have HR0 : Hid (Rests ao len cap d (.slice ao len cap) d) := fun w h => ⟨ao, cap, by rw [h.1], by rw [h.1]; exact h⟩
  have HT0 : Hid (T = ((tA N [] d).1, [] ++ (tA N [] d).2)) := by show _ = _; rw [hT]; rfl
  have H0 : Hid (TAk w _ (.slice none 0 0) [] none 0 none 0 noE) := tak_begin w
  clear h hl hT
  go_enter Try.func81, Try.ntmps81
  go_wp2_with fail
  go_loopg [0, 4, 6] len (fun g r v _ wr => ∃ (ra : Option Addr) (rc : Nat) (l : List Int) (ka : Option Addr) (kc : Nat) (va : Option Addr) (vc : Nat) (o : EntV) (acc : List EntV) (n : Nat), g = l.length ∧ r = .slice ra l.length rc ∧ Hid (l.length ≤ n ∧ Rests ao len cap d (.slice ra l.length rc) l ∧ TAk w wr v (acc.take 401) ka kc va vc o ∧ T = ((tA n o.key l).1, acc ++ (tA n o.key l).2) ∧ o.key.length ≤ 512 ∧ l.length ≤ len))
  case atStart => exact ⟨ao, cap, d, none, 0, none, 0, noE, [], N, by omega, by rw [hdl], by omega, by rw [hdl]; exact HR0.out, H0.out, HT0.out, by simp [noE], by omega⟩
  case round =>
    obtain ⟨ra, rc, l, ka0, kc0, va0, vc0, o0, acc, n, hgl, rfl, HK⟩ := hrel
    subst hgl
    have hl62 : l.length ≤ 2 ^ 61 := by have := HK.out.2.2.2.2.2; have := HS.out.2; omega
    obtain ⟨v1, v2, v3, hv, hvn⟩ := HK.out.2.2.1.row.slice'
    subst hv
    by_cases hq : 0 < l.length
    · have hq' : (0 : Int) < (l.length : Int) := by omega
      have hne : l ≠ [] := fun e => by rw [e] at hq; simp at hq
      obtain ⟨n', rfl⟩ : ∃ n', n = n' + 1 := ⟨n - 1, by have := HK.out.1; omega⟩
      obtain ⟨p1, p2⟩ := tA_step HK.out.2.2.2.1 hne
      have hte := tent_k ((HK.out.2.1 w HS.out.1).sl.later HK.out.2.2.1.bel) (by have := HK.out.2.2.2.2.2; have := HS.out.2; omega) HK.out.2.2.1.sk.1 HK.out.2.2.2.2.1
      have hls : (tE o0.key l).1 = 0 → (tE o0.key l).2.2.length < l.length := tE_less HK.out.2.2.2.2.1
      have hkl := tE_key o0.key l
      unfold ToldK entA at hte
      obtain ⟨⟨E, o, l'⟩, hE⟩ : ∃ x, tE o0.key l = x := ⟨_, rfl⟩
      rw [hE] at hte p1 p2 hls hkl
      simp only at hte p1 p2 hls hkl
      have HP := hid (And.intro p1 p2)
      have HLS : Hid ((E = 0 → l'.length < l.length) ∧ o.key.length ≤ 512) := ⟨hls, hkl⟩
      obtain ⟨y0, y1, y2, y3, y4, f0, f1, f2, f3, f4⟩ := HK.out.2.2.1.facts (Below.refl _ _)
      have HA : Hid (TAk w wr (.slice v1 v2 v3) (acc.take 401) ka0 kc0 va0 vc0 o0) := HK.out.2.2.1
      have HV2 : Hid (v2 = (acc.take 401).length) := hvn
      clear p1 p2 hE hls hkl hq hvn hne
      go_upto_region 6 with (go_at_call 100; refine hte.mono ?_; rintro e w1 ⟨ka, kc, va, vc, rv, rfl, K1, K2, I1, I2, s1, b1⟩; clear y0 y1 y2 y3 y4 f0 f1 f2 f3 f4; obtain ⟨y0, y1, y2, y3, y4, f0, f1, f2, f3, f4⟩ := HA.out.facts b1)
      obtain ⟨A1, A2, A3⟩ := HA.out.next b1 K1 K2
      obtain ⟨W1, hW1⟩ : ∃ W1, W1 = lay5 w.heap.size w1 (.slice ka o.key.length kc) (.int .i64 o.seq) (.bool o.gone) (.int .i64 o.till) (.slice va o.val.length vc) := ⟨_, rfl⟩
      rw [← hW1] at A1 A2 A3
      unfold lay5 at hW1
      rw [← hW1]
      have HA1 := hid A1
      have HA2 : Hid (Sg (fun b => wr.heap.size ≤ b) W1 ka kc o.key ∧ Sg (fun b => wr.heap.size ≤ b) W1 va vc o.val ∧ In64 o.seq ∧ In64 o.till) := ⟨A2, A3, I1, I2⟩
      have HR1 := hid (HK.out.2.1.trans s1)
      clear A1 A2 A3 hW1 K1 K2 I1 I2 s1 b1 hte y0 y1 y2 y3 y4 f0 f1 f2 f3 f4
      by_cases qE : E = 0
      · subst qE
        have HT1 := hid (HP.out.2 rfl)
        have HL1 := hid (HLS.out.1 rfl)
        obtain ⟨ra1, rc1, hrv⟩ := HR1.out.form HS.out.1
        subst hrv
        obtain ⟨y0, y1, y2, y3, y4, f0, f1, f2, f3, f4⟩ := HA1.out.facts (Below.refl _ _)
        have hv262 : v2 ≤ 2 ^ 61 := by have := HV2.out; rw [List.length_take] at this; omega
        have HLL : Hid (l'.length ≤ n' ∧ l'.length ≤ len) := ⟨by have := HK.out.1; have := HL1.out; omega, by have := HK.out.2.2.2.2.2; have := HL1.out; omega⟩
        by_cases q4 : v2 ≤ 400
        · have q4' : (v2 : Int) ≤ 400 := by omega
          have HRD := hid (HA1.out.ready HA.out.sz (fun b e => (HA.out.row.own_lt e).2) HA2.out.1 HA2.out.2.1 HA2.out.2.2.1 HA2.out.2.2.2)
          have HTK : Hid ((acc ++ [o]).take 401 = acc.take 401 ++ [o]) := take_more (by rw [← HV2.out]; exact q4)
          have HLA : Hid ((acc.take 401).length ≤ 401) := by show _ ≤ _; rw [List.length_take]; omega
          clear q4 HK
          go_wp2_with (at_builtin; refine wpList_appF entE (t := 22) (z := .agg #[.slice none 0 0, .int .i64 0, .bool false, .int .i64 0, .slice none 0 0]) (bytes := 72) (B := w.heap.size + 1) Try.underlying22 entE_info rfl (by decide) rfl (.tmp 24) (.tmp 26) rfl rfl HRD.out.1 rfl HRD.out.2.1 HRD.out.2.2.1 HRD.out.2.2.2.1 (by have := HLA.out; omega) (by have := HLA.out; omega) HRD.out.2.2.2.2.1 ?_; intro v9 w9 r9 g9 m9)
          have A9 := HRD.out.2.2.2.2.2 w9 v9 g9 r9
          rw [← HTK.out] at A9
          have HA9 := hid A9
          clear A9 r9 g9 m9 HRD
          go_roundg (l'.length)
          case measure => exact HL1.out
          case rel => exact ⟨ra1, rc1, l', ka, kc, va, vc, o, acc ++ [o], n', rfl, rfl, HLL.out.1, HR1.out, HA9.out, HT1.out, HLS.out.2, HLL.out.2⟩
        · have q4' : ¬ ((v2 : Int) ≤ 400) := by omega
          have HTK : Hid ((acc ++ [o]).take 401 = acc.take 401) := take_same (by rw [← HV2.out]; omega)
          clear q4 HK
          go_wp2_with fail
          go_roundg (l'.length)
          case measure => exact HL1.out
          case rel => exact ⟨ra1, rc1, l', ka, kc, va, vc, o, acc ++ [o], n', rfl, rfl, HLL.out.1, HR1.out, by rw [HTK.out]; exact HA1.out, HT1.out, HLS.out.2, HLL.out.2⟩
      · have hne : ((E : Int) != 0) = true := by simp; omega
        have HT1 := hid (HP.out.1 qE)
        have HQE := hid qE
        clear qE
        go_wp2_with fail
        exact bodyPost_ret (v := .tuple #[.slice none 0 0, .int .i64 (E : Nat)]) (by simp [results, Try.results81, go_sem]) rfl ⟨.slice none 0 0, by rw [HER.out.1, HT1.out], by rw [HER.out.2, HT1.out, if_neg HQE.out]; exact RGV.nil _ _, HA1.out.bel⟩
    · have hq' : ¬ ((0 : Int) < (l.length : Int)) := by omega
      have hl0 : l = [] := List.eq_nil_of_length_eq_zero (by omega)
      have HTT : Hid (T = (0, acc)) := by show _ = _; rw [HK.out.2.2.2.1, hl0, tA_nil]; simp
      have HA := hid HK.out.2.2.1
      clear hq hl0 HK hvn
      go_wp2_with fail
      exact bodyPost_ret (v := .tuple #[.slice v1 v2 v3, .int .i64 0]) (by simp [results, Try.results81, go_sem]) rfl ⟨.slice v1 v2 v3, by rw [HER.out.1, HTT.out]; rfl, by rw [HER.out.2, HTT.out]; exact RGV.ofRow HA.out.row (Nat.le_succ _), HA.out.bel⟩
theorem tall_k {w : World} {ao : Option Addr} {len cap : Nat} {d : List Int} (h : Sl w ao len cap d) (hl : len ≤ 5000000) {N : Nat} (hN : len ≤ N) :
    Calls Try.prog 81 #[.slice ao len cap] w fun e w' => ∃ v, e = .returned (.tuple #[v, .int .i64 ((tA N [] d).1 : Nat)]) ∧ RSV entE w' v (if (tA N [] d).1 = 0 then (tA N [] d).2.take 401 else []) ∧ Below w.heap.size w w' := (tallG_k h hl hN).mono fun e w' ⟨v, h1, h2, h3⟩ => ⟨v, h1, h2.rsv, h3⟩
end Go.Proofs.Ytimpaindbbjieaa
