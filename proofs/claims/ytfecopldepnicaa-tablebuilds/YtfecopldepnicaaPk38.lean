import Derived.Test.YtfecopldepnicaaPk05
import Derived.Test.YtfecopldepnicaaPk36
import Derived.Test.YtfecopldepnicaaPk37
/- The landed table: the foot. -/
namespace Go.Proofs.Ytfecopldepnicaa
open Go.RowKit
set_option linter.unusedVariables false
set_option linter.unusedSimpArgs false

/-- The two answers of takeFoot, under way. -/
structure TFt (w wx : World) (x0 x1 y0 y1 : Value) : Prop where
  b0 : wx.heap[w.heap.size]? = some (.cells #[x0, x1] 74 (0, 0))
  b1 : wx.heap[w.heap.size + 1]? = some (.cells #[y0, y1] 74 (0, 0))
  bel : Below w.heap.size w wx
theorem TFt.later {w wx wy : World} {x0 x1 y0 y1 : Value} (h : TFt w wx x0 x1 y0 y1) (hb : Below wx.heap.size wx wy) : TFt w wy x0 x1 y0 y1 :=
  ⟨(hb.block _ (Array.getElem?_eq_some_iff.1 h.b0).1).trans h.b0, (hb.block _ (Array.getElem?_eq_some_iff.1 h.b1).1).trans h.b1, h.bel.trans (hb.mono h.bel.size)⟩
theorem TFt.facts {w wx : World} {x0 x1 y0 y1 : Value} (h : TFt w wx x0 x1 y0 y1) :
    wx.cell? ⟨w.heap.size, 0, none⟩ = some x0 ∧ wx.cell? ⟨w.heap.size, 1, none⟩ = some x1 ∧ wx.cell? ⟨w.heap.size + 1, 0, none⟩ = some y0 ∧ wx.cell? ⟨w.heap.size + 1, 1, none⟩ = some y1 ∧
    wx.frozen? ⟨w.heap.size, 0, none⟩ = false ∧ wx.frozen? ⟨w.heap.size, 1, none⟩ = false ∧ wx.frozen? ⟨w.heap.size + 1, 0, none⟩ = false ∧ wx.frozen? ⟨w.heap.size + 1, 1, none⟩ = false :=
  ⟨by rw [cell_of h.b0]; rfl, by rw [cell_of h.b0]; rfl, by rw [cell_of h.b1]; rfl, by rw [cell_of h.b1]; rfl, frozen_of h.b0 0, frozen_of h.b0 1, frozen_of h.b1 0, frozen_of h.b1 1⟩
theorem TFt.set0 {w wx : World} {x0 x1 y0 y1 : Value} (h : TFt w wx x0 x1 y0 y1) (u0 u1 : Value) : TFt w (lay2 w.heap.size wx u0 u1) u0 u1 y0 y1 :=
  ⟨lay2_block h.b0 u0 u1, by rw [(lay2_grown w.heap.size wx u0 u1).block _ (Array.getElem?_eq_some_iff.1 h.b1).1 (fun e => by simp only [Option.some.injEq] at e; omega)]; exact h.b1, lay2_below h.bel (Nat.le_refl _) (Nat.le_refl _) _ _⟩
theorem TFt.set1 {w wx : World} {x0 x1 y0 y1 : Value} (h : TFt w wx x0 x1 y0 y1) (u0 u1 : Value) : TFt w (lay2 (w.heap.size + 1) wx u0 u1) x0 x1 u0 u1 :=
  ⟨by rw [(lay2_grown (w.heap.size + 1) wx u0 u1).block _ (Array.getElem?_eq_some_iff.1 h.b0).1 (fun e => by simp only [Option.some.injEq] at e; omega)]; exact h.b0, lay2_block h.b1 u0 u1, lay2_below h.bel (Nat.le_refl _) (by omega) _ _⟩
theorem tft_begin (w : World) : TFt w ((w.alloc (.cells #[.int .i64 0, .int .i64 0] 74)).alloc (.cells #[.int .i64 0, .int .i64 0] 74)) (.int .i64 0) (.int .i64 0) (.int .i64 0) (.int .i64 0) := by
  have b1 : Below w.heap.size w (w.alloc (.cells #[.int .i64 0, .int .i64 0] 74)) := (Below.refl _ _).alloc (Nat.le_refl _) _
  have hs : (w.alloc (.cells #[.int .i64 0, .int .i64 0] 74)).heap.size = w.heap.size + 1 := by simp
  have b2 := (Below.refl _ (w.alloc (.cells #[.int .i64 0, .int .i64 0] 74))).alloc (Nat.le_refl _) (.cells #[.int .i64 0, .int .i64 0] 74)
  refine ⟨?_, ?_, b1.trans (b2.mono (by omega))⟩
  · rw [b2.block w.heap.size (by omega)]; exact heap_alloc_new w _
  · rw [← hs]; exact heap_alloc_new _ _
def spT (t : Nat × (Nat × Nat) × (Nat × Nat)) : Value := .tuple #[.agg #[.int .i64 (t.2.1.1 : Int), .int .i64 (t.2.1.2 : Int)], .agg #[.int .i64 (t.2.2.1 : Int), .int .i64 (t.2.2.2 : Int)], .int .i64 (t.1 : Int)]
theorem spR_is (o : Option (Nat × Nat)) : ∃ (A : Nat × Nat) (f : Bool), spR o = .tuple #[.agg #[.int .i64 (A.1 : Int), .int .i64 (A.2 : Int)], .bool f] ∧ (f = true → o = some A) ∧ (f = false → o = none) := by
  cases o with
  | none => exact ⟨(0, 0), false, rfl, (fun q => by cases q), fun _ => rfl⟩
  | some s => exact ⟨s, true, rfl, (fun _ => rfl), fun q => by cases q⟩
theorem spn_one (w : World) (p n : Nat) : RS spnE (w.alloc (.cells #[.int .i64 (p : Int), .int .i64 (n : Int)] 74)) (some ⟨w.heap.size, 0, none⟩) 1 1 [(p, n)] := ⟨_, rs_one (E := spnE) (w := w) (vs := [.int .i64 (p : Int), .int .i64 (n : Int)]) (x := (p, n)) rfl⟩
theorem str_mag {xs : List Int} (h : Okb xs) : ((strOfNums xs).toList == [104, 97, 108, 121, 97, 114, 100, 49]) = decide (xs = magT) := by
  have : ([104, 97, 108, 121, 97, 114, 100, 49] : List UInt8) = (strOfNums magT).toList := by
    rw [show strOfNums magT = ⟨#[104, 97, 108, 121, 97, 114, 100, 49]⟩ from rfl]
    simp [go_sem]
  rw [this]
  exact str_eq h (fun x hx => by simp [magT] at hx; omega)
end Go.Proofs.Ytfecopldepnicaa

/- The landed table: takeFoot. -/
namespace Go.Proofs.Ytfecopldepnicaa
open Go.RowKit
set_option linter.unusedVariables false
set_option linter.unusedSimpArgs false

set_option maxHeartbeats 4000000 in
set_option maxRecDepth 100000 in
theorem foot_t {w : World} {ao : Option Addr} {len cap : Nat} {xs : List Int} (h : Sl w ao len cap xs) (hl : len ≤ 5000000) :
    Calls Try.prog 44 #[.slice ao len cap] w fun e w' => e = .returned (spT (ftE xs)) ∧ Below w.heap.size w w' := by
  have hln : xs.length = len := h.1
  have hlc := h.2.2.2.1
  have hl62 : len ≤ 2 ^ 61 := by omega
  have HZ : Hid (Below w.heap.size w ((w.alloc (.cells #[.int .i64 0, .int .i64 0] 74)).alloc (.cells #[.int .i64 0, .int .i64 0] 74))) := (tft_begin w).bel
  by_cases q1 : len < 32
  · have HT : Hid (ftE xs = (5, (0, 0), (0, 0))) := by show _ = _; unfold ftE; rw [if_pos (by omega)]
    have q1' : (len : Int) < 32 := by omega
    have q1'' : (len : Int) - 32 < 0 := by omega
    clear h hl hln hlc q1
    go_enter Try.func44, Try.ntmps44
    go_wp2_with fail
    exact bodyPost_ret (v := .tuple #[.agg #[.int .i64 0, .int .i64 0], .agg #[.int .i64 0, .int .i64 0], .int .i64 5]) (by simp [results, Try.results44, go_sem]) rfl ⟨by rw [HT.out]; rfl, HZ.out⟩
  · obtain ⟨m, hm⟩ : ∃ m, len = m + 32 := ⟨len - 32, by omega⟩
    obtain ⟨P, hP⟩ : ∃ P, len = P + 8 := ⟨len - 8, by omega⟩
    have hs8 := h.from P (by omega)
    have hcf := fun w => run_from w ao len cap P (by omega) hlc
    have hst := fun wx (hb : Below w.heap.size w wx) => str_l ((hs8).later hb)
    have hmag := str_mag hs8.2.1
    have hd8 : xs.drop (xs.length - 8) = xs.drop P := by rw [hln, show len - 8 = P by omega]
    have HST : Hid (∀ wx, Below w.heap.size w wx → (convert 25 9 (.slice (cutA ao cap P) (len - P) (cap - P))).run Try.prog wx = .ok (.string (strOfNums (xs.drop P))) wx) := hst
    generalize cutA ao cap P = a8 at hcf HST
    generalize len - P = n8 at hcf HST
    generalize cap - P = c8 at hcf HST
    have hst0 := HST.out _ HZ.out
    have e1 : (len : Int) - 8 = (P : Int) := by omega
    have e2 : (len : Int) - 32 = (m : Int) := by omega
    have e3 : wrap64 ((len : Int) - 8) = (P : Int) := by unfold wrap64; omega
    have e4 : wrap64 ((len : Int) - 32) = (m : Int) := by unfold wrap64; omega
    have e5 : IntKind.i64.wrap ((len : Int) - 8) = (P : Int) := by rw [IntKind.wrap_i64]; omega
    have e6 : IntKind.i64.wrap ((len : Int) - 32) = (m : Int) := by rw [IntKind.wrap_i64]; omega
    have hm62 : m ≤ 2 ^ 60 := by omega
    have hP62 : P ≤ 2 ^ 60 := by omega
    by_cases q2 : xs.drop P = magT
    · rw [decide_eq_true q2] at hmag
      have HS := hid (And.intro h hl)
      obtain ⟨W2, hW2⟩ : ∃ W, (w.alloc (.cells #[.int .i64 0, .int .i64 0] 74)).alloc (.cells #[.int .i64 0, .int .i64 0] 74) = W := ⟨_, rfl⟩
      have hsz2 : W2.heap.size = w.heap.size + 1 + 1 := by rw [← hW2]; simp
      have T2 : TFt w W2 (.int .i64 0) (.int .i64 0) (.int .i64 0) (.int .i64 0) := by rw [← hW2]; exact tft_begin w
      have bA : Below W2.heap.size W2 (W2.alloc (.cells #[.int .i64 (m : Int), .int .i64 ((20 : Nat) : Int)] 74)) := (Below.refl _ _).alloc (Nat.le_refl _) _
      have TA := T2.later bA
      obtain ⟨C, hC⟩ : ∃ C : Int, C = if [(m, 20)].all (okS xs) = true then 0 else 4 := ⟨_, rfl⟩
      have hcs := csum_t (h.later TA.bel) hl (spn_one W2 m 20) (by omega) (fun s hs => by rw [List.mem_singleton.1 hs]; show m + 20 + 4 ≤ len; omega) hC
      rw [show ((20 : Nat) : Int) = 20 from rfl] at hcs TA
      have hall : [(m, 20)].all (okS xs) = okS xs (m, 20) := by simp
      rw [hall] at hC
      have hm32 : xs.length - 32 = m := by omega
      have HTA := hid TA
      rw [hW2] at hst0
      cases q3 : okS xs (m, 20) with
      | false =>
        have HT : Hid (ftE xs = (4, (0, 0), (0, 0))) := by show _ = _; unfold ftE; rw [if_neg (by omega), if_neg (by rw [hd8]; exact not_not_intro q2), hm32, if_pos q3]
        rw [q3, if_neg (by decide)] at hC
        subst hC
        clear h hl hln hlc q1 hs8 hst hd8 q2 HST hm hP T2 bA TA hall q3 hm32 hsz2
        generalize strOfNums (xs.drop P) = D at hst0 hmag
        go_enter Try.func44, Try.ntmps44
        go_wp2_with (go_at_call 45; refine hcs.mono ?_; rintro e w1 ⟨rfl, b1⟩; have T1 := HTA.out.later b1; obtain ⟨y0, y1, y2, y3, f0, f1, f2, f3⟩ := T1.facts)
        have TF := (T1.set0 (.int .i64 0) (.int .i64 0)).set1 (.int .i64 0) (.int .i64 0)
        obtain ⟨z0, z1, z2, z3, -, -, -, -⟩ := TF.facts
        have HB := hid TF.bel
        unfold lay2 at z0 z1 z2 z3 HB
        exact bodyPost_ret (v := .tuple #[.agg #[.int .i64 0, .int .i64 0], .agg #[.int .i64 0, .int .i64 0], .int .i64 4]) (by simp [results, Try.results44, go_sem, z0, z1, z2, z3]) rfl ⟨by rw [HT.out]; rfl, HB.out⟩
      | true =>
        rw [q3, if_pos rfl] at hC
        subst hC
        have HFT : Hid (∀ o1 o2, o1 = spO (wd xs m) (wd xs (m + 4)) m → o2 = spO (wd xs (m + 8)) (wd xs (m + 12)) m → ftE xs = match o1, o2 with | some i, some f => (0, i, f) | _, _ => (3, (0, 0), (0, 0))) := fun o1 o2 h1 h2 => by
          unfold ftE
          rw [if_neg (by omega), if_neg (by rw [hd8]; exact not_not_intro q2), hm32, if_neg (by rw [q3]; decide), show xs.length - 28 = m + 4 by omega, show xs.length - 24 = m + 8 by omega, show xs.length - 20 = m + 12 by omega, ← h1, ← h2]
          rfl
        have HW : Hid (∀ (i : Nat), i ≤ m + 12 → ∀ wx, Below w.heap.size w wx → Calls Try.prog 74 #[.slice ao len cap, .int .i64 (i : Int)] wx fun e w' => e = .returned (.int .u64 ((wd xs i : Nat) : Int)) ∧ w' = wx) := fun i hi wx hb => word_t (h.later hb) (by omega) (by omega)
        have HWL : Hid (∀ i, i ≤ m + 12 → wd xs i < 18446744073709551616) := fun i hi => by
          have := fv4_lt (xs := xs.drop i) (fun x hx => h.2.1 x (List.mem_of_mem_drop hx)) (by rw [List.length_drop]; omega)
          unfold wd
          omega
        have HSP : Hid (∀ i j, i ≤ m + 12 → j ≤ m + 12 → ∀ wx, Calls Try.prog 73 #[.int .u64 ((wd xs i : Nat) : Int), .int .u64 ((wd xs j : Nat) : Int), .int .i64 (m : Int)] wx fun e w' => e = .returned (spR (spO (wd xs i) (wd xs j) m)) ∧ Below wx.heap.size wx w') := fun i j hi hj wx => spw_t (HWL.out i hi) (HWL.out j hj) (by omega)
        obtain ⟨A, f1, hA, hA1, hA2⟩ := spR_is (spO (wd xs m) (wd xs (m + 4)) m)
        obtain ⟨B, f2, hB, hB1, hB2⟩ := spR_is (spO (wd xs (m + 8)) (wd xs (m + 12)) m)
        have s1 := fun wx => HSP.out m (m + 4) (by omega) (by omega) wx
        have s2 := fun wx => HSP.out (m + 8) (m + 12) (by omega) (by omega) wx
        rw [hA] at s1
        rw [hB] at s2
        have HT := hid (HFT.out _ _ rfl rfl)
        have HAB : Hid ((f1 = true → spO (wd xs m) (wd xs (m + 4)) m = some A) ∧ (f1 = false → spO (wd xs m) (wd xs (m + 4)) m = none) ∧ (f2 = true → spO (wd xs (m + 8)) (wd xs (m + 12)) m = some B) ∧ (f2 = false → spO (wd xs (m + 8)) (wd xs (m + 12)) m = none)) := ⟨hA1, hA2, hB1, hB2⟩
        have k0 := fun wx hb => HW.out m (by omega) wx hb
        have k1 := fun wx hb => HW.out (m + 4) (by omega) wx hb
        have k2 := fun wx hb => HW.out (m + 8) (by omega) wx hb
        have k3 := fun wx hb => HW.out (m + 12) (by omega) wx hb
        rw [show ((m + 4 : Nat) : Int) = (m : Int) + 4 by omega] at k1
        rw [show ((m + 8 : Nat) : Int) = (m : Int) + 8 by omega] at k2
        rw [show ((m + 12 : Nat) : Int) = (m : Int) + 12 by omega] at k3
        generalize spO (wd xs m) (wd xs (m + 4)) m = o1 at HT HAB
        generalize spO (wd xs (m + 8)) (wd xs (m + 12)) m = o2 at HT HAB
        generalize wd xs m = V0 at k0 s1
        generalize wd xs (m + 4) = V1 at k1 s1
        generalize wd xs (m + 8) = V2 at k2 s2
        generalize wd xs (m + 12) = V3 at k3 s2
        obtain ⟨A0, A1⟩ := A
        obtain ⟨B0, B1⟩ := B
        simp only at s1 s2
        have K0 := hid k0
        have K1 := hid k1
        have K2 := hid k2
        have K3 := hid k3
        have S1 := hid s1
        have S2 := hid s2
        clear h hl hln hlc q1 hs8 hst hd8 q2 HST hm hP T2 bA TA hall q3 hm32 hsz2 HFT HW HWL HSP hA hA1 hA2 hB hB1 hB2 k0 k1 k2 k3 s1 s2 HS
        generalize strOfNums (xs.drop P) = D at hst0 hmag
        go_enter Try.func44, Try.ntmps44
        go_upto_region 9 with (go_at_call 45; refine hcs.mono ?_; rintro e w1 ⟨rfl, b1⟩)
        have T1 := hid (HTA.out.later b1)
        clear b1 hcs hst0 hmag
        have k0 := K0.out _ T1.out.bel
        have k1 := K1.out _ T1.out.bel
        have s1 := S1.out w1
        go_upto_region 10 with (first | (go_at_call 74; refine k0.mono ?_; clear k0; rintro e w' ⟨rfl, hw⟩; obtain rfl := hw.symm) | (go_at_call 74; refine k1.mono ?_; clear k1; rintro e w' ⟨rfl, hw⟩; obtain rfl := hw.symm) | (go_at_call 73; refine s1.mono ?_; clear s1; rintro e w3 ⟨rfl, b3⟩; have T3 := T1.out.later b3; obtain ⟨y0, y1, y2, y3, f0, f1', f2', f3⟩ := T3.facts))
        have T4 := hid (T3.set0 (.int .i64 (A0 : Int)) (.int .i64 (A1 : Int)))
        unfold lay2 at T4
        generalize (w3.setCell ⟨w.heap.size, 0, none⟩ (.int .i64 (A0 : Int))).setCell ⟨w.heap.size, 1, none⟩ (.int .i64 (A1 : Int)) = w4 at T4 ⊢
        clear y0 y1 y2 y3 f0 f1' f2' f3 T3 b3 T1
        have k2 := K2.out _ T4.out.bel
        have k3 := K3.out _ T4.out.bel
        have s2 := S2.out w4
        go_upto_region 11 with (first | (go_at_call 74; refine k2.mono ?_; clear k2; rintro e w' ⟨rfl, hw⟩; obtain rfl := hw.symm) | (go_at_call 74; refine k3.mono ?_; clear k3; rintro e w' ⟨rfl, hw⟩; obtain rfl := hw.symm) | (go_at_call 73; refine s2.mono ?_; clear s2; rintro e w5 ⟨rfl, b5⟩; have T5 := T4.out.later b5; obtain ⟨y0, y1, y2, y3, f0, f1', f2', f3⟩ := T5.facts))
        have T6 := hid (T5.set1 (.int .i64 (B0 : Int)) (.int .i64 (B1 : Int)))
        unfold lay2 at T6
        generalize (w5.setCell ⟨w.heap.size + 1, 0, none⟩ (.int .i64 (B0 : Int))).setCell ⟨w.heap.size + 1, 1, none⟩ (.int .i64 (B1 : Int)) = w6 at T6 ⊢
        clear y0 y1 y2 y3 f0 f1' f2' f3 T5 b5 T4 K0 K1 K2 K3 S1 S2
        obtain ⟨y0, y1, y2, y3, f0, f1', f2', f3⟩ := T6.out.facts
        have TF := (T6.out.set0 (.int .i64 0) (.int .i64 0)).set1 (.int .i64 0) (.int .i64 0)
        obtain ⟨z0, z1, z2, z3, -, -, -, -⟩ := TF.facts
        have HB := hid TF.bel
        have HFZ := hid (And.intro z0 (And.intro z1 (And.intro z2 z3)))
        unfold lay2 at HFZ HB
        clear TF z0 z1 z2 z3
        cases f1 with
        | false =>
          have HV : Hid (ftE xs = (3, (0, 0), (0, 0))) := by
            have := HT.out
            rw [HAB.out.2.1 rfl] at this
            exact this
          clear HT HAB
          go_wp2_with fail
          obtain ⟨z0, z1, z2, z3⟩ := HFZ.out
          exact bodyPost_ret (v := .tuple #[.agg #[.int .i64 0, .int .i64 0], .agg #[.int .i64 0, .int .i64 0], .int .i64 3]) (by simp [results, Try.results44, go_sem, z0, z1, z2, z3]) rfl ⟨by rw [HV.out]; rfl, HB.out⟩
        | true =>
          cases f2 with
          | false =>
            have HV : Hid (ftE xs = (3, (0, 0), (0, 0))) := by
              have := HT.out
              rw [HAB.out.1 rfl, HAB.out.2.2.2 rfl] at this
              exact this
            clear HT HAB
            go_wp2_with fail
            obtain ⟨z0, z1, z2, z3⟩ := HFZ.out
            exact bodyPost_ret (v := .tuple #[.agg #[.int .i64 0, .int .i64 0], .agg #[.int .i64 0, .int .i64 0], .int .i64 3]) (by simp [results, Try.results44, go_sem, z0, z1, z2, z3]) rfl ⟨by rw [HV.out]; rfl, HB.out⟩
          | true =>
            have HV : Hid (ftE xs = (0, (A0, A1), (B0, B1))) := by
              have := HT.out
              rw [HAB.out.1 rfl, HAB.out.2.2.1 rfl] at this
              exact this
            clear HT HAB HFZ HB
            go_upto_region 13 with fail
            go_region
            all_goals go_wp2_with fail
            all_goals
              have TF := ((T6.out.set0 (.int .i64 (A0 : Int)) (.int .i64 (A1 : Int))).set1 (.int .i64 (B0 : Int)) (.int .i64 (B1 : Int))).later (Below.refl _ _).drew
              obtain ⟨z0, z1, z2, z3, -, -, -, -⟩ := TF.facts
              have HB := hid TF.bel
              unfold lay2 at z0 z1 z2 z3 HB
              exact bodyPost_ret (v := .tuple #[.agg #[.int .i64 (A0 : Int), .int .i64 (A1 : Int)], .agg #[.int .i64 (B0 : Int), .int .i64 (B1 : Int)], .int .i64 0]) (by simp [results, Try.results44, go_sem, z0, z1, z2, z3]) rfl ⟨by rw [HV.out]; rfl, HB.out⟩
    · rw [decide_eq_false q2] at hmag
      have HT : Hid (ftE xs = (3, (0, 0), (0, 0))) := by show _ = _; unfold ftE; rw [if_neg (by omega), if_pos (by rw [hd8]; exact q2)]
      clear h hl hln hlc q1 hs8 hst hd8 q2 HST hm hP
      generalize strOfNums (xs.drop P) = D at hst0 hmag
      go_enter Try.func44, Try.ntmps44
      go_wp2_with fail
      exact bodyPost_ret (v := .tuple #[.agg #[.int .i64 0, .int .i64 0], .agg #[.int .i64 0, .int .i64 0], .int .i64 3]) (by simp [results, Try.results44, go_sem]) rfl ⟨by rw [HT.out]; rfl, HZ.out⟩
end Go.Proofs.Ytfecopldepnicaa

/- The landed table: rows of the index. -/
namespace Go.Proofs.Ytfecopldepnicaa
open Go.RowKit
set_option linter.unusedVariables false
set_option linter.unusedSimpArgs false

/-- The answer of takeRow and where it stands, under way. -/
structure TRt (w wx : World) (x0 x1 x2 y0 y1 : Value) : Prop where
  b0 : wx.heap[w.heap.size]? = some (.cells #[x0, x1, x2] 86 (0, 0))
  b1 : wx.heap[w.heap.size + 1]? = some (.cells #[y0, y1] 74 (0, 0))
  bel : Below w.heap.size w wx
theorem TRt.later {w wx wy : World} {x0 x1 x2 y0 y1 : Value} (h : TRt w wx x0 x1 x2 y0 y1) (hb : Below wx.heap.size wx wy) : TRt w wy x0 x1 x2 y0 y1 :=
  ⟨(hb.block _ (Array.getElem?_eq_some_iff.1 h.b0).1).trans h.b0, (hb.block _ (Array.getElem?_eq_some_iff.1 h.b1).1).trans h.b1, h.bel.trans (hb.mono h.bel.size)⟩
theorem TRt.facts {w wx : World} {x0 x1 x2 y0 y1 : Value} (h : TRt w wx x0 x1 x2 y0 y1) :
    wx.cell? ⟨w.heap.size, 0, none⟩ = some x0 ∧ wx.cell? ⟨w.heap.size, 1, none⟩ = some x1 ∧ wx.cell? ⟨w.heap.size, 2, none⟩ = some x2 ∧ wx.cell? ⟨w.heap.size + 1, 0, none⟩ = some y0 ∧ wx.cell? ⟨w.heap.size + 1, 1, none⟩ = some y1 ∧
    wx.frozen? ⟨w.heap.size, 0, none⟩ = false ∧ wx.frozen? ⟨w.heap.size, 1, none⟩ = false ∧ wx.frozen? ⟨w.heap.size, 2, none⟩ = false ∧ wx.frozen? ⟨w.heap.size + 1, 0, none⟩ = false ∧ wx.frozen? ⟨w.heap.size + 1, 1, none⟩ = false :=
  ⟨by rw [cell_of h.b0]; rfl, by rw [cell_of h.b0]; rfl, by rw [cell_of h.b0]; rfl, by rw [cell_of h.b1]; rfl, by rw [cell_of h.b1]; rfl, frozen_of h.b0 0, frozen_of h.b0 1, frozen_of h.b0 2, frozen_of h.b1 0, frozen_of h.b1 1⟩
/-- Three cells, laid. -/
def lay3 (p : Nat) (wx : World) (x0 x1 x2 : Value) : World := ((wx.setCell ⟨p, 0, none⟩ x0).setCell ⟨p, 1, none⟩ x1).setCell ⟨p, 2, none⟩ x2
theorem lay3_grown (p : Nat) (wx : World) (x0 x1 x2 : Value) : wx.grownBy (lay3 p wx x0 x1 x2) (some p) := grown_trans (grown_trans (grown_set _ _ _ _) (grown_set _ _ _ _)) (grown_set _ _ _ _)
theorem TRt.set1 {w wx : World} {x0 x1 x2 y0 y1 : Value} (h : TRt w wx x0 x1 x2 y0 y1) (u0 u1 : Value) : TRt w (lay2 (w.heap.size + 1) wx u0 u1) x0 x1 x2 u0 u1 :=
  ⟨by rw [(lay2_grown (w.heap.size + 1) wx u0 u1).block _ (Array.getElem?_eq_some_iff.1 h.b0).1 (fun e => by simp only [Option.some.injEq] at e; omega)]; exact h.b0, lay2_block h.b1 u0 u1, lay2_below h.bel (Nat.le_refl _) (by omega) _ _⟩
theorem TRt.fin {w wx : World} {x0 x1 x2 y0 y1 : Value} (h : TRt w wx x0 x1 x2 y0 y1) (u0 u1 u2 : Value) :
    (lay3 w.heap.size wx u0 u1 u2).cell? ⟨w.heap.size, 0, none⟩ = some u0 ∧ (lay3 w.heap.size wx u0 u1 u2).cell? ⟨w.heap.size, 1, none⟩ = some u1 ∧ (lay3 w.heap.size wx u0 u1 u2).cell? ⟨w.heap.size, 2, none⟩ = some u2 ∧ Below w.heap.size w (lay3 w.heap.size wx u0 u1 u2) := by
  have hb : (lay3 w.heap.size wx u0 u1 u2).heap[w.heap.size]? = some (.cells #[u0, u1, u2] 86 (0, 0)) := by
    have hb := heap_set (heap_set (heap_set h.b0 0 u0) 1 u1) 2 u2
    unfold lay3
    rw [hb]
    rfl
  refine ⟨by rw [cell_of hb]; rfl, by rw [cell_of hb]; rfl, by rw [cell_of hb]; rfl, h.bel.trans (Below.grown (Below.refl _ wx) (lay3_grown _ wx u0 u1 u2) h.bel.size fun k e => ?_)⟩
  simp only [Option.some.injEq] at e
  omega
theorem trt_begin (w : World) : TRt w ((w.alloc (.cells #[.int .i64 0, .int .i64 0, .slice none 0 0] 86)).alloc (.cells #[.int .i64 0, .int .i64 0] 74)) (.int .i64 0) (.int .i64 0) (.slice none 0 0) (.int .i64 0) (.int .i64 0) := by
  have b1 : Below w.heap.size w (w.alloc (.cells #[.int .i64 0, .int .i64 0, .slice none 0 0] 86)) := (Below.refl _ _).alloc (Nat.le_refl _) _
  have hs : (w.alloc (.cells #[.int .i64 0, .int .i64 0, .slice none 0 0] 86)).heap.size = w.heap.size + 1 := by simp
  have b2 := (Below.refl _ (w.alloc (.cells #[.int .i64 0, .int .i64 0, .slice none 0 0] 86))).alloc (Nat.le_refl _) (.cells #[.int .i64 0, .int .i64 0] 74)
  refine ⟨?_, ?_, b1.trans (b2.mono (by omega))⟩
  · rw [b2.block w.heap.size (by omega)]; exact heap_alloc_new w _
  · rw [← hs]; exact heap_alloc_new _ _
/-- What takeRow answers. -/
def RwR (o : Option (RowV × Nat)) (B : Nat) (e : Ending) (w' : World) : Prop :=
  (o = none ∧ e = .returned (.tuple #[.agg #[.int .i64 0, .int .i64 0, .slice none 0 0], .int .i64 0, .bool false])) ∨
  ∃ r a c, o = some r ∧ e = .returned (.tuple #[.agg #[.int .i64 (r.1.sp.1 : Int), .int .i64 (r.1.sp.2 : Int), .slice a r.1.last.length c], .int .i64 (r.2 : Int), .bool true]) ∧ Row B w' (.slice a r.1.last.length c) r.1.last
/-- What takeRow answers, walked. -/
theorem rwT_eq {xs : List Int} {room e1 n1 e2 p n2 e3 q n3 : Nat} {k1 : List Int} (h1 : tb xs 512 = (e1, k1, n1)) (h2 : tk (xs.drop n1) = (e2, p, n2)) (h3 : tk (xs.drop (n1 + n2)) = (e3, q, n3)) :
    rwT xs room = if e1 ≠ 0 ∨ k1 = [] then none else if e2 ≠ 0 then none else if e3 ≠ 0 then none else match spO p q room with | none => none | some s => some (⟨s, k1⟩, n1 + n2 + n3) := by
  unfold rwT
  rw [h1]
  simp only
  rw [h2]
  simp only
  rw [h3]
  rfl
set_option maxHeartbeats 4000000 in
set_option maxRecDepth 100000 in
theorem row_t {w : World} {ao : Option Addr} {len cap room : Nat} {xs : List Int} (h : Sl w ao len cap xs) (hl : len ≤ 5000000) (hr : room ≤ 5000000) :
    Calls Try.prog 76 #[.slice ao len cap, .int .i64 (room : Int)] w fun e w' => RwR (rwT xs room) w.heap.size e w' ∧ Below w.heap.size w w' := by
  obtain ⟨⟨e1, k1, n1⟩, h1⟩ : ∃ x, tb xs 512 = x := ⟨_, rfl⟩
  obtain ⟨⟨e2, p, n2⟩, h2⟩ : ∃ x, tk (xs.drop n1) = x := ⟨_, rfl⟩
  obtain ⟨⟨e3, q, n3⟩, h3⟩ : ∃ x, tk (xs.drop (n1 + n2)) = x := ⟨_, rfl⟩
  have hEQ := rwT_eq (room := room) h1 h2 h3
  obtain ⟨O, hO⟩ : ∃ O, O = rwT xs room := ⟨_, rfl⟩
  rw [← hO] at hEQ ⊢
  have HEQ := hid hEQ
  have hln := h.1
  have hok1 : Okb k1 := by have := tb_okb (most := 512) h.2.1; rw [h1] at this; exact this
  have hn1 : e1 = 0 → 1 ≤ n1 ∧ n1 ≤ len := fun z => by
    have := tb_used (xs := xs) (most := 512) (by rw [h1]; exact z)
    rw [h1, hln] at this
    exact ⟨this.1, this.2.1⟩
  have hn2 : e1 = 0 → e2 = 0 → n1 + n2 ≤ len := fun z z2 => by
    have := (tk_used (xs := xs.drop n1) (by rw [h2]; exact z2)).2
    rw [h2, List.length_drop, hln] at this
    have := hn1 z
    simp only at *
    omega
  have hp64 : p < 18446744073709551616 := by have := tk_lt (xs.drop n1); rw [h2] at this; exact this
  have hq64 : q < 18446744073709551616 := by have := tk_lt (xs.drop (n1 + n2)); rw [h3] at this; exact this
  have hn3 : e1 = 0 → e2 = 0 → e3 = 0 → n1 + n2 + n3 ≤ len := fun z z2 z3 => by
    have := (tk_used (xs := xs.drop (n1 + n2)) (by rw [h3]; exact z3)).2
    rw [h3, List.length_drop, hln] at this
    have := hn2 z z2
    simp only at *
    omega
  obtain ⟨W, hW⟩ : ∃ W, (w.alloc (.cells #[.int .i64 0, .int .i64 0, .slice none 0 0] 86)).alloc (.cells #[.int .i64 0, .int .i64 0] 74) = W := ⟨_, rfl⟩
  have T0 : TRt w W (.int .i64 0) (.int .i64 0) (.slice none 0 0) (.int .i64 0) (.int .i64 0) := by rw [← hW]; exact trt_begin w
  have HT0 := hid T0
  have HSZ : Hid (W.heap.size = w.heap.size + 2) := by show _ = _; rw [← hW]; simp
  have ht1 := tb_l (h.later T0.bel) (by omega) 512 (by omega)
  rw [h1] at ht1
  simp only at ht1
  have HTK1 : Hid (e1 = 0 → ∀ wx, Below w.heap.size w wx → Calls Try.prog 98 #[.slice (cutA ao cap n1) (len - n1) (cap - n1)] wx fun e w' => e = .returned (.tuple #[.int .u64 (p : Int), .int .i64 (n2 : Int), .int .i64 (e2 : Int)]) ∧ w' = wx) := fun z wx hb => by
    have := tk_l ((h.later hb).from n1 (hn1 z).2)
    rw [h2] at this
    exact this
  have HTK2 : Hid (e1 = 0 → e2 = 0 → ∀ wx, Below w.heap.size w wx → Calls Try.prog 98 #[.slice (cutA ao cap (n1 + n2)) (len - (n1 + n2)) (cap - (n1 + n2))] wx fun e w' => e = .returned (.tuple #[.int .u64 (q : Int), .int .i64 (n3 : Int), .int .i64 (e3 : Int)]) ∧ w' = wx) := fun z z2 wx hb => by
    have := tk_l ((h.later hb).from (n1 + n2) (hn2 z z2))
    rw [h3] at this
    exact this
  have HCF1 : Hid (e1 = 0 → ∀ w, (Instr.slice 25 (.slice ao len cap) (some (.int .i64 (n1 : Int))) none none).run Try.prog w = .ok (.slice (cutA ao cap n1) (len - n1) (cap - n1)) w) := fun z w => run_from w ao len cap n1 (hn1 z).2 h.2.2.2.1
  obtain ⟨M, hM⟩ : ∃ M, M = n1 + n2 := ⟨_, rfl⟩
  rw [← hM] at HTK2
  have HCF2 : Hid (e1 = 0 → e2 = 0 → ∀ w, (Instr.slice 25 (.slice ao len cap) (some (.int .i64 (M : Int))) none none).run Try.prog w = .ok (.slice (cutA ao cap M) (len - M) (cap - M)) w) := fun z z2 w => run_from w ao len cap M (by rw [hM]; exact hn2 z z2) h.2.2.2.1
  have HSP : Hid (∀ wx, Calls Try.prog 73 #[.int .u64 (p : Int), .int .u64 (q : Int), .int .i64 (room : Int)] wx fun e w' => e = .returned (spR (spO p q room)) ∧ Below wx.heap.size wx w') := fun wx => spw_t hp64 hq64 (by omega)
  have HN : Hid ((e1 = 0 → n1 ≤ len) ∧ (e1 = 0 → e2 = 0 → n1 + n2 ≤ len) ∧ (e1 = 0 → e2 = 0 → e3 = 0 → n1 + n2 + n3 ≤ len) ∧ len ≤ 5000000 ∧ M = n1 + n2) := ⟨fun z => (hn1 z).2, hn2, hn3, hl, hM⟩
  have HOK := hid hok1
  generalize cutA ao cap n1 = b1 at HTK1 HCF1
  generalize len - n1 = b2 at HTK1 HCF1
  generalize cap - n1 = b3 at HTK1 HCF1
  generalize cutA ao cap M = d1 at HTK2 HCF2
  generalize len - M = d2 at HTK2 HCF2
  generalize cap - M = d3 at HTK2 HCF2
  clear h hl hr h1 h2 h3 hO hEQ hln hok1 hn1 hn2 hn3 hp64 hq64 T0 hM
  go_enter Try.func76, Try.ntmps76
  go_wp2_with fail
  refine wp_scope_jumps 0 (fun a' w' => (O = none ∧ ∃ x0 x1 x2 y0 y1, TRt w w' x0 x1 x2 y0 y1) ∧ ∃ (u0 u1 u2 u3 u5 u6 u7 u8 u9 u10 u11 u12 u13 u14 u15 u16 u17 u18 u19 u20 u21 u22 u23 u24 u25 u26 u27 u28 u29 u30 u31 u32 u33 u34 u35 u36 u37 u38 u39 u40 u41 u42 u43 u44 u45 u46 u47 u48 u49 u50 u51 u52 u53 u54 u55 u56 u57 u58 u59 u60 u61 u62 u63 u64 u65 u66 u67 u68 : Value), a' = { tmps := #[u0, u1, u2, u3, .pointer (some ⟨w.heap.size, 0, none⟩), u5, u6, u7, u8, u9, u10, u11, u12, u13, u14, u15, u16, u17, u18, u19, u20, u21, u22, u23, u24, u25, u26, u27, u28, u29, u30, u31, u32, u33, u34, u35, u36, u37, u38, u39, u40, u41, u42, u43, u44, u45, u46, u47, u48, u49, u50, u51, u52, u53, u54, u55, u56, u57, u58, u59, u60, u61, u62, u63, u64, u65, u66, u67, u68], defers := [] }) (fun _ _ => 0) rfl ?_ ?_
  · go_upto_region 6 with (go_at_call 97; refine ht1.mono ?_; rintro e w1 ⟨v1, rfl, r1, c1⟩)
    obtain ⟨a1, c1', hv1, s1⟩ := Sl.ofRow r1 HOK.out
    subst hv1
    have T1 := hid (HT0.out.later c1)
    have HR1 := hid (r1.base (B' := w.heap.size) HT0.out.bel.size)
    have HOWN : Hid (∀ g, (Value.slice a1 k1.length c1').ownBlock = some g → w.heap.size + 2 ≤ g) := fun g hg => by have := (Row.own_ltT r1 hg).1; have := HSZ.out; omega
    clear ht1 r1 s1 c1
    by_cases q1 : e1 = 0
    · subst q1
      have HN1 := hid (HN.out.1 rfl)
      have HNb := hid (HN.out.2.1 rfl)
      have HNc := hid (HN.out.2.2.1 rfl)
      have HNd := hid HN.out.2.2.2
      have hcf1 := HCF1.out rfl
      have hk1 := HTK1.out rfl _ T1.out.bel
      have HCF2b := hid (HCF2.out rfl)
      have HTK2b := hid (HTK2.out rfl)
      clear HN HCF1 HTK1 HCF2 HTK2
      by_cases q2 : k1 = []
      · have HO : Hid (O = none) := by show _ = _; rw [HEQ.out, if_pos (.inr q2)]
        subst q2
        clear HEQ
        go_wp2_with fail
        go_step3
        exact ⟨rfl, ⟨HO.out, _, _, _, _, _, T1.out⟩, _, _, _, _, _, _, _, _, _, _, _, _, _, _, _, _, _, _, _, _, _, _, _, _, _, _, _, _, _, _, _, _, _, _, _, _, _, _, _, _, _, _, _, _, _, _, _, _, _, _, _, _, _, _, _, _, _, _, _, _, _, _, _, _, _, _, _, _, rfl⟩
      · have hkl : ¬ ((k1.length : Int) = 0) := by
          intro z
          exact q2 (List.eq_nil_of_length_eq_zero (by omega))
        have HQ2 := hid q2
        generalize hKL : k1.length = KL at hkl HR1 HOWN ⊢
        have HKL := hid hKL
        have hn1 : n1 ≤ 2 ^ 60 := by have := HN1.out; have := HNd.out.1; omega
        clear q2 hKL
        go_upto_region 8 with (go_at_call 98; refine hk1.mono ?_; rintro e w' ⟨rfl, hw⟩; obtain rfl := hw.symm)
        clear hk1 hcf1
        by_cases q3 : e2 = 0
        · subst q3
          have hM2 : (n1 : Int) + (n2 : Int) = (M : Int) := by have := HNd.out.2; omega
          have hM62 : M ≤ 2 ^ 60 := by have := HNb.out rfl; have := HNd.out; omega
          have HNe := hid (HNc.out rfl)
          have hM3 : wrap64 ((n1 : Int) + (n2 : Int)) = (M : Int) := by rw [hM2]; unfold wrap64; omega
          have hcf2 := HCF2b.out rfl
          have hk2 := HTK2b.out rfl _ T1.out.bel
          clear HCF2b HTK2b HNb HNc
          go_upto_region 11 with (go_at_call 98; refine hk2.mono ?_; rintro e w' ⟨rfl, hw⟩; obtain rfl := hw.symm)
          clear hk2 hcf2
          by_cases q4 : e3 = 0
          · subst q4
            have hn3 : n1 + n2 + n3 ≤ 5000000 := by have := HNe.out rfl; have := HNd.out; omega
            obtain ⟨L, hL⟩ : ∃ L, L = n1 + n2 + n3 := ⟨_, rfl⟩
            have hMn : (M : Int) + (n3 : Int) = (L : Int) := by have := HNd.out.2; omega
            have HLL := hid hL
            have hL62 : L ≤ 2 ^ 60 := by omega
            clear HNe hL
            obtain ⟨A, f, hA, hA1, hA2⟩ := spR_is (spO p q room)
            have hsp := HSP.out w1
            rw [hA] at hsp
            obtain ⟨A0, A1⟩ := A
            simp only at hsp
            have HAF := hid (And.intro hA1 hA2)
            clear hA hA1 hA2
            have hn3b : n3 ≤ 2 ^ 60 := by omega
            go_upto_region 14 with (go_at_call 73; refine hsp.mono ?_; rintro e w2 ⟨rfl, c2⟩; have T2 := T1.out.later c2; obtain ⟨y0, y1, y2, y3, y4, f0, f1, f2, f3, f4⟩ := T2.facts; have HR2 := hid (HR1.out.later c2))
            have T3 := hid (T2.set1 (.int .i64 (A0 : Int)) (.int .i64 (A1 : Int)))
            have HR3 := hid (HR2.out.other (lay2_grown (w.heap.size + 1) w2 (.int .i64 (A0 : Int)) (.int .i64 (A1 : Int))) fun g hg e => by have := HOWN.out g hg; simp only [Option.some.injEq] at e; omega)
            unfold lay2 at T3 HR3
            generalize (w2.setCell ⟨w.heap.size + 1, 0, none⟩ (.int .i64 (A0 : Int))).setCell ⟨w.heap.size + 1, 1, none⟩ (.int .i64 (A1 : Int)) = w3 at T3 HR3 ⊢
            clear y0 y1 y2 y3 y4 f0 f1 f2 f3 f4 T2 hsp c2
            cases f with
            | false =>
              have HO : Hid (O = none) := by
                show _ = _
                rw [HEQ.out, if_neg (by simp [HQ2.out]), if_neg (by simp), if_neg (by simp), HAF.out.2 rfl]
              clear HEQ HAF
              go_wp2_with fail
              go_step3
              exact ⟨rfl, ⟨HO.out, _, _, _, _, _, T3.out⟩, _, _, _, _, _, _, _, _, _, _, _, _, _, _, _, _, _, _, _, _, _, _, _, _, _, _, _, _, _, _, _, _, _, _, _, _, _, _, _, _, _, _, _, _, _, _, _, _, _, _, _, _, _, _, _, _, _, _, _, _, _, _, _, _, _, _, _, _, rfl⟩
            | true =>
              have HO : Hid (O = some (⟨(A0, A1), k1⟩, n1 + n2 + n3)) := by
                show _ = _
                rw [HEQ.out, if_neg (by simp [HQ2.out]), if_neg (by simp), if_neg (by simp), HAF.out.1 rfl]
              clear HEQ HAF
              obtain ⟨y0, y1, y2, y3, y4, f0, f1, f2, f3, f4⟩ := T3.out.facts
              obtain ⟨z0, z1, z2, HB⟩ := T3.out.fin (.int .i64 (A0 : Int)) (.int .i64 (A1 : Int)) (.slice a1 KL c1')
              have HR4 := hid (HR3.out.other (lay3_grown w.heap.size w3 (.int .i64 (A0 : Int)) (.int .i64 (A1 : Int)) (.slice a1 KL c1')) fun g hg e => by have := HOWN.out g hg; simp only [Option.some.injEq] at e; omega)
              have HB := hid HB
              unfold lay3 at z0 z1 z2 HB HR4
              have HZ := hid (And.intro z0 (And.intro z1 z2))
              clear z0 z1 z2
              go_wp2_with fail
              obtain ⟨z0, z1, z2⟩ := HZ.out
              simp only [Exit.jump]
              refine bodyPost_ret (v := .tuple #[.agg #[.int .i64 (A0 : Int), .int .i64 (A1 : Int), .slice a1 KL c1'], .int .i64 (L : Int), .bool true]) (by simp [results, Try.results76, go_sem, z0, z1, z2]) rfl ⟨.inr ⟨_, a1, c1', HO.out, ?_, ?_⟩, HB.out⟩
              · rw [HLL.out, ← HKL.out]
              · rw [HKL.out]; exact HR4.out
          · have HO : Hid (O = none) := by show _ = _; rw [HEQ.out, if_neg (by simp [HQ2.out]), if_neg (by simp), if_pos q4]
            have q4' : ¬ ((e3 : Int) = 0) := by omega
            clear HEQ q4
            go_wp2_with fail
            go_step3
            exact ⟨rfl, ⟨HO.out, _, _, _, _, _, T1.out⟩, _, _, _, _, _, _, _, _, _, _, _, _, _, _, _, _, _, _, _, _, _, _, _, _, _, _, _, _, _, _, _, _, _, _, _, _, _, _, _, _, _, _, _, _, _, _, _, _, _, _, _, _, _, _, _, _, _, _, _, _, _, _, _, _, _, _, _, _, rfl⟩
        · have HO : Hid (O = none) := by show _ = _; rw [HEQ.out, if_neg (by simp [HQ2.out]), if_pos q3]
          have q3' : ¬ ((e2 : Int) = 0) := by omega
          clear HEQ q3
          go_wp2_with fail
          go_step3
          exact ⟨rfl, ⟨HO.out, _, _, _, _, _, T1.out⟩, _, _, _, _, _, _, _, _, _, _, _, _, _, _, _, _, _, _, _, _, _, _, _, _, _, _, _, _, _, _, _, _, _, _, _, _, _, _, _, _, _, _, _, _, _, _, _, _, _, _, _, _, _, _, _, _, _, _, _, _, _, _, _, _, _, _, _, _, rfl⟩
    · have HO : Hid (O = none) := by show _ = _; rw [HEQ.out, if_pos (.inl q1)]
      have q1' : ¬ ((e1 : Int) = 0) := by omega
      clear HEQ q1
      go_wp2_with fail
      go_step3
      exact ⟨rfl, ⟨HO.out, _, _, _, _, _, T1.out⟩, _, _, _, _, _, _, _, _, _, _, _, _, _, _, _, _, _, _, _, _, _, _, _, _, _, _, _, _, _, _, _, _, _, _, _, _, _, _, _, _, _, _, _, _, _, _, _, _, _, _, _, _, _, _, _, _, _, _, _, _, _, _, _, _, _, _, _, _, rfl⟩
  · rintro a' w' ⟨⟨hO, x0, x1, x2, y0', y1', T⟩, u0, u1, u2, u3, u5, u6, u7, u8, u9, u10, u11, u12, u13, u14, u15, u16, u17, u18, u19, u20, u21, u22, u23, u24, u25, u26, u27, u28, u29, u30, u31, u32, u33, u34, u35, u36, u37, u38, u39, u40, u41, u42, u43, u44, u45, u46, u47, u48, u49, u50, u51, u52, u53, u54, u55, u56, u57, u58, u59, u60, u61, u62, u63, u64, u65, u66, u67, u68, rfl⟩
    have HO := hid hO
    obtain ⟨y0, y1, y2, y3, y4, f0, f1, f2, f3, f4⟩ := T.facts
    obtain ⟨z0, z1, z2, HB⟩ := T.fin (.int .i64 0) (.int .i64 0) (.slice none 0 0)
    have HB := hid HB
    unfold lay3 at z0 z1 z2 HB
    clear T hO
    go_wp2_with fail
    simp only [Exit.jump]
    exact bodyPost_ret (v := .tuple #[.agg #[.int .i64 0, .int .i64 0, .slice none 0 0], .int .i64 0, .bool false]) (by simp [results, Try.results76, go_sem, z0, z1, z2]) rfl ⟨.inl ⟨HO.out, rfl⟩, HB.out⟩
end Go.Proofs.Ytfecopldepnicaa
