import Derived.Laws.Tables
import Derived.Laws.Rows
import Derived.Deep.QuietTactic
import Derived.BigQuiet
import Derived.Test.YtfecopldepnicaaPk26
/- The landed filters: Hash, places, Probes. -/
namespace Go.Proofs.Ytfecopldepnicaa
open Go.RowKit
set_option linter.unusedVariables false
set_option linter.unusedSimpArgs false

set_option maxHeartbeats 1000000 in
set_option maxRecDepth 100000 in
theorem bhash_any {w : World} {ao : Option Addr} {len cap : Nat} {xs : List Int} (h : Sl w ao len cap xs) :
    Calls Try.prog 90 #[.slice ao len cap] w fun e w' => e = .returned (.int .u64 (hsh xs : Nat)) ∧ w' = w := by
  have HS : Hid (Sl w ao len cap xs) := h
  have hln := h.1
  have hl63 : len ≤ 2 ^ 63 - 1 := by have := h.2.2.2; unfold maxLen at this; omega
  clear h
  go_enter Try.func90, Try.ntmps90
  go_wp2_with fail
  go_loopg [3, 5, 8] len (fun g v _ i wr => ∃ k : Nat, k + g = len ∧ i = .int .i64 (k : Int) ∧ v = .int .u64 ((hsh (xs.take k) : Nat) : Int) ∧ wr = w)
  case atStart => exact ⟨0, by omega, rfl, rfl, rfl⟩
  case round =>
    obtain ⟨k, hk, rfl, rfl, hw⟩ := hrel
    obtain rfl := hw.symm
    by_cases hkl : k < len
    · have hkl' : (k : Int) < (len : Int) := by omega
      obtain ⟨h8, b, off, rfl, hc⟩ := HS.out.2.2.2.2.2 k hkl
      have hkx : k < xs.length := by omega
      have e1 := hsh_take (List.getElem?_eq_getElem hkx)
      have e2 := xof_toNat (List.getElem?_eq_getElem hkx)
      have hlt := hsh_lt (xs.take k)
      obtain ⟨H, hH⟩ : ∃ H, H = hsh (xs.take k) := ⟨_, rfl⟩
      obtain ⟨c, hcc⟩ : ∃ c, c = xof xs k := ⟨_, rfl⟩
      rw [← hcc] at hc h8 e2
      rw [← hH] at hlt e1 ⊢
      unfold hst at e1
      rw [← e2] at e1
      have hx := u64_xor_nat H c hlt (by omega)
      have hZ : H ^^^ c < 2 ^ 64 := Nat.xor_lt_two_pow (n := 64) (by omega) (by omega)
      obtain ⟨Z, hZZ⟩ : ∃ Z, Z = H ^^^ c := ⟨_, rfl⟩
      rw [← hZZ] at hx e1 hZ
      have HST : Hid (IntKind.u64.wrap ((Z : Int) * 1099511628211) = ((hsh (xs.take (k + 1)) : Nat) : Int)) := by show _ = _; rw [IntKind.wrap_u64, e1]; omega
      have hk62 : k ≤ 2 ^ 63 - 2 := by omega
      obtain ⟨GK, HG⟩ : ∃ g, Hid (g < gk ∧ k + 1 + g = len) := ⟨gk - 1, by omega, by omega⟩
      clear hk e1 e2 hH hcc hZZ hkx
      go_wp2_with fail
      go_roundg GK
      case measure => exact HG.out.1
      case rel => exact ⟨k + 1, HG.out.2, by go_num, by rw [← HST.out], rfl⟩
    · have hkl' : (len : Int) ≤ (k : Int) := by omega
      have HE : Hid (xs.take k = xs) := List.take_of_length_le (by omega)
      clear hk hkl
      go_wp2_with fail
      exact bodyPost_ret (v := .int .u64 ((hsh (xs.take k) : Nat) : Int)) (by simp [results, Try.results90, go_sem]) rfl ⟨by rw [HE.out], rfl⟩

/-- The six places as an array. -/
def prA (key : List Int) (M : Nat) : Array Value := ((prbs key M).map fun (p : Nat) => Value.int .i64 (p : Int)).toArray
theorem prA_at {key : List Int} {M j : Nat} {p : Nat} (h : (prbs key M)[j]? = some p) : (prA key M)[j]? = some (.int .i64 (p : Int)) := by
  unfold prA
  rw [List.getElem?_toArray, List.getElem?_map, h]
  rfl
theorem prA_size {key : List Int} {M : Nat} (h : M ≠ 0) : (prA key M).size = 6 := by
  unfold prA
  rw [List.size_toArray, List.length_map, prbs_len h]
theorem prA_one (key : List Int) (M : Nat) : (prA key M).all (·.oneCell') = true := by
  unfold prA
  rw [List.all_toArray, List.all_eq_true]
  intro v hv
  obtain ⟨p, _, rfl⟩ := List.mem_map.1 hv
  rfl
theorem arr6_size : (Try.prog.info? 96).map (·.size) = some 6 := by kernel_rfl
theorem arr6_sizeA {key : List Int} {M : Nat} (h : M ≠ 0) : (Try.prog.info? 96).map (·.size) = some (prA key M).size := by rw [prA_size h]; exact arr6_size
def z6 : Array Value := #[.int .i64 0, .int .i64 0, .int .i64 0, .int .i64 0, .int .i64 0, .int .i64 0]
/-- What places has laid down. -/
structure PlS (w : World) (H M j : Nat) (wx : World) : Prop where
  bel : Below w.heap.size w wx
  res : wx.heap[w.heap.size]? = some (.cells z6 96 (0, 0))
  arr : ∃ C, wx.heap[w.heap.size + 1]? = some (.cells C 96 (0, 0)) ∧ C.size = 6 ∧ ∀ i, i < j → C[i]? = some (.int .i64 ((prb1 H M i : Nat) : Int))
theorem PlS.cell {w : World} {H M j i : Nat} {wx : World} (h : PlS w H M j wx) (hi : i < 6) : (∃ v, wx.cell? ⟨w.heap.size + 1, i, none⟩ = some v) ∧ wx.frozen? ⟨w.heap.size + 1, i, none⟩ = false := by
  obtain ⟨C, h1, h2, h3⟩ := h.arr
  exact ⟨⟨C[i], by rw [cell_of_row _ _ _ _ _ _ h1]; exact Array.getElem?_eq_getElem (by omega)⟩, frozen_of_row _ _ _ _ _ h1⟩
theorem PlS.put {w : World} {H M j : Nat} {wx : World} (h : PlS w H M j wx) (hj : j < 6) : PlS w H M (j + 1) (wx.setCell ⟨w.heap.size + 1, j, none⟩ (.int .i64 ((prb1 H M j : Nat) : Int))) := by
  obtain ⟨C, h1, h2, h3⟩ := h.arr
  have hne : ∀ b, b ≠ w.heap.size + 1 → (wx.setCell ⟨w.heap.size + 1, j, none⟩ (.int .i64 ((prb1 H M j : Nat) : Int))).heap[b]? = wx.heap[b]? := fun b hb => Below.heap_setCell _ _ _ _ (fun e => hb e)
  refine ⟨⟨h.bel.os, h.bel.tape, h.bel.output, by simp [World.setCell]; exact h.bel.size, fun k hk => by rw [hne k (by omega)]; exact h.bel.block k hk⟩, (hne _ (by omega)).trans h.res, _, heap_setB h1 j _, by simpa using h2, fun i hi => ?_⟩
  rw [Array.getElem?_setIfInBounds]
  by_cases q : j = i
  · subst q
    rw [if_pos rfl, if_pos (by omega)]
  · rw [if_neg q]
    exact h3 i (by omega)
theorem PlS.all {w : World} {key : List Int} {M : Nat} {wx : World} (hM : M ≠ 0) (h : PlS w (hsh key) M 6 wx) : wx.heap[w.heap.size + 1]? = some (.cells (prA key M) 96 (0, 0)) := by
  obtain ⟨C, h1, h2, h3⟩ := h.arr
  have : C = prA key M := by
    apply Array.ext_getElem?
    intro i
    by_cases hi : i < 6
    · rw [h3 i hi, prA_at (prbs_at hM hi)]
    · rw [Array.getElem?_eq_none (by omega), Array.getElem?_eq_none (by have := prA_size (key := key) hM; omega)]
  rw [← this]
  exact h1
theorem below_rowB {B : Nat} {w0 w : World} (h : Below B w0 w) (q : Nat) (C : Array Value) (hq : B ≤ q) : Below B w0 (w.setRow q C) :=
  ⟨h.os, h.tape, h.output, by have : (w.setRow q C).heap.size = w.heap.size := by simp [World.setRow]
                              rw [this]; exact h.size, fun i hi => (setRow_other w q i C (by omega)).trans (h.block i hi)⟩
def cntB (v : Value) : Nat := match v with | .int _ n => n.toNat | _ => 0
/-- One round of places, in numbers. -/
theorem place_step {H M j A : Nat} (hM : M ≠ 0) (hM63 : M ≤ 2 ^ 63 - 1) (hA : A = (H + j * (H / 8589934592 * 2 + 1)) % 18446744073709551616) (hH : H < 18446744073709551616) :
    (A : Int).tmod (M : Int) = ((prb1 H M j : Nat) : Int) ∧ prb1 H M j ≤ 2 ^ 63 - 1 ∧ A < 18446744073709551616 ∧ ∃ A', A' = (H + (j + 1) * (H / 8589934592 * 2 + 1)) % 18446744073709551616 ∧ IntKind.u64.wrap ((A : Int) + ((H / 8589934592 * 2 + 1 : Nat) : Int)) = (A' : Int) := by
  have h1 : prb1 H M j = A % M := by unfold prb1; rw [← hA]
  obtain ⟨D, hD⟩ : ∃ D, D = H / 8589934592 * 2 + 1 := ⟨_, rfl⟩
  rw [← hD] at hA ⊢
  refine ⟨by rw [h1]; exact (Int.ofNat_tmod A M).symm, by rw [h1]; have := Nat.mod_lt A (by omega : M > 0); omega, by rw [hA]; exact Nat.mod_lt _ (by omega), _, rfl, ?_⟩
  rw [IntKind.wrap_u64, Nat.add_mul, Nat.one_mul, ← Nat.add_assoc]
  generalize j * D = X at hA ⊢
  omega

set_option maxHeartbeats 2000000 in
set_option maxRecDepth 100000 in
theorem places_any {w : World} {ao : Option Addr} {len cap : Nat} {xs : List Int} {M : Nat} (h : Sl w ao len cap xs) (hM : M ≠ 0) (hM63 : M ≤ 2 ^ 63 - 1) :
    Calls Try.prog 65 #[.slice ao len cap, .int .i64 (M : Int)] w fun e w' => e = .returned (.agg (prA xs M)) ∧ Below w.heap.size w w' := by
  obtain ⟨W, hW⟩ : ∃ W, W = (w.alloc (.cells #[.int .i64 0, .int .i64 0, .int .i64 0, .int .i64 0, .int .i64 0, .int .i64 0] 96)).alloc (.cells #[.int .i64 0, .int .i64 0, .int .i64 0, .int .i64 0, .int .i64 0, .int .i64 0] 96) := ⟨_, rfl⟩
  have HW := hid9 hW
  have b1 : Below w.heap.size w (w.alloc (.cells #[.int .i64 0, .int .i64 0, .int .i64 0, .int .i64 0, .int .i64 0, .int .i64 0] 96)) := (Below.refl _ w).alloc (Nat.le_refl _) _
  have H0 : Hid (PlS w (hsh xs) M 0 W) := by
    refine ⟨by rw [hW]; exact b1.alloc b1.size _, by rw [hW]; exact heap_alloc2_old w _ _, _, by rw [hW]; exact heap_alloc2_new w _ _, rfl, fun i hi => by omega⟩
  have hh := bhash_any (h.later H0.out.bel)
  have HH : Hid (hsh xs < 18446744073709551616) := hsh_lt xs
  have HAL : Hid (∀ wx, PlS w (hsh xs) M 6 wx → wx.heap[w.heap.size + 1]? = some (.cells (prA xs M) 96 (0, 0))) := fun wx hx => hx.all hM
  obtain ⟨H, hHH⟩ : ∃ H, H = hsh xs := ⟨_, rfl⟩
  rw [← hHH] at hh H0 HH HAL
  have hst : ((H : Int) / 8589934592) * 2 + 1 = ((H / 8589934592 * 2 + 1 : Nat) : Int) := by omega
  have HD0 : Hid ((H : Int) / 8589934592 * 2 + 1 = ((H / 8589934592 * 2 + 1 : Nat) : Int)) := hst
  have hH64 : H < 18446744073709551616 := HH.out
  clear h hW b1 hHH hst
  go_enter Try.func65, Try.ntmps65
  go_wp2_with fail
  refine wp_scope_jumps 0 (fun a' wx => ∃ (j A D : Nat), Hid (j < 6 ∧ PlS w H M j wx ∧ A = (H + j * (H / 8589934592 * 2 + 1)) % 18446744073709551616 ∧ D = H / 8589934592 * 2 + 1) ∧ ∃ (u2 u3 u9 u10 u11 u12 u13 u14 u15 u16 u17 u18 u19 u20 u21 u22 u23 u24 u25 u26 u27 u28 u29 : Value), a' = { tmps := #[.slice ao len cap, .int .i64 (M : Int), u2, u3, .pointer (some ⟨w.heap.size, 0, none⟩), .pointer (some ⟨w.heap.size + 1, 0, none⟩), .int .u64 (A : Int), .int .u64 (D : Int), .int .i64 (j : Int), u9, u10, u11, u12, u13, u14, u15, u16, u17, u18, u19, u20, u21, u22, u23, u24, u25, u26, u27, u28, u29], defers := [] }) (fun a _ => 6 - cntB (a.eval (.tmp 8))) rfl ?_ ?_
  · go_upto_region 2 with fail
    rw [← HW.out]
    go_wp2_with (go_at_call 90; refine hh.mono ?_; rintro e w' ⟨rfl, hw⟩; obtain rfl := hw.symm)
    rw [HD0.out]
    refine (fun (H9 : ∀ (wx : World) (j A D : Nat) (u2 u3 u9 u10 u11 u12 u13 u14 u15 u16 u17 u18 u19 u20 u21 u22 u23 u24 u25 u26 u27 u28 u29 : Value), Hid (j < 6 ∧ PlS w H M j wx ∧ A = (H + j * (H / 8589934592 * 2 + 1)) % 18446744073709551616 ∧ D = H / 8589934592 * 2 + 1) → Code.wp _ _ _ { tmps := #[.slice ao len cap, .int .i64 (M : Int), u2, u3, .pointer (some ⟨w.heap.size, 0, none⟩), .pointer (some ⟨w.heap.size + 1, 0, none⟩), .int .u64 (A : Int), .int .u64 (D : Int), .int .i64 (j : Int), u9, u10, u11, u12, u13, u14, u15, u16, u17, u18, u19, u20, u21, u22, u23, u24, u25, u26, u27, u28, u29], defers := [] } wx) => H9 W 0 H (H / 8589934592 * 2 + 1) _ _ _ _ _ _ _ _ _ _ _ _ _ _ _ _ _ _ _ _ _ _ _ ⟨by omega, H0.out, by rw [Nat.zero_mul, Nat.add_zero, Nat.mod_eq_of_lt HH.out], rfl⟩) ?_
    intro wx j A D u2 u3 u9 u10 u11 u12 u13 u14 u15 u16 u17 u18 u19 u20 u21 u22 u23 u24 u25 u26 u27 u28 u29 HK
    go_step3
    have hj62 : j ≤ 2 ^ 62 := by have := HK.out.1; omega
    have hj6' : (j : Int) < 6 := by have := HK.out.1; omega
    obtain ⟨q1, q2, q3, A', q4, q5⟩ := place_step (j := j) hM hM63 HK.out.2.2.1 HH.out
    rw [← HK.out.2.2.2] at q5
    have HP : Hid (PlS w H M (j + 1) (wx.setCell ⟨w.heap.size + 1, j, none⟩ (.int .i64 ((prb1 H M j : Nat) : Int)))) := HK.out.2.1.put HK.out.1
    obtain ⟨⟨vj, hc⟩, hf⟩ := HK.out.2.1.cell HK.out.1
    have HA : Hid (A' = (H + (j + 1) * (H / 8589934592 * 2 + 1)) % 18446744073709551616 ∧ D = H / 8589934592 * 2 + 1) := ⟨q4, HK.out.2.2.2⟩
    generalize prb1 H M j = p at q1 q2 HP
    have hpw : wrap64 (p : Int) = (p : Int) := by unfold wrap64; omega
    have hM0 : (M : Int) ≠ 0 := by omega
    obtain ⟨W2, hW2⟩ : ∃ W2, W2 = wx.setCell ⟨w.heap.size + 1, j, none⟩ (.int .i64 (p : Int)) := ⟨_, rfl⟩
    rw [← hW2] at HP
    have HW2 := hid9 hW2
    clear hW2 q4
    by_cases hl : j + 1 < 6
    · have hl' : (j : Int) + 1 < 6 := by omega
      go_wp2_with fail
      go_step3
      exact ⟨rfl, ⟨j + 1, A', D, ⟨by omega, by rw [← HW2.out]; exact HP.out, HA.out.1, HA.out.2⟩, _, _, _, _, _, _, _, _, _, _, _, _, _, _, _, _, _, _, _, _, _, _, _, by go_num⟩⟩
    · have hl' : ¬ ((j : Int) + 1 < 6) := by omega
      have hj5 : j = 5 := by have := HK.out.1; omega
      have HG : Hid (W2.heap[w.heap.size + 1]? = some (.cells (prA xs M) 96 (0, 0)) ∧ W2.heap[w.heap.size]? = some (.cells z6 96 (0, 0)) ∧ Below w.heap.size w W2) := ⟨HAL.out _ (by have := HP.out; rw [hj5] at this; exact this), HP.out.res, HP.out.bel⟩
      clear hj5
      go_upto_region 9 with fail
      rw [← HW2.out]
      go_wp2_with (first | (refine wpList_load_row rfl 96 (.tmp 5) rfl (w.heap.size + 1) rfl 96 (prA xs M) (0, 0) (.array 6 3) HG.out.1 Try.underlying96 rfl (arr6_sizeA hM) ?_) | (refine wpList_store_row rfl 96 (.tmp 4) (.tmp 29) rfl w.heap.size (prA xs M) rfl rfl 96 z6 HG.out.2.1 (arr6_sizeA hM) (by rw [prA_size hM]; rfl) (prA_one xs M) ?_))
      try simp only [Exit.jump]
      exact ⟨by simp, _, results_cell_row Try.results65 _ _ w.heap.size 96 (prA xs M) (0, 0) (.array 6 3) rfl (setRow_heap _ _ _ _ _ _ HG.out.2.1) Try.underlying96 rfl (arr6_sizeA hM), rfl, below_rowB HG.out.2.2 _ _ (Nat.le_refl _)⟩
  · rintro a' wx ⟨j, A, D, HK, u2, u3, u9, u10, u11, u12, u13, u14, u15, u16, u17, u18, u19, u20, u21, u22, u23, u24, u25, u26, u27, u28, u29, rfl⟩
    have hj62 : j ≤ 2 ^ 62 := by have := HK.out.1; omega
    have hj6' : (j : Int) < 6 := by have := HK.out.1; omega
    obtain ⟨q1, q2, q3, A', q4, q5⟩ := place_step (j := j) hM hM63 HK.out.2.2.1 HH.out
    rw [← HK.out.2.2.2] at q5
    have HP : Hid (PlS w H M (j + 1) (wx.setCell ⟨w.heap.size + 1, j, none⟩ (.int .i64 ((prb1 H M j : Nat) : Int)))) := HK.out.2.1.put HK.out.1
    obtain ⟨⟨vj, hc⟩, hf⟩ := HK.out.2.1.cell HK.out.1
    have HA : Hid (A' = (H + (j + 1) * (H / 8589934592 * 2 + 1)) % 18446744073709551616 ∧ D = H / 8589934592 * 2 + 1) := ⟨q4, HK.out.2.2.2⟩
    generalize prb1 H M j = p at q1 q2 HP
    have hpw : wrap64 (p : Int) = (p : Int) := by unfold wrap64; omega
    have hM0 : (M : Int) ≠ 0 := by omega
    obtain ⟨W2, hW2⟩ : ∃ W2, W2 = wx.setCell ⟨w.heap.size + 1, j, none⟩ (.int .i64 (p : Int)) := ⟨_, rfl⟩
    rw [← hW2] at HP
    have HW2 := hid9 hW2
    clear hW2 q4
    by_cases hl : j + 1 < 6
    · have hl' : (j : Int) + 1 < 6 := by omega
      go_wp2_with fail
      go_step3
      refine ⟨rfl, ⟨j + 1, A', D, ⟨by omega, by rw [← HW2.out]; exact HP.out, HA.out.1, HA.out.2⟩, _, _, _, _, _, _, _, _, _, _, _, _, _, _, _, _, _, _, _, _, _, _, _, by go_num⟩, by simp [cntB, Act.eval]; omega⟩
    · have hl' : ¬ ((j : Int) + 1 < 6) := by omega
      have hj5 : j = 5 := by have := HK.out.1; omega
      have HG : Hid (W2.heap[w.heap.size + 1]? = some (.cells (prA xs M) 96 (0, 0)) ∧ W2.heap[w.heap.size]? = some (.cells z6 96 (0, 0)) ∧ Below w.heap.size w W2) := ⟨HAL.out _ (by have := HP.out; rw [hj5] at this; exact this), HP.out.res, HP.out.bel⟩
      clear hj5
      go_upto_region 9 with fail
      rw [← HW2.out]
      go_wp2_with (first | (refine wpList_load_row rfl 96 (.tmp 5) rfl (w.heap.size + 1) rfl 96 (prA xs M) (0, 0) (.array 6 3) HG.out.1 Try.underlying96 rfl (arr6_sizeA hM) ?_) | (refine wpList_store_row rfl 96 (.tmp 4) (.tmp 29) rfl w.heap.size (prA xs M) rfl rfl 96 z6 HG.out.2.1 (arr6_sizeA hM) (by rw [prA_size hM]; rfl) (prA_one xs M) ?_))
      try simp only [Exit.jump]
      exact ⟨by simp, _, results_cell_row Try.results65 _ _ w.heap.size 96 (prA xs M) (0, 0) (.array 6 3) rfl (setRow_heap _ _ _ _ _ _ HG.out.2.1) Try.underlying96 rfl (arr6_sizeA hM), rfl, below_rowB HG.out.2.2 _ _ (Nat.le_refl _)⟩
end Go.Proofs.Ytfecopldepnicaa

/- The landed filters: Probes, and what is small. -/
namespace Go.Proofs.Ytfecopldepnicaa
open Go.RowKit
set_option linter.unusedVariables false
set_option linter.unusedSimpArgs false

theorem lay_nums (w : World) : ∀ (P : List Nat), Lay numE w (P.map fun (p : Nat) => Value.int .i64 (p : Int)) P
  | [] => rfl
  | p :: r => ⟨[.int .i64 (p : Int)], _, rfl, rfl, lay_nums w r⟩
theorem rs_prA {w : World} {g : Nat} {key : List Int} {M : Nat} (hM : M ≠ 0) (h : w.heap[g]? = some (.cells (prA key M) 96 (0, 0))) : RSV numE w (.slice (some ⟨g, 0, none⟩) 6 6) (prbs key M) := by
  refine ⟨some ⟨g, 0, none⟩, 6, by rw [prbs_len hM], (prbs key M).map fun (p : Nat) => Value.int .i64 (p : Int), rfl, fun e => (by cases e), by rw [prbs_len hM]; exact Nat.le_refl _, by unfold maxLen; omega, lay_nums w _, fun j u hu => ⟨g, 0, rfl, ?_⟩⟩
  rw [Nat.zero_add, cell_of_row _ _ _ _ _ _ h]
  unfold prA
  rw [List.getElem?_toArray]
  exact hu

theorem fbytes_any {w : World} {n : Nat} (hn : n ≤ 100000) : Calls Try.prog 64 #[.int .i64 (n : Int)] w fun e w' => e = .returned (.int .i64 ((fsz n : Nat) : Int)) ∧ w' = w := by
  by_cases q : 64 ≤ 10 * n
  · have q' : ¬ ((64 : Int) > (n : Int) * 10) := by omega
    have hf : fsz n = (10 * n + 7) / 8 := by unfold fsz; omega
    have hn62 : n ≤ 2 ^ 50 := by omega
    have e1 : ((n : Int) * 10 + 8 - 1) / 8 = ((fsz n : Nat) : Int) := by rw [hf]; omega
    have HE := hid9 e1
    clear e1 hf
    go_enter Try.func64, Try.ntmps64
    go_wp2_with fail
    exact bodyPost_ret (v := .int .i64 ((fsz n : Nat) : Int)) (by simp [results, Try.results64, go_sem]; exact HE.out) rfl ⟨rfl, rfl⟩
  · have q' : (64 : Int) > (n : Int) * 10 := by omega
    have hf : fsz n = 8 := by unfold fsz; omega
    have hn62 : n ≤ 2 ^ 50 := by omega
    rw [hf]
    clear hf
    go_enter Try.func64, Try.ntmps64
    go_wp2_with fail
    exact bodyPost_ret (v := .int .i64 8) (by simp [results, Try.results64, go_sem]) rfl ⟨rfl, rfl⟩
set_option maxRecDepth 100000 in
theorem bmask_any {w : World} {p r : Nat} (hp : p ≤ 2 ^ 60) (hr : r = p % 8) : Calls Try.prog 66 #[.int .i64 (p : Int)] w fun e w' => e = .returned (.int .u8 ((2 ^ r : Nat) : Int)) ∧ w' = w := by
  have hr8 : (p : Int) % 8 = (r : Int) := by omega
  have hr7 : r < 8 := by omega
  clear hr
  go_enter Try.func66, Try.ntmps66
  have hpw : 2 ^ r < 2 ^ 8 := Nat.pow_lt_pow_right (by decide) (by omega)
  have HE : Hid ((2 : Int) ^ r % 256 = ((2 ^ r : Nat) : Int)) := by
    show _ = _
    rw [Int.emod_eq_of_lt (by exact_mod_cast Nat.zero_le (2 ^ r)) (by exact_mod_cast hpw)]
    norm_cast
  clear hpw
  go_wp2_with fail
  generalize (2 : Int) ^ r % 256 = V at HE ⊢
  exact bodyPost_ret (v := .int .u8 V) (by simp [results, Try.results66, go_sem]) rfl ⟨by rw [HE.out], rfl⟩
end Go.Proofs.Ytfecopldepnicaa

/- The landed filters: Has. -/
namespace Go.Proofs.Ytfecopldepnicaa
open Go.RowKit
set_option linter.unusedVariables false
set_option linter.unusedSimpArgs false

theorem run_ix6 (w : World) (A : Array Value) (j : Nat) {k : IntKind} {x : Int} (hA : A.size = 6) (hj : j < 6) (h : A[j]? = some (.int k x)) : (Instr.index 96 (.agg A) (.int .i64 (j : Int))).run Try.prog w = .ok (.int k x) w := by
  have h0 : ¬ ((j : Int) < 0) := by omega
  have hx : A.toList[j]? = some (.int k x) := by rw [Array.getElem?_toList]; exact h
  simp [Instr.index, run_underlying Try.underlying96, asIntOf, go_sem, hj, h]
theorem and_bit {X r : Nat} (hX : X < 256) (hr : r < 8) : (bits .and .u8 (X : Int) ((2 ^ r : Nat) : Int) == 0) = !decide (X / 2 ^ r % 2 = 1) := by
  have hpw : 2 ^ r < 2 ^ 8 := Nat.pow_lt_pow_right (by decide) (by omega)
  rw [u8_and_nat X (2 ^ r) hX (by omega), ← Nat.testBit_eq_decide_div_mod_eq]
  cases hb : X.testBit r
  · have : X &&& 2 ^ r = 0 := by
      apply Nat.eq_of_testBit_eq
      intro i
      rw [Nat.testBit_and, Nat.testBit_two_pow]
      by_cases e : r = i
      · subst e; simp [hb]
      · simp [e]
    rw [this]
    rfl
  · have : X &&& 2 ^ r ≠ 0 := fun e => by
      have h1 : (X &&& 2 ^ r).testBit r = true := by rw [Nat.testBit_and, hb, Nat.testBit_two_pow_self]; rfl
      rw [e] at h1
      simp at h1
    simp only [Bool.not_true, beq_eq_false_iff_ne, ne_eq]
    omega

set_option maxHeartbeats 2000000 in
set_option maxRecDepth 100000 in
theorem bhas_any {w : World} {fa ka : Option Addr} {fl fc kl kc : Nat} {f key : List Int} (h1 : Sl w fa fl fc f) (h2 : Sl w ka kl kc key) :
    Calls Try.prog 56 #[.slice fa fl fc, .slice ka kl kc] w fun e w' => e = .returned (.bool (has f key)) ∧ Below w.heap.size w w' := by
  have hfl := h1.1
  have hl63 : fl ≤ 2 ^ 63 - 1 := by have := h1.2.2.2; unfold maxLen at this; omega
  by_cases q0 : fl = 0
  · have hR : has f key = true := by unfold has; rw [if_pos (.inl (by omega))]
    rw [hR]
    have e0 : ((fl : Int) == 0) = true := by simp; omega
    clear h1 h2 hR q0 hfl
    go_enter Try.func56, Try.ntmps56
    go_wp2_with fail
    exact bodyPost_ret (v := .bool true) (by simp [results, Try.results56, go_sem]) rfl ⟨rfl, Below.refl _ _⟩
  by_cases q1 : 1048576 < fl
  · have hR : has f key = true := by unfold has; rw [if_pos (.inr (by omega))]
    rw [hR]
    have e0 : ((fl : Int) == 0) = false := by simp; omega
    have e1 : (1048576 : Int) < (fl : Int) := by omega
    clear h1 h2 hR q0 hfl q1
    go_enter Try.func56, Try.ntmps56
    go_wp2_with fail
    exact bodyPost_ret (v := .bool true) (by simp [results, Try.results56, go_sem]) rfl ⟨rfl, Below.refl _ _⟩
  have hR : has f key = (prbs key (8 * fl)).all (hasb f) := by unfold has; rw [if_neg (by omega), hfl]
  rw [hR]
  have e0 : ((fl : Int) == 0) = false := by simp; omega
  have e1 : (fl : Int) ≤ 1048576 := by omega
  have hfl62 : fl ≤ 2 ^ 50 := by omega
  have hpr := places_any (M := 8 * fl) h2 (by omega) (by omega)
  rw [show ((8 * fl : Nat) : Int) = (fl : Int) * 8 by omega] at hpr
  have HP : Hid ((∀ p ∈ prbs key (8 * fl), p < 8 * fl) ∧ (prbs key (8 * fl)).length = 6 ∧ (∀ j p, (prbs key (8 * fl))[j]? = some p → (prA key (8 * fl))[j]? = some (Value.int .i64 ((p : Nat) : Int))) ∧ (prA key (8 * fl)).size = 6) := ⟨fun p hp => prbs_lt hp, prbs_len (by omega), fun j p h => prA_at h, prA_size (by omega)⟩
  generalize prA key (8 * fl) = PA at hpr HP
  generalize prbs key (8 * fl) = P at HP
  have HS : Hid (Sl w fa fl fc f) := h1
  obtain ⟨T, hT⟩ : ∃ T, T = P.all (hasb f) := ⟨_, rfl⟩
  rw [← hT]
  have HT : Hid (T = P.all (hasb f)) := hT
  clear h1 h2 hR q0 q1 hT
  go_enter Try.func56, Try.ntmps56
  go_wp2_with (go_at_call 65; refine hpr.mono ?_; rintro e w3 ⟨rfl, b3⟩)
  have HB := hid9 b3
  clear hpr b3
  go_loopg [6, 20] 6 (fun g _ i wr => ∃ j m : Nat, j + g = 6 ∧ i = .int .i64 (j : Int) ∧ wr = w3.drewN m ∧ Hid ((P.take j).all (hasb f) = true))
  case atStart => exact ⟨0, 0, by omega, rfl, rfl, rfl⟩
  case round =>
    obtain ⟨j, m, hj, rfl, hw, HJ⟩ := hrel
    obtain ⟨W3, hW3⟩ : ∃ W, W = w3.drewN m := ⟨_, rfl⟩
    have HB3 : Hid (Below w.heap.size w W3 ∧ W3 = w3.drewN m) := ⟨by rw [hW3]; exact below_drewN HB.out _, hW3⟩
    rw [← hW3] at hw
    subst hw
    clear hW3
    by_cases hjn : j < 6
    · have hjn' : (j : Int) < 6 := by omega
      have hjx : j < P.length := by have := HP.out.2.1; omega
      have HPJ := hid9 (List.getElem?_eq_getElem hjx)
      have hpl := HP.out.1 P[j] (List.getElem_mem hjx)
      have hix := fun w => run_ix6 w PA j HP.out.2.2.2 hjn (HP.out.2.2.1 j P[j] HPJ.out)
      generalize P[j] = p at hix hpl HPJ
      obtain ⟨i, hi⟩ : ∃ i, i = p / 8 := ⟨_, rfl⟩
      obtain ⟨r, hr⟩ : ∃ r, r = p % 8 := ⟨_, rfl⟩
      have hiN : i < fl := by omega
      obtain ⟨hX8, b, off, rfl, hc0⟩ := HS.out.2.2.2.2.2 i hiN
      have hc := cell_later HB3.out.1 hc0
      have hfx : f[i]? = some ((xof f i : Nat) : Int) := by
        have hif : i < f.length := by omega
        have h0 := HS.out.2.1 f[i] (List.getElem_mem hif)
        rw [List.getElem?_eq_getElem hif]
        simp only [xof, List.getD_eq_getElem?_getD, List.getElem?_eq_getElem hif, Option.getD_some, Option.some.injEq]
        omega
      have hbit := hasb_bit hfx hi hr
      have hat := all_take (q := hasb f) HPJ.out
      generalize xof f i = X at hX8 hc hbit hc0 hfx
      have hp62 : p ≤ 2 ^ 60 := by omega
      have hmk := fun (w : World) => bmask_any (w := w) hp62 hr
      have hq8 : (p : Int) / 8 = (i : Int) := by omega
      have hr8 : (p : Int) % 8 = (r : Int) := by omega
      have hr7 : r < 8 := by omega
      have hiN' : (i : Int) < (fl : Int) := by omega
      have hj62 : j ≤ 2 ^ 61 := by omega
      have HAT : Hid ((P.take (j + 1)).all (hasb f) = decide (X / 2 ^ r % 2 = 1) ∧ (decide (X / 2 ^ r % 2 = 1) = false → T = false)) := by
        rw [HJ.out, hbit, Bool.true_and] at hat
        refine ⟨hat, fun e => ?_⟩
        rw [HT.out, List.all_eq_false]
        exact ⟨p, List.mem_of_getElem? HPJ.out, by rw [hbit, e]; decide⟩
      obtain ⟨GJ, HGJ⟩ : ∃ g, Hid (g < gk ∧ j + 1 + g = 6) := ⟨gk - 1, by omega, by omega⟩
      have hand := and_bit hX8 hr7
      generalize ((2 ^ r : Nat) : Int) = R at hand hmk
      clear hi hr hc0 hfx hbit hat hj hpl hr8
      by_cases qb : X / 2 ^ r % 2 = 1
      · have hb : (bits .and .u8 (X : Int) R == 0) = false := by rw [hand]; simp [qb]
        have HNX : Hid ((P.take (j + 1)).all (hasb f) = true) := by show _ = _; rw [HAT.out.1]; simpa using qb
        clear hand qb
        go_wp2_with fail
        go_quiet ((go_at_call 66; exact Calls.quiet_of_same (hmk _)))
        go_wp2_with fail
        go_roundg GJ
        case measure => exact HGJ.out.1
        case rel => exact ⟨j + 1, m + nq, HGJ.out.2, by go_num, by rw [HB3.out.2, World.drewN_drewN], HNX⟩
      · have hb : (bits .and .u8 (X : Int) R == 0) = true := by rw [hand]; simp [qb]
        have hTf : T = false := HAT.out.2 (by simpa using qb)
        subst hTf
        clear hand qb
        go_wp2_with fail
        go_quiet ((go_at_call 66; exact Calls.quiet_of_same (hmk _)))
        go_wp2_with fail
        exact bodyPost_ret (v := .bool false) (by simp [results, Try.results56, go_sem]) rfl ⟨rfl, below_drewN HB3.out.1 _⟩
    · have hjn' : ¬ ((j : Int) < 6) := by omega
      have hTT : T = true := by
        have := HJ.out
        rw [List.take_of_length_le (by have := HP.out.2.1; omega)] at this
        rw [HT.out, this]
      subst hTT
      have HB4 := hid9 HB3.out.1
      clear hj hjn HJ
      go_wp2_with fail
      exact bodyPost_ret (v := .bool true) (by simp [results, Try.results56, go_sem]) rfl ⟨rfl, HB4.out⟩
end Go.Proofs.Ytfecopldepnicaa
