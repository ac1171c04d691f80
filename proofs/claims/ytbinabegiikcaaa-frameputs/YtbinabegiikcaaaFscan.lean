/- What the landed Scan answers, and the landed frame's contracts together. -/
import Derived.Test.YtbinabegiikcaaaFtake
namespace Go.Proofs.Ytbinabegiikcaaa
open Go.RowKit
set_option linter.unusedVariables false
set_option linter.unusedSimpArgs false

set_option maxHeartbeats 2000000 in
set_option maxRecDepth 100000 in
theorem scan_any6 {w : World} {ao : Option Addr} {len cap : Nat} {xs : List Int} (h : Sl w ao len cap xs) (hl : len ≤ 1099511627000) : Calls Try.prog 13 #[.slice ao len cap] w fun e w' => ∃ v, e = .returned (.tuple #[v, .int .i64 ((scan xs).2 : Int)]) ∧ RowB w.heap.size w' v (scan xs).1 ∧ Below w.heap.size w w' := by
  have HS : Hid (Sl w ao len cap xs ∧ len ≤ 1099511627000) := ⟨h, hl⟩
  have H0 : Hid (Sc xs w w 0 (.slice none 0 0)) := ⟨[], RowB.nil _ _, Below.refl _ _, Nat.zero_le _, Nat.le_refl _, by simp⟩
  have hmax : cap ≤ 2 ^ 63 - 1 := by have := h.2.2.2.2.1; unfold maxLen at this; omega
  have hlen62 : len ≤ 2 ^ 62 := by omega
  have hln := h.1
  have hcap := h.2.2.2.1
  clear h hl
  go_enter Try.func13, Try.ntmps13
  go_wp2_with fail
  refine wp_scope_jumps 0 (fun a' w' => ∃ (rs : List (List Int)) (k : Nat) (v : Value), Hid (RowB w.heap.size w' v rs ∧ Below w.heap.size w w' ∧ Go.Proofs.Ytbinabegiikcaaa.scan xs = (rs, k)) ∧ ∃ (u1 u2 u3 u6 u7 u8 u9 u10 u11 u12 u13 u14 u15 u16 u17 u18 u19 u20 u21 u22 u23 u24 u25 u26 u27 u28 u29 u30 u31 : Value), a' = { tmps := #[Value.slice ao len cap, u1, u2, u3, v, Value.int .i64 (k : Int), u6, u7, u8, u9, u10, u11, u12, u13, u14, u15, u16, u17, u18, u19, u20, u21, u22, u23, u24, u25, u26, u27, u28, u29, u30, u31], defers := [] }) (fun _ _ => 0) rfl ?_ ?_
  rotate_left
  · rintro a' w' ⟨rs, k, v, HX, u1, u2, u3, u6, u7, u8, u9, u10, u11, u12, u13, u14, u15, u16, u17, u18, u19, u20, u21, u22, u23, u24, u25, u26, u27, u28, u29, u30, u31, rfl⟩
    go_wp2_with fail
    simp only [Exit.jump]
    refine bodyPost_ret (v := .tuple #[v, .int .i64 (k : Int)]) (by simp [results, Try.results13, go_sem]) rfl ⟨v, ?_, ?_, HX.out.2.1⟩
    · rw [HX.out.2.2]
    · rw [HX.out.2.2]; exact HX.out.1
  go_wp2_with fail
  go_loopg [4, 5, 6, 7, 8] len (fun g v i _ _ _ wr => ∃ k : Nat, k + g = len ∧ i = .int .i64 (k : Int) ∧ Hid (Sc xs w wr k v))
  case atStart => exact ⟨0, by omega, rfl, H0⟩
  case round =>
    obtain ⟨k, hk, rfl, HC⟩ := hrel
    obtain ⟨rs, x1, x2, x3, x4, x5⟩ := HC.out
    by_cases hkl : k < len
    · have hkl' : (k : Int) < (len : Int) := by omega
      have hsl := HS.out.1.later x2
      have hf := hsl.from k (by omega)
      have hcf := fun w => run_from w ao len cap k (by omega) hcap
      have htf := take_new hf (by have := HS.out.2; omega)
      have hk62 : k ≤ 2 ^ 62 := by omega
      generalize cutA ao cap k = a4 at hcf htf hf
      by_cases ht : (tf (xs.drop k)).1 = 0
      · have hu := tf_used ht
        rw [List.length_drop] at hu
        have hon := scan_on ht
        obtain ⟨r, hr⟩ : ∃ r, r = (tf (xs.drop k)).2.1 := ⟨_, rfl⟩
        obtain ⟨n, hn⟩ : ∃ n, n = (tf (xs.drop k)).2.2 := ⟨_, rfl⟩
        rw [ht, ← hr, ← hn] at htf
        rw [← hr, ← hn, List.drop_drop] at hon
        rw [← hn] at hu
        rw [hon] at x5
        obtain ⟨GK, HG⟩ : ∃ g, Hid (g < gk ∧ k + n + g = len) := ⟨len - (k + n), by omega, by omega⟩
        have hn62 : n ≤ 2 ^ 62 := by omega
        have HX : Hid (RowB w.heap.size wr u4 rs ∧ Below w.heap.size w wr ∧ rs.length ≤ k ∧ k + n ≤ xs.length ∧ 5 ≤ n ∧ scan xs = (rs ++ [r] ++ (scan (xs.drop (k + n))).1, k + n + (scan (xs.drop (k + n))).2)) := ⟨x1, x2, x4, by omega, by omega, by rw [x5]; simp [Nat.add_assoc]⟩
        have hokr : Okb r := by rw [hr]; exact tf_okb hf.2.1
        clear hon x5 hk x1 x2 x3 x4 HC hu hf hsl ht hr hn
        go_wp2_with (first | (go_at_call 11; refine htf.mono ?_; rintro e w1 ⟨v1, rfl, hr1, hb1⟩; obtain ⟨ra, rc, hv1, hsl1⟩ := Sl.ofRow hr1 hokr; subst hv1) | (at_builtin; refine wpList_appB (s := .tmp 23) (x := .tmp 25) (w := w1) rfl rfl rfl rfl (HX.out.1.later hb1) hsl1 (sep_new HX.out.1 hr1) (by have := HX.out.2.2.1; have := HS.out; omega) (Nat.le_trans HX.out.2.1.size hb1.size) ?_; intro v5 w5 hr5 hb5))
        go_roundg GK
        case measure => exact HG.out.1
        case rel => exact ⟨k + n, HG.out.2, by go_num, rs ++ [r], hr5, (HX.out.2.1.trans (hb1.mono HX.out.2.1.size)).trans hb5, HX.out.2.2.2.1, by have := HX.out.2.2.1; have := HX.out.2.2.2.2.1; simp; omega, HX.out.2.2.2.2.2⟩
      · obtain ⟨er, hr⟩ : ∃ er, er = (tf (xs.drop k)).1 := ⟨_, rfl⟩
        obtain ⟨n, hn⟩ : ∃ n, n = (tf (xs.drop k)).2.2 := ⟨_, rfl⟩
        have hst := scan_stop ht
        rw [← hr, ← hn] at htf
        rw [← hr] at ht
        rw [hst] at x5
        have hne : ((er : Int) != 0) = true := by simp; omega
        have HX : Hid (RowB w.heap.size wr u4 rs ∧ Below w.heap.size w wr ∧ scan xs = (rs, k)) := ⟨x1, x2, by rw [x5]; simp⟩
        clear x5 hk x1 x2 x3 x4 HC hf hsl ht hr hn hst
        go_wp2_with (first | (go_at_call 11; refine htf.mono ?_; rintro e w1 ⟨v1, rfl, hr1, hb1⟩))
        go_step3
        exact ⟨rfl, rs, k, u4, ⟨HX.out.1.later hb1, HX.out.2.1.trans (hb1.mono HX.out.2.1.size), HX.out.2.2⟩, _, _, _, _, _, _, _, _, _, _, _, _, _, _, _, _, _, _, _, _, _, _, _, _, _, _, _, _, _, rfl⟩
    · have hkl' : (len : Int) ≤ (k : Int) := by omega
      have hst : scan (xs.drop k) = ([], 0) := by rw [List.drop_eq_nil_of_le (by omega)]; rfl
      rw [hst] at x5
      have HX : Hid (RowB w.heap.size wr u4 rs ∧ Below w.heap.size w wr ∧ scan xs = (rs, k)) := ⟨x1, x2, by rw [x5]; simp⟩
      clear x5 hk x1 x2 x3 x4 HC hst hkl
      go_wp2_with fail
      go_step3
      go_wp2_with fail
      simp only [Exit.jump]
      refine bodyPost_ret (v := .tuple #[u4, .int .i64 (k : Int)]) (by simp [results, Try.results13, go_sem]) rfl ⟨u4, ?_, ?_, HX.out.2.1⟩
      · rw [HX.out.2.2]
      · rw [HX.out.2.2]; exact HX.out.1
/-- The landed frame keeps what is asked. -/
theorem theFrame : PF where
  putR := fun h1 h2 h3 h4 => put_any6 h1 h2 h3 h4
  long := fun h1 h2 h3 h4 => (put_long h3 h4).mono fun e w' ⟨he, hw⟩ => ⟨he, by rw [hw]; exact Below.refl _ _⟩
  take := fun h1 h2 => (take_new h1 (by omega)).mono fun e w' ⟨v, he, hr, hb⟩ => ⟨v, he, SlV.ofRow hr (tf_okb h1.2.1), hb⟩
  scan := fun h1 h2 => (scan_any6 h1 h2).mono fun e w' ⟨v, he, hr, hb⟩ => ⟨v, he, RBV.ofRow hr, hb⟩
end Go.Proofs.Ytbinabegiikcaaa
