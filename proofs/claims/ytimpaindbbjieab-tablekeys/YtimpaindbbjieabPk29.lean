import Derived.Lib.AppendZerosOnto
import Derived.Test.YtimpaindbbjieabPk18
import Derived.Test.YtimpaindbbjieabPk25
/- What slices.Grow of nothing and slices.Concat of rows of bytes make. -/
namespace Go.Proofs.Ytimpaindbbjieab
open Go.RowKit
set_option linter.unusedVariables false
set_option linter.unusedSimpArgs false

set_option maxHeartbeats 1000000 in
set_option maxRecDepth 100000 in
theorem grow_nil {w : World} {n : Nat} (hn : n ≤ 175921860444160) :
    Calls Try.prog 82 #[.slice none 0 0, .int .i64 (n : Int)] w fun e w' => ∃ v, e = .returned v ∧ Row w.heap.size w' v [] ∧ Below w.heap.size w w' := by
  obtain ⟨i0, hi, hz, hsize, hbytes⟩ := info_parts Try.info5
  by_cases h0 : n = 0
  · subst h0
    go_enter Try.func82, Try.ntmps82
    go_wp2_with fail
    exact bodyPost_ret (v := .slice none 0 0) (by simp [results, Try.results82, go_sem]) rfl ⟨_, rfl, Row.nil _ _, Below.refl _ _⟩
  · have hrz : ∀ ty, (Builtin.append_ #[24, 3] ty #[.slice none 0 0, .int .i64 (n : Int)]).run Try.prog w =
        .ok (.slice (some ⟨w.heap.size, 0, none⟩) n (grownCap w n 0 5)) (w.drew.alloc (.cells (Builtin.zeroCells (Value.int .u8 0).cells n ++ Builtin.zeroCells (Value.int .u8 0).cells (grownCap w n 0 5 - n)) 5)) := fun ty => by
      have h := Lib.run_append_grow_zeros (P := Try.prog) w 24 3 ty 5 i0 (.int .u8 0) .i64 .i64 Try.underlying24 Try.underlying3 hi hz none 0 0 [] (run_firstCells_none (P := Try.prog) (w := w.drew) i0.size 0 0 0) n (by omega) (by rw [hsize]; decide) (by omega) (by omega) (by rw [hbytes]; omega) (by rw [Nat.zero_add, nextslicecap_zero (by omega), hbytes]; omega)
      simpa using h
    have hge := grownCap_ge w n 0 5
    have hmx := grownCap_le_maxLen w n 0 5 (by unfold maxLen; omega)
    have c0 : (0 : Int) < (n : Int) := by omega
    have hc62 : n ≤ 2 ^ 62 := by omega
    obtain ⟨G, hG⟩ : ∃ G, G = grownCap w n 0 5 := ⟨_, rfl⟩
    rw [← hG] at hrz hge hmx
    have hG62 : G ≤ 2 ^ 63 - 1 := by unfold maxLen at hmx; omega
    have HM : Hid (G ≤ maxLen ∧ n ≤ G) := ⟨hmx, hge⟩
    have hcs : (Builtin.zeroCells (Value.int .u8 0).cells n ++ Builtin.zeroCells (Value.int .u8 0).cells (G - n)).size = G * 1 := by
      rw [Array.size_append, size_zeroCells, size_zeroCells]
      show n * 1 + (G - n) * 1 = G * 1
      omega
    generalize (Builtin.zeroCells (Value.int .u8 0).cells n ++ Builtin.zeroCells (Value.int .u8 0).cells (G - n)) = CS at hrz hcs
    have HW : Hid (CS.size = G * 1) := hcs
    clear hG hmx hcs h0 hge
    go_enter Try.func82, Try.ntmps82
    go_wp2_with (at_builtin; refine Lib.wpList_append_run _ rfl _ _ _ _ rfl _ _ rfl rfl _ _ (hrz _) ?_)
    refine bodyPost_ret (v := .slice (some ⟨w.heap.size, 0, none⟩) 0 G) (by simp [results, Try.results82, go_sem]) rfl ⟨_, rfl, ?_, ?_⟩
    · exact World.ownsRow_made w.drew CS G (Nat.le_refl _) HM.out.1 HW.out
    · exact Below.alloc (below_drewN (Below.refl _ _) 1) (Nat.le_refl _) _

/-- How many bytes rows have together. -/
def tot (rs : List (List Int)) : Nat := rs.flatten.length
theorem flat_take (rs : List (List Int)) {k : Nat} (h : k < rs.length) : (rs.take (k + 1)).flatten = (rs.take k).flatten ++ rs[k] := by
  rw [List.take_add_one, List.getElem?_eq_getElem h, List.flatten_append]
  simp only [Option.toList, List.flatten_cons, List.flatten_nil, List.append_nil]
theorem tot_take (rs : List (List Int)) {k : Nat} (h : k < rs.length) : tot (rs.take (k + 1)) = tot (rs.take k) + rs[k].length := by
  unfold tot
  rw [flat_take rs h, List.length_append]
theorem tot_le (rs : List (List Int)) (k : Nat) : tot (rs.take k) ≤ tot rs := by
  unfold tot
  have := congrArg (fun l => (List.flatten l).length) (List.take_append_drop k rs)
  simp only [List.flatten_append, List.length_append] at this
  omega

set_option maxHeartbeats 2000000 in
set_option maxRecDepth 100000 in
theorem concat_any {w : World} {ao : Option Addr} {len cap : Nat} {rs : List (List Int)} (h : RB w ao len cap rs) (hl : tot rs ≤ 175921860444160) :
    Calls Try.prog 63 #[.slice ao len cap] w fun e w' => ∃ v, e = .returned v ∧ Row w.heap.size w' v rs.flatten ∧ Below w.heap.size w w' := by
  have HS : Hid (RB w ao len cap rs ∧ tot rs ≤ 175921860444160) := ⟨h, hl⟩
  have hlen63 : len ≤ 2 ^ 63 - 1 := by have := h.2.2; unfold maxLen at this; omega
  have hln := h.1
  have hgr := fun (w1 : World) => grow_nil (w := w1) hl
  have e0 : tot (rs.take 0) = 0 := rfl
  have eN : tot (rs.take len) = tot rs := by rw [← hln, List.take_length]
  have H0 : Hid (tot (rs.take 0) = 0) := e0
  clear h hl
  go_enter Try.func63, Try.ntmps63
  go_wp2_with fail
  go_loopg [3, 5, 11] len (fun g sz _ i wr => ∃ k : Nat, k + g = len ∧ i = .int .i64 (k : Int) ∧ sz = .int .i64 (tot (rs.take k) : Int) ∧ wr = w)
  case atStart => exact ⟨0, by omega, rfl, by rw [e0]; rfl, rfl⟩
  case round =>
    obtain ⟨k, hk, rfl, rfl, hw⟩ := hrel
    have hw := hw.symm
    subst hw
    by_cases hkl : k < len
    · have hkl' : (k : Int) < (len : Int) := by omega
      have hkr : k < rs.length := by omega
      obtain ⟨b1, o1, a1, c1, rfl, hc1, hs1⟩ := HS.out.1.2.2.2.2 k rs[k] (List.getElem?_eq_getElem hkr)
      have ht := tot_take rs hkr
      have hle := tot_le rs (k + 1)
      have hb := HS.out.2
      obtain ⟨m, hm⟩ : ∃ m, m = rs[k].length := ⟨_, rfl⟩
      rw [← hm] at hc1 ht
      obtain ⟨t0, ht0⟩ : ∃ t, t = tot (rs.take k) := ⟨_, rfl⟩
      rw [← ht0] at ht ⊢
      obtain ⟨T, hT⟩ : ∃ T, T = t0 + m := ⟨_, rfl⟩
      have hT47 : T ≤ 175921860444160 := by omega
      have hz : ¬ ((T : Int) < 0) := by omega
      have hk62 : k ≤ 2 ^ 63 - 2 := by omega
      obtain ⟨GK, HG⟩ : ∃ g, Hid (g < gk ∧ k + 1 + g = len) := ⟨gk - 1, by omega, by omega⟩
      have HT : Hid (tot (rs.take (k + 1)) = T) := by show _ = _; omega
      have hw1 : wrap64 ((t0 : Int) + (m : Int)) = (T : Int) := by unfold wrap64; omega
      clear hk hs1 hm ht hle hb ht0 eN e0 hT hT47
      go_wp2_with fail
      go_roundg GK
      case measure => exact HG.out.1
      case rel => exact ⟨k + 1, HG.out.2, by go_num, by rw [HT.out], rfl⟩
    · have hkl' : (len : Int) ≤ (k : Int) := by omega
      obtain rfl : k = len := by omega
      rw [eN]
      have hF : decide ((k : Int) < (k : Int)) = false := by simp
      have H1 : Hid (∀ v1 w1, Row w.heap.size w1 v1 [] → Row w.heap.size w1 v1 (rs.take 0).flatten) := fun _ _ h => h
      clear hk hkl hgr H0 e0 eN
      have hgr := grow_nil (w := w) HS.out.2
      go_wp2_with (go_at_call 82; refine hgr.mono ?_; rintro e w1 ⟨v1, rfl, hr1, hb1⟩)
      have H2 := H1.out _ _ hr1
      go_loopg [6, 8, 27] k (fun g v _ i w2 => ∃ j : Nat, j + g = k ∧ i = .int .i64 (j : Int) ∧ Hid (Row w.heap.size w2 v (rs.take j).flatten ∧ Below w.heap.size w w2))
      case atStart => exact ⟨0, by omega, rfl, H2, hb1⟩
      case round =>
        obtain ⟨j, hj, rfl, HJ⟩ := hrel
        by_cases hjl : j < k
        · have hjl' : (j : Int) < (k : Int) := by omega
          have hjr : j < rs.length := by omega
          obtain ⟨b1, o1, a1, c1, rfl, hc1, hs1⟩ := (HS.out.1.later HJ.out.2).2.2.2.2 j rs[j] (List.getElem?_eq_getElem hjr)
          have hft := flat_take rs hjr
          have hle := tot_le rs (j + 1)
          have hb := HS.out.2
          have ht := tot_take rs hjr
          obtain ⟨r, hr⟩ : ∃ r, r = rs[j] := ⟨_, rfl⟩
          rw [← hr] at hc1 hs1 hft ht
          obtain ⟨xs, hxs⟩ : ∃ xs, xs = (rs.take j).flatten := ⟨_, rfl⟩
          have hxl : xs.length = tot (rs.take j) := by rw [hxs]; rfl
          rw [← hxs] at hft
          have HA : Hid (Row w.heap.size wr u6 xs ∧ Below w.heap.size w wr ∧ Sl wr a1 r.length c1 r ∧ xs.length + r.length ≤ 175921860444160) := ⟨by rw [hxs]; exact HJ.out.1, HJ.out.2, hs1, by omega⟩
          have hk62 : j ≤ 2 ^ 63 - 2 := by omega
          obtain ⟨GK, HG⟩ : ∃ g, Hid (g < gk ∧ j + 1 + g = k) := ⟨gk - 1, by omega, by omega⟩
          have HT : Hid ((rs.take (j + 1)).flatten = xs ++ r) := hft
          obtain ⟨m, hm⟩ : ∃ m, Hid (m = r.length) := ⟨_, rfl⟩
          rw [← hm.out] at hc1
          clear hj hs1 hft hle hb ht hr hxs hxl HJ
          go_wp2_with (at_builtin; refine wpList_appW rfl (.tmp 31) (.tmp 32) rfl w.heap.size u6 xs rfl HA.out.1 a1 m c1 (xof r) rfl (by rw [hm.out]; exact HA.out.2.2.1.2.2.1) (by rw [hm.out]; exact HA.out.2.2.1.2.2.2.2.2) (by rw [hm.out]; exact HA.out.2.2.2) HA.out.2.1.size ?_; intro v3 w3 hr3 hg3 hm3)
          go_roundg GK
          case measure => exact HG.out.1
          case rel =>
            refine ⟨j + 1, HG.out.2, by go_num, ?_, HA.out.2.1.trans (grown_below HA.out.1 hg3 HA.out.2.1.size)⟩
            rw [HT.out]
            rw [hm.out, bs_xof HA.out.2.2.1.2.1] at hr3
            exact hr3
        · have hjl' : (k : Int) ≤ (j : Int) := by omega
          obtain rfl : j = k := by omega
          have e : (rs.take j).flatten = rs.flatten := by rw [← hln, List.take_length]
          have HX : Hid (Row w.heap.size wr u6 rs.flatten ∧ Below w.heap.size w wr) := by rw [← e]; exact HJ.out
          clear e hj hjl HJ
          go_wp2_with fail
          exact bodyPost_ret (v := u6) (by simp [results, Try.results63, go_sem]) rfl ⟨u6, rfl, HX.out.1, HX.out.2⟩
end Go.Proofs.Ytimpaindbbjieab

/- The laws on a mem beside the document's own row, of any mem. -/
namespace Go.Proofs.Ytimpaindbbjieab
open Go.RowKit
set_option linter.unusedVariables false
set_option linter.unusedSimpArgs false

theorem wts_take {l : List EntV} {k : Nat} (h : k < l.length) : wts (l.take (k + 1)) = wts (l.take k) + wtE l[k] := by
  rw [List.take_add_one, List.getElem?_eq_getElem h, wts_app]
  simp [wts]
theorem wts_le : ∀ {l : List EntV}, okE l → wts l ≤ 3000 * l.length
  | [], _ => Nat.le_refl _
  | e :: r, h => by
    have h1 := wts_le (l := r) fun x hx => h x (List.mem_cons_of_mem _ hx)
    have h2 := h e (List.mem_cons_self ..)
    unfold mayE at h2
    simp at h2
    rw [wts, List.length_cons]
    unfold wtE
    omega
theorem ok_take {l : List EntV} (h : okE l) (k : Nat) : okE (l.take k) := fun e he => h e (List.mem_of_mem_take he)
theorem mayE_len {e : EntV} (h : mayE e = true) : e.key.length ≤ 512 ∧ e.val.length ≤ 2048 := by
  unfold mayE at h
  simp at h
  omega

end Go.Proofs.Ytimpaindbbjieab

/- The laws on what a mem gets, and on a mem that there isn't, of any mem. -/
namespace Go.Proofs.Ytimpaindbbjieab
open Go.RowKit
set_option linter.unusedVariables false
set_option linter.unusedSimpArgs false

end Go.Proofs.Ytimpaindbbjieab
