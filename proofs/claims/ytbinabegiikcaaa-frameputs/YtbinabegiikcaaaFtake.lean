/- What the landed Take answers. -/
import Derived.Test.YtbinabegiikcaaaFput
import Derived.Test.YtbinabegiikcaaaPscn
namespace Go.Proofs.Ytbinabegiikcaaa
open Go.RowKit
set_option linter.unusedVariables false
set_option linter.unusedSimpArgs false

theorem bs_cut {ys : List Int} (hok : Okb ys) {i n : Nat} (h : i + n ≤ ys.length) : bs (fun k => xof ys (i + k)) n = (ys.drop i).take n := by
  apply List.ext_getElem
  · rw [bs_length, List.length_take, List.length_drop]; omega
  · intro k h1 h2
    have hk : k < n := by rw [bs_length] at h1; exact h1
    have hik : i + k < ys.length := by omega
    have h0 := hok ys[i + k] (List.getElem_mem hik)
    simp [bs, xof, List.getElem?_eq_getElem hik]
    omega
/-- TakeBytes, on lists. -/
theorem tby_l {w : World} {ao : Option Addr} {len cap : Nat} {xs : List Int} (h : Sl w ao len cap xs) (hl : len ≤ 140737488355328) (most : Int) (hm : most ≤ 9223372036854775807) :
    Calls Try.prog 27 #[.slice ao len cap, .int .i64 most] w fun e w' => Got w w' e (tbR (xof xs) len (enL xs) most) := by
  have he := end_enL xs h.2.1
  rw [h.1] at he
  exact tby_any ao len cap _ _ most w h.2.2.2.2.2 h.2.2.2.1 h.2.2.2.2.1 hl he hm

set_option maxHeartbeats 2000000 in
set_option maxRecDepth 100000 in
theorem take_new {w : World} {ao : Option Addr} {len cap : Nat} {xs : List Int} (h : Sl w ao len cap xs) (hl : len ≤ 1099511627776) :
    Calls Try.prog 11 #[.slice ao len cap] w fun e w' => ∃ v, e = .returned (.tuple #[v, .int .i64 ((tf xs).2.2 : Int), .int .i64 ((tf xs).1 : Int)]) ∧ Row w.heap.size w' v (tf xs).2.1 ∧ Below w.heap.size w w' := by
  have hcap := h.2.2.2.1
  have hmax : cap ≤ 2 ^ 63 - 1 := by have := h.2.2.2.2.1; unfold maxLen at this; omega
  have hln := h.1
  have hdl : (xs.drop 4).length = len - 4 := by rw [List.length_drop, hln]
  rcases tf_case xs with ⟨h1, ht⟩ | ⟨h1, h2, ht⟩ | ⟨h1, h2, h3, ht⟩ | ⟨h1, h2, h3, n, hn, hrest⟩
  · rw [ht]
    have hrd := read_any ao len cap _ 4 w h.2.2.2.2.2 h.2.2.2.1
    unfold readV at hrd
    rw [if_pos in4, if_pos (by omega)] at hrd
    clear h ht hdl hln
    go_enter Try.func11, Try.ntmps11
    go_wp2_with (go_at_call 26; refine hrd.mono ?_; rintro e w' ⟨rfl, hw⟩; obtain rfl := hw.symm)
    exact bodyPost_ret (v := .tuple #[.slice none 0 0, .int .i64 0, .int .i64 5]) (by simp [results, Try.results11, go_sem]) rfl ⟨_, rfl, Row.nil _ _, Below.refl _ _⟩
  all_goals
    have hrd := read4_l h (by omega)
    have hf := h.from 4 (by omega)
    have hcf := fun w => run_from w ao len cap 4 (by omega) hcap
    have htk := tby_l hf (by omega) 1048576 (by omega)
    rw [show ((4 : Nat) : Int) = 4 from rfl] at hcf
    have hfv := fv4_lt h.2.1 (by omega)
    generalize fv (xof xs) 4 = G at *
  · rw [ht]
    have hv : tbR (xof (xs.drop 4)) (len - 4) (enL (xs.drop 4)) 1048576 = ([], 0, 5) := by unfold tbR; rw [if_neg (by omega)]
    rw [hv] at htk
    generalize cutA ao cap 4 = a4 at hcf htk hf
    clear h ht hdl hln hv h2 hf hfv
    go_enter Try.func11, Try.ntmps11
    go_wp2_with (first | (go_at_call 26; refine hrd.mono ?_; rintro e w' ⟨rfl, hw⟩; obtain rfl := hw.symm) | (go_at_call 27; refine htk.mono ?_; rintro e w1 ⟨a5, c5, rfl, _, _, _, _, hb1, _⟩))
    exact bodyPost_ret (v := .tuple #[.slice none 0 0, .int .i64 0, .int .i64 5]) (by simp [results, Try.results11, go_sem]) rfl ⟨_, rfl, Row.nil _ _, hb1⟩
  · rw [ht]
    have hv : tbR (xof (xs.drop 4)) (len - 4) (enL (xs.drop 4)) 1048576 = ([], 0, 3) := by unfold tbR; rw [if_pos (by omega), if_neg h3]
    rw [hv] at htk
    generalize cutA ao cap 4 = a4 at hcf htk hf
    clear h ht hdl hln hv h2 hf hfv h3
    go_enter Try.func11, Try.ntmps11
    go_wp2_with (first | (go_at_call 26; refine hrd.mono ?_; rintro e w' ⟨rfl, hw⟩; obtain rfl := hw.symm) | (go_at_call 27; refine htk.mono ?_; rintro e w1 ⟨a5, c5, rfl, _, _, _, _, hb1, _⟩))
    exact bodyPost_ret (v := .tuple #[.slice none 0 0, .int .i64 0, .int .i64 3]) (by simp [results, Try.results11, go_sem]) rfl ⟨_, rfl, Row.nil _ _, hb1⟩
  · obtain ⟨E, hE⟩ : ∃ E, E = enL (xs.drop 4) := ⟨_, rfl⟩
    rw [← hE] at htk hrest h2 hn
    rcases hrest with ⟨q1, ht⟩ | ⟨q1, q2, ht⟩ | ⟨q1, q2, q3, ht⟩ | ⟨q1, q2, q3, ht⟩
    · rw [ht]
      have hv : tbR (xof (xs.drop 4)) (len - 4) E 1048576 = ([], 0, 2) := by unfold tbR; rw [if_pos (by omega), if_pos (by rw [hE]; exact h3), ← hn, if_pos (by omega)]
      rw [hv] at htk
      generalize cutA ao cap 4 = a4 at hcf htk hf
      clear h ht hdl hln hv h2 hf hfv h3 hn hE
      go_enter Try.func11, Try.ntmps11
      go_wp2_with (first | (go_at_call 26; refine hrd.mono ?_; rintro e w' ⟨rfl, hw⟩; obtain rfl := hw.symm) | (go_at_call 27; refine htk.mono ?_; rintro e w1 ⟨a5, c5, rfl, _, _, _, _, hb1, _⟩))
      exact bodyPost_ret (v := .tuple #[.slice none 0 0, .int .i64 0, .int .i64 2]) (by simp [results, Try.results11, go_sem]) rfl ⟨_, rfl, Row.nil _ _, hb1⟩
    · rw [ht]
      have hv : tbR (xof (xs.drop 4)) (len - 4) E 1048576 = ([], 0, 5) := by unfold tbR; rw [if_pos (by omega), if_pos (by rw [hE]; exact h3), ← hn, if_neg (by omega), if_pos (by omega)]
      rw [hv] at htk
      generalize cutA ao cap 4 = a4 at hcf htk hf
      clear h ht hdl hln hv h2 hf hfv h3 hn hE q2
      go_enter Try.func11, Try.ntmps11
      go_wp2_with (first | (go_at_call 26; refine hrd.mono ?_; rintro e w' ⟨rfl, hw⟩; obtain rfl := hw.symm) | (go_at_call 27; refine htk.mono ?_; rintro e w1 ⟨a5, c5, rfl, _, _, _, _, hb1, _⟩))
      exact bodyPost_ret (v := .tuple #[.slice none 0 0, .int .i64 0, .int .i64 5]) (by simp [results, Try.results11, go_sem]) rfl ⟨_, rfl, Row.nil _ _, hb1⟩
    all_goals
      rw [ht]
      have hv : tbR (xof (xs.drop 4)) (len - 4) E 1048576 = (((xs.drop 4).drop (E + 1)).take n, (E : Int) + 1 + (n : Int), 0) := by
        unfold tbR
        rw [if_pos (by omega), if_pos (by rw [hE]; exact h3), ← hn, if_neg (by omega), if_neg (by omega), bs_cut hf.2.1 (by omega)]
      rw [hv] at htk
      have hokR : Okb (((xs.drop 4).drop (E + 1)).take n) := fun x hx => hf.2.1 x (List.mem_of_mem_drop (List.mem_of_mem_take hx))
      have hhd := fun w => run_head22 w (cutA ao cap 4) (len - 4) (cap - 4) (E + 1 + n) (by omega)
      have hcut := hf.cut 0 (E + 1 + n) (by omega) (by omega)
      rw [List.drop_zero, Nat.sub_zero, Nat.sub_zero] at hcut
      have hmk := fun w1 (hb : Below w.heap.size w w1) => masked_any (hcut.later hb)
      rw [show ((E + 1 + n : Nat) : Int) = (E : Int) + 1 + (n : Int) by omega] at hhd
      generalize cutA (cutA ao cap 4) (cap - 4) 0 = a6 at hhd hmk hcut
      generalize cutA ao cap 4 = a4 at hcf htk hf hhd
      have hML := mask_lt (more 0 (nl ((xs.drop 4).take (E + 1 + n))))
      generalize mask (more 0 (nl ((xs.drop 4).take (E + 1 + n)))) = M at *
      generalize ((xs.drop 4).drop (E + 1)).take n = R at *
      have hE62 : E ≤ 2 ^ 62 := by omega
      have hn62 : n ≤ 2 ^ 62 := by omega
    · have hne : ((M : Int) != (G : Int)) = true := by simp; omega
      clear h ht hdl hln hv h2 hf hfv h3 hn hE q2 q3 hcut hML
      go_enter Try.func11, Try.ntmps11
      go_wp2_with (first | (go_at_call 26; refine hrd.mono ?_; rintro e w' ⟨rfl, hw⟩; obtain rfl := hw.symm) | (go_at_call 27; refine htk.mono ?_; rintro e w1 ⟨a5, c5, rfl, _, _, _, _, hb1, _⟩) | (go_at_call 20; refine (hmk w1 hb1).mono ?_; rintro e w' ⟨rfl, hw⟩; obtain rfl := hw.symm))
      exact bodyPost_ret (v := .tuple #[.slice none 0 0, .int .i64 0, .int .i64 4]) (by simp [results, Try.results11, go_sem]) rfl ⟨_, rfl, Row.nil _ _, hb1⟩
    · subst q3
      have hne : ((G : Int) != (G : Int)) = false := by simp
      clear h ht hdl hln hv h2 hf hfv h3 hn hE q2 hcut hML
      go_enter Try.func11, Try.ntmps11
      go_wp2_with (first | (go_at_call 26; refine hrd.mono ?_; rintro e w' ⟨rfl, hw⟩; obtain rfl := hw.symm) | (go_at_call 27; refine htk.mono ?_; rintro e w1 ⟨a5, c5, rfl, p1, p2, p3, p4, hb1, p5⟩) | (go_at_call 20; refine (hmk w1 hb1).mono ?_; rintro e w' ⟨rfl, hw⟩; obtain rfl := hw.symm))
      exact bodyPost_ret (v := .tuple #[.slice a5 R.length c5, .int .i64 (4 + ((E : Int) + 1 + (n : Int))), .int .i64 0]) (by simp [results, Try.results11, go_sem]) rfl ⟨.slice a5 R.length c5, by rw [show ((4 + (E + 1) + n : Nat) : Int) = 4 + ((E : Int) + 1 + (n : Int)) by omega]; rfl, p5, hb1⟩
end Go.Proofs.Ytbinabegiikcaaa
