/- What PutBytes makes, and the document's own. -/
import Derived.Test.YtifgojkmdicdmaaTby
namespace Go.Proofs.Ytifgojkmdicdmaa
open Go.RowKit
set_option linter.unusedVariables false

theorem pby_any (ao so : Option Addr) (len cap ls cs : Nat) (X S : Nat → Nat) (w : World) (hb : Byt w ao len X) (hnil : ao = none → len = 0 ∧ cap = 0) (hsb : Byt w so ls S) (hsnil : so = none → ls = 0 ∧ cs = 0) (hl : len + ls ≤ 140737488351232) :
    Calls Try.prog 47 #[.slice ao len cap, .slice so ls cs] w fun e w' => ∃ v', e = .returned v' ∧ Row w.heap.size w' v' (bs X len ++ uv ls ++ bs S ls) ∧ Below w.heap.size w w' := by
  have hf := fresh_any ao len cap (10 + ls) X w hb hnil (by omega) (by omega)
  have hu := uv_len64 (n := ls) (by omega)
  have hs : ∀ v w1, Row w.heap.size w1 v (bs X len) → Below w.heap.size w w1 → Calls Try.prog 62 #[v, .int .u64 (ls : Int)] w1 fun e w' => ∃ v', e = .returned v' ∧ Row w.heap.size w' v' (bs X len ++ uv ls) ∧ Below w.heap.size w w' := fun v w1 h1 h2 =>
    (sevs_any w.heap.size v (bs X len) ls w1 h1 h2.size (by rw [bs_length]; omega) (by omega)).mono fun e w' ⟨v', he, hr, hg, _⟩ => ⟨v', he, hr, h2.trans (grown_below h1 hg h2.size)⟩
  have HS : Hid (Byt w so ls S ∧ (so = none → ls = 0 ∧ cs = 0) ∧ (bs X len ++ uv ls).length + ls ≤ 140737488355328) := ⟨hsb, hsnil, by rw [List.length_append, bs_length]; omega⟩
  have hw1 : ls ≤ 2 ^ 63 - 11 := by omega
  have e10 : ((10 + ls : Nat) : Int) = 10 + (ls : Int) := by omega
  rw [e10] at hf
  clear hb hnil hsb hsnil hl hu e10
  go_enter Try.func47, Try.ntmps47
  go_wp2_with (first | (go_at_call 61; refine hf.mono ?_; rintro e w1 ⟨v1, rfl, hr1, hb1⟩) | (go_at_call 62; refine (hs _ _ hr1 hb1).mono ?_; rintro e w2 ⟨v2, rfl, hr2, hb2⟩) | (at_builtin; refine wpList_app rfl (.tmp 15) (.tmp 16) rfl w.heap.size v2 _ rfl hr2 so ls cs S rfl HS.out.2.1 (HS.out.1.later hb2) HS.out.2.2 hb2.size ?_; intro v3 w3 hr3 hg3 hm3))
  exact bodyPost_ret (v := v3) (by simp [results, Try.results47, go_sem]) rfl ⟨v3, rfl, hr3, hb2.trans (grown_below hr2 hg3 hb2.size)⟩

/-- What is read elsewhere, of a slice that the row does not lie in. -/
theorem rpby_any (B : Nat) (v : Value) (xs : List Int) (so : Option Addr) (ls cs : Nat) (S : Nat → Nat) (w W : World) (hrow : Row B w v xs) (hB : B ≤ w.heap.size) (hWB : W.heap.size ≤ B) (hW : Below W.heap.size W w) (hsb : Byt W so ls S) (hsnil : so = none → ls = 0 ∧ cs = 0) (hl : xs.length + ls ≤ 140737488351232) :
    Calls Try.prog 28 #[v, .slice so ls cs] w fun e w' => ∃ v', e = .returned v' ∧ Row B w' v' (xs ++ uv ls ++ bs S ls) ∧ w.grownBy w' v.ownBlock ∧ Moved w v v' := by
  have hu := uv_len64 (n := ls) (by omega)
  have hs := rput_any B v xs ls w hrow hB (by omega) (by omega)
  have HS : Hid (Byt W so ls S ∧ (so = none → ls = 0 ∧ cs = 0) ∧ (xs ++ uv ls).length + ls ≤ 140737488355328 ∧ Row B w v xs ∧ B ≤ w.heap.size ∧ W.heap.size ≤ B ∧ Below W.heap.size W w) := ⟨hsb, hsnil, by rw [List.length_append]; omega, hrow, hB, hWB, hW⟩
  have hw1 : ls ≤ 2 ^ 63 - 11 := by omega
  clear hrow hB hWB hW hsb hsnil hl hu
  go_enter Try.func28, Try.ntmps28
  go_wp2_with (first | (go_at_call 29; refine hs.mono ?_; rintro e w1 ⟨v1, rfl, hr1, hg1, hm1⟩) | (at_builtin; refine wpList_app rfl (.tmp 9) (.tmp 10) rfl B v1 _ rfl hr1 so ls cs S rfl HS.out.2.1 (HS.out.1.later (HS.out.2.2.2.2.2.2.trans ((grown_below HS.out.2.2.2.1 hg1 HS.out.2.2.2.2.1).mono HS.out.2.2.2.2.2.1))) HS.out.2.2.1 (Nat.le_trans HS.out.2.2.2.2.1 hg1.size) ?_; intro v3 w3 hr3 hg3 hm3))
  exact bodyPost_ret (v := v3) (by simp [results, Try.results28, go_sem]) rfl ⟨v3, rfl, hr3, grow_trans hg1 hm1 hg3, hm1.trans hm3 hg1.size⟩
end Go.Proofs.Ytifgojkmdicdmaa
