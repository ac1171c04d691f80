/- The law on TakeBytes and PutBytes: it answers true, where what comes in is small. -/
import Derived.Test.YtjjmgfinapahcaaBstep
import Derived.Test.YtjjmgfinapahcaaRtby
import Derived.Test.YtjjmgfinapahcaaPby
namespace Go.Proofs.Ytjjmgfinapahcaa
open Go.RowKit
set_option linter.unusedVariables false

def k6 (B : Nat) (x1 x2 : Value) (L : List Int) (K F : Int) (b s : Value) (ls : Nat) (xs ys : List Int) : List Kind :=
  [.val x1,
   .val (.string (strOfNums L)),
   .val x2,
   .val (.string (strOfNums L)),
   .val (.bool true),
   .val (.bool true),
   .val (.int .i64 K),
   .val (.int .i64 K),
   .val (.bool true),
   .val (.bool true),
   .val (.bool true),
   .val (.int .i64 F),
   .val (.int .i64 F),
   .val (.bool true),
   .val (.bool true),
   .val (.bool true),
   .val b,
   .val s,
   .own (fun w v => Row B w v (xs ++ uv ls ++ ys)) none,
   .val (.string (strOfNums (xs ++ uv ls ++ ys))),
   .own (fun w v => Row B w v []) (some 22),
   .val b,
   .own (fun w v => Row B w v ([] ++ xs)) (some 24),
   .val s,
   .own (fun w v => Row B w v ([] ++ xs ++ uv ls ++ ys)) none,
   .val (.string (strOfNums ([] ++ xs ++ uv ls ++ ys))),
   .val (.bool true),
   .val (.bool true),
   .val (.bool true),
   .val (.bool true),
   .val (.bool true),
   .val (.bool true)]

set_option maxHeartbeats 1000000 in
set_option maxRecDepth 100000 in
theorem bytes_any (ao so : Option Addr) (len cap ls cs : Nat) (X S : Nat → Nat) (most : Int) (W0 : World) (hb : Byt W0 ao len X) (hnil : ao = none → len = 0 ∧ cap = 0) (hl : len ≤ cap) (hc : cap ≤ maxLen) (hsb : Byt W0 so ls S) (hsnil : so = none → ls = 0 ∧ cs = 0) (hm : most ≤ 9223372036854775807) (h20 : len + ls ≤ 1048576) :
    Calls Try.prog 6 #[.slice ao len cap, .slice so ls cs, .int .i64 most] W0 fun e w' => e = .returned (.bool true) ∧ Below W0.heap.size W0 w' := by
  obtain ⟨E, hE⟩ := exists_end X len
  have h1 := tby_any ao len cap E X most W0 hb hl hc (by omega) hE hm
  have h2 : ∀ w, Below W0.heap.size W0 w → Calls Try.prog 25 #[.slice ao len cap, .int .i64 most] w fun e w' => Got w w' e (tbR X len E most) := fun w hw => rtby_any ao len cap E X most w (hb.later hw) hl hc (by omega) hE hm
  obtain ⟨R, hR⟩ : ∃ R, R = tbR X len E most := ⟨_, rfl⟩
  rw [← hR] at h1 h2
  have H0 : Hid (Byt W0 ao len X ∧ (ao = none → len = 0 ∧ cap = 0) ∧ Byt W0 so ls S ∧ (so = none → ls = 0 ∧ cs = 0) ∧ len + ls ≤ 1048576) := ⟨hb, hnil, hsb, hsnil, h20⟩
  clear hb hnil hl hc hsb hsnil hm h20 hE hR
  obtain ⟨L, K, F⟩ := R
  go_enter Try.func6, Try.ntmps6
  go_upto_region 2 with (go_at_call 24; refine h1.mono ?_; rintro e w1 ⟨ao1, cap1, rfl, n1, _, _, b1, hB1⟩)
  have h3 := h2 w1 hB1
  have H1 : Hid ((ao1 = none → L.length = 0 ∧ cap1 = 0) ∧ Byt w1 ao1 L.length (xof L) ∧ Below W0.heap.size W0 w1) := ⟨n1, b1, hB1⟩
  clear h1 h2 n1 b1 hB1
  go_upto_region 3 with (go_at_call 25; refine h3.mono ?_; rintro e W ⟨ao2, cap2, rfl, n2, _, _, b2, hB2⟩)
  have hBW : Below W0.heap.size W0 W := H1.out.2.2.trans (hB2.mono H1.out.2.2.size)
  have HX : Hid ((ao1 = none → L.length = 0 ∧ cap1 = 0) ∧ Byt W ao1 L.length (xof L) ∧ (ao2 = none → L.length = 0 ∧ cap2 = 0) ∧ Byt W ao2 L.length (xof L) ∧ strOfNums (bs (xof L) L.length) = strOfNums (bs (xof L) L.length)) := ⟨H1.out.1, H1.out.2.1.later hB2, n2, b2, rfl⟩
  have HB : Hid (Byt W ao len X ∧ (ao = none → len = 0 ∧ cap = 0) ∧ Byt W so ls S ∧ (so = none → ls = 0 ∧ cs = 0) ∧ len + ls ≤ 1048576) := ⟨H0.out.1.later hBW, H0.out.2.1, H0.out.2.2.1.later hBW, H0.out.2.2.2⟩
  have HW : Hid (Below W0.heap.size W0 W) := hBW
  clear h3 n2 b2 hB2 hBW H1 H0
  refine wp_region_steps (by kernel_rfl) (by decide +kernel) 58 rfl (by decide +kernel) (k6 W.heap.size (.slice ao1 L.length cap1) (.slice ao2 L.length cap2) (bs (xof L) L.length) K F (.slice ao len cap) (.slice so ls cs) ls (bs X len) (bs S ls)) ?_ (by kernel_rfl) ?_ ?_
  · simp [k6, okKind, keeps_row]
  rotate_left
  · intro a w' hd hbel hv
    rename_i hk
    refine hk a w' ?_
    have h4 : a.eval (.tmp 6) = .bool true := hv 31 _ (by decide) rfl
    have h4' : a.tmps[6]?.getD undef = .bool true := by simpa [Act.eval] using h4
    go_wp2
    exact bodyPost_ret (v := .bool true) (by simp [results, Try.results6, go_sem, h4']) hd ⟨rfl, HW.out.trans (hbel.mono HW.out.size)⟩
  -- 0: slot 27
  refine ⟨fun a w c => ?_, ?_⟩
  · exact goal_move (c.want0 rfl) (.tmp 7) (.inl rfl) ((c.old 7 rfl).trans rfl) rfl
  -- 1: slot 28
  refine ⟨fun a w c => ?_, ?_⟩
  · have hw := c.want0 rfl
    exact goal_str hw rfl (c.val 0 _ rfl rfl) (HX.out.2.1.later c.below) HX.out.1 HX.out.2.2.2.2 rfl
  -- 2: slot 29
  refine ⟨fun a w c => ?_, ?_⟩
  · exact goal_move (c.want0 rfl) (.tmp 10) (.inl rfl) ((c.old 10 rfl).trans rfl) rfl
  -- 3: slot 30
  refine ⟨fun a w c => ?_, ?_⟩
  · have hw := c.want0 rfl
    exact goal_str hw rfl (c.val 2 _ rfl rfl) (HX.out.2.2.2.1.later c.below) HX.out.2.2.1 HX.out.2.2.2.2 rfl
  -- 4: slot 31
  refine ⟨fun a w c => ?_, ?_⟩
  · have e28 : a.eval (.tmp 28) = _ := c.val 1 _ rfl rfl
    have e30 : a.eval (.tmp 30) = _ := c.val 3 _ rfl rfl
    exact goal_val (c.want0 rfl) (by generalize a.eval = ρ at e28 e30 ⊢; simp [execOp, go_sem, e28, e30]) rfl
  -- 5: slot 32
  refine ⟨fun a w c => ?_, ?_⟩
  · exact goal_move (c.want0 rfl) (.tmp 31) (.inl rfl) (c.val 4 _ rfl rfl) rfl
  -- 6: slot 33
  refine ⟨fun a w c => ?_, ?_⟩
  · exact goal_move (c.want 5 true rfl rfl rfl) (.tmp 8) (.inl rfl) ((c.old 8 rfl).trans rfl) rfl
  -- 7: slot 34
  refine ⟨fun a w c => ?_, ?_⟩
  · exact goal_move (c.want 5 true rfl rfl rfl) (.tmp 11) (.inl rfl) ((c.old 11 rfl).trans rfl) rfl
  -- 8: slot 35
  refine ⟨fun a w c => ?_, ?_⟩
  · have e33 : a.eval (.tmp 33) = _ := c.val 6 _ rfl rfl
    have e34 : a.eval (.tmp 34) = _ := c.val 7 _ rfl rfl
    exact goal_val (c.want 5 true rfl rfl rfl) (by generalize a.eval = ρ at e33 e34 ⊢; simp [execOp, go_sem, e33, e34]) rfl
  -- 9: slot 36
  refine ⟨fun a w c => ?_, ?_⟩
  · have e32 : a.eval (.tmp 32) = _ := c.val 5 _ rfl rfl
    have e35 : a.eval (.tmp 35) = _ := c.val 8 _ rfl rfl
    exact goal_val (c.want0 rfl) (by generalize a.eval = ρ at e32 e35 ⊢; simp [execOp, go_sem, e32, e35]) rfl
  -- 10: slot 37
  refine ⟨fun a w c => ?_, ?_⟩
  · exact goal_move (c.want0 rfl) (.tmp 36) (.inl rfl) (c.val 9 _ rfl rfl) rfl
  -- 11: slot 38
  refine ⟨fun a w c => ?_, ?_⟩
  · exact goal_move (c.want 10 true rfl rfl rfl) (.tmp 9) (.inl rfl) ((c.old 9 rfl).trans rfl) rfl
  -- 12: slot 39
  refine ⟨fun a w c => ?_, ?_⟩
  · exact goal_move (c.want 10 true rfl rfl rfl) (.tmp 12) (.inl rfl) ((c.old 12 rfl).trans rfl) rfl
  -- 13: slot 40
  refine ⟨fun a w c => ?_, ?_⟩
  · have e38 : a.eval (.tmp 38) = _ := c.val 11 _ rfl rfl
    have e39 : a.eval (.tmp 39) = _ := c.val 12 _ rfl rfl
    exact goal_val (c.want 10 true rfl rfl rfl) (by generalize a.eval = ρ at e38 e39 ⊢; simp [execOp, go_sem, e38, e39]) rfl
  -- 14: slot 41
  refine ⟨fun a w c => ?_, ?_⟩
  · have e37 : a.eval (.tmp 37) = _ := c.val 10 _ rfl rfl
    have e40 : a.eval (.tmp 40) = _ := c.val 13 _ rfl rfl
    exact goal_val (c.want0 rfl) (by generalize a.eval = ρ at e37 e40 ⊢; simp [execOp, go_sem, e37, e40]) rfl
  -- 15: slot 42
  refine ⟨fun a w c => ?_, ?_⟩
  · exact goal_move (c.want0 rfl) (.tmp 41) (.inl rfl) (c.val 14 _ rfl rfl) rfl
  -- 16: slot 43
  refine ⟨fun a w c => ?_, ?_⟩
  · exact goal_move (c.want 15 true rfl rfl rfl) (.tmp 0) (.inl rfl) ((c.old 0 rfl).trans rfl) rfl
  -- 17: slot 44
  refine ⟨fun a w c => ?_, ?_⟩
  · exact goal_move (c.want 15 true rfl rfl rfl) (.tmp 1) (.inl rfl) ((c.old 1 rfl).trans rfl) rfl
  -- 18: slot 45
  refine ⟨fun a w c => ?_, ?_⟩
  · have hw := c.want 15 true rfl rfl rfl
    have e43 : a.eval (.tmp 43) = _ := c.val 16 _ rfl rfl
    have e44 : a.eval (.tmp 44) = _ := c.val 17 _ rfl rfl
    exact goal_fn hw rfl (by simp only [List.map_toArray, List.map_cons, List.map_nil, e43, e44]) (by kernel_rfl) ((pby_any ao so len cap ls cs X S w (HB.out.1.later c.below) HB.out.2.1 (HB.out.2.2.1.later c.below) HB.out.2.2.2.1 (by have := HB.out.2.2.2.2; omega)).mono fun e w' ⟨v, he, hr, hb⟩ => ⟨v, he, out_new rfl c.below.size hb hr⟩)
  -- 19: slot 46
  refine ⟨fun a w c => ?_, ?_⟩
  · have hw := c.want 15 true rfl rfl rfl
    exact goal_strRow hw rfl rfl (c.row 18 _ _ rfl rfl (.inl rfl)) (((okb_bs HB.out.1).app (okb_uv ls)).app (okb_bs HB.out.2.2.1)) rfl
  -- 20: slot 47
  refine ⟨fun a w c => ?_, ?_⟩
  · have hw := c.want 15 true rfl rfl rfl
    exact goal_empty hw rfl c.below.size rfl
  -- 21: slot 48
  refine ⟨fun a w c => ?_, ?_⟩
  · exact goal_move (c.want 15 true rfl rfl rfl) (.tmp 0) (.inl rfl) ((c.old 0 rfl).trans rfl) rfl
  -- 22: slot 49
  refine ⟨fun a w c => ?_, ?_⟩
  · have hw := c.want 15 true rfl rfl rfl
    exact goal_app (j := 20) hw rfl rfl (by decide) rfl (c.row 20 _ _ rfl rfl (.inr rfl)) (c.val 21 _ rfl rfl) HB.out.2.1 (HB.out.1.later c.below) (by have := HB.out.2.2.2.2; simp; omega) c.below.size rfl
  -- 23: slot 50
  refine ⟨fun a w c => ?_, ?_⟩
  · exact goal_move (c.want 15 true rfl rfl rfl) (.tmp 1) (.inl rfl) ((c.old 1 rfl).trans rfl) rfl
  -- 24: slot 51
  refine ⟨fun a w c => ?_, ?_⟩
  · have hw := c.want 15 true rfl rfl rfl
    have hr : Row W.heap.size w (a.eval (.tmp 49)) ([] ++ bs X len) := c.row 22 _ _ rfl rfl (.inr rfl)
    have e50 : a.eval (.tmp 50) = _ := c.val 23 _ rfl rfl
    exact goal_fn hw rfl (by simp only [List.map_toArray, List.map_cons, List.map_nil, e50]) (by kernel_rfl) ((rpby_any W.heap.size (a.eval (.tmp 49)) _ so ls cs S w W hr c.below.size (Nat.le_refl _) c.below HB.out.2.2.1 HB.out.2.2.2.1 (by have := HB.out.2.2.2.2; simp [bs_length]; omega)).mono fun e w' ⟨v, he, h1, h2, h3⟩ => ⟨v, he, out_over (j := 22) rfl (by decide) rfl hr h1 h2 h3⟩)
  -- 25: slot 52
  refine ⟨fun a w c => ?_, ?_⟩
  · have hw := c.want 15 true rfl rfl rfl
    exact goal_strRow hw rfl rfl (c.row 24 _ _ rfl rfl (.inl rfl)) (((okb_bs HB.out.1).app (okb_uv ls)).app (okb_bs HB.out.2.2.1)) rfl
  -- 26: slot 53
  refine ⟨fun a w c => ?_, ?_⟩
  · have e46 : a.eval (.tmp 46) = _ := c.val 19 _ rfl rfl
    have e52 : a.eval (.tmp 52) = _ := c.val 25 _ rfl rfl
    exact goal_val (c.want 15 true rfl rfl rfl) (by generalize a.eval = ρ at e46 e52 ⊢; simp [execOp, go_sem, e46, e52]) rfl
  -- 27: slot 54
  refine ⟨fun a w c => ?_, ?_⟩
  · have e42 : a.eval (.tmp 42) = _ := c.val 15 _ rfl rfl
    have e53 : a.eval (.tmp 53) = _ := c.val 26 _ rfl rfl
    exact goal_val (c.want0 rfl) (by generalize a.eval = ρ at e42 e53 ⊢; simp [execOp, go_sem, e42, e53]) rfl
  -- 28: slot 55
  refine ⟨fun a w c => ?_, ?_⟩
  · exact goal_move (c.want0 rfl) (.tmp 54) (.inl rfl) (c.val 27 _ rfl rfl) rfl
  -- 29: slot 56
  refine ⟨fun a w c => ?_, ?_⟩
  · have hw := c.want 28 true rfl rfl rfl
    exact goal_fn (args := #[]) hw rfl (by simp) (by kernel_rfl) ((awake_any w).mono fun e w' ⟨he, hb⟩ => ⟨_, he, out_call rfl hb⟩)
  -- 30: slot 57
  refine ⟨fun a w c => ?_, ?_⟩
  · have e55 : a.eval (.tmp 55) = _ := c.val 28 _ rfl rfl
    have e56 : a.eval (.tmp 56) = _ := c.val 29 _ rfl rfl
    exact goal_val (c.want0 rfl) (by generalize a.eval = ρ at e55 e56 ⊢; simp [execOp, go_sem, e55, e56]) rfl
  -- 31: slot 6
  refine ⟨fun a w c => ?_, ?_⟩
  · exact goal_move (c.want0 rfl) (.tmp 57) (.inr rfl) (c.val 30 _ rfl rfl) rfl
  exact True.intro
end Go.Proofs.Ytjjmgfinapahcaa
