/- The law on Take, Put and Len: it answers true, whatever comes in. -/
import Derived.Test.YtjjmgfinapahcaaBstep
namespace Go.Proofs.Ytjjmgfinapahcaa
open Go.RowKit

theorem takeV_tuple (X : Nat → Nat) (len E : Nat) : ∃ (N K F : Int), takeV X len E = .tuple #[.int .u64 N, .int .i64 K, .int .i64 F] := by
  unfold takeV
  split
  · split
    · exact ⟨_, _, _, rfl⟩
    · exact ⟨_, _, _, rfl⟩
  · exact ⟨_, _, _, rfl⟩

def k3 (B : Nat) (N K F : Int) (b : Value) (n : Nat) (xs : List Int) : List Kind :=
  [.val (.int .u64 N),
   .val (.int .u64 N),
   .val (.bool true),
   .val (.bool true),
   .val (.int .i64 K),
   .val (.int .i64 K),
   .val (.bool true),
   .val (.bool true),
   .val (.bool true),
   .val (.int .i64 F),
   .val (.int .i64 F),
   .val (.bool true),
   .val (.bool true),
   .val (.bool true),
   .val b,
   .val (.int .u64 (n : Int)),
   .own (fun w v => Row B w v (xs ++ uv n)) none,
   .val (.string (strOfNums (xs ++ uv n))),
   .own (fun w v => Row B w v []) (some 20),
   .val b,
   .own (fun w v => Row B w v ([] ++ xs)) (some 22),
   .val (.int .u64 (n : Int)),
   .own (fun w v => Row B w v ([] ++ xs ++ uv n)) none,
   .val (.string (strOfNums ([] ++ xs ++ uv n))),
   .val (.bool true),
   .val (.bool true),
   .val (.bool true),
   .val (.int .u64 (n : Int)),
   .val (.int .i64 ((uv n).length : Int)),
   .val (.int .u64 (n : Int)),
   .val (.int .i64 ((uv n).length : Int)),
   .val (.bool true),
   .val (.bool true),
   .val (.bool true),
   .val (.bool true),
   .val (.bool true),
   .val (.bool true)]

set_option maxHeartbeats 1000000 in
set_option maxRecDepth 100000 in
theorem takes_any (ao : Option Addr) (len cap n : Nat) (X : Nat → Nat) (W : World) (hb : Byt W ao len X) (hnil : ao = none → len = 0 ∧ cap = 0) (hl : len ≤ cap) (hc : cap ≤ maxLen) (h47 : len ≤ 140737488351232) (hn : n < 18446744073709551616) :
    Calls Try.prog 3 #[.slice ao len cap, .int .u64 (n : Int)] W fun e w' => e = .returned (.bool true) ∧ Below W.heap.size W w' := by
  obtain ⟨E, hE⟩ := exists_end X len
  obtain ⟨N, K, F, hT⟩ := takeV_tuple X len E
  have h1 := take_any ao len cap E X W hb hl hc hE
  have h2 := rtake_any ao len cap E X W hb hl hc hE
  rw [hT] at h1 h2
  have HB : Hid (Byt W ao len X ∧ (ao = none → len = 0 ∧ cap = 0) ∧ len ≤ 140737488351232 ∧ n < 18446744073709551616) := ⟨hb, hnil, h47, hn⟩
  clear hb hnil hl hc h47 hn hE hT
  go_enter Try.func3, Try.ntmps3
  go_upto_region 3 with (first | (go_at_call 9; refine h1.mono ?_; rintro e W ⟨rfl, rfl⟩) | (go_at_call 10; refine h2.mono ?_; rintro e W ⟨rfl, rfl⟩))
  clear h1 h2
  refine wp_region_steps (by kernel_rfl) (by decide +kernel) 59 rfl (by decide +kernel) (k3 W.heap.size N K F (.slice ao len cap) n (bs X len)) ?_ (by kernel_rfl) ?_ ?_
  · simp [k3, okKind, keeps_row]
  rotate_left
  · intro a w' hd hbel hv
    rename_i hk
    refine hk a w' ?_
    have h4 : a.eval (.tmp 4) = .bool true := hv 36 _ (by decide) rfl
    have h4' : a.tmps[4]?.getD undef = .bool true := by simpa [Act.eval] using h4
    go_wp2
    exact bodyPost_ret (v := .bool true) (by simp [results, Try.results3, go_sem, h4']) hd ⟨rfl, hbel⟩
  -- 0: slot 23
  refine ⟨fun a w c => ?_, ?_⟩
  · exact goal_move (c.want0 rfl) (.tmp 5) (.inl rfl) ((c.old 5 rfl).trans rfl) rfl
  -- 1: slot 24
  refine ⟨fun a w c => ?_, ?_⟩
  · exact goal_move (c.want0 rfl) (.tmp 8) (.inl rfl) ((c.old 8 rfl).trans rfl) rfl
  -- 2: slot 25
  refine ⟨fun a w c => ?_, ?_⟩
  · have e23 : a.eval (.tmp 23) = _ := c.val 0 _ rfl rfl
    have e24 : a.eval (.tmp 24) = _ := c.val 1 _ rfl rfl
    exact goal_val (c.want0 rfl) (by generalize a.eval = ρ at e23 e24 ⊢; simp [execOp, go_sem, e23, e24]) rfl
  -- 3: slot 26
  refine ⟨fun a w c => ?_, ?_⟩
  · exact goal_move (c.want0 rfl) (.tmp 25) (.inl rfl) (c.val 2 _ rfl rfl) rfl
  -- 4: slot 27
  refine ⟨fun a w c => ?_, ?_⟩
  · exact goal_move (c.want 3 true rfl rfl rfl) (.tmp 6) (.inl rfl) ((c.old 6 rfl).trans rfl) rfl
  -- 5: slot 28
  refine ⟨fun a w c => ?_, ?_⟩
  · exact goal_move (c.want 3 true rfl rfl rfl) (.tmp 9) (.inl rfl) ((c.old 9 rfl).trans rfl) rfl
  -- 6: slot 29
  refine ⟨fun a w c => ?_, ?_⟩
  · have e27 : a.eval (.tmp 27) = _ := c.val 4 _ rfl rfl
    have e28 : a.eval (.tmp 28) = _ := c.val 5 _ rfl rfl
    exact goal_val (c.want 3 true rfl rfl rfl) (by generalize a.eval = ρ at e27 e28 ⊢; simp [execOp, go_sem, e27, e28]) rfl
  -- 7: slot 30
  refine ⟨fun a w c => ?_, ?_⟩
  · have e26 : a.eval (.tmp 26) = _ := c.val 3 _ rfl rfl
    have e29 : a.eval (.tmp 29) = _ := c.val 6 _ rfl rfl
    exact goal_val (c.want0 rfl) (by generalize a.eval = ρ at e26 e29 ⊢; simp [execOp, go_sem, e26, e29]) rfl
  -- 8: slot 31
  refine ⟨fun a w c => ?_, ?_⟩
  · exact goal_move (c.want0 rfl) (.tmp 30) (.inl rfl) (c.val 7 _ rfl rfl) rfl
  -- 9: slot 32
  refine ⟨fun a w c => ?_, ?_⟩
  · exact goal_move (c.want 8 true rfl rfl rfl) (.tmp 7) (.inl rfl) ((c.old 7 rfl).trans rfl) rfl
  -- 10: slot 33
  refine ⟨fun a w c => ?_, ?_⟩
  · exact goal_move (c.want 8 true rfl rfl rfl) (.tmp 10) (.inl rfl) ((c.old 10 rfl).trans rfl) rfl
  -- 11: slot 34
  refine ⟨fun a w c => ?_, ?_⟩
  · have e32 : a.eval (.tmp 32) = _ := c.val 9 _ rfl rfl
    have e33 : a.eval (.tmp 33) = _ := c.val 10 _ rfl rfl
    exact goal_val (c.want 8 true rfl rfl rfl) (by generalize a.eval = ρ at e32 e33 ⊢; simp [execOp, go_sem, e32, e33]) rfl
  -- 12: slot 35
  refine ⟨fun a w c => ?_, ?_⟩
  · have e31 : a.eval (.tmp 31) = _ := c.val 8 _ rfl rfl
    have e34 : a.eval (.tmp 34) = _ := c.val 11 _ rfl rfl
    exact goal_val (c.want0 rfl) (by generalize a.eval = ρ at e31 e34 ⊢; simp [execOp, go_sem, e31, e34]) rfl
  -- 13: slot 36
  refine ⟨fun a w c => ?_, ?_⟩
  · exact goal_move (c.want0 rfl) (.tmp 35) (.inl rfl) (c.val 12 _ rfl rfl) rfl
  -- 14: slot 37
  refine ⟨fun a w c => ?_, ?_⟩
  · exact goal_move (c.want 13 true rfl rfl rfl) (.tmp 0) (.inl rfl) ((c.old 0 rfl).trans rfl) rfl
  -- 15: slot 38
  refine ⟨fun a w c => ?_, ?_⟩
  · exact goal_move (c.want 13 true rfl rfl rfl) (.tmp 1) (.inl rfl) ((c.old 1 rfl).trans rfl) rfl
  -- 16: slot 39
  refine ⟨fun a w c => ?_, ?_⟩
  · have hw := c.want 13 true rfl rfl rfl
    have e37 : a.eval (.tmp 37) = _ := c.val 14 _ rfl rfl
    have e38 : a.eval (.tmp 38) = _ := c.val 15 _ rfl rfl
    exact goal_fn hw rfl (by simp only [List.map_toArray, List.map_cons, List.map_nil, e37, e38]) (by kernel_rfl) ((put_any ao len cap n X w (HB.out.1.later c.below) HB.out.2.1 HB.out.2.2.1 HB.out.2.2.2).mono fun e w' ⟨v, he, hr, hb⟩ => ⟨v, he, out_new rfl c.below.size hb hr⟩)
  -- 17: slot 40
  refine ⟨fun a w c => ?_, ?_⟩
  · have hw := c.want 13 true rfl rfl rfl
    exact goal_strRow hw rfl rfl (c.row 16 _ _ rfl rfl (.inl rfl)) ((okb_bs HB.out.1).app (okb_uv n)) rfl
  -- 18: slot 41
  refine ⟨fun a w c => ?_, ?_⟩
  · have hw := c.want 13 true rfl rfl rfl
    exact goal_empty hw rfl c.below.size rfl
  -- 19: slot 42
  refine ⟨fun a w c => ?_, ?_⟩
  · exact goal_move (c.want 13 true rfl rfl rfl) (.tmp 0) (.inl rfl) ((c.old 0 rfl).trans rfl) rfl
  -- 20: slot 43
  refine ⟨fun a w c => ?_, ?_⟩
  · have hw := c.want 13 true rfl rfl rfl
    exact goal_app (j := 18) hw rfl rfl (by decide) rfl (c.row 18 _ _ rfl rfl (.inr rfl)) (c.val 19 _ rfl rfl) HB.out.2.1 (HB.out.1.later c.below) (by have := HB.out; simp; omega) c.below.size rfl
  -- 21: slot 44
  refine ⟨fun a w c => ?_, ?_⟩
  · exact goal_move (c.want 13 true rfl rfl rfl) (.tmp 1) (.inl rfl) ((c.old 1 rfl).trans rfl) rfl
  -- 22: slot 45
  refine ⟨fun a w c => ?_, ?_⟩
  · have hw := c.want 13 true rfl rfl rfl
    have hr : Row W.heap.size w (a.eval (.tmp 43)) ([] ++ bs X len) := c.row 20 _ _ rfl rfl (.inr rfl)
    have e44 : a.eval (.tmp 44) = _ := c.val 21 _ rfl rfl
    exact goal_fn hw rfl (by simp only [List.map_toArray, List.map_cons, List.map_nil, e44]) (by kernel_rfl) ((rput_any W.heap.size (a.eval (.tmp 43)) _ n w hr c.below.size (by have h1 := HB.out; have h2 := uv_len64 HB.out.2.2.2; simp [bs_length]; omega) HB.out.2.2.2).mono fun e w' ⟨v, he, h1, h2, h3⟩ => ⟨v, he, out_over (j := 20) rfl (by decide) rfl hr h1 h2 h3⟩)
  -- 23: slot 46
  refine ⟨fun a w c => ?_, ?_⟩
  · have hw := c.want 13 true rfl rfl rfl
    exact goal_strRow hw rfl rfl (c.row 22 _ _ rfl rfl (.inl rfl)) ((okb_bs HB.out.1).app (okb_uv n)) rfl
  -- 24: slot 47
  refine ⟨fun a w c => ?_, ?_⟩
  · have e40 : a.eval (.tmp 40) = _ := c.val 17 _ rfl rfl
    have e46 : a.eval (.tmp 46) = _ := c.val 23 _ rfl rfl
    exact goal_val (c.want 13 true rfl rfl rfl) (by generalize a.eval = ρ at e40 e46 ⊢; simp [execOp, go_sem, e40, e46]) rfl
  -- 25: slot 48
  refine ⟨fun a w c => ?_, ?_⟩
  · have e36 : a.eval (.tmp 36) = _ := c.val 13 _ rfl rfl
    have e47 : a.eval (.tmp 47) = _ := c.val 24 _ rfl rfl
    exact goal_val (c.want0 rfl) (by generalize a.eval = ρ at e36 e47 ⊢; simp [execOp, go_sem, e36, e47]) rfl
  -- 26: slot 49
  refine ⟨fun a w c => ?_, ?_⟩
  · exact goal_move (c.want0 rfl) (.tmp 48) (.inl rfl) (c.val 25 _ rfl rfl) rfl
  -- 27: slot 50
  refine ⟨fun a w c => ?_, ?_⟩
  · exact goal_move (c.want 26 true rfl rfl rfl) (.tmp 1) (.inl rfl) ((c.old 1 rfl).trans rfl) rfl
  -- 28: slot 51
  refine ⟨fun a w c => ?_, ?_⟩
  · have hw := c.want 26 true rfl rfl rfl
    have e50 : a.eval (.tmp 50) = _ := c.val 27 _ rfl rfl
    exact goal_fn hw rfl (by simp only [List.map_toArray, List.map_cons, List.map_nil, e50]) (by kernel_rfl) ((len_any n w HB.out.2.2.2).mono fun e w' ⟨he, hw'⟩ => ⟨_, he, out_call rfl (by rw [hw']; exact Below.refl _ _)⟩)
  -- 29: slot 52
  refine ⟨fun a w c => ?_, ?_⟩
  · exact goal_move (c.want 26 true rfl rfl rfl) (.tmp 1) (.inl rfl) ((c.old 1 rfl).trans rfl) rfl
  -- 30: slot 53
  refine ⟨fun a w c => ?_, ?_⟩
  · have hw := c.want 26 true rfl rfl rfl
    have e52 : a.eval (.tmp 52) = _ := c.val 29 _ rfl rfl
    exact goal_fn hw rfl (by simp only [List.map_toArray, List.map_cons, List.map_nil, e52]) (by kernel_rfl) ((rlen_any n w HB.out.2.2.2).mono fun e w' ⟨he, hb⟩ => ⟨_, he, out_call rfl hb⟩)
  -- 31: slot 54
  refine ⟨fun a w c => ?_, ?_⟩
  · have e51 : a.eval (.tmp 51) = _ := c.val 28 _ rfl rfl
    have e53 : a.eval (.tmp 53) = _ := c.val 30 _ rfl rfl
    exact goal_val (c.want 26 true rfl rfl rfl) (by generalize a.eval = ρ at e51 e53 ⊢; simp [execOp, go_sem, e51, e53]) rfl
  -- 32: slot 55
  refine ⟨fun a w c => ?_, ?_⟩
  · have e49 : a.eval (.tmp 49) = _ := c.val 26 _ rfl rfl
    have e54 : a.eval (.tmp 54) = _ := c.val 31 _ rfl rfl
    exact goal_val (c.want0 rfl) (by generalize a.eval = ρ at e49 e54 ⊢; simp [execOp, go_sem, e49, e54]) rfl
  -- 33: slot 56
  refine ⟨fun a w c => ?_, ?_⟩
  · exact goal_move (c.want0 rfl) (.tmp 55) (.inl rfl) (c.val 32 _ rfl rfl) rfl
  -- 34: slot 57
  refine ⟨fun a w c => ?_, ?_⟩
  · have hw := c.want 33 true rfl rfl rfl
    exact goal_fn (args := #[]) hw rfl (by simp) (by kernel_rfl) ((awake_any w).mono fun e w' ⟨he, hb⟩ => ⟨_, he, out_call rfl hb⟩)
  -- 35: slot 58
  refine ⟨fun a w c => ?_, ?_⟩
  · have e56 : a.eval (.tmp 56) = _ := c.val 33 _ rfl rfl
    have e57 : a.eval (.tmp 57) = _ := c.val 34 _ rfl rfl
    exact goal_val (c.want0 rfl) (by generalize a.eval = ρ at e56 e57 ⊢; simp [execOp, go_sem, e56, e57]) rfl
  -- 36: slot 4
  refine ⟨fun a w c => ?_, ?_⟩
  · exact goal_move (c.want0 rfl) (.tmp 58) (.inr rfl) (c.val 35 _ rfl rfl) rfl
  exact True.intro
end Go.Proofs.Ytjjmgfinapahcaa
