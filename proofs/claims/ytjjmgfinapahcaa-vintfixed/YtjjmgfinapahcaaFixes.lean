/- The law on Read and Fixed: it answers true, whatever comes in. -/
import Derived.Test.YtjjmgfinapahcaaBstep
import Derived.Test.YtjjmgfinapahcaaFix
namespace Go.Proofs.Ytjjmgfinapahcaa
open Go.RowKit

theorem readV_tuple (X : Nat → Nat) (len : Nat) (size : Int) : ∃ (N F : Int), readV X len size = .tuple #[.int .u64 N, .int .i64 F] := by
  unfold readV
  split
  · split
    · exact ⟨_, _, rfl⟩
    · exact ⟨_, _, rfl⟩
  · exact ⟨_, _, rfl⟩

def k4 (B : Nat) (N F : Int) (b : Value) (n : Nat) (size : Int) (xs : List Int) : List Kind :=
  [.val (.int .u64 N),
   .val (.int .u64 N),
   .val (.bool true),
   .val (.bool true),
   .val (.int .i64 F),
   .val (.int .i64 F),
   .val (.bool true),
   .val (.bool true),
   .val (.bool true),
   .val b,
   .val (.int .u64 (n : Int)),
   .val (.int .i64 size),
   .own (fun w v => Row B w v (xs ++ fxs n size)) none,
   .val (.string (strOfNums (xs ++ fxs n size))),
   .own (fun w v => Row B w v []) (some 16),
   .val b,
   .own (fun w v => Row B w v ([] ++ xs)) (some 19),
   .val (.int .u64 (n : Int)),
   .val (.int .i64 size),
   .own (fun w v => Row B w v ([] ++ xs ++ fxs n size)) none,
   .val (.string (strOfNums ([] ++ xs ++ fxs n size))),
   .val (.bool true),
   .val (.bool true),
   .val (.bool true),
   .val (.bool true),
   .val (.bool true),
   .val (.bool true)]

set_option maxHeartbeats 1000000 in
set_option maxRecDepth 100000 in
theorem fixes_any (ao : Option Addr) (len cap n : Nat) (X : Nat → Nat) (size : Int) (W : World) (hb : Byt W ao len X) (hnil : ao = none → len = 0 ∧ cap = 0) (hl : len ≤ cap) (h47 : len ≤ 140737488351232) :
    Calls Try.prog 4 #[.slice ao len cap, .int .u64 (n : Int), .int .i64 size] W fun e w' => e = .returned (.bool true) ∧ Below W.heap.size W w' := by
  obtain ⟨N, F, hT⟩ := readV_tuple X len size
  have h1 := read_any ao len cap X size W hb hl
  have h2 := rread_any ao len cap X size W hb hl
  rw [hT] at h1 h2
  have HB : Hid (Byt W ao len X ∧ (ao = none → len = 0 ∧ cap = 0) ∧ len ≤ 140737488351232) := ⟨hb, hnil, h47⟩
  clear hb hnil hl h47 hT
  go_enter Try.func4, Try.ntmps4
  go_upto_region 3 with (first | (go_at_call 16; refine h1.mono ?_; rintro e W ⟨rfl, rfl⟩) | (go_at_call 17; refine h2.mono ?_; rintro e W ⟨rfl, rfl⟩))
  clear h1 h2
  refine wp_region_steps (by kernel_rfl) (by decide +kernel) 49 rfl (by decide +kernel) (k4 W.heap.size N F (.slice ao len cap) n size (bs X len)) ?_ (by kernel_rfl) ?_ ?_
  · simp [k4, okKind, keeps_row]
  rotate_left
  · intro a w' hd hbel hv
    rename_i hk
    refine hk a w' ?_
    have h4 : a.eval (.tmp 6) = .bool true := hv 26 _ (by decide) rfl
    have h4' : a.tmps[6]?.getD undef = .bool true := by simpa [Act.eval] using h4
    go_wp2
    exact bodyPost_ret (v := .bool true) (by simp [results, Try.results4, go_sem, h4']) hd ⟨rfl, hbel⟩
  -- 0: slot 23
  refine ⟨fun a w c => ?_, ?_⟩
  · exact goal_move (c.want0 rfl) (.tmp 7) (.inl rfl) ((c.old 7 rfl).trans rfl) rfl
  -- 1: slot 24
  refine ⟨fun a w c => ?_, ?_⟩
  · exact goal_move (c.want0 rfl) (.tmp 9) (.inl rfl) ((c.old 9 rfl).trans rfl) rfl
  -- 2: slot 25
  refine ⟨fun a w c => ?_, ?_⟩
  · have e23 : a.eval (.tmp 23) = _ := c.val 0 _ rfl rfl
    have e24 : a.eval (.tmp 24) = _ := c.val 1 _ rfl rfl
    exact goal_val (c.want0 rfl) (by generalize a.eval = ρ at e23 e24 ⊢; simp [execOp, go_sem, e23, e24]) rfl
  -- 3: slot 26
  refine ⟨fun a w c => ?_, ?_⟩
  · exact goal_move (c.want0 rfl) (.tmp 25) (.inl rfl) (c.val 2 _ rfl rfl) rfl
  -- 4: slot 27
  refine ⟨fun a w c => ?_, ?_⟩
  · exact goal_move (c.want 3 true rfl rfl rfl) (.tmp 8) (.inl rfl) ((c.old 8 rfl).trans rfl) rfl
  -- 5: slot 28
  refine ⟨fun a w c => ?_, ?_⟩
  · exact goal_move (c.want 3 true rfl rfl rfl) (.tmp 10) (.inl rfl) ((c.old 10 rfl).trans rfl) rfl
  -- 6: slot 29
  refine ⟨fun a w c => ?_, ?_⟩
  · have e27 : a.eval (.tmp 27) = _ := c.val 4 _ rfl rfl
    have e28 : a.eval (.tmp 28) = _ := c.val 5 _ rfl rfl
    exact goal_val (c.want 3 true rfl rfl rfl) (by generalize a.eval = ρ at e27 e28 ⊢; simp [execOp, go_sem, e27, e28]) rfl
  -- 7: slot 30
  refine ⟨fun a w c => ?_, ?_⟩
  · have e26 : a.eval (.tmp 26) = _ := c.val 3 _ rfl rfl
    have e29 : a.eval (.tmp 29) = _ := c.val 6 _ rfl rfl
    exact goal_val (c.want0 rfl) (by generalize a.eval = ρ at e26 e29 ⊢; simp [execOp, go_sem, e26, e29]) rfl
  -- 8: slot 31
  refine ⟨fun a w c => ?_, ?_⟩
  · exact goal_move (c.want0 rfl) (.tmp 30) (.inl rfl) (c.val 7 _ rfl rfl) rfl
  -- 9: slot 32
  refine ⟨fun a w c => ?_, ?_⟩
  · exact goal_move (c.want 8 true rfl rfl rfl) (.tmp 0) (.inl rfl) ((c.old 0 rfl).trans rfl) rfl
  -- 10: slot 33
  refine ⟨fun a w c => ?_, ?_⟩
  · exact goal_move (c.want 8 true rfl rfl rfl) (.tmp 1) (.inl rfl) ((c.old 1 rfl).trans rfl) rfl
  -- 11: slot 34
  refine ⟨fun a w c => ?_, ?_⟩
  · exact goal_move (c.want 8 true rfl rfl rfl) (.tmp 2) (.inl rfl) ((c.old 2 rfl).trans rfl) rfl
  -- 12: slot 35
  refine ⟨fun a w c => ?_, ?_⟩
  · have hw := c.want 8 true rfl rfl rfl
    have e32 : a.eval (.tmp 32) = _ := c.val 9 _ rfl rfl
    have e33 : a.eval (.tmp 33) = _ := c.val 10 _ rfl rfl
    have e34 : a.eval (.tmp 34) = _ := c.val 11 _ rfl rfl
    exact goal_fn hw rfl (by simp only [List.map_toArray, List.map_cons, List.map_nil, e32, e33, e34]) (by kernel_rfl) ((fixed_any ao len cap n X size w (HB.out.1.later c.below) HB.out.2.1 HB.out.2.2).mono fun e w' ⟨v, he, hr, hb⟩ => ⟨v, he, out_new rfl c.below.size hb hr⟩)
  -- 13: slot 36
  refine ⟨fun a w c => ?_, ?_⟩
  · have hw := c.want 8 true rfl rfl rfl
    exact goal_strRow hw rfl rfl (c.row 12 _ _ rfl rfl (.inl rfl)) ((okb_bs HB.out.1).app (okb_fxs n size)) rfl
  -- 14: slot 37
  refine ⟨fun a w c => ?_, ?_⟩
  · have hw := c.want 8 true rfl rfl rfl
    exact goal_empty hw rfl c.below.size rfl
  -- 15: slot 38
  refine ⟨fun a w c => ?_, ?_⟩
  · exact goal_move (c.want 8 true rfl rfl rfl) (.tmp 0) (.inl rfl) ((c.old 0 rfl).trans rfl) rfl
  -- 16: slot 39
  refine ⟨fun a w c => ?_, ?_⟩
  · have hw := c.want 8 true rfl rfl rfl
    exact goal_app (j := 14) hw rfl rfl (by decide) rfl (c.row 14 _ _ rfl rfl (.inr rfl)) (c.val 15 _ rfl rfl) HB.out.2.1 (HB.out.1.later c.below) (by have := HB.out; simp; omega) c.below.size rfl
  -- 17: slot 40
  refine ⟨fun a w c => ?_, ?_⟩
  · exact goal_move (c.want 8 true rfl rfl rfl) (.tmp 1) (.inl rfl) ((c.old 1 rfl).trans rfl) rfl
  -- 18: slot 41
  refine ⟨fun a w c => ?_, ?_⟩
  · exact goal_move (c.want 8 true rfl rfl rfl) (.tmp 2) (.inl rfl) ((c.old 2 rfl).trans rfl) rfl
  -- 19: slot 42
  refine ⟨fun a w c => ?_, ?_⟩
  · have hw := c.want 8 true rfl rfl rfl
    have hr : Row W.heap.size w (a.eval (.tmp 39)) ([] ++ bs X len) := c.row 16 _ _ rfl rfl (.inr rfl)
    have e40 : a.eval (.tmp 40) = _ := c.val 17 _ rfl rfl
    have e41 : a.eval (.tmp 41) = _ := c.val 18 _ rfl rfl
    exact goal_fn hw rfl (by simp only [List.map_toArray, List.map_cons, List.map_nil, e40, e41]) (by kernel_rfl) ((rfixed_any W.heap.size (a.eval (.tmp 39)) _ n size w hr c.below.size (by have h1 := HB.out; simp [bs_length]; omega)).mono fun e w' ⟨v, he, h1, h2, h3⟩ => ⟨v, he, out_over (j := 16) rfl (by decide) rfl hr h1 h2 h3⟩)
  -- 20: slot 43
  refine ⟨fun a w c => ?_, ?_⟩
  · have hw := c.want 8 true rfl rfl rfl
    exact goal_strRow hw rfl rfl (c.row 19 _ _ rfl rfl (.inl rfl)) ((okb_bs HB.out.1).app (okb_fxs n size)) rfl
  -- 21: slot 44
  refine ⟨fun a w c => ?_, ?_⟩
  · have e36 : a.eval (.tmp 36) = _ := c.val 13 _ rfl rfl
    have e43 : a.eval (.tmp 43) = _ := c.val 20 _ rfl rfl
    exact goal_val (c.want 8 true rfl rfl rfl) (by generalize a.eval = ρ at e36 e43 ⊢; simp [execOp, go_sem, e36, e43]) rfl
  -- 22: slot 45
  refine ⟨fun a w c => ?_, ?_⟩
  · have e31 : a.eval (.tmp 31) = _ := c.val 8 _ rfl rfl
    have e44 : a.eval (.tmp 44) = _ := c.val 21 _ rfl rfl
    exact goal_val (c.want0 rfl) (by generalize a.eval = ρ at e31 e44 ⊢; simp [execOp, go_sem, e31, e44]) rfl
  -- 23: slot 46
  refine ⟨fun a w c => ?_, ?_⟩
  · exact goal_move (c.want0 rfl) (.tmp 45) (.inl rfl) (c.val 22 _ rfl rfl) rfl
  -- 24: slot 47
  refine ⟨fun a w c => ?_, ?_⟩
  · have hw := c.want 23 true rfl rfl rfl
    exact goal_fn (args := #[]) hw rfl (by simp) (by kernel_rfl) ((awake_any w).mono fun e w' ⟨he, hb⟩ => ⟨_, he, out_call rfl hb⟩)
  -- 25: slot 48
  refine ⟨fun a w c => ?_, ?_⟩
  · have e46 : a.eval (.tmp 46) = _ := c.val 23 _ rfl rfl
    have e47 : a.eval (.tmp 47) = _ := c.val 24 _ rfl rfl
    exact goal_val (c.want0 rfl) (by generalize a.eval = ρ at e46 e47 ⊢; simp [execOp, go_sem, e46, e47]) rfl
  -- 26: slot 6
  refine ⟨fun a w c => ?_, ?_⟩
  · exact goal_move (c.want0 rfl) (.tmp 48) (.inr rfl) (c.val 25 _ rfl rfl) rfl
  exact True.intro
end Go.Proofs.Ytjjmgfinapahcaa
