/- The law on numbers: it answers true, whatever comes in. -/
import Derived.Test.YtgfkjbckhgndcaaKparts
namespace Go.Proofs.Ytgfkjbckhgndcaa
open Go.RowKit
set_option linter.unusedVariables false
set_option linter.unusedSimpArgs false

def kNums (B : Nat) (b : Value) (m f n : Int) (xs : List Int) : List Kind :=
  [.val (.int .i64 m),
   .val (.int .i64 m),
   .val (.bool true),
   .val (.bool true),
   .val (.int .i64 f),
   .val (.int .i64 f),
   .val (.bool true),
   .val (.bool true),
   .val (.bool true),
   .val b,
   .val (.int .i64 n),
   .own (fun w v => Row B w v (xs ++ fx (turned n) 8)) none,
   .val (.string (strOfNums (xs ++ fx (turned n) 8))),
   .own (fun w v => Row B w v []) (some 15),
   .val b,
   .own (fun w v => Row B w v ([] ++ xs)) (some 17),
   .val (.int .i64 n),
   .own (fun w v => Row B w v ([] ++ xs ++ fx (turned n) 8)) none,
   .val (.string (strOfNums (xs ++ fx (turned n) 8))),
   .val (.bool true),
   .val (.bool true),
   .val (.bool true),
   .val (.bool true),
   .val (.bool true),
   .val (.bool true)]

set_option maxHeartbeats 1000000 in
set_option maxRecDepth 100000 in
theorem nums_any (D : PK) {w0 : World} {ao : Option Addr} {len cap : Nat} {xs : List Int} {n : Int} (hb : Sl w0 ao len cap xs) (hn : Hid (InI n)) (hl : len ≤ 140737488354000) :
    Calls Try.prog 4 #[.slice ao len cap, .int .i64 n] w0 fun e w' => e = .returned (.bool true) ∧ Below w0.heap.size w0 w' := by
  have h1 := D.takeN hb
  have H2 : Hid (∀ w1, Below w0.heap.size w0 w1 → Calls Try.prog 15 #[.slice ao len cap] w1 fun e w' => e = .returned (.tuple #[.int .i64 (tn xs).2, .int .i64 ((tn xs).1 : Int)]) ∧ w' = w1) := fun w1 h => rtn_any (hb.later h)
  have HS : Hid (Sl w0 ao len cap xs ∧ len ≤ 140737488354000) := ⟨hb, hl⟩
  clear hb hl
  generalize tn xs = t at h1 H2
  obtain ⟨te, tm⟩ := t
  simp only at h1 H2
  go_enter Try.func4, Try.ntmps4
  go_wp2_with fail
  refine h1.mono ?_
  rintro e W ⟨rfl, hb1⟩
  have h2 := H2.out W hb1
  clear h1
  go_wp2_with fail
  refine h2.mono ?_
  rintro e W2 ⟨rfl, hw2⟩
  obtain rfl := hw2.symm
  have HB : Hid (Sl W ao len cap xs ∧ len ≤ 140737488354000) := ⟨HS.out.1.later hb1, by have := HS.out.2; omega⟩
  have HQ : Hid (Below w0.heap.size w0 W) := hb1
  clear h2 hb1 H2 HS hw2
  go_upto_region 3 with fail
  refine wp_region_steps (by kernel_rfl) (by decide +kernel) 43 rfl (by decide +kernel) (kNums W.heap.size (.slice ao len cap) tm te n xs) ?_ (by kernel_rfl) ?_ ?_
  · simp [kNums, okKind, keeps_row]
  rotate_left
  · intro a w' hd hbel hv
    rename_i hk
    refine hk a w' ?_
    have h4 : a.eval (.tmp 4) = .bool true := hv 24 _ (by decide) rfl
    have h4' : a.tmps[4]?.getD undef = .bool true := by simpa [Act.eval] using h4
    go_wp2
    exact bodyPost_ret (v := .bool true) (by simp [results, Try.results4, go_sem, h4']) hd ⟨rfl, HQ.out.trans (hbel.mono HQ.out.size)⟩
  -- 0: slot 19
  refine ⟨fun a w c => ?_, ?_⟩
  · exact goal_move (c.want0 rfl) (.tmp 5) (.inl rfl) ((c.old 5 rfl).trans rfl) rfl
  -- 1: slot 20
  refine ⟨fun a w c => ?_, ?_⟩
  · exact goal_move (c.want0 rfl) (.tmp 7) (.inl rfl) ((c.old 7 rfl).trans rfl) rfl
  -- 2: slot 21
  refine ⟨fun a w c => ?_, ?_⟩
  · have e19 : a.eval (.tmp 19) = _ := c.val 0 _ rfl rfl
    have e20 : a.eval (.tmp 20) = _ := c.val 1 _ rfl rfl
    exact goal_val (c.want0 rfl) (by generalize a.eval = ρ at e19 e20 ⊢; simp [execOp, go_sem, e19, e20]) rfl
  -- 3: slot 22
  refine ⟨fun a w c => ?_, ?_⟩
  · exact goal_move (c.want0 rfl) (.tmp 21) (.inl rfl) (c.val 2 _ rfl rfl) rfl
  -- 4: slot 23
  refine ⟨fun a w c => ?_, ?_⟩
  · exact goal_move (c.want 3 true rfl rfl rfl) (.tmp 6) (.inl rfl) ((c.old 6 rfl).trans rfl) rfl
  -- 5: slot 24
  refine ⟨fun a w c => ?_, ?_⟩
  · exact goal_move (c.want 3 true rfl rfl rfl) (.tmp 8) (.inl rfl) ((c.old 8 rfl).trans rfl) rfl
  -- 6: slot 25
  refine ⟨fun a w c => ?_, ?_⟩
  · have e23 : a.eval (.tmp 23) = _ := c.val 4 _ rfl rfl
    have e24 : a.eval (.tmp 24) = _ := c.val 5 _ rfl rfl
    exact goal_val (c.want 3 true rfl rfl rfl) (by generalize a.eval = ρ at e23 e24 ⊢; simp [execOp, go_sem, e23, e24]) rfl
  -- 7: slot 26
  refine ⟨fun a w c => ?_, ?_⟩
  · have e22 : a.eval (.tmp 22) = _ := c.val 3 _ rfl rfl
    have e25 : a.eval (.tmp 25) = _ := c.val 6 _ rfl rfl
    exact goal_val (c.want0 rfl) (by generalize a.eval = ρ at e22 e25 ⊢; simp [execOp, go_sem, e22, e25]) rfl
  -- 8: slot 27
  refine ⟨fun a w c => ?_, ?_⟩
  · exact goal_move (c.want0 rfl) (.tmp 26) (.inl rfl) (c.val 7 _ rfl rfl) rfl
  -- 9: slot 28
  refine ⟨fun a w c => ?_, ?_⟩
  · exact goal_move (c.want 8 true rfl rfl rfl) (.tmp 0) (.inl rfl) ((c.old 0 rfl).trans rfl) rfl
  -- 10: slot 29
  refine ⟨fun a w c => ?_, ?_⟩
  · exact goal_move (c.want 8 true rfl rfl rfl) (.tmp 1) (.inl rfl) ((c.old 1 rfl).trans rfl) rfl
  -- 11: slot 30
  refine ⟨fun a w c => ?_, ?_⟩
  · have hw := c.want 8 true rfl rfl rfl
    have e28 : a.eval (.tmp 28) = _ := c.val 9 _ rfl rfl
    have e29 : a.eval (.tmp 29) = _ := c.val 10 _ rfl rfl
    exact goal_fn hw rfl (by simp only [List.map_toArray, List.map_cons, List.map_nil, e28, e29]) (by kernel_rfl) ((D.number (HB.out.1.later c.below) hn (by have := HB.out.2; omega)).mono fun e w' ⟨v, he, hr, hb⟩ => ⟨v, he, out_new rfl c.below.size hb hr⟩)
  -- 12: slot 31
  refine ⟨fun a w c => ?_, ?_⟩
  · have hw := c.want 8 true rfl rfl rfl
    exact goal_strRow hw rfl rfl (c.row 11 _ _ rfl rfl (.inl rfl)) (HB.out.1.2.1.app (okb_fx _ 8)) rfl
  -- 13: slot 32
  refine ⟨fun a w c => ?_, ?_⟩
  · have hw := c.want 8 true rfl rfl rfl
    exact goal_empty hw rfl c.below.size rfl
  -- 14: slot 33
  refine ⟨fun a w c => ?_, ?_⟩
  · exact goal_move (c.want 8 true rfl rfl rfl) (.tmp 0) (.inl rfl) ((c.old 0 rfl).trans rfl) rfl
  -- 15: slot 34
  refine ⟨fun a w c => ?_, ?_⟩
  · have hw := c.want 8 true rfl rfl rfl
    exact goal_appL (j := 13) hw rfl rfl (by decide) rfl (c.row 13 _ _ rfl rfl (.inr rfl)) (c.val 14 _ rfl rfl) (HB.out.1.later c.below) (by have := HB.out.2; simp; omega) c.below.size rfl
  -- 16: slot 35
  refine ⟨fun a w c => ?_, ?_⟩
  · exact goal_move (c.want 8 true rfl rfl rfl) (.tmp 1) (.inl rfl) ((c.old 1 rfl).trans rfl) rfl
  -- 17: slot 36
  refine ⟨fun a w c => ?_, ?_⟩
  · have hw := c.want 8 true rfl rfl rfl
    have hr : Row W.heap.size w (a.eval (.tmp 34)) ([] ++ xs) := c.row 15 _ _ rfl rfl (.inr rfl)
    have e35 : a.eval (.tmp 35) = _ := c.val 16 _ rfl rfl
    exact goal_fn hw rfl (by simp only [List.map_toArray, List.map_cons, List.map_nil, e35]) (by kernel_rfl) ((rnum_any hn c.below hr (by have h1 := HB.out.2; have h2 := HB.out.1.1; simp; omega)).mono fun e w' ⟨v, he, h1, h2, h3⟩ => ⟨v, he, out_over (j := 15) rfl (by decide) rfl hr h1 h2 h3⟩)
  -- 18: slot 37
  refine ⟨fun a w c => ?_, ?_⟩
  · have hw := c.want 8 true rfl rfl rfl
    exact goal_strRow hw rfl rfl (c.row 17 _ _ rfl rfl (.inl rfl)) (HB.out.1.2.1.app (okb_fx _ 8)) rfl
  -- 19: slot 38
  refine ⟨fun a w c => ?_, ?_⟩
  · have e31 : a.eval (.tmp 31) = _ := c.val 12 _ rfl rfl
    have e37 : a.eval (.tmp 37) = _ := c.val 18 _ rfl rfl
    exact goal_val (c.want 8 true rfl rfl rfl) (by generalize a.eval = ρ at e31 e37 ⊢; simp [execOp, go_sem, e31, e37]) rfl
  -- 20: slot 39
  refine ⟨fun a w c => ?_, ?_⟩
  · have e27 : a.eval (.tmp 27) = _ := c.val 8 _ rfl rfl
    have e38 : a.eval (.tmp 38) = _ := c.val 19 _ rfl rfl
    exact goal_val (c.want0 rfl) (by generalize a.eval = ρ at e27 e38 ⊢; simp [execOp, go_sem, e27, e38]) rfl
  -- 21: slot 40
  refine ⟨fun a w c => ?_, ?_⟩
  · exact goal_move (c.want0 rfl) (.tmp 39) (.inl rfl) (c.val 20 _ rfl rfl) rfl
  -- 22: slot 41
  refine ⟨fun a w c => ?_, ?_⟩
  · have hw := c.want 21 true rfl rfl rfl
    exact goal_fn (args := #[]) hw rfl (by simp) (by kernel_rfl) ((awake7_any D w).mono fun e w' ⟨he, hb⟩ => ⟨_, he, out_call rfl hb⟩)
  -- 23: slot 42
  refine ⟨fun a w c => ?_, ?_⟩
  · have e40 : a.eval (.tmp 40) = _ := c.val 21 _ rfl rfl
    have e41 : a.eval (.tmp 41) = _ := c.val 22 _ rfl rfl
    exact goal_val (c.want0 rfl) (by generalize a.eval = ρ at e40 e41 ⊢; simp [execOp, go_sem, e40, e41]) rfl
  -- 24: slot 4
  refine ⟨fun a w c => ?_, ?_⟩
  · exact goal_move (c.want0 rfl) (.tmp 42) (.inr rfl) (c.val 23 _ rfl rfl) rfl
  exact True.intro
end Go.Proofs.Ytgfkjbckhgndcaa
