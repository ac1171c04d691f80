/- The law on parts: it answers true, whatever comes in. -/
import Derived.Test.YtgfkjbckhgndcaaKlaw
namespace Go.Proofs.Ytgfkjbckhgndcaa
open Go.RowKit
set_option linter.unusedVariables false
set_option linter.unusedSimpArgs false

section
variable {Q : Exit → Act → World → Prop} {ops : Array Oper} {ks : List Kind} {i : Nat} {o : Oper} {a : Act} {w : World}
theorem goal_strSl {x : Operand} {ao : Option Addr} {len cap : Nat} {xs : List Int} (hw : Region.wanted o (yielded ops a.tmps) = true) (hop : o.op = .convert 22 9 x) (hx : a.eval x = .slice ao len cap) (h : Sl w ao len cap xs)
    (hv : kOf ks i = .val (.string (strOfNums xs))) : Goal Try.prog Q ops ks i o a w :=
  goal_str hw hop hx h.2.2.2.2.2 h.2.2.1 (by rw [← h.1, bs_xof h.2.1]) hv
theorem goal_appL {B j : Nat} {s x : Operand} {ys zs : List Int} {u : Option Nat} {ao : Option Addr} {m c : Nat} (hw : Region.wanted o (yielded ops a.tmps) = true)
    (hop : o.op = .call { callee := .builtin .append, args := #[s, x], argTypes := #[22, 22] }) (hs : a.eval s = slot ops a j) (hj : j < i) (hKj : kOf ks j = .own (fun w v => Row B w v ys) (some i)) (hy : Row B w (slot ops a j) ys)
    (hx : a.eval x = .slice ao m c) (h : Sl w ao m c zs) (hb : ys.length + m ≤ 140737488355328) (hB : B ≤ w.heap.size)
    (hv : kOf ks i = .own (fun w v => Row B w v (ys ++ zs)) u) : Goal Try.prog Q ops ks i o a w := by
  have e : bs (xof zs) m = zs := by rw [← h.1, bs_xof h.2.1]
  exact goal_app hw hop hs hj hKj hy hx h.2.2.1 h.2.2.2.2.2 hb hB (by rw [e]; exact hv)
end

def kParts (B : Nat) (v5 v8 b p : Value) (u f : Int) (tr xs ps : List Int) : List Kind :=
  [.val v5,
   .val (.string (strOfNums tr)),
   .val v8,
   .val (.string (strOfNums tr)),
   .val (.bool true),
   .val (.bool true),
   .val (.int .i64 u),
   .val (.int .i64 u),
   .val (.bool true),
   .val (.bool true),
   .val (.bool true),
   .val (.int .i64 f),
   .val (.int .i64 f),
   .val (.bool true),
   .val (.bool true),
   .val (.bool true),
   .val b,
   .val p,
   .own (fun w v => Row B w v (xs ++ pt ps)) none,
   .val (.string (strOfNums (xs ++ pt ps))),
   .own (fun w v => Row B w v []) (some 22),
   .val b,
   .own (fun w v => Row B w v ([] ++ xs)) (some 24),
   .val p,
   .own (fun w v => Row B w v ([] ++ xs ++ pt ps)) none,
   .val (.string (strOfNums (xs ++ pt ps))),
   .val (.bool true),
   .val (.bool true),
   .val (.bool true),
   .val (.bool true),
   .val (.bool true),
   .val (.bool true)]

set_option maxHeartbeats 1000000 in
set_option maxRecDepth 100000 in
theorem parts_any (D : PK) {w0 : World} {ao so : Option Addr} {len cap ls cs : Nat} {xs ps : List Int} (hb : Sl w0 ao len cap xs) (hs : Sl w0 so ls cs ps) (hl : len + 2 * ls ≤ 140737488354000) :
    Calls Try.prog 3 #[.slice ao len cap, .slice so ls cs] w0 fun e w' => e = .returned (.bool true) ∧ Below w0.heap.size w0 w' := by
  have h1 := D.take hb (by omega)
  have H2 : Hid (∀ w1, Below w0.heap.size w0 w1 → Calls Try.prog 10 #[.slice ao len cap] w1 fun e w' => Tp xs w1.heap.size e w' ∧ Below w1.heap.size w1 w') := fun w1 h => rtp_any (hb.later h) (by omega)
  have HS : Hid (Sl w0 ao len cap xs ∧ Sl w0 so ls cs ps ∧ len + 2 * ls ≤ 140737488354000 ∧ Okb (tp xs).2.1) := by
    refine ⟨hb, hs, hl, ?_⟩
    exact okb_tp _ xs (Nat.le_refl _) hb.2.1
  clear hb hs hl
  unfold Tp at H2
  obtain ⟨t, ht⟩ : ∃ t, t = tp xs := ⟨_, rfl⟩
  rw [← ht] at h1 H2 HS
  obtain ⟨te, tr, tu⟩ := t
  simp only at h1 H2 HS
  clear ht
  go_enter Try.func3, Try.ntmps3
  go_wp2_with fail
  refine h1.mono ?_
  rintro e w1 ⟨v1, rfl, ⟨a1, c1, rfl, hs1⟩, hb1⟩
  have h2 := H2.out w1 hb1
  clear h1
  go_wp2_with fail
  refine h2.mono ?_
  rintro e W ⟨⟨v2, rfl, hr2⟩, hb2⟩
  obtain ⟨a2, c2, rfl, hs2⟩ := SlV.ofRow hr2 HS.out.2.2.2
  have B2 := hb1.trans (hb2.mono hb1.size)
  have HB : Hid (Sl W ao len cap xs ∧ Sl W so ls cs ps ∧ len + 2 * ls ≤ 140737488354000 ∧ Sl W a1 tr.length c1 tr ∧ Sl W a2 tr.length c2 tr) := ⟨HS.out.1.later B2, HS.out.2.1.later B2, by have := HS.out.2.2.1; omega, hs1.later hb2, hs2⟩
  have HQ : Hid (Below w0.heap.size w0 W) := B2
  clear h2 hr2 hs1 hs2 hb1 hb2 B2 H2 HS
  go_upto_region 3 with fail
  refine wp_region_steps (by kernel_rfl) (by decide +kernel) 54 rfl (by decide +kernel) (kParts W.heap.size (.slice a1 tr.length c1) (.slice a2 tr.length c2) (.slice ao len cap) (.slice so ls cs) tu te tr xs ps) ?_ (by kernel_rfl) ?_ ?_
  · simp [kParts, okKind, keeps_row]
  rotate_left
  · intro a w' hd hbel hv
    rename_i hk
    refine hk a w' ?_
    have h4 : a.eval (.tmp 4) = .bool true := hv 31 _ (by decide) rfl
    have h4' : a.tmps[4]?.getD undef = .bool true := by simpa [Act.eval] using h4
    go_wp2
    exact bodyPost_ret (v := .bool true) (by simp [results, Try.results3, go_sem, h4']) hd ⟨rfl, HQ.out.trans (hbel.mono HQ.out.size)⟩
  -- 0: slot 23
  refine ⟨fun a w c => ?_, ?_⟩
  · exact goal_move (c.want0 rfl) (.tmp 5) (.inl rfl) ((c.old 5 rfl).trans rfl) rfl
  -- 1: slot 24
  refine ⟨fun a w c => ?_, ?_⟩
  · have hw := c.want0 rfl
    exact goal_strSl hw rfl (c.val 0 _ rfl rfl) (HB.out.2.2.2.1.later c.below) rfl
  -- 2: slot 25
  refine ⟨fun a w c => ?_, ?_⟩
  · exact goal_move (c.want0 rfl) (.tmp 8) (.inl rfl) ((c.old 8 rfl).trans rfl) rfl
  -- 3: slot 26
  refine ⟨fun a w c => ?_, ?_⟩
  · have hw := c.want0 rfl
    exact goal_strSl hw rfl (c.val 2 _ rfl rfl) (HB.out.2.2.2.2.later c.below) rfl
  -- 4: slot 27
  refine ⟨fun a w c => ?_, ?_⟩
  · have e24 : a.eval (.tmp 24) = _ := c.val 1 _ rfl rfl
    have e26 : a.eval (.tmp 26) = _ := c.val 3 _ rfl rfl
    exact goal_val (c.want0 rfl) (by generalize a.eval = ρ at e24 e26 ⊢; simp [execOp, go_sem, e24, e26]) rfl
  -- 5: slot 28
  refine ⟨fun a w c => ?_, ?_⟩
  · exact goal_move (c.want0 rfl) (.tmp 27) (.inl rfl) (c.val 4 _ rfl rfl) rfl
  -- 6: slot 29
  refine ⟨fun a w c => ?_, ?_⟩
  · exact goal_move (c.want 5 true rfl rfl rfl) (.tmp 6) (.inl rfl) ((c.old 6 rfl).trans rfl) rfl
  -- 7: slot 30
  refine ⟨fun a w c => ?_, ?_⟩
  · exact goal_move (c.want 5 true rfl rfl rfl) (.tmp 9) (.inl rfl) ((c.old 9 rfl).trans rfl) rfl
  -- 8: slot 31
  refine ⟨fun a w c => ?_, ?_⟩
  · have e29 : a.eval (.tmp 29) = _ := c.val 6 _ rfl rfl
    have e30 : a.eval (.tmp 30) = _ := c.val 7 _ rfl rfl
    exact goal_val (c.want 5 true rfl rfl rfl) (by generalize a.eval = ρ at e29 e30 ⊢; simp [execOp, go_sem, e29, e30]) rfl
  -- 9: slot 32
  refine ⟨fun a w c => ?_, ?_⟩
  · have e28 : a.eval (.tmp 28) = _ := c.val 5 _ rfl rfl
    have e31 : a.eval (.tmp 31) = _ := c.val 8 _ rfl rfl
    exact goal_val (c.want0 rfl) (by generalize a.eval = ρ at e28 e31 ⊢; simp [execOp, go_sem, e28, e31]) rfl
  -- 10: slot 33
  refine ⟨fun a w c => ?_, ?_⟩
  · exact goal_move (c.want0 rfl) (.tmp 32) (.inl rfl) (c.val 9 _ rfl rfl) rfl
  -- 11: slot 34
  refine ⟨fun a w c => ?_, ?_⟩
  · exact goal_move (c.want 10 true rfl rfl rfl) (.tmp 7) (.inl rfl) ((c.old 7 rfl).trans rfl) rfl
  -- 12: slot 35
  refine ⟨fun a w c => ?_, ?_⟩
  · exact goal_move (c.want 10 true rfl rfl rfl) (.tmp 10) (.inl rfl) ((c.old 10 rfl).trans rfl) rfl
  -- 13: slot 36
  refine ⟨fun a w c => ?_, ?_⟩
  · have e34 : a.eval (.tmp 34) = _ := c.val 11 _ rfl rfl
    have e35 : a.eval (.tmp 35) = _ := c.val 12 _ rfl rfl
    exact goal_val (c.want 10 true rfl rfl rfl) (by generalize a.eval = ρ at e34 e35 ⊢; simp [execOp, go_sem, e34, e35]) rfl
  -- 14: slot 37
  refine ⟨fun a w c => ?_, ?_⟩
  · have e33 : a.eval (.tmp 33) = _ := c.val 10 _ rfl rfl
    have e36 : a.eval (.tmp 36) = _ := c.val 13 _ rfl rfl
    exact goal_val (c.want0 rfl) (by generalize a.eval = ρ at e33 e36 ⊢; simp [execOp, go_sem, e33, e36]) rfl
  -- 15: slot 38
  refine ⟨fun a w c => ?_, ?_⟩
  · exact goal_move (c.want0 rfl) (.tmp 37) (.inl rfl) (c.val 14 _ rfl rfl) rfl
  -- 16: slot 39
  refine ⟨fun a w c => ?_, ?_⟩
  · exact goal_move (c.want 15 true rfl rfl rfl) (.tmp 0) (.inl rfl) ((c.old 0 rfl).trans rfl) rfl
  -- 17: slot 40
  refine ⟨fun a w c => ?_, ?_⟩
  · exact goal_move (c.want 15 true rfl rfl rfl) (.tmp 1) (.inl rfl) ((c.old 1 rfl).trans rfl) rfl
  -- 18: slot 41
  refine ⟨fun a w c => ?_, ?_⟩
  · have hw := c.want 15 true rfl rfl rfl
    have e39 : a.eval (.tmp 39) = _ := c.val 16 _ rfl rfl
    have e40 : a.eval (.tmp 40) = _ := c.val 17 _ rfl rfl
    exact goal_fn hw rfl (by simp only [List.map_toArray, List.map_cons, List.map_nil, e39, e40]) (by kernel_rfl) ((D.bytes (HB.out.1.later c.below) (HB.out.2.1.later c.below) (by have := HB.out.2.2.1; omega)).mono fun e w' ⟨v, he, hr, hb⟩ => ⟨v, he, out_new rfl c.below.size hb hr⟩)
  -- 19: slot 42
  refine ⟨fun a w c => ?_, ?_⟩
  · have hw := c.want 15 true rfl rfl rfl
    exact goal_strRow hw rfl rfl (c.row 18 _ _ rfl rfl (.inl rfl)) (HB.out.1.2.1.app (okb_pt HB.out.2.1.2.1)) rfl
  -- 20: slot 43
  refine ⟨fun a w c => ?_, ?_⟩
  · have hw := c.want 15 true rfl rfl rfl
    exact goal_empty hw rfl c.below.size rfl
  -- 21: slot 44
  refine ⟨fun a w c => ?_, ?_⟩
  · exact goal_move (c.want 15 true rfl rfl rfl) (.tmp 0) (.inl rfl) ((c.old 0 rfl).trans rfl) rfl
  -- 22: slot 45
  refine ⟨fun a w c => ?_, ?_⟩
  · have hw := c.want 15 true rfl rfl rfl
    exact goal_appL (j := 20) hw rfl rfl (by decide) rfl (c.row 20 _ _ rfl rfl (.inr rfl)) (c.val 21 _ rfl rfl) (HB.out.1.later c.below) (by have := HB.out.2.2.1; simp; omega) c.below.size rfl
  -- 23: slot 46
  refine ⟨fun a w c => ?_, ?_⟩
  · exact goal_move (c.want 15 true rfl rfl rfl) (.tmp 1) (.inl rfl) ((c.old 1 rfl).trans rfl) rfl
  -- 24: slot 47
  refine ⟨fun a w c => ?_, ?_⟩
  · have hw := c.want 15 true rfl rfl rfl
    have hr : Row W.heap.size w (a.eval (.tmp 45)) ([] ++ xs) := c.row 22 _ _ rfl rfl (.inr rfl)
    have e46 : a.eval (.tmp 46) = _ := c.val 23 _ rfl rfl
    exact goal_fn hw rfl (by simp only [List.map_toArray, List.map_cons, List.map_nil, e46]) (by kernel_rfl) ((rpart_any HB.out.2.1 c.below hr (by have h1 := HB.out.2.2.1; have h2 := HB.out.1.1; simp; omega)).mono fun e w' ⟨v, he, h1, h2, h3⟩ => ⟨v, he, out_over (j := 22) rfl (by decide) rfl hr h1 h2 h3⟩)
  -- 25: slot 48
  refine ⟨fun a w c => ?_, ?_⟩
  · have hw := c.want 15 true rfl rfl rfl
    exact goal_strRow hw rfl rfl (c.row 24 _ _ rfl rfl (.inl rfl)) (HB.out.1.2.1.app (okb_pt HB.out.2.1.2.1)) rfl
  -- 26: slot 49
  refine ⟨fun a w c => ?_, ?_⟩
  · have e42 : a.eval (.tmp 42) = _ := c.val 19 _ rfl rfl
    have e48 : a.eval (.tmp 48) = _ := c.val 25 _ rfl rfl
    exact goal_val (c.want 15 true rfl rfl rfl) (by generalize a.eval = ρ at e42 e48 ⊢; simp [execOp, go_sem, e42, e48]) rfl
  -- 27: slot 50
  refine ⟨fun a w c => ?_, ?_⟩
  · have e38 : a.eval (.tmp 38) = _ := c.val 15 _ rfl rfl
    have e49 : a.eval (.tmp 49) = _ := c.val 26 _ rfl rfl
    exact goal_val (c.want0 rfl) (by generalize a.eval = ρ at e38 e49 ⊢; simp [execOp, go_sem, e38, e49]) rfl
  -- 28: slot 51
  refine ⟨fun a w c => ?_, ?_⟩
  · exact goal_move (c.want0 rfl) (.tmp 50) (.inl rfl) (c.val 27 _ rfl rfl) rfl
  -- 29: slot 52
  refine ⟨fun a w c => ?_, ?_⟩
  · have hw := c.want 28 true rfl rfl rfl
    exact goal_fn (args := #[]) hw rfl (by simp) (by kernel_rfl) ((awake7_any D w).mono fun e w' ⟨he, hb⟩ => ⟨_, he, out_call rfl hb⟩)
  -- 30: slot 53
  refine ⟨fun a w c => ?_, ?_⟩
  · have e51 : a.eval (.tmp 51) = _ := c.val 28 _ rfl rfl
    have e52 : a.eval (.tmp 52) = _ := c.val 29 _ rfl rfl
    exact goal_val (c.want0 rfl) (by generalize a.eval = ρ at e51 e52 ⊢; simp [execOp, go_sem, e51, e52]) rfl
  -- 31: slot 4
  refine ⟨fun a w c => ?_, ?_⟩
  · exact goal_move (c.want0 rfl) (.tmp 53) (.inr rfl) (c.val 30 _ rfl rfl) rfl
  exact True.intro
end Go.Proofs.Ytgfkjbckhgndcaa
