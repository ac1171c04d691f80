/- The law on the order of bytes. -/
import Derived.Test.YtidkibefjcjkfaaBstep
namespace Go.Proofs.Ytidkibefjcjkfaa
open Go.RowKit
set_option linter.unusedVariables false

theorem okb_zero : Okb [0] := fun x hx => by simp at hx; omega
theorem bs_zero : bs (xof [0]) 1 = [0] := rfl
theorem run_one (w : World) : (Instr.buildSlice 23 1 #[(0, .int .u8 0)]).run Try.prog w = .ok (.slice (some ⟨w.heap.size, 0, none⟩) 1 1) (w.alloc (.cells #[.int .u8 0] 5)) := by
  simp [go_sem]
section
variable {Q : Exit → Act → World → Prop} {ops : Array Oper} {ks : List Kind} {i : Nat} {o : Oper} {a : Act} {w : World}
theorem goal_one {B : Nat} {u : Option Nat} (hw : Region.wanted o (yielded ops a.tmps) = true) (hop : o.op = .buildSlice 23 1 #[(0, .const (.int .u8 0))]) (hB : B ≤ w.heap.size) (hv : kOf ks i = .own (fun w v => Row B w v [0]) u) : Goal Try.prog Q ops ks i o a w := by
  refine goal_run (v := .slice (some ⟨w.heap.size, 0, none⟩) 1 1) (w' := w.alloc (.cells #[.int .u8 0] 5)) hw ?_ (out_new hv hB ((Below.refl _ _).alloc (Nat.le_refl _) _) ?_)
  · unfold execOp
    rw [hop]
    simp only [List.map_toArray, List.map_cons, List.map_nil, Act.eval, Sem.run_bind, run_one, Result.andThen_ok, Sem.run_pure]
  · exact World.ownsRow_lit w #[.int .u8 0] 1 (Nat.le_refl _) (by decide) rfl
theorem goal_app' {B j : Nat} {s x : Operand} {ys zs : List Int} {u : Option Nat} {ao : Option Addr} {m c : Nat} {X : Nat → Nat} (hw : Region.wanted o (yielded ops a.tmps) = true)
    (hop : o.op = .call { callee := .builtin .append, args := #[s, x], argTypes := #[23, 23] }) (hs : a.eval s = slot ops a j) (hj : j < i) (hKj : kOf ks j = .own (fun w v => Row B w v ys) (some i)) (hy : Row B w (slot ops a j) ys)
    (hx : a.eval x = .slice ao m c) (hnil : ao = none → m = 0 ∧ c = 0) (hby : Byt w ao m X) (hz : bs X m = zs) (hb : ys.length + m ≤ 140737488355328) (hB : B ≤ w.heap.size)
    (hv : kOf ks i = .own (fun w v => Row B w v (ys ++ zs)) u) : Goal Try.prog Q ops ks i o a w := by
  subst hz
  exact goal_app hw hop hs hj hKj hy hx hnil hby hb hB hv
end
theorem sumRow {B : Nat} {w : World} {v : Value} {l : List Nat} (h : Row B w v (ints l)) (h8 : ∀ x ∈ l, x < 256) : Calls Try.prog 8 #[v] w fun e w' => e = .returned (.int .u32 (more 0 l : Nat)) ∧ w' = w := by
  obtain ⟨ao, cap, rfl, _, q2, q3, q4⟩ := h.byt (okb_ints h8)
  rw [ints_length] at q2 q4 ⊢
  have := sum_any ao _ cap _ w q4 (by omega)
  rw [bl_xof] at this
  exact this
theorem moreRow {B : Nat} {w : World} {v : Value} {l : List Nat} (s : Nat) (hs : s < 4294967296) (h : Row B w v (ints l)) (h8 : ∀ x ∈ l, x < 256) : Calls Try.prog 10 #[.int .u32 (s : Int), v] w fun e w' => e = .returned (.int .u32 (more s l : Nat)) ∧ w' = w := by
  obtain ⟨ao, cap, rfl, _, q2, q3, q4⟩ := h.byt (okb_ints h8)
  rw [ints_length] at q2 q4 ⊢
  have := more_any s ao _ cap _ w hs q4 (by omega)
  rw [bl_xof] at this
  exact this

def k6 (B : Nat) (vc vb : Value) (SC SB SA : Nat) (E : Bool) (p b1 off1 c0 c1 : Nat) (xs : List Int) : List Kind :=
  [.val vc,
   .val (.int .u32 (SC : Int)),
   .val vb,
   .val (.int .u32 (SB : Int)),
   .val (.bool E),
   .val vb,
   .val (.int .i64 (p : Int)),
   .val (.pointer (some ⟨b1, off1 + p, none⟩)),
   .val (.int .u8 (c0 : Int)),
   .val vb,
   .val (.int .i64 (p : Int)),
   .val (.int .i64 ((p : Int) + 1)),
   .val (.pointer (some ⟨b1, off1 + (p + 1), none⟩)),
   .val (.int .u8 (c1 : Int)),
   .val (.bool E),
   .val (.bool true),
   .val (.bool true),
   .own (fun w v => Row B w v []) (some 19),
   .val vb,
   .own (fun w v => Row B w v ([] ++ xs)) (some 21),
   .own (fun w v => Row B w v [0]) none,
   .own (fun w v => Row B w v ([] ++ xs ++ [0])) none,
   .val (.int .u32 (SA : Int)),
   .val vb,
   .val (.int .u32 (SB : Int)),
   .own (fun w v => Row B w v [0]) none,
   .val (.int .u32 (SA : Int)),
   .val (.bool true),
   .val (.bool true),
   .val (.bool true),
   .val (.bool true),
   .val (.bool true),
   .val (.bool true)]

set_option maxHeartbeats 1000000 in
set_option maxRecDepth 100000 in
theorem order_any (ao : Option Addr) (len cap : Nat) (X : Nat → Nat) (at0 : Int) (W : World) (hb : Byt W ao len X) (hnil : ao = none → len = 0 ∧ cap = 0) (hl : len ≤ cap) (hc : cap ≤ maxLen) (h47 : len ≤ 140737488351232) :
    Calls Try.prog 7 #[.slice ao len cap, .int .i64 at0] W fun e w' => e = .returned (.bool true) ∧ Below W.heap.size W w' := by
  by_cases h2 : len < 2
  · have h2' : (len : Int) < 2 := by omega
    clear hb hnil hl hc h47
    go_enter Try.func7, Try.ntmps7
    go_wp2_with (go_at_call 12; refine (awake_any _).mono ?_; rintro e w5 ⟨rfl, hb5⟩)
    go_ret
    exact ⟨rfl, hb5⟩
  obtain ⟨l, rfl⟩ : ∃ l, len = l + 1 + 1 := ⟨len - 2, by omega⟩
  have h2' : (2 : Int) ≤ (l : Int) + 1 + 1 := by omega
  have hl63 : l + 1 + 1 ≤ 2 ^ 62 := by omega
  obtain ⟨b1, off1, hao⟩ : ∃ b1 off1, ao = some ⟨b1, off1, none⟩ := by
    obtain ⟨_, b, off, e, _⟩ := hb 0 (by omega)
    exact ⟨b, off, e⟩
  subst hao
  have HA : Hid (Byt W (some ⟨b1, off1, none⟩) (l + 1 + 1) X ∧ l + 1 + 1 ≤ cap ∧ cap ≤ maxLen ∧ l + 1 + 1 ≤ 140737488351232) := ⟨hb, hl, hc, h47⟩
  clear hb hnil hl hc h47 h2
  go_enter Try.func7, Try.ntmps7
  go_upto_region 4 with fail
  obtain ⟨p, hp, hpl⟩ : ∃ p : Nat, (IntKind.u64.wrap at0).tmod ((l : Int) + 1) = (p : Int) ∧ p < l + 1 := by
    have h0 : 0 ≤ IntKind.u64.wrap at0 := by simp [IntKind.wrap, IntKind.bits, IntKind.signed]; omega
    have h1 := Int.tmod_nonneg ((l : Int) + 1) h0
    have h2 := Int.tmod_lt_of_pos (IntKind.u64.wrap at0) (show (0 : Int) < (l : Int) + 1 by omega)
    exact ⟨((IntKind.u64.wrap at0).tmod ((l : Int) + 1)).toNat, by omega, by omega⟩
  have hp64 : wrap64 (p : Int) = (p : Int) := by unfold wrap64; omega
  rw [hp, hp64]
  generalize IntKind.u64.wrap at0 = y0
  clear hp hp64
  have H1 : Hid (Byt W (some ⟨b1, off1, none⟩) (l + 1 + 1) X ∧ ((some ⟨b1, off1, none⟩ : Option Addr) = none → l + 1 + 1 = 0 ∧ cap = 0) ∧ l + 1 + 1 ≤ 140737488351232) := ⟨HA.out.1, (fun e => by cases e), HA.out.2.2.2⟩
  go_upto_region 5 with (at_builtin; refine wpList_copy (W := W) (s := .tmp 18) (x := .tmp 19) rfl rfl rfl rfl H1 ?_; intro v2 w2 hr2 hb2)
  obtain ⟨g, cap2, hv2, hcap2⟩ := hr2.shape (by rw [bs_length]; omega)
  rw [bs_length] at hv2 hcap2
  subst hv2
  obtain ⟨c0, hc0⟩ : ∃ c, c = X p := ⟨_, rfl⟩
  obtain ⟨c1, hc1⟩ : ∃ c, c = X (p + 1) := ⟨_, rfl⟩
  obtain ⟨k0, f0⟩ := hr2.at p (by omega)
  obtain ⟨k1, f1⟩ := hr2.at (p + 1) (by omega)
  rw [← hc0] at k0
  rw [← hc1] at k1
  have HX : Hid (c0 = X p ∧ c1 = X (p + 1) ∧ p < l + 1) := ⟨hc0, hc1, hpl⟩
  have HR : Hid (Row W.heap.size w2 (.slice (some ⟨g, 0, none⟩) (l + 1 + 1) cap2) (bs X (l + 1 + 1)) ∧ Below W.heap.size W w2 ∧ l + 1 + 1 ≤ cap2) := ⟨hr2, hb2, hcap2⟩
  clear hc0 hc1 hr2 hb2
  have hpI : (p : Int) < (l : Int) + 1 := by omega
  have hpI2 : (p : Int) + 1 < (l : Int) + 1 + 1 := by omega
  have hcI : (l : Int) + 1 + 1 ≤ (cap2 : Int) := by omega
  have hp62 : p + 1 ≤ 2 ^ 62 := by omega
  go_region
  go_wp2_with fail
  have hX8 : ∀ j, j < l + 1 + 1 → X j < 256 := fun j hj => (HA.out.1 j hj).1
  obtain ⟨z, hz⟩ : ∃ z : Nat → Nat, z = fun _ => X p ^^^ X (p + 1) := ⟨_, rfl⟩
  have hz8 : ∀ j, j < 2 → z j < 256 := fun j _ => by rw [hz]; exact xor_lt 8 (hX8 p (by omega)) (hX8 (p + 1) (by omega))
  obtain ⟨w3, hw3⟩ : ∃ w3, w3 = ((w2.setCell ⟨g, p, none⟩ (.int .u8 (c1 : Int))).setCell ⟨g, p + 1, none⟩ (.int .u8 (c0 : Int))).drew := ⟨_, rfl⟩
  have hr3 : Row W.heap.size w3 (.slice (some ⟨g, 0, none⟩) (l + 1 + 1) cap2) (bs (chg X z p 2) (l + 1 + 1)) ∧ Below W.heap.size W w3 := by
    have e1 : bs (chg X z p 1) (l + 1 + 1) = (bs X (l + 1 + 1)).set p (c1 : Int) := by
      have := chg_succ X z p 0 (l + 1 + 1) (by omega)
      rw [chg_zero] at this
      rw [this, HX.out.2.1]
      congr 2
      rw [hz]
      show X p ^^^ (X p ^^^ X (p + 1)) = X (p + 1)
      rw [← Nat.xor_assoc, Nat.xor_self, Nat.zero_xor]
    have e2 : bs (chg X z p 2) (l + 1 + 1) = (bs (chg X z p 1) (l + 1 + 1)).set (p + 1) (c0 : Int) := by
      rw [chg_succ X z p 1 (l + 1 + 1) (by omega), HX.out.1]
      congr 2
      rw [hz]
      show X (p + 1) ^^^ (X p ^^^ X (p + 1)) = X p
      rw [Nat.xor_comm (X p), ← Nat.xor_assoc, Nat.xor_self, Nat.zero_xor]
    obtain ⟨s1, g1⟩ := HR.out.1.set p c1
    rw [← e1] at s1
    obtain ⟨s2, g2⟩ := s1.set (p + 1) c0
    rw [← e2] at s2
    rw [hw3]
    refine ⟨World.ownsRow.drew s2, Below.drew ?_⟩
    have b1 := HR.out.2.1.trans (grown_below HR.out.1 g1 HR.out.2.1.size)
    exact b1.trans (grown_below s1 g2 b1.size)
  rw [← hw3]
  have hsc := sumRow (l := bl (chg X z p 2) (l + 1 + 1)) (by rw [← bs_ints]; exact hr3.1) (fun x hx => by obtain ⟨j, hj, rfl⟩ := bl_mem hx; exact chg_lt hX8 hz8 j hj)
  have htl := tells X z p 2 (l + 1 + 1) (by decide) (by omega) hX8 hz8
  have hSC : ∀ w, Below w3.heap.size w3 w → Calls Try.prog 8 #[.slice (some ⟨g, 0, none⟩) (l + 1 + 1) cap2] w fun e w' => e = .returned (.int .u32 (more 0 (bl (chg X z p 2) (l + 1 + 1)) : Nat)) ∧ w' = w := fun w hb => by
    have h8 : ∀ x ∈ bl (chg X z p 2) (l + 1 + 1), x < 256 := fun x hx => by obtain ⟨j, hj, rfl⟩ := bl_mem hx; exact chg_lt hX8 hz8 j hj
    have hr := hr3.1
    rw [bs_ints] at hr
    obtain ⟨ao, cp, hv, _, q2, q3, q4⟩ := hr.byt (okb_ints h8)
    rw [ints_length, bl_length] at hv q2 q4
    cases hv
    have := sum_any _ _ cap2 _ w (q4.later hb) (by omega)
    have e := bl_xof (bl (chg X z p 2) (l + 1 + 1))
    rw [bl_length] at e
    rw [e] at this
    exact this
  have hSB : ∀ w, Below w3.heap.size w3 w → Calls Try.prog 8 #[.slice (some ⟨b1, off1, none⟩) (l + 1 + 1) cap] w fun e w' => e = .returned (.int .u32 (more 0 (bl X (l + 1 + 1)) : Nat)) ∧ w' = w := fun w hb =>
    sum_any _ _ cap X w (HA.out.1.later (hr3.2.trans (hb.mono hr3.2.size))) (by have := HA.out; omega)
  have hb8 : ∀ x ∈ bl X (l + 1 + 1), x < 256 := fun x hx => by obtain ⟨j, hj, rfl⟩ := bl_mem hx; exact hX8 j hj
  have hb80 : ∀ x ∈ bl X (l + 1 + 1) ++ [0], x < 256 := fun x hx => by
    rcases List.mem_append.1 hx with q | q
    · exact hb8 x q
    · simp at q; omega
  have hSA : ∀ w v, Row w3.heap.size w v ([] ++ bs X (l + 1 + 1) ++ [0]) → Calls Try.prog 8 #[v] w fun e w' => e = .returned (.int .u32 (more 0 (bl X (l + 1 + 1) ++ [0]) : Nat)) ∧ w' = w := fun w v hr =>
    sumRow (l := bl X (l + 1 + 1) ++ [0]) (by rw [ints_app, ← bs_ints]; exact hr) hb80
  have hSM : ∀ w v, Row w3.heap.size w v [0] → Calls Try.prog 10 #[.int .u32 (more 0 (bl X (l + 1 + 1)) : Nat), v] w fun e w' => e = .returned (.int .u32 (more 0 (bl X (l + 1 + 1) ++ [0]) : Nat)) ∧ w' = w := fun w v hr => by
    have := moreRow (l := [0]) (more 0 (bl X (l + 1 + 1))) (more_lt (by decide) hb8) hr (by simp)
    rw [more_append] at this
    exact this
  have HC : Hid (∀ w, Below w3.heap.size w3 w → w.cell? ⟨b1, off1 + p, none⟩ = some (.int .u8 (c0 : Int)) ∧ w.cell? ⟨b1, off1 + (p + 1), none⟩ = some (.int .u8 (c1 : Int))) := fun w hb => by
    have hB := hr3.2.trans (hb.mono hr3.2.size)
    have hby := HA.out.1.later hB
    obtain ⟨_, b, off, e, k⟩ := hby p (by omega)
    cases e
    obtain ⟨_, b, off, e, k'⟩ := hby (p + 1) (by omega)
    cases e
    rw [HX.out.1, HX.out.2.1]
    exact ⟨k, k'⟩
  obtain ⟨SC, hSCe⟩ : ∃ s, s = more 0 (bl (chg X z p 2) (l + 1 + 1)) := ⟨_, rfl⟩
  obtain ⟨SB, hSBe⟩ : ∃ s, s = more 0 (bl X (l + 1 + 1)) := ⟨_, rfl⟩
  obtain ⟨SA, hSAe⟩ : ∃ s, s = more 0 (bl X (l + 1 + 1) ++ [0]) := ⟨_, rfl⟩
  rw [← hSCe] at hSC htl
  rw [← hSBe] at hSB hSM htl
  rw [← hSAe] at hSA hSM
  have HS : Hid ((∀ w, Below w3.heap.size w3 w → Calls Try.prog 8 #[.slice (some ⟨g, 0, none⟩) (l + 1 + 1) cap2] w fun e w' => e = .returned (.int .u32 (SC : Int)) ∧ w' = w) ∧ (∀ w, Below w3.heap.size w3 w → Calls Try.prog 8 #[.slice (some ⟨b1, off1, none⟩) (l + 1 + 1) cap] w fun e w' => e = .returned (.int .u32 (SB : Int)) ∧ w' = w) ∧ (∀ w v, Row w3.heap.size w v ([] ++ bs X (l + 1 + 1) ++ [0]) → Calls Try.prog 8 #[v] w fun e w' => e = .returned (.int .u32 (SA : Int)) ∧ w' = w) ∧ (∀ w v, Row w3.heap.size w v [0] → Calls Try.prog 10 #[.int .u32 (SB : Int), v] w fun e w' => e = .returned (.int .u32 (SA : Int)) ∧ w' = w)) := ⟨hSC, hSB, hSA, hSM⟩
  obtain ⟨E, hE2⟩ : ∃ E : Bool, ((c0 : Int) == (c1 : Int)) = E := ⟨_, rfl⟩
  have hE1 : ((SC : Int) == (SB : Int)) = E := by
    have hzz : (∀ j, j < 2 → z j = 0) ↔ c0 = c1 := by
      rw [HX.out.1, HX.out.2.1, hz]
      constructor
      · intro h
        have h1 : X p ^^^ X (p + 1) = 0 := h 0 (by decide)
        have h2 := congrArg (X p ^^^ ·) h1
        simp only [← Nat.xor_assoc, Nat.xor_self, Nat.zero_xor, Nat.xor_zero] at h2
        exact h2.symm
      · intro h j _
        show X p ^^^ X (p + 1) = 0
        rw [h, Nat.xor_self]
    rw [hzz] at htl
    rw [← hE2]
    by_cases q : c0 = c1
    · rw [htl.2 q, q]
      simp
    · have q' : ¬ SC = SB := fun e => q (htl.1 e)
      have a1 : ((SC : Int) == (SB : Int)) = false := by simp; omega
      have a2 : ((c0 : Int) == (c1 : Int)) = false := by simp; omega
      rw [a1, a2]
  have HB : Hid (Byt w3 (some ⟨b1, off1, none⟩) (l + 1 + 1) X ∧ l + 1 + 1 ≤ 140737488351232) := ⟨HA.out.1.later hr3.2, HA.out.2.2.2⟩
  have HBW : Hid (Below W.heap.size W w3) := hr3.2
  clear hsc htl hSC hSB hb8 hb80 hSA hSM hSCe hSBe hSAe hr3 hw3 hz8 hz hX8 k0 k1 f0 f1 H1 HX HR
  have hp1 : (p : Int) < (l : Int) + 1 + 1 := by omega
  have hp3 : IntKind.i64.wrap ((p : Int) + 1) = (p : Int) + 1 := by rw [IntKind.wrap_i64]; omega
  have hp2 : (p : Int) + 1 < (l : Int) + 1 + 1 := hpI2
  have hp4 : ((p : Int) + 1).toNat = p + 1 := by omega
  have hp5 : ¬ (p : Int) + 1 < 0 := by omega
  refine wp_region_steps (by kernel_rfl) (by decide +kernel) 69 rfl (by decide +kernel) (k6 w3.heap.size (.slice (some ⟨g, 0, none⟩) (l + 1 + 1) cap2) (.slice (some ⟨b1, off1, none⟩) (l + 1 + 1) cap) SC SB SA E p b1 off1 c0 c1 (bs X (l + 1 + 1))) ?_ (by kernel_rfl) ?_ ?_
  · simp [k6, okKind, keeps_row]
  rotate_left
  · intro a w' hd hbel hv
    rename_i hk
    refine hk a w' ?_
    have h4 : a.eval (.tmp 4) = .bool true := hv 32 _ (by decide) rfl
    have h4' : a.tmps[4]?.getD undef = .bool true := by simpa [Act.eval] using h4
    go_wp2
    exact bodyPost_ret (v := .bool true) (by simp [results, Try.results7, go_sem, h4']) hd ⟨rfl, HBW.out.trans (hbel.mono HBW.out.size)⟩
  -- 0: slot 37
  refine ⟨fun a w c => ?_, ?_⟩
  · exact goal_move (c.want0 rfl) (.tmp 5) (.inl rfl) ((c.old 5 rfl).trans rfl) rfl
  -- 1: slot 38
  refine ⟨fun a w c => ?_, ?_⟩
  · have hw := c.want0 rfl
    have e37 : a.eval (.tmp 37) = _ := c.val 0 _ rfl rfl
    exact goal_fn hw rfl (by simp only [List.map_toArray, List.map_cons, List.map_nil, e37]) (by kernel_rfl) ((HS.out.1 w c.below).mono fun e w' ⟨he, hw'⟩ => ⟨_, he, out_call rfl (by rw [hw']; exact Below.refl _ _)⟩)
  -- 2: slot 39
  refine ⟨fun a w c => ?_, ?_⟩
  · exact goal_move (c.want0 rfl) (.tmp 0) (.inl rfl) ((c.old 0 rfl).trans rfl) rfl
  -- 3: slot 40
  refine ⟨fun a w c => ?_, ?_⟩
  · have hw := c.want0 rfl
    have e39 : a.eval (.tmp 39) = _ := c.val 2 _ rfl rfl
    exact goal_fn hw rfl (by simp only [List.map_toArray, List.map_cons, List.map_nil, e39]) (by kernel_rfl) ((HS.out.2.1 w c.below).mono fun e w' ⟨he, hw'⟩ => ⟨_, he, out_call rfl (by rw [hw']; exact Below.refl _ _)⟩)
  -- 4: slot 41
  refine ⟨fun a w c => ?_, ?_⟩
  · have hw := c.want0 rfl
    have e38 : a.eval (.tmp 38) = _ := c.val 1 _ rfl rfl
    have e40 : a.eval (.tmp 40) = _ := c.val 3 _ rfl rfl
    exact goal_val hw (by generalize a.eval = ρ at e38 e40 ⊢; simp [execOp, go_sem, e38, e40, hE1]) rfl
  -- 5: slot 42
  refine ⟨fun a w c => ?_, ?_⟩
  · exact goal_move (c.want0 rfl) (.tmp 0) (.inl rfl) ((c.old 0 rfl).trans rfl) rfl
  -- 6: slot 43
  refine ⟨fun a w c => ?_, ?_⟩
  · exact goal_move (c.want0 rfl) (.tmp 1) (.inl rfl) ((c.old 1 rfl).trans rfl) rfl
  -- 7: slot 44
  refine ⟨fun a w c => ?_, ?_⟩
  · have hw := c.want0 rfl
    have e42 : a.eval (.tmp 42) = _ := c.val 5 _ rfl rfl
    have e43 : a.eval (.tmp 43) = _ := c.val 6 _ rfl rfl
    exact goal_val hw (by generalize a.eval = ρ at e42 e43 ⊢; simp [execOp, go_sem, e42, e43, hp1]) rfl
  -- 8: slot 45
  refine ⟨fun a w c => ?_, ?_⟩
  · have hw := c.want0 rfl
    have e44 : a.eval (.tmp 44) = _ := c.val 7 _ rfl rfl
    have hcl := (HC.out w c.below).1
    exact goal_val hw (by generalize a.eval = ρ at e44 ⊢; simp [execOp, go_sem, e44, hcl]) rfl
  -- 9: slot 46
  refine ⟨fun a w c => ?_, ?_⟩
  · exact goal_move (c.want0 rfl) (.tmp 0) (.inl rfl) ((c.old 0 rfl).trans rfl) rfl
  -- 10: slot 47
  refine ⟨fun a w c => ?_, ?_⟩
  · exact goal_move (c.want0 rfl) (.tmp 1) (.inl rfl) ((c.old 1 rfl).trans rfl) rfl
  -- 11: slot 48
  refine ⟨fun a w c => ?_, ?_⟩
  · have hw := c.want0 rfl
    have e47 : a.eval (.tmp 47) = _ := c.val 10 _ rfl rfl
    have ec : a.eval (.const (.int .i64 1)) = .int .i64 1 := rfl
    exact goal_val hw (by generalize a.eval = ρ at e47 ec ⊢; simp [execOp, go_sem, e47, ec, hp3]) rfl
  -- 12: slot 49
  refine ⟨fun a w c => ?_, ?_⟩
  · have hw := c.want0 rfl
    have e46 : a.eval (.tmp 46) = _ := c.val 9 _ rfl rfl
    have e48 : a.eval (.tmp 48) = _ := c.val 11 _ rfl rfl
    exact goal_val hw (by generalize a.eval = ρ at e46 e48 ⊢; simp [execOp, go_sem, e46, e48, hp2, hp4, hp5]) rfl
  -- 13: slot 50
  refine ⟨fun a w c => ?_, ?_⟩
  · have hw := c.want0 rfl
    have e49 : a.eval (.tmp 49) = _ := c.val 12 _ rfl rfl
    have hcl := (HC.out w c.below).2
    exact goal_val hw (by generalize a.eval = ρ at e49 ⊢; simp [execOp, go_sem, e49, hcl]) rfl
  -- 14: slot 51
  refine ⟨fun a w c => ?_, ?_⟩
  · have hw := c.want0 rfl
    have e45 : a.eval (.tmp 45) = _ := c.val 8 _ rfl rfl
    have e50 : a.eval (.tmp 50) = _ := c.val 13 _ rfl rfl
    exact goal_val hw (by generalize a.eval = ρ at e45 e50 ⊢; simp [execOp, go_sem, e45, e50, hE2]) rfl
  -- 15: slot 52
  refine ⟨fun a w c => ?_, ?_⟩
  · have e41 : a.eval (.tmp 41) = _ := c.val 4 _ rfl rfl
    have e51 : a.eval (.tmp 51) = _ := c.val 14 _ rfl rfl
    exact goal_val (c.want0 rfl) (by generalize a.eval = ρ at e41 e51 ⊢; simp [execOp, go_sem, e41, e51]) rfl
  -- 16: slot 53
  refine ⟨fun a w c => ?_, ?_⟩
  · exact goal_move (c.want0 rfl) (.tmp 52) (.inl rfl) (c.val 15 _ rfl rfl) rfl
  -- 17: slot 54
  refine ⟨fun a w c => ?_, ?_⟩
  · have hw := c.want 16 true rfl rfl rfl
    exact goal_empty hw rfl c.below.size rfl
  -- 18: slot 55
  refine ⟨fun a w c => ?_, ?_⟩
  · exact goal_move (c.want 16 true rfl rfl rfl) (.tmp 0) (.inl rfl) ((c.old 0 rfl).trans rfl) rfl
  -- 19: slot 56
  refine ⟨fun a w c => ?_, ?_⟩
  · have hw := c.want 16 true rfl rfl rfl
    exact goal_app (j := 17) hw rfl rfl (by decide) rfl (c.row 17 _ _ rfl rfl (.inr rfl)) (c.val 18 _ rfl rfl) (fun e => by cases e) (HB.out.1.later c.below) (by have := HB.out; simp; omega) c.below.size rfl
  -- 20: slot 57
  refine ⟨fun a w c => ?_, ?_⟩
  · have hw := c.want 16 true rfl rfl rfl
    exact goal_one hw rfl c.below.size rfl
  -- 21: slot 58
  refine ⟨fun a w c => ?_, ?_⟩
  · have hw := c.want 16 true rfl rfl rfl
    have h20 := c.row 20 _ _ rfl rfl (.inl rfl)
    obtain ⟨ao2, cap2, hv2, hn2, _, _, hb2⟩ := h20.byt okb_zero
    exact goal_app' (j := 19) hw rfl rfl (by decide) rfl (c.row 19 _ _ rfl rfl (.inr rfl)) hv2 hn2 hb2 bs_zero (by have := HB.out; simp [bs_length]; omega) c.below.size rfl
  -- 22: slot 59
  refine ⟨fun a w c => ?_, ?_⟩
  · have hw := c.want 16 true rfl rfl rfl
    have hr : Row w3.heap.size w (a.eval (.tmp 58)) ([] ++ bs X (l + 1 + 1) ++ [0]) := c.row 21 _ _ rfl rfl (.inl rfl)
    exact goal_fn (args := #[a.eval (.tmp 58)]) hw rfl (by simp) (by kernel_rfl) ((HS.out.2.2.1 w _ hr).mono fun e w' ⟨he, hw'⟩ => ⟨_, he, out_call rfl (by rw [hw']; exact Below.refl _ _)⟩)
  -- 23: slot 60
  refine ⟨fun a w c => ?_, ?_⟩
  · exact goal_move (c.want 16 true rfl rfl rfl) (.tmp 0) (.inl rfl) ((c.old 0 rfl).trans rfl) rfl
  -- 24: slot 61
  refine ⟨fun a w c => ?_, ?_⟩
  · have hw := c.want 16 true rfl rfl rfl
    have e60 : a.eval (.tmp 60) = _ := c.val 23 _ rfl rfl
    exact goal_fn hw rfl (by simp only [List.map_toArray, List.map_cons, List.map_nil, e60]) (by kernel_rfl) ((HS.out.2.1 w c.below).mono fun e w' ⟨he, hw'⟩ => ⟨_, he, out_call rfl (by rw [hw']; exact Below.refl _ _)⟩)
  -- 25: slot 62
  refine ⟨fun a w c => ?_, ?_⟩
  · have hw := c.want 16 true rfl rfl rfl
    exact goal_one hw rfl c.below.size rfl
  -- 26: slot 63
  refine ⟨fun a w c => ?_, ?_⟩
  · have hw := c.want 16 true rfl rfl rfl
    have hr : Row w3.heap.size w (a.eval (.tmp 62)) [0] := c.row 25 _ _ rfl rfl (.inl rfl)
    have e61 : a.eval (.tmp 61) = _ := c.val 24 _ rfl rfl
    exact goal_fn (args := #[.int .u32 (SB : Int), a.eval (.tmp 62)]) hw rfl (by simp only [List.map_toArray, List.map_cons, List.map_nil, e61]) (by kernel_rfl) ((HS.out.2.2.2 w _ hr).mono fun e w' ⟨he, hw'⟩ => ⟨_, he, out_call rfl (by rw [hw']; exact Below.refl _ _)⟩)
  -- 27: slot 64
  refine ⟨fun a w c => ?_, ?_⟩
  · have e59 : a.eval (.tmp 59) = _ := c.val 22 _ rfl rfl
    have e63 : a.eval (.tmp 63) = _ := c.val 26 _ rfl rfl
    exact goal_val (c.want 16 true rfl rfl rfl) (by generalize a.eval = ρ at e59 e63 ⊢; simp [execOp, go_sem, e59, e63]) rfl
  -- 28: slot 65
  refine ⟨fun a w c => ?_, ?_⟩
  · have e53 : a.eval (.tmp 53) = _ := c.val 16 _ rfl rfl
    have e64 : a.eval (.tmp 64) = _ := c.val 27 _ rfl rfl
    exact goal_val (c.want0 rfl) (by generalize a.eval = ρ at e53 e64 ⊢; simp [execOp, go_sem, e53, e64]) rfl
  -- 29: slot 66
  refine ⟨fun a w c => ?_, ?_⟩
  · exact goal_move (c.want0 rfl) (.tmp 65) (.inl rfl) (c.val 28 _ rfl rfl) rfl
  -- 30: slot 67
  refine ⟨fun a w c => ?_, ?_⟩
  · have hw := c.want 29 true rfl rfl rfl
    exact goal_fn (args := #[]) hw rfl (by simp) (by kernel_rfl) ((awake_any w).mono fun e w' ⟨he, hb⟩ => ⟨_, he, out_call rfl hb⟩)
  -- 31: slot 68
  refine ⟨fun a w c => ?_, ?_⟩
  · have e66 : a.eval (.tmp 66) = _ := c.val 29 _ rfl rfl
    have e67 : a.eval (.tmp 67) = _ := c.val 30 _ rfl rfl
    exact goal_val (c.want0 rfl) (by generalize a.eval = ρ at e66 e67 ⊢; simp [execOp, go_sem, e66, e67]) rfl
  -- 32: slot 4
  refine ⟨fun a w c => ?_, ?_⟩
  · exact goal_move (c.want0 rfl) (.tmp 68) (.inr rfl) (c.val 31 _ rfl rfl) rfl
  exact True.intro
end Go.Proofs.Ytidkibefjcjkfaa
