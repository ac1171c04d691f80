import Derived.Test.YtifgojkmdicdmaaPk08
import Derived.Test.YtifgojkmdicdmaaPk11
import Derived.Test.YtifgojkmdicdmaaPk27
import Derived.Test.YtifgojkmdicdmaaPk28
/- The landed block: a key, taken from bytes. -/
namespace Go.Proofs.Ytifgojkmdicdmaa
open Go.RowKit
set_option linter.unusedVariables false
set_option linter.unusedSimpArgs false

/-- Two rows of bytes in a new row. -/
theorem rb2_k {w : World} {a1 a2 : Option Addr} {m1 m2 c1 c2 : Nat} {x1 x2 : List Int} (h1 : Sl w a1 m1 c1 x1) (h2 : Sl w a2 m2 c2 x2) :
    RB (w.alloc (.cells #[.slice a1 m1 c1, .slice a2 m2 c2] 25)) (some ⟨w.heap.size, 0, none⟩) 2 2 [x1, x2] := by
  have hb : Below w.heap.size w (w.alloc (.cells #[.slice a1 m1 c1, .slice a2 m2 c2] 25)) := (Below.refl _ w).alloc (Nat.le_refl _) _
  refine ⟨rfl, (fun q => by cases q), Nat.le_refl _, by unfold maxLen; omega, fun i r hr => ?_⟩
  have hc : ∀ j, (w.alloc (.cells #[.slice a1 m1 c1, .slice a2 m2 c2] 25)).cell? ⟨w.heap.size, 0 + j, none⟩ = #[Value.slice a1 m1 c1, .slice a2 m2 c2][j]? := fun j => by
    rw [Nat.zero_add]
    exact cell_of_row _ _ _ _ _ _ (heap_alloc_new w _)
  match i, hr with
  | 0, hr => obtain rfl : x1 = r := by simpa using hr
             exact ⟨_, _, a1, c1, rfl, by rw [hc, h1.1]; rfl, by rw [h1.1]; exact h1.later hb⟩
  | 1, hr => obtain rfl : x2 = r := by simpa using hr
             exact ⟨_, _, a2, c2, rfl, by rw [hc, h2.1]; rfl, by rw [h2.1]; exact h2.later hb⟩
  | n + 2, hr => simp at hr
theorem nmL_le (d : List Int) : (nmL d).1 ≤ 4611686018427387904 := rdN_le
theorem nmL_len (d : List Int) : (nmL d).2.1.length ≤ d.length := rdN_len (s := (d, 0))

set_option maxHeartbeats 4000000 in
set_option maxRecDepth 100000 in
theorem tkey_k {w : World} {ao ka : Option Addr} {len cap kl kc : Nat} {d key : List Int} (h : Sl w ao len cap d) (hl : len ≤ 175921860444160) (hk : Sl w ka kl kc key) (hkl : kl ≤ 512) :
    Calls Try.prog 56 #[.slice ao len cap, .slice ka kl kc] w fun e w' => ∃ v r, e = .returned (.tuple #[v, r, .int .i64 ((kE key d).1 : Nat)]) ∧ Row w.heap.size w' v (kE key d).2.1 ∧ Rests ao len cap d r (kE key d).2.2 ∧ Below w.heap.size w w' := by
  have hn1 := tnum_k h
  have HS : Hid (Sl w ao len cap d ∧ Sl w ka kl kc key ∧ len ≤ 175921860444160) := ⟨h, hk, hl⟩
  have hkc : kl ≤ kc := hk.2.2.2.1
  have hkey : key.length = kl := hk.1
  have hl1 := nmL_le d
  have hll := nmL_len d
  have hdl : d.length = len := h.1
  unfold kE
  rw [hkey]
  obtain ⟨⟨n1, l1, e1⟩, hF⟩ : ∃ x, nmL d = x := ⟨_, rfl⟩
  rw [hF] at hn1 hl1 hll ⊢
  simp only at hn1 hl1 hll ⊢
  have hn63 : n1 ≤ 2 ^ 63 - 1 := by omega
  have hk62 : kl ≤ 2 ^ 61 := by omega
  clear h hk hF
  by_cases q1 : e1 = 0
  · subst q1
    rw [if_neg (by simp)]
    rw [show rst (l1, 0) = l1 from rfl] at hn1
    by_cases q2 : kl < n1
    · rw [if_pos q2]
      have c1 : (kl : Int) < (n1 : Int) := by omega
      clear q2 hl1 hll hkc hkey hdl hl
      go_enter Try.func56, Try.ntmps56
      go_wp2_with (go_at_call 57; refine hn1.mono ?_; rintro e w1 ⟨r1, rfl, s1, b1⟩)
      exact bodyPost_ret (v := .tuple #[.slice none 0 0, .slice none 0 0, .int .i64 3]) (by simp [results, Try.results56, go_sem]) rfl ⟨_, _, rfl, Row.nil _ _, Rests.nil _ _ _ _, b1⟩
    · rw [if_neg q2]
      have c1 : (n1 : Int) ≤ (kl : Int) := by omega
      have m1 := nmL_le l1
      have m2 := nmL_len l1
      have HN2 : Hid (∀ {wx a c}, Sl wx a l1.length c l1 → Calls Try.prog 57 #[.slice a l1.length c] wx fun e w' => ∃ v, e = .returned (.tuple #[.int .i64 ((nmL l1).1 : Nat), v, .int .i64 ((nmL l1).2.2 : Nat)]) ∧ Rests a l1.length c l1 v (rst (nmL l1).2) ∧ Below wx.heap.size wx w') := fun {wx a c} hs => tnum_k hs
      obtain ⟨⟨n2, l2, e2⟩, hF2⟩ : ∃ x, nmL l1 = x := ⟨_, rfl⟩
      rw [hF2] at HN2 m1 m2 ⊢
      simp only at HN2 m1 m2 ⊢
      have hn2 : n2 ≤ 2 ^ 63 - 1 := by omega
      have HWR : Hid (wrap64 ((n1 : Int) + (n2 : Int)) = (n1 : Int) + (n2 : Int)) := by show _ = _; unfold wrap64; omega
      have hl162 : l1.length ≤ 2 ^ 62 := by omega
      have hl262 : l2.length ≤ 2 ^ 62 := by omega
      clear hF2
      by_cases q3 : e2 = 0
      · subst q3
        rw [if_neg (by simp)]
        rw [show rst (l2, 0) = l2 from rfl] at HN2
        by_cases q4 : 512 < n1 + n2
        · rw [if_pos q4]
          have c4 : (512 : Int) < (n1 : Int) + (n2 : Int) := by omega
          clear q4 q2 hl1 hll hkc hkey hdl hl m1 m2
          go_enter Try.func56, Try.ntmps56
          go_upto_region 6 with (go_at_call 57; refine hn1.mono ?_; rintro e w1 ⟨r1, rfl, s1, b1⟩)
          obtain ⟨a1, c1', hr1, K1⟩ := s1 _ HS.out.1
          subst hr1
          have hN2 := HN2.out (K1.later b1)
          have hw := HWR.out
          go_wp2_with (go_at_call 57; refine hN2.mono ?_; rintro e w2 ⟨r2, rfl, s2, b2⟩)
          exact bodyPost_ret (v := .tuple #[.slice none 0 0, .slice none 0 0, .int .i64 2]) (by simp [results, Try.results56, go_sem]) rfl ⟨_, _, rfl, Row.nil _ _, Rests.nil _ _ _ _, b1.trans (b2.mono b1.size)⟩
        · rw [if_neg q4]
          have c4 : (n1 : Int) + (n2 : Int) ≤ 512 := by omega
          have c44 : ¬ ((512 : Int) < (n1 : Int) + (n2 : Int)) := by omega
          by_cases q5 : l2.length < n2
          · rw [if_pos q5]
            have c5 : (l2.length : Int) < (n2 : Int) := by omega
            clear q5 q4 q2 hl1 hll hkc hkey hdl hl m1 m2
            go_enter Try.func56, Try.ntmps56
            go_upto_region 6 with (go_at_call 57; refine hn1.mono ?_; rintro e w1 ⟨r1, rfl, s1, b1⟩)
            obtain ⟨a1, c1', hr1, K1⟩ := s1 _ HS.out.1
            subst hr1
            have hN2 := HN2.out (K1.later b1)
            have HSS := hid (And.intro s1 b1)
            go_upto_region 9 with (go_at_call 57; refine hN2.mono ?_; rintro e w2 ⟨r2, rfl, s2, b2⟩)
            obtain ⟨a2, c2, hr2, K2⟩ := s2 _ K1
            subst hr2
            have hw := HWR.out
            go_wp2_with fail
            exact bodyPost_ret (v := .tuple #[.slice none 0 0, .slice none 0 0, .int .i64 5]) (by simp [results, Try.results56, go_sem]) rfl ⟨_, _, rfl, Row.nil _ _, Rests.nil _ _ _ _, b1.trans (b2.mono b1.size)⟩
          · rw [if_neg q5]
            have c5 : (n2 : Int) ≤ (l2.length : Int) := by omega
            have hsk := HS.out.2.1.upto0 n1 (by omega)
            have hcu := run_uptoK .i64 ka kl kc n1 (by omega)
            generalize cutA ka kc 0 = k0 at hsk hcu
            have HX : Hid (n2 ≤ l2.length ∧ n1 + n2 ≤ 512) := ⟨by omega, by omega⟩
            have HSK := hid hsk
            clear q5 q4 q2 hl1 hll hkc hkey hdl hl m1 m2 hsk
            go_enter Try.func56, Try.ntmps56
            go_upto_region 6 with (go_at_call 57; refine hn1.mono ?_; rintro e w1 ⟨r1, rfl, s1, b1⟩)
            obtain ⟨a1, c1', hr1, K1⟩ := s1 _ HS.out.1
            subst hr1
            have hN2 := HN2.out (K1.later b1)
            have HSS := hid (And.intro s1 b1)
            have HK1 := hid K1
            clear hn1 s1 b1 K1
            go_upto_region 9 with (go_at_call 57; refine hN2.mono ?_; rintro e w2 ⟨r2, rfl, s2, b2⟩)
            obtain ⟨a2, c2, hr2, K2⟩ := s2 _ HK1.out
            subst hr2
            have hb2 := HSS.out.2.trans (b2.mono HSS.out.2.size)
            have HR2 := hid (HSS.out.1.trans s2)
            have HB2 := hid hb2
            have hcv := run_uptoK .i64 a2 l2.length c2 n2 (by have := HX.out; have := K2.2.2.2.1; omega)
            have hcw := fun w => run_from w a2 l2.length c2 n2 HX.out.1 K2.2.2.2.1
            have HF : Hid (Rests a2 l2.length c2 l2 (.slice (cutA a2 c2 n2) (l2.length - n2) (c2 - n2)) (l2.drop n2)) := Rests.from n2 HX.out.1 rfl
            have HSV := hid ((K2.later hb2).upto0 n2 HX.out.1)
            have HSK2 := hid (HSK.out.later hb2)
            clear hN2 s2 b2 K2 HSS hb2 HSK
            generalize cutA a2 c2 0 = v0 at hcv HSV
            generalize hL2 : l2.length = L2 at *
            generalize cutA a2 c2 n2 = v1 at hcw HF
            generalize L2 - n2 = L3 at hcw HF
            have hw := HWR.out
            go_upto_region 13 with fail
            clear hw
            have hcc : Calls Try.prog 25 #[.slice (some ⟨w2.heap.size, 0, none⟩) 2 2] (w2.alloc (.cells #[.slice k0 n1 kc, .slice v0 n2 c2] 25)).drew fun e w' => ∃ v, e = .returned v ∧ Row w2.heap.size w' v (key.take n1 ++ l2.take n2) ∧ Below w2.heap.size w2 w' := by
              have ht : tot [key.take n1, l2.take n2] ≤ 175921860444160 := by
                have h1 := HX.out
                have h2 := HSK2.out.1
                have h3 := HSV.out.1
                unfold tot
                simp only [List.flatten_cons, List.flatten_nil, List.append_nil, List.length_append]
                omega
              have hb : Below w2.heap.size w2 (w2.alloc (.cells #[.slice k0 n1 kc, .slice v0 n2 c2] 25)) := (Below.refl _ _).alloc (Nat.le_refl _) _
              have hrb := (rb2_k HSK2.out HSV.out).later ((Below.refl (w2.alloc (.cells #[.slice k0 n1 kc, .slice v0 n2 c2] 25)).heap.size _).drew)
              refine (concat_any hrb ht).mono ?_
              rintro e w' ⟨v, he, hr, hb'⟩
              have bb := hb.drew
              have hr2 := hr.base bb.size
              simp only [List.flatten_cons, List.flatten_nil, List.append_nil] at hr2
              exact ⟨v, he, hr2, bb.trans (hb'.mono bb.size)⟩
            clear HSK2 HSV HK1 HX HWR HN2 HS hL2 c1 c4 c44 hk62 hl162 hl262 hn2 hn63
            go_region_held_law (fun w' => True) (exact trivial) (first | (refine step_fn 25 (args := #[.slice (some ⟨w2.heap.size, 0, none⟩) 2 2]) rfl rfl (by simp [Act.eval, Act.put]) (by kernel_rfl) hcc ?_; rintro e w3 ⟨v3, rfl, r3, b3⟩; refine ⟨_, rfl, ?_⟩))
            go_wp2_with fail
            exact bodyPost_ret (v := .tuple #[v3, .slice v1 L3 (c2 - n2), .int .i64 0]) (by simp [results, Try.results56, go_sem]) rfl ⟨v3, _, rfl, r3.base HB2.out.size, HR2.out.trans HF.out, HB2.out.trans (b3.mono HB2.out.size)⟩
      · rw [if_pos q3]
        have hne : ((e2 : Int) != 0) = true := by simp; omega
        clear q3 q2 hl1 hll hkc hkey hdl hl m1 m2
        go_enter Try.func56, Try.ntmps56
        go_upto_region 6 with (go_at_call 57; refine hn1.mono ?_; rintro e w1 ⟨r1, rfl, s1, b1⟩)
        obtain ⟨a1, c1', hr1, K1⟩ := s1 _ HS.out.1
        subst hr1
        have hN2 := HN2.out (K1.later b1)
        go_wp2_with (go_at_call 57; refine hN2.mono ?_; rintro e w2 ⟨r2, rfl, s2, b2⟩)
        exact bodyPost_ret (v := .tuple #[.slice none 0 0, .slice none 0 0, .int .i64 (e2 : Nat)]) (by simp [results, Try.results56, go_sem]) rfl ⟨_, _, rfl, Row.nil _ _, Rests.nil _ _ _ _, b1.trans (b2.mono b1.size)⟩
  · rw [if_pos q1]
    have hne : ((e1 : Int) != 0) = true := by simp; omega
    clear q1 hl1 hll hkc hkey hdl hl
    go_enter Try.func56, Try.ntmps56
    go_wp2_with (go_at_call 57; refine hn1.mono ?_; rintro e w1 ⟨r1, rfl, s1, b1⟩)
    exact bodyPost_ret (v := .tuple #[.slice none 0 0, .slice none 0 0, .int .i64 (e1 : Nat)]) (by simp [results, Try.results56, go_sem]) rfl ⟨_, _, rfl, Row.nil _ _, Rests.nil _ _ _ _, b1⟩
end Go.Proofs.Ytifgojkmdicdmaa

/- The landed block: an entry, taken from bytes. -/
namespace Go.Proofs.Ytifgojkmdicdmaa
open Go.RowKit
set_option linter.unusedVariables false
set_option linter.unusedSimpArgs false

/-- As Q; by a goto: J of its label. -/
def jumpsE (J : Nat → Act → World → Prop) (Q : Exit → Act → World → Prop) : Exit → Act → World → Prop
  | .goto l, a, w => J l a w
  | e, a, w => Q e a w
/-- A scope out of which the run jumps forward, to labels of its own. -/
theorem wp_scope_fwd {P : Program} {a : Act} {w : World} {Q : Exit → Act → World → Prop} {c : Code} (J : Nat → Act → World → Prop) (first : c.wp P (jumpsE J Q) a w)
    (pass : ∀ l a w, J l a w → ∃ r, findLabel c l = some r ∧ r.wp P (Exit.noGoto Q) a w) : (Code.scope c).wp P Q a w := by
  intro b k cs
  obtain ⟨e, a₁, w₁, hq, harr⟩ := first b (.inScope c :: k) cs
  cases e with
  | normal => exact ⟨.normal, a₁, w₁, hq, .head step_scope (Steps.trans harr (.one step_inScope))⟩
  | exit id => exact ⟨.exit id, a₁, w₁, hq, fun k' hk => .head step_scope (harr k' (by simp [exitTo, hk]))⟩
  | goto l' =>
    obtain ⟨r, hf, hr⟩ := pass l' a₁ w₁ hq
    have hg : gotoIn l' (.inScope c :: k) = some (.code r :: .inScope c :: k) := by simp [gotoIn, hf]
    have key : ∃ e a' w', Q e a' w' ∧ Arrives P (lone (b.at a₁ (.code r :: .inScope c :: k)) cs w₁) b k cs e a' w' := by
      obtain ⟨e₂, a₂, w₂, hq₂, harr₂⟩ := hr b (.inScope c :: k) cs
      cases e₂ with
      | normal => exact ⟨.normal, a₂, w₂, hq₂, Steps.trans harr₂ (.one step_inScope)⟩
      | exit id => exact ⟨.exit id, a₂, w₂, hq₂, fun k' hk => harr₂ k' (by simp [exitTo, hk])⟩
      | goto l => exact hq₂.elim
      | ret => exact ⟨_, a₂, w₂, hq₂, harr₂⟩
      | panic ch => exact ⟨_, a₂, w₂, hq₂, harr₂⟩
      | outgrown => exact ⟨_, a₂, w₂, hq₂, harr₂⟩
    obtain ⟨e₂, a₂, w₂, hq₂, harr₂⟩ := key
    exact ⟨e₂, a₂, w₂, hq₂, .of_steps (.head step_scope (harr _ hg)) harr₂⟩
  | ret => exact ⟨_, a₁, w₁, hq, .of_steps (.one step_scope) harr⟩
  | panic ch => exact ⟨_, a₁, w₁, hq, .of_steps (.one step_scope) harr⟩
  | outgrown => exact ⟨_, a₁, w₁, hq, .of_steps (.one step_scope) harr⟩

section
variable {key l l1 l2 l3 l4 : List Int} {n1 n3 e1 e2 e3 e4 : Nat} {g : Bool} {v : List Int}
theorem deV_1 (h : nmL l = (n1, (l1, e1))) (he : e1 ≠ 0) : (deV key (l, 0)).2.2 = e1 := by
  have h' : rdN 4611686018427387904 (l, 0) = (n1, (l1, e1)) := h
  unfold deV
  rw [h']
  simp only
  have r1 : rdF (l1, e1) = (false, (l1, e1)) := by unfold rdF; rw [if_pos he]
  rw [r1]
  simp only [Bool.false_eq_true, if_false]
  rw [rdN_err (s := (l1, e1)) he]
  simp only
  unfold rdB
  rw [if_pos he]
theorem rdF_false {d : List Int} (h2 : rdF (d, 0) = (g, (l2, e2))) (he : e2 ≠ 0) : g = false := by
  unfold rdF at h2
  simp only [ne_eq, not_true_eq_false, if_false] at h2
  split at h2
  · simp only [Prod.mk.injEq] at h2; exact h2.1.symm
  · rename_i c r
    simp only [Prod.mk.injEq] at h2
    obtain ⟨a, b, c'⟩ := h2
    by_cases q : 1 < c
    · rw [← a]; simp; omega
    · rw [if_neg q] at c'; exact absurd c'.symm he
theorem deV_2 (h : nmL l = (n1, (l1, 0))) (h2 : rdF (l1, 0) = (g, (l2, e2))) (he : e2 ≠ 0) : (deV key (l, 0)).2.2 = e2 := by
  have h' : rdN 4611686018427387904 (l, 0) = (n1, (l1, 0)) := h
  obtain rfl := rdF_false h2 he
  unfold deV
  rw [h']
  simp only
  rw [h2]
  simp only [Bool.false_eq_true, if_false]
  rw [rdN_err (s := (l2, e2)) he]
  simp only
  unfold rdB
  rw [if_pos he]
theorem deV_g (h : nmL l = (n1, (l1, 0))) (h2 : rdF (l1, 0) = (true, (l2, 0))) : deV key (l, 0) = (⟨key, (n1 : Int), true, 0, []⟩, (l2, 0)) := by
  have h' : rdN 4611686018427387904 (l, 0) = (n1, (l1, 0)) := h
  unfold deV
  rw [h']
  simp only
  rw [h2]
  simp
theorem deV_3 (h : nmL l = (n1, (l1, 0))) (h2 : rdF (l1, 0) = (false, (l2, 0))) (h3 : nmL l2 = (n3, (l3, e3))) (he : e3 ≠ 0) : (deV key (l, 0)).2.2 = e3 := by
  have h' : rdN 4611686018427387904 (l, 0) = (n1, (l1, 0)) := h
  have h3' : rdN 4611686018427387904 (l2, 0) = (n3, (l3, e3)) := h3
  unfold deV
  rw [h']
  simp only
  rw [h2]
  simp only [Bool.false_eq_true, if_false]
  rw [h3']
  simp only
  unfold rdB
  rw [if_pos he]
theorem deV_4 (h : nmL l = (n1, (l1, 0))) (h2 : rdF (l1, 0) = (false, (l2, 0))) (h3 : nmL l2 = (n3, (l3, 0))) (h4 : rdB 2048 (l3, 0) = (v, (l4, e4))) : deV key (l, 0) = (⟨key, (n1 : Int), false, (n3 : Int), v⟩, (l4, e4)) := by
  have h' : rdN 4611686018427387904 (l, 0) = (n1, (l1, 0)) := h
  have h3' : rdN 4611686018427387904 (l2, 0) = (n3, (l3, 0)) := h3
  unfold deV
  rw [h']
  simp only
  rw [h2]
  simp only [Bool.false_eq_true, if_false]
  rw [h3']
  simp only
  rw [h4]
end
theorem tE_k {key d : List Int} (h : (kE key d).1 ≠ 0) : tE key d = ((kE key d).1, noE, []) := by unfold tE; rw [if_pos h]
theorem tE_e {key d kk l : List Int} {e : Nat} (h0 : kE key d = (0, kk, l)) (he : (deV kk (l, 0)).2.2 = e) (hne : e ≠ 0) : tE key d = (e, noE, []) := by
  unfold tE
  rw [h0]
  simp only [ne_eq, not_true_eq_false, if_false]
  rw [he, if_pos hne]
theorem tE_o {key d kk l r : List Int} {x : EntV} (h0 : kE key d = (0, kk, l)) (he : deV kk (l, 0) = (x, (r, 0))) : tE key d = (0, x, r) := by
  unfold tE
  rw [h0]
  simp only [ne_eq, not_true_eq_false, if_false]
  rw [he]
  simp
theorem kE_okb {key d : List Int} (hk : Okb key) (hd : Okb d) : Okb (kE key d).2.1 := by
  have h1 : ∀ d, Okb d → Okb (nmL d).2.1 := fun d hd => by
    rw [nmL_def]
    split
    · exact hd
    · split
      · exact hd
      · exact fun x hx => hd x (List.mem_of_mem_drop hx)
  unfold kE
  split
  · exact fun x hx => by cases hx
  split
  · exact fun x hx => by cases hx
  split
  · exact fun x hx => by cases hx
  split
  · exact fun x hx => by cases hx
  split
  · exact fun x hx => by cases hx
  · exact Okb.app (fun x hx => hk x (List.mem_of_mem_take hx)) (fun x hx => h1 _ (h1 _ hd) x (List.mem_of_mem_take hx))

theorem kE_left (key d : List Int) : (kE key d).2.2.length ≤ d.length := by
  have h1 := rdN_len (most := 4611686018427387904) (s := (d, 0))
  have h2 := rdN_len (most := 4611686018427387904) (s := ((nmL d).2.1, 0))
  have h3 : (nmL (nmL d).2.1).2.1.length ≤ (nmL d).2.1.length := h2
  have h4 : (nmL d).2.1.length ≤ d.length := h1
  unfold kE
  split
  · simp
  split
  · simp
  split
  · simp
  split
  · simp
  split
  · simp
  · simp only [List.length_drop]; omega

/-- Where the walk stands: the answer's place, the entry under way. -/
structure TEk (w wx : World) (C : Array Value) : Prop where
  bR : wx.heap[w.heap.size]? = some (.cells #[.slice none 0 0, .int .i64 0, .bool false, .int .i64 0, .slice none 0 0] 35 (0, 0))
  bo : wx.heap[w.heap.size + 1]? = some (.cells C 35 (0, 0))
  bel : Below w.heap.size w wx
theorem TEk.later {w wx wy : World} {C : Array Value} (h : TEk w wx C) (hb : Below wx.heap.size wx wy) : TEk w wy C :=
  ⟨(hb.block _ (Array.getElem?_eq_some_iff.1 h.bR).1).trans h.bR, (hb.block _ (Array.getElem?_eq_some_iff.1 h.bo).1).trans h.bo, h.bel.trans (hb.mono h.bel.size)⟩
theorem TEk.set {w wx : World} {C : Array Value} (h : TEk w wx C) (k : Nat) (u : Value) : TEk w (wx.setCell ⟨w.heap.size + 1, k, none⟩ u) (C.setIfInBounds k u) := by
  have hg := grown_set wx (w.heap.size + 1) k u
  refine ⟨?_, heap_set h.bo k u, Below.grown h.bel hg h.bel.size fun k e => ?_⟩
  · rw [hg.block _ (Array.getElem?_eq_some_iff.1 h.bR).1 (fun e => by simp only [Option.some.injEq] at e; omega)]; exact h.bR
  · simp only [Option.some.injEq] at e
    omega
theorem TEk.facts {w wx : World} {c0 c1 c2 c3 c4 : Value} (h : TEk w wx #[c0, c1, c2, c3, c4]) :
    wx.cell? ⟨w.heap.size + 1, 0, none⟩ = some c0 ∧ wx.cell? ⟨w.heap.size + 1, 1, none⟩ = some c1 ∧ wx.cell? ⟨w.heap.size + 1, 2, none⟩ = some c2 ∧ wx.cell? ⟨w.heap.size + 1, 3, none⟩ = some c3 ∧ wx.cell? ⟨w.heap.size + 1, 4, none⟩ = some c4 ∧
    wx.frozen? ⟨w.heap.size + 1, 0, none⟩ = false ∧ wx.frozen? ⟨w.heap.size + 1, 1, none⟩ = false ∧ wx.frozen? ⟨w.heap.size + 1, 2, none⟩ = false ∧ wx.frozen? ⟨w.heap.size + 1, 3, none⟩ = false ∧ wx.frozen? ⟨w.heap.size + 1, 4, none⟩ = false :=
  ⟨by rw [cell_of h.bo]; rfl, by rw [cell_of h.bo]; rfl, by rw [cell_of h.bo]; rfl, by rw [cell_of h.bo]; rfl, by rw [cell_of h.bo]; rfl, frozen_of h.bo 0, frozen_of h.bo 1, frozen_of h.bo 2, frozen_of h.bo 3, frozen_of h.bo 4⟩
theorem TEk.res {w wx : World} {C : Array Value} (h : TEk w wx C) :
    wx.cell? ⟨w.heap.size, 0, none⟩ = some (.slice none 0 0) ∧ wx.cell? ⟨w.heap.size, 1, none⟩ = some (.int .i64 0) ∧ wx.cell? ⟨w.heap.size, 2, none⟩ = some (.bool false) ∧ wx.cell? ⟨w.heap.size, 3, none⟩ = some (.int .i64 0) ∧ wx.cell? ⟨w.heap.size, 4, none⟩ = some (.slice none 0 0) ∧
    wx.frozen? ⟨w.heap.size, 0, none⟩ = false ∧ wx.frozen? ⟨w.heap.size, 1, none⟩ = false ∧ wx.frozen? ⟨w.heap.size, 2, none⟩ = false ∧ wx.frozen? ⟨w.heap.size, 3, none⟩ = false ∧ wx.frozen? ⟨w.heap.size, 4, none⟩ = false :=
  ⟨by rw [cell_of h.bR]; rfl, by rw [cell_of h.bR]; rfl, by rw [cell_of h.bR]; rfl, by rw [cell_of h.bR]; rfl, by rw [cell_of h.bR]; rfl, frozen_of h.bR 0, frozen_of h.bR 1, frozen_of h.bR 2, frozen_of h.bR 3, frozen_of h.bR 4⟩
/-- The answer is laid. -/
def lay5 (p : Nat) (wx : World) (x0 x1 x2 x3 x4 : Value) : World := ((((wx.setCell ⟨p, 0, none⟩ x0).setCell ⟨p, 1, none⟩ x1).setCell ⟨p, 2, none⟩ x2).setCell ⟨p, 3, none⟩ x3).setCell ⟨p, 4, none⟩ x4
theorem lay5_grown (p : Nat) (wx : World) (x0 x1 x2 x3 x4 : Value) : wx.grownBy (lay5 p wx x0 x1 x2 x3 x4) (some p) :=
  grown_trans (grown_trans (grown_trans (grown_trans (grown_set _ _ _ _) (grown_set _ _ _ _)) (grown_set _ _ _ _)) (grown_set _ _ _ _)) (grown_set _ _ _ _)
theorem lay5_block {p : Nat} {wx : World} {y0 y1 y2 y3 y4 : Value} (h : wx.heap[p]? = some (.cells #[y0, y1, y2, y3, y4] 35 (0, 0))) (x0 x1 x2 x3 x4 : Value) : (lay5 p wx x0 x1 x2 x3 x4).heap[p]? = some (.cells #[x0, x1, x2, x3, x4] 35 (0, 0)) := by
  have hb := heap_set (heap_set (heap_set (heap_set (heap_set h 0 x0) 1 x1) 2 x2) 3 x3) 4 x4
  unfold lay5
  rw [hb]
  rfl
theorem in64_nat {n : Nat} (h : n ≤ 4611686018427387904) : In64 (n : Int) := ⟨by omega, by omega⟩
theorem in64_nil : In64 0 := ⟨by decide, by decide⟩
theorem TEk.fin {w wx : World} {C : Array Value} (h : TEk w wx C) (x0 x1 x2 x3 x4 : Value) :
    (lay5 w.heap.size wx x0 x1 x2 x3 x4).cell? ⟨w.heap.size, 0, none⟩ = some x0 ∧ (lay5 w.heap.size wx x0 x1 x2 x3 x4).cell? ⟨w.heap.size, 1, none⟩ = some x1 ∧ (lay5 w.heap.size wx x0 x1 x2 x3 x4).cell? ⟨w.heap.size, 2, none⟩ = some x2 ∧ (lay5 w.heap.size wx x0 x1 x2 x3 x4).cell? ⟨w.heap.size, 3, none⟩ = some x3 ∧ (lay5 w.heap.size wx x0 x1 x2 x3 x4).cell? ⟨w.heap.size, 4, none⟩ = some x4 ∧ Below w.heap.size w (lay5 w.heap.size wx x0 x1 x2 x3 x4) := by
  have hb := lay5_block h.bR x0 x1 x2 x3 x4
  refine ⟨?_, ?_, ?_, ?_, ?_, Below.grown h.bel (lay5_grown _ wx x0 x1 x2 x3 x4) h.bel.size fun k e => ?_⟩
  · rw [cell_of hb]; rfl
  · rw [cell_of hb]; rfl
  · rw [cell_of hb]; rfl
  · rw [cell_of hb]; rfl
  · rw [cell_of hb]; rfl
  · simp only [Option.some.injEq] at e
    omega
theorem tek_begin (w : World) : TEk w ((w.alloc (.cells #[.slice none 0 0, .int .i64 0, .bool false, .int .i64 0, .slice none 0 0] 35)).alloc (.cells #[.slice none 0 0, .int .i64 0, .bool false, .int .i64 0, .slice none 0 0] 35)) #[.slice none 0 0, .int .i64 0, .bool false, .int .i64 0, .slice none 0 0] := by
  have b1 : Below w.heap.size w (w.alloc (.cells #[.slice none 0 0, .int .i64 0, .bool false, .int .i64 0, .slice none 0 0] 35)) := (Below.refl _ _).alloc (Nat.le_refl _) _
  have hs : (w.alloc (.cells #[.slice none 0 0, .int .i64 0, .bool false, .int .i64 0, .slice none 0 0] 35)).heap.size = w.heap.size + 1 := by simp
  have b2 := (Below.refl _ (w.alloc (.cells #[.slice none 0 0, .int .i64 0, .bool false, .int .i64 0, .slice none 0 0] 35))).alloc (Nat.le_refl _) (.cells #[.slice none 0 0, .int .i64 0, .bool false, .int .i64 0, .slice none 0 0] 35)
  refine ⟨?_, ?_, b1.trans (b2.mono (by omega))⟩
  · rw [b2.block w.heap.size (by omega)]; exact heap_alloc_new w _
  · rw [← hs]; exact heap_alloc_new _ _
/-- An entry under way that is done. -/
structure DnE (w : World) (ao : Option Addr) (len cap : Nat) (key d : List Int) (wx : World) (ka : Option Addr) (kc : Nat) (va : Option Addr) (vc : Nat) (e : EntV) (rv : Value) : Prop where
  te : TEk w wx #[.slice ka e.key.length kc, .int .i64 e.seq, .bool e.gone, .int .i64 e.till, .slice va e.val.length vc]
  sk : Sg (fun b => w.heap.size + 2 ≤ b) wx ka kc e.key
  sv : Sg (fun b => w.heap.size + 2 ≤ b) wx va vc e.val
  i1 : In64 e.seq
  i2 : In64 e.till
  eq : ∃ r, tE key d = (0, e, r) ∧ Rests ao len cap d rv r
/-- What takeEntry answers. -/
def ToldK (w : World) (ao : Option Addr) (len cap : Nat) (key d : List Int) (r : Ending) (w' : World) : Prop :=
  ∃ ka kc va vc rv, r = .returned (.tuple #[entA ka kc va vc (tE key d).2.1, rv, .int .i64 ((tE key d).1 : Nat)]) ∧ Sg (fun b => w.heap.size ≤ b) w' ka kc (tE key d).2.1.key ∧ Sg (fun b => w.heap.size ≤ b) w' va vc (tE key d).2.1.val ∧ In64 (tE key d).2.1.seq ∧ In64 (tE key d).2.1.till ∧ Rests ao len cap d rv (tE key d).2.2 ∧ Below w.heap.size w w'
theorem DnE.told {w : World} {ao : Option Addr} {len cap : Nat} {key d : List Int} {wx : World} {ka : Option Addr} {kc : Nat} {va : Option Addr} {vc : Nat} {e : EntV} {rv : Value} (h : DnE w ao len cap key d wx ka kc va vc e rv) :
    ToldK w ao len cap key d (.returned (.tuple #[.agg #[.slice ka e.key.length kc, .int .i64 e.seq, .bool e.gone, .int .i64 e.till, .slice va e.val.length vc], rv, .int .i64 0])) (lay5 w.heap.size wx (.slice ka e.key.length kc) (.int .i64 e.seq) (.bool e.gone) (.int .i64 e.till) (.slice va e.val.length vc)) := by
  obtain ⟨r, he, hr⟩ := h.eq
  have hg := lay5_grown w.heap.size wx (.slice ka e.key.length kc) (.int .i64 e.seq) (.bool e.gone) (.int .i64 e.till) (.slice va e.val.length vc)
  unfold ToldK
  rw [he]
  exact ⟨ka, kc, va, vc, rv, rfl, (h.sk.grown hg fun b hb e => by simp only [Option.some.injEq] at e; omega).weak fun b _ hb => by omega, (h.sv.grown hg fun b hb e => by simp only [Option.some.injEq] at e; omega).weak fun b _ hb => by omega, h.i1, h.i2, hr, (h.te.fin _ _ _ _ _).2.2.2.2.2⟩
theorem told_no {w : World} {ao : Option Addr} {len cap : Nat} {key d : List Int} {wx : World} {C : Array Value} {E : Nat} (h : TEk w wx C) (he : tE key d = (E, noE, [])) :
    ToldK w ao len cap key d (.returned (.tuple #[.agg #[.slice none 0 0, .int .i64 0, .bool false, .int .i64 0, .slice none 0 0], .slice none 0 0, .int .i64 (E : Nat)])) (lay5 w.heap.size wx (.slice none 0 0) (.int .i64 0) (.bool false) (.int .i64 0) (.slice none 0 0)) := by
  unfold ToldK
  rw [he]
  exact ⟨none, 0, none, 0, .slice none 0 0, rfl, Sg.nil _ _, Sg.nil _ _, in64_nil, in64_nil, Rests.nil _ _ _ _, (h.fin _ _ _ _ _).2.2.2.2.2⟩

/-- An entry under way, with its key. -/
structure UWk (w wx : World) (ka : Option Addr) (kc : Nat) (kk : List Int) (C : Array Value) : Prop where
  te : TEk w wx C
  sk : Sg (fun b => w.heap.size + 2 ≤ b) wx ka kc kk
theorem UWk.later {w wx wy : World} {ka : Option Addr} {kc : Nat} {kk : List Int} {C : Array Value} (h : UWk w wx ka kc kk C) (hb : Below wx.heap.size wx wy) : UWk w wy ka kc kk C := ⟨h.te.later hb, h.sk.later hb⟩
theorem UWk.set {w wx : World} {ka : Option Addr} {kc : Nat} {kk : List Int} {C : Array Value} (h : UWk w wx ka kc kk C) (k : Nat) (u : Value) : UWk w (wx.setCell ⟨w.heap.size + 1, k, none⟩ u) ka kc kk (C.setIfInBounds k u) :=
  ⟨h.te.set k u, h.sk.grown (grown_set wx (w.heap.size + 1) k u) fun b hb e => by simp only [Option.some.injEq] at e; omega⟩
theorem Rests.form {w : World} {ao : Option Addr} {len cap : Nat} {d xs : List Int} {r : Value} (h : Rests ao len cap d r xs) (hs : Sl w ao len cap d) : ∃ a c, r = .slice a xs.length c := by
  obtain ⟨a, c, e, _⟩ := h w hs
  exact ⟨a, c, e⟩

set_option maxHeartbeats 8000000 in
set_option maxRecDepth 100000 in
theorem tent_k {w : World} {ao pa : Option Addr} {len cap pl pc : Nat} {d key : List Int} (h : Sl w ao len cap d) (hl : len ≤ 175921860444160) (hk : Sl w pa pl pc key) (hkl : pl ≤ 512) :
    Calls Try.prog 41 #[.slice ao len cap, .slice pa pl pc] w (ToldK w ao len cap key d) := by
  have HT0 : Hid (TEk w _ _) := tek_begin w
  have HS0 : Hid (Sl w ao len cap d ∧ len ≤ 175921860444160 ∧ d.length = len) := ⟨h, hl, h.1⟩
  obtain ⟨W, hW⟩ : ∃ W, W = ((w.alloc (.cells #[.slice none 0 0, .int .i64 0, .bool false, .int .i64 0, .slice none 0 0] 35)).alloc (.cells #[.slice none 0 0, .int .i64 0, .bool false, .int .i64 0, .slice none 0 0] 35)) := ⟨_, rfl⟩
  rw [← hW] at HT0
  have HW := hid hW
  have hk0 := tkey_k (h.later HT0.out.bel) hl (hk.later HT0.out.bel) hkl
  have hok := kE_okb hk.2.1 h.2.1
  obtain ⟨⟨e0, kk, l0⟩, hF⟩ : ∃ x, kE key d = x := ⟨_, rfl⟩
  rw [hF] at hk0 hok
  have HF := hid hF
  have HOK := hid hok
  have HSZ : Hid (w.heap.size + 2 ≤ W.heap.size) := by show _ ≤ _; rw [hW]; simp
  simp only at hk0
  clear h hl hF hW hk hkl hok
  go_enter Try.func41, Try.ntmps41
  go_wp2_with fail
  refine wp_scope_fwd (fun l a' w' => (l = 0 ∧ ∃ (E : Nat) (C : Array Value), Hid (tE key d = (E, noE, []) ∧ TEk w w' C) ∧ ∃ (u0 u1 u2 u3 u5 u6 u7 u8 u9 u11 u12 u13 u14 u15 u16 u17 u18 u19 u20 u21 u22 u23 u24 u25 u26 u27 u28 u29 u30 u31 u32 u33 u34 u35 u36 u37 u38 u39 u40 u41 u42 u43 u44 u45 u46 u47 u48 u49 u50 u51 u52 u53 u54 u55 u56 u57 u58 u59 u60 u61 u62 u63 : Value), a' = { tmps := #[u0, u1, u2, u3, .pointer (some ⟨w.heap.size, 0, none⟩), u5, u6, u7, u8, u9, .int .i64 (E : Nat), u11, u12, u13, u14, u15, u16, u17, u18, u19, u20, u21, u22, u23, u24, u25, u26, u27, u28, u29, u30, u31, u32, u33, u34, u35, u36, u37, u38, u39, u40, u41, u42, u43, u44, u45, u46, u47, u48, u49, u50, u51, u52, u53, u54, u55, u56, u57, u58, u59, u60, u61, u62, u63], defers := [] }) ∨ (l = 1 ∧ ∃ ka kc va vc e rv, Hid (DnE w ao len cap key d w' ka kc va vc e rv) ∧ ∃ (u0 u1 u2 u3 u5 u6 u8 u10 u11 u12 u13 u14 u15 u16 u17 u18 u19 u20 u21 u22 u23 u24 u25 u26 u27 u28 u29 u30 u31 u32 u33 u34 u35 u36 u37 u38 u39 u40 u41 u42 u43 u44 u45 u46 u47 u48 u49 u50 u51 u52 u53 u54 u55 u56 u57 u58 u59 u60 u61 u62 u63 : Value), a' = { tmps := #[u0, u1, u2, u3, .pointer (some ⟨w.heap.size, 0, none⟩), u5, u6, .pointer (some ⟨w.heap.size + 1, 0, none⟩), u8, rv, u10, u11, u12, u13, u14, u15, u16, u17, u18, u19, u20, u21, u22, u23, u24, u25, u26, u27, u28, u29, u30, u31, u32, u33, u34, u35, u36, u37, u38, u39, u40, u41, u42, u43, u44, u45, u46, u47, u48, u49, u50, u51, u52, u53, u54, u55, u56, u57, u58, u59, u60, u61, u62, u63], defers := [] })) ?_ ?_
  · go_upto_region 2 with fail
    rw [← HW.out]
    by_cases q0 : e0 = 0
    · subst q0
      go_upto_region 4 with (go_at_call 56; refine hk0.mono ?_; rintro e w1 ⟨v1, r1, rfl, R1, s1, b1⟩)
      obtain ⟨a1, c1, hv1, K1⟩ := sg_row R1 HOK.out
      obtain ⟨a2, c2, hr1⟩ := s1.form HS0.out.1
      subst hv1 hr1
      have U1 : UWk w w1 a1 c1 kk #[.slice none 0 0, .int .i64 0, .bool false, .int .i64 0, .slice none 0 0] := ⟨HT0.out.later b1, K1.weak fun b _ hb => by have := HSZ.out; omega⟩
      have U1' : UWk w (w1.setCell ⟨w.heap.size + 1, 0, none⟩ (.slice a1 kk.length c1)) a1 c1 kk #[.slice a1 kk.length c1, .int .i64 0, .bool false, .int .i64 0, .slice none 0 0] := U1.set 0 (.slice a1 kk.length c1)
      obtain ⟨y0, y1, y2, y3, y4, f0, f1, f2, f3, f4⟩ := U1.te.facts
      go_upto_region 5 with fail
      obtain ⟨W1, hW1⟩ : ∃ W1, W1 = w1.setCell ⟨w.heap.size + 1, 0, none⟩ (.slice a1 kk.length c1) := ⟨_, rfl⟩
      rw [← hW1] at U1' ⊢
      have HU1 := hid U1'
      have HR1 := hid s1
      have hN1 := tnum_k ((s1 w HS0.out.1).sl.later U1'.te.bel)
      have m1 := nmL_le l0
      have m2 := nmL_len l0
      obtain ⟨⟨n1, l1, e1⟩, hF1⟩ : ∃ x, nmL l0 = x := ⟨_, rfl⟩
      rw [hF1] at hN1 m1 m2
      simp only at hN1 m1 m2
      have HF1 := hid hF1
      have HL0 : Hid (l0.length ≤ d.length) := by
        obtain ⟨_, _, e, hs⟩ := s1 w HS0.out.1
        show _ ≤ _
        have h5 : (kE key d).2.2.length ≤ d.length := kE_left key d
        rw [HF.out] at h5
        exact h5
      have HM : Hid (n1 ≤ 4611686018427387904 ∧ l1.length ≤ l0.length) := ⟨m1, m2⟩
      have hn163 : n1 ≤ 2 ^ 63 - 1 := by omega
      clear U1 U1' hW1 hF1 s1 b1 K1 R1 hk0 y0 y1 y2 y3 y4 f0 f1 f2 f3 f4 m1 m2 HT0
      obtain ⟨y0, y1, y2, y3, y4, f0, f1, f2, f3, f4⟩ := HU1.out.te.facts
      by_cases q1 : e1 = 0
      · subst q1
        rw [show rst (l1, 0) = l1 from rfl] at hN1
        go_upto_region 7 with (go_at_call 57; refine hN1.mono ?_; rintro e w2 ⟨r2, rfl, s2, b2⟩; have U2 := HU1.out.later b2; clear y0 y1 y2 y3 y4 f0 f1 f2 f3 f4; obtain ⟨y0, y1, y2, y3, y4, f0, f1, f2, f3, f4⟩ := U2.te.facts)
        have U2' : UWk w (w2.setCell ⟨w.heap.size + 1, 1, none⟩ (.int .i64 (n1 : Nat))) a1 c1 kk #[.slice a1 kk.length c1, .int .i64 (n1 : Nat), .bool false, .int .i64 0, .slice none 0 0] := U2.set 1 (.int .i64 (n1 : Nat))
        have hr12 := HR1.out.trans s2
        obtain ⟨a3, c3, hr2⟩ := hr12.form HS0.out.1
        subst hr2
        obtain ⟨W2, hW2⟩ : ∃ W2, W2 = w2.setCell ⟨w.heap.size + 1, 1, none⟩ (.int .i64 (n1 : Nat)) := ⟨_, rfl⟩
        rw [← hW2] at U2' ⊢
        have HU2 := hid U2'
        have HR2 := hid hr12
        have hG := tgone_k ((hr12 w HS0.out.1).sl.later U2'.te.bel)
        have m3 := rdF_len (s := (l1, 0))
        obtain ⟨⟨g, l2, e2⟩, hF2⟩ : ∃ x, rdF (l1, 0) = x := ⟨_, rfl⟩
        rw [hF2] at hG m3
        simp only at hG m3
        have HF2 := hid hF2
        have HM2 : Hid (l2.length ≤ l1.length) := m3
        clear U2 U2' hW2 hF2 s2 b2 hN1 y0 y1 y2 y3 y4 f0 f1 f2 f3 f4 m3 HU1 hr12
        obtain ⟨y0, y1, y2, y3, y4, f0, f1, f2, f3, f4⟩ := HU2.out.te.facts
        by_cases q2 : e2 = 0
        · subst q2
          rw [show rst (l2, 0) = l2 from rfl] at hG
          go_upto_region 9 with (go_at_call 58; refine hG.mono ?_; rintro e w3 ⟨r3, rfl, s3, b3⟩; have U3 := HU2.out.later b3; clear y0 y1 y2 y3 y4 f0 f1 f2 f3 f4; obtain ⟨y0, y1, y2, y3, y4, f0, f1, f2, f3, f4⟩ := U3.te.facts)
          have U3' : UWk w (w3.setCell ⟨w.heap.size + 1, 2, none⟩ (.bool g)) a1 c1 kk #[.slice a1 kk.length c1, .int .i64 (n1 : Nat), .bool g, .int .i64 0, .slice none 0 0] := U3.set 2 (.bool g)
          have hr13 := HR2.out.trans s3
          obtain ⟨a4, c4, hr3⟩ := hr13.form HS0.out.1
          subst hr3
          obtain ⟨W3, hW3⟩ : ∃ W3, W3 = w3.setCell ⟨w.heap.size + 1, 2, none⟩ (.bool g) := ⟨_, rfl⟩
          rw [← hW3] at U3' ⊢
          have HU3 := hid U3'
          have HR3 := hid hr13
          clear U3 U3' hW3 s3 b3 hG y0 y1 y2 y3 y4 f0 f1 f2 f3 f4 HU2 hr13
          obtain ⟨y0, y1, y2, y3, y4, f0, f1, f2, f3, f4⟩ := HU3.out.te.facts
          cases g with
          | true =>
            have HD : Hid (DnE w ao len cap key d W3 a1 c1 none 0 ⟨kk, (n1 : Nat), true, 0, []⟩ (.slice a4 l2.length c4)) := ⟨HU3.out.te, HU3.out.sk, Sg.nil _ _, in64_nat HM.out.1, in64_nil, l2, tE_o HF.out (deV_g HF1.out HF2.out), HR3.out⟩
            go_wp2_with fail
            go_step3
            exact Or.inr ⟨rfl, a1, c1, none, 0, ⟨kk, (n1 : Nat), true, 0, []⟩, .slice a4 l2.length c4, HD, _, _, _, _, _, _, _, _, _, _, _, _, _, _, _, _, _, _, _, _, _, _, _, _, _, _, _, _, _, _, _, _, _, _, _, _, _, _, _, _, _, _, _, _, _, _, _, _, _, _, _, _, _, _, _, _, _, _, _, _, _, rfl⟩
          | false =>
            have hN3 := tnum_k ((HR3.out w HS0.out.1).sl.later HU3.out.te.bel)
            have m1 := nmL_le l2
            have m2 := nmL_len l2
            obtain ⟨⟨n3, l3, e3⟩, hF3⟩ : ∃ x, nmL l2 = x := ⟨_, rfl⟩
            rw [hF3] at hN3 m1 m2
            simp only at hN3 m1 m2
            have HF3 := hid hF3
            have HM3 : Hid (n3 ≤ 4611686018427387904 ∧ l3.length ≤ l2.length) := ⟨m1, m2⟩
            have hn363 : n3 ≤ 2 ^ 63 - 1 := by omega
            clear hF3 m1 m2
            by_cases q3 : e3 = 0
            · subst q3
              rw [show rst (l3, 0) = l3 from rfl] at hN3
              go_upto_region 12 with (go_at_call 57; refine hN3.mono ?_; rintro e w4 ⟨r4, rfl, s4, b4⟩; have U4 := HU3.out.later b4; clear y0 y1 y2 y3 y4 f0 f1 f2 f3 f4; obtain ⟨y0, y1, y2, y3, y4, f0, f1, f2, f3, f4⟩ := U4.te.facts)
              have U4' : UWk w (w4.setCell ⟨w.heap.size + 1, 3, none⟩ (.int .i64 (n3 : Nat))) a1 c1 kk #[.slice a1 kk.length c1, .int .i64 (n1 : Nat), .bool false, .int .i64 (n3 : Nat), .slice none 0 0] := U4.set 3 (.int .i64 (n3 : Nat))
              have hr14 := HR3.out.trans s4
              obtain ⟨a5, c5, hr4⟩ := hr14.form HS0.out.1
              subst hr4
              obtain ⟨W4, hW4⟩ : ∃ W4, W4 = w4.setCell ⟨w.heap.size + 1, 3, none⟩ (.int .i64 (n3 : Nat)) := ⟨_, rfl⟩
              rw [← hW4] at U4' ⊢
              have HU4 := hid U4'
              have HR4 := hid hr14
              have hV := tval_k ((hr14 w HS0.out.1).sl.later U4'.te.bel) (by have := HM3.out; have := HM2.out; have := HM.out; have := HL0.out; have := HS0.out; omega)
              have hov : Okb (rdB 2048 (l3, 0)).1 := rdB_okb (hr14 w HS0.out.1).sl.2.1
              obtain ⟨⟨vv, l4, e4⟩, hF4⟩ : ∃ x, rdB 2048 (l3, 0) = x := ⟨_, rfl⟩
              rw [hF4] at hV hov
              simp only at hV hov
              have HF4 := hid hF4
              have HOV := hid hov
              have HSZ4 : Hid (w.heap.size + 2 ≤ W4.heap.size) := by
                have := (Array.getElem?_eq_some_iff.1 U4'.te.bo).1
                show _ ≤ _
                omega
              clear U4 U4' hW4 hF4 s4 b4 hN3 y0 y1 y2 y3 y4 f0 f1 f2 f3 f4 HU3 hr14 hov
              obtain ⟨y0, y1, y2, y3, y4, f0, f1, f2, f3, f4⟩ := HU4.out.te.facts
              by_cases q4 : e4 = 0
              · subst q4
                rw [show rst (l4, 0) = l4 from rfl] at hV
                go_upto_region 13 with (go_at_call 59; refine hV.mono ?_; rintro e w5 ⟨v5, r5, rfl, R5, s5, b5⟩; obtain ⟨a6, c6, rfl, K5⟩ := sg_row R5 HOV.out; have U5 := HU4.out.later b5; clear y0 y1 y2 y3 y4 f0 f1 f2 f3 f4; obtain ⟨y0, y1, y2, y3, y4, f0, f1, f2, f3, f4⟩ := U5.te.facts)
                have U5' : UWk w (w5.setCell ⟨w.heap.size + 1, 4, none⟩ (.slice a6 vv.length c6)) a1 c1 kk #[.slice a1 kk.length c1, .int .i64 (n1 : Nat), .bool false, .int .i64 (n3 : Nat), .slice a6 vv.length c6] := U5.set 4 (.slice a6 vv.length c6)
                have K5' : Sg (fun b => w.heap.size + 2 ≤ b) (w5.setCell ⟨w.heap.size + 1, 4, none⟩ (.slice a6 vv.length c6)) a6 c6 vv := (K5.weak fun b _ hb => by have := HSZ4.out; omega).grown (grown_set w5 (w.heap.size + 1) 4 (.slice a6 vv.length c6)) fun b hb e => by simp only [Option.some.injEq] at e; omega
                have HD : Hid (DnE w ao len cap key d (w5.setCell ⟨w.heap.size + 1, 4, none⟩ (.slice a6 vv.length c6)) a1 c1 a6 c6 ⟨kk, (n1 : Nat), false, (n3 : Nat), vv⟩ r5) := ⟨U5'.te, U5'.sk, K5', in64_nat HM.out.1, in64_nat HM3.out.1, l4, tE_o HF.out (deV_4 HF1.out HF2.out HF3.out HF4.out), HR4.out.trans s5⟩
                obtain ⟨W5, hW5⟩ : ∃ W5, W5 = w5.setCell ⟨w.heap.size + 1, 4, none⟩ (.slice a6 vv.length c6) := ⟨_, rfl⟩
                rw [← hW5] at HD ⊢
                clear U5 U5' K5 K5' hW5 s5 b5 R5 hV y0 y1 y2 y3 y4 f0 f1 f2 f3 f4 HU4
                obtain ⟨x0, x1, x2, x3, x4, g0, g1, g2, g3, g4⟩ := HD.out.te.facts
                obtain ⟨z0, z1, z2, z3, z4, h0, h1, h2, h3, h4⟩ := HD.out.te.res
                obtain ⟨o0, o1, o2, o3, o4, ob⟩ := HD.out.te.fin (.slice a1 kk.length c1) (.int .i64 (n1 : Nat)) (.bool false) (.int .i64 (n3 : Nat)) (.slice a6 vv.length c6)
                have HO := hid HD.out.told
                unfold lay5 at o0 o1 o2 o3 o4 HO
                clear ob
                go_wp2_with fail
                refine wp_label ?_
                go_wp2_with fail
                try simp only [jumpsE]
                exact bodyPost_ret (v := .tuple #[.agg #[.slice a1 kk.length c1, .int .i64 (n1 : Nat), .bool false, .int .i64 (n3 : Nat), .slice a6 vv.length c6], r5, .int .i64 0]) (by simp [results, Try.results41, go_sem, o0, o1, o2, o3, o4]) rfl HO.out
              · have hne : ((e4 : Int) != 0) = true := by simp; omega
                have HQ : Hid (tE key d = (e4, noE, [])) := tE_e HF.out (by rw [deV_4 HF1.out HF2.out HF3.out HF4.out]) q4
                clear q4
                go_wp2_with (go_at_call 59; refine hV.mono ?_; rintro e w5 ⟨v5, r5, rfl, R5, s5, b5⟩; obtain ⟨a6, c6, rfl, K5⟩ := sg_row R5 HOV.out; have U5 := HU4.out.later b5; clear y0 y1 y2 y3 y4 f0 f1 f2 f3 f4; obtain ⟨y0, y1, y2, y3, y4, f0, f1, f2, f3, f4⟩ := U5.te.facts)
                go_step3
                exact Or.inl ⟨rfl, e4, _, ⟨HQ.out, (U5.set 4 (.slice a6 vv.length c6)).te⟩, _, _, _, _, _, _, _, _, _, _, _, _, _, _, _, _, _, _, _, _, _, _, _, _, _, _, _, _, _, _, _, _, _, _, _, _, _, _, _, _, _, _, _, _, _, _, _, _, _, _, _, _, _, _, _, _, _, _, _, _, _, _, rfl⟩
            · have hne : ((e3 : Int) != 0) = true := by simp; omega
              have HQ : Hid (tE key d = (e3, noE, [])) := tE_e HF.out (deV_3 HF1.out HF2.out HF3.out q3) q3
              clear q3
              go_wp2_with (go_at_call 57; refine hN3.mono ?_; rintro e w4 ⟨r4, rfl, s4, b4⟩; have U4 := HU3.out.later b4; clear y0 y1 y2 y3 y4 f0 f1 f2 f3 f4; obtain ⟨y0, y1, y2, y3, y4, f0, f1, f2, f3, f4⟩ := U4.te.facts)
              go_step3
              exact Or.inl ⟨rfl, e3, _, ⟨HQ.out, (U4.set 3 (.int .i64 (n3 : Nat))).te⟩, _, _, _, _, _, _, _, _, _, _, _, _, _, _, _, _, _, _, _, _, _, _, _, _, _, _, _, _, _, _, _, _, _, _, _, _, _, _, _, _, _, _, _, _, _, _, _, _, _, _, _, _, _, _, _, _, _, _, _, _, _, _, rfl⟩
        · have hne : ((e2 : Int) != 0) = true := by simp; omega
          have HQ : Hid (tE key d = (e2, noE, [])) := tE_e HF.out (deV_2 HF1.out HF2.out q2) q2
          clear q2
          go_wp2_with (go_at_call 58; refine hG.mono ?_; rintro e w3 ⟨r3, rfl, s3, b3⟩; have U3 := HU2.out.later b3; clear y0 y1 y2 y3 y4 f0 f1 f2 f3 f4; obtain ⟨y0, y1, y2, y3, y4, f0, f1, f2, f3, f4⟩ := U3.te.facts)
          go_step3
          exact Or.inl ⟨rfl, e2, _, ⟨HQ.out, (U3.set 2 (.bool g)).te⟩, _, _, _, _, _, _, _, _, _, _, _, _, _, _, _, _, _, _, _, _, _, _, _, _, _, _, _, _, _, _, _, _, _, _, _, _, _, _, _, _, _, _, _, _, _, _, _, _, _, _, _, _, _, _, _, _, _, _, _, _, _, _, rfl⟩
      · have hne : ((e1 : Int) != 0) = true := by simp; omega
        have HQ : Hid (tE key d = (e1, noE, [])) := tE_e HF.out (deV_1 HF1.out q1) q1
        clear q1
        go_wp2_with (go_at_call 57; refine hN1.mono ?_; rintro e w2 ⟨r2, rfl, s2, b2⟩; have U2 := HU1.out.later b2; clear y0 y1 y2 y3 y4 f0 f1 f2 f3 f4; obtain ⟨y0, y1, y2, y3, y4, f0, f1, f2, f3, f4⟩ := U2.te.facts)
        go_step3
        exact Or.inl ⟨rfl, e1, _, ⟨HQ.out, (U2.set 1 (.int .i64 (n1 : Nat))).te⟩, _, _, _, _, _, _, _, _, _, _, _, _, _, _, _, _, _, _, _, _, _, _, _, _, _, _, _, _, _, _, _, _, _, _, _, _, _, _, _, _, _, _, _, _, _, _, _, _, _, _, _, _, _, _, _, _, _, _, _, _, _, _, rfl⟩
    · have hne : ((e0 : Int) != 0) = true := by simp; omega
      have HQ : Hid (tE key d = (e0, noE, [])) := by
        show _ = _
        rw [tE_k (by rw [HF.out]; exact q0), HF.out]
      clear q0
      go_wp2_with (go_at_call 56; refine hk0.mono ?_; rintro e w1 ⟨v1, r1, rfl, R1, s1, b1⟩)
      go_step3
      exact Or.inl ⟨rfl, e0, _, ⟨HQ.out, HT0.out.later b1⟩, _, _, _, _, _, _, _, _, _, _, _, _, _, _, _, _, _, _, _, _, _, _, _, _, _, _, _, _, _, _, _, _, _, _, _, _, _, _, _, _, _, _, _, _, _, _, _, _, _, _, _, _, _, _, _, _, _, _, _, _, _, _, rfl⟩
  · rintro l a' w' (⟨rfl, E, C, HX, u0, u1, u2, u3, u5, u6, u7, u8, u9, u11, u12, u13, u14, u15, u16, u17, u18, u19, u20, u21, u22, u23, u24, u25, u26, u27, u28, u29, u30, u31, u32, u33, u34, u35, u36, u37, u38, u39, u40, u41, u42, u43, u44, u45, u46, u47, u48, u49, u50, u51, u52, u53, u54, u55, u56, u57, u58, u59, u60, u61, u62, u63, rfl⟩ | ⟨rfl, ka, kc, va, vc, e, rv, HX, u0, u1, u2, u3, u5, u6, u8, u10, u11, u12, u13, u14, u15, u16, u17, u18, u19, u20, u21, u22, u23, u24, u25, u26, u27, u28, u29, u30, u31, u32, u33, u34, u35, u36, u37, u38, u39, u40, u41, u42, u43, u44, u45, u46, u47, u48, u49, u50, u51, u52, u53, u54, u55, u56, u57, u58, u59, u60, u61, u62, u63, rfl⟩)
    · refine ⟨_, rfl, ?_⟩
      obtain ⟨z0, z1, z2, z3, z4, h0, h1, h2, h3, h4⟩ := HX.out.2.res
      obtain ⟨o0, o1, o2, o3, o4, ob⟩ := HX.out.2.fin (.slice none 0 0) (.int .i64 0) (.bool false) (.int .i64 0) (.slice none 0 0)
      have HO := hid (told_no (ao := ao) (len := len) (cap := cap) HX.out.2 HX.out.1)
      unfold lay5 at o0 o1 o2 o3 o4 HO
      clear ob
      go_wp2_with fail
      simp only [Exit.noGoto]
      exact bodyPost_ret (v := .tuple #[.agg #[.slice none 0 0, .int .i64 0, .bool false, .int .i64 0, .slice none 0 0], .slice none 0 0, .int .i64 (E : Nat)]) (by simp [results, Try.results41, go_sem, o0, o1, o2, o3, o4]) rfl HO.out
    · refine ⟨_, rfl, ?_⟩
      obtain ⟨x0, x1, x2, x3, x4, g0, g1, g2, g3, g4⟩ := HX.out.te.facts
      obtain ⟨z0, z1, z2, z3, z4, h0, h1, h2, h3, h4⟩ := HX.out.te.res
      obtain ⟨o0, o1, o2, o3, o4, ob⟩ := HX.out.te.fin (.slice ka e.key.length kc) (.int .i64 e.seq) (.bool e.gone) (.int .i64 e.till) (.slice va e.val.length vc)
      have HO := hid HX.out.told
      unfold lay5 at o0 o1 o2 o3 o4 HO
      clear ob
      go_wp2_with fail
      simp only [Exit.noGoto]
      exact bodyPost_ret (v := .tuple #[.agg #[.slice ka e.key.length kc, .int .i64 e.seq, .bool e.gone, .int .i64 e.till, .slice va e.val.length vc], rv, .int .i64 0]) (by simp [results, Try.results41, go_sem, o0, o1, o2, o3, o4]) rfl HO.out
end Go.Proofs.Ytifgojkmdicdmaa

/- The laws on blocks: BlockSeeks. -/
namespace Go.Proofs.Ytifgojkmdicdmaa
open Go.RowKit
set_option linter.unusedVariables false
set_option linter.unusedSimpArgs false

/-- What is wanted, so far. -/
def wnE (g : Option EntV) : EntV := g.getD ⟨[], 0, false, 0, []⟩
structure WnS (w : World) (p : Nat) (wx : World) (ka : Option Addr) (kc : Nat) (va : Option Addr) (vc : Nat) (o : EntV) : Prop where
  bo : wx.heap[p]? = some (.cells #[.slice ka o.key.length kc, .int .i64 o.seq, .bool o.gone, .int .i64 o.till, .slice va o.val.length vc] 35 (0, 0))
  sk : Sg (fun b => b < p) wx ka kc o.key
  sv : Sg (fun b => b < p) wx va vc o.val
  bel : Below w.heap.size w wx
  hp : w.heap.size ≤ p
theorem WnS.later {w : World} {p : Nat} {wx wy : World} {ka : Option Addr} {kc : Nat} {va : Option Addr} {vc : Nat} {o : EntV} (h : WnS w p wx ka kc va vc o) (hb : Below wx.heap.size wx wy) : WnS w p wy ka kc va vc o :=
  ⟨(hb.block _ (Array.getElem?_eq_some_iff.1 h.bo).1).trans h.bo, h.sk.later hb, h.sv.later hb, h.bel.trans (hb.mono h.bel.size), h.hp⟩
theorem WnS.facts {w : World} {p : Nat} {wx : World} {ka : Option Addr} {kc : Nat} {va : Option Addr} {vc : Nat} {o : EntV} (h : WnS w p wx ka kc va vc o) :
    wx.cell? ⟨p, 0, none⟩ = some (.slice ka o.key.length kc) ∧ wx.cell? ⟨p, 1, none⟩ = some (.int .i64 o.seq) ∧ wx.cell? ⟨p, 2, none⟩ = some (.bool o.gone) ∧ wx.cell? ⟨p, 3, none⟩ = some (.int .i64 o.till) ∧ wx.cell? ⟨p, 4, none⟩ = some (.slice va o.val.length vc) ∧
    wx.frozen? ⟨p, 0, none⟩ = false ∧ wx.frozen? ⟨p, 1, none⟩ = false ∧ wx.frozen? ⟨p, 2, none⟩ = false ∧ wx.frozen? ⟨p, 3, none⟩ = false ∧ wx.frozen? ⟨p, 4, none⟩ = false :=
  ⟨by rw [cell_of h.bo]; rfl, by rw [cell_of h.bo]; rfl, by rw [cell_of h.bo]; rfl, by rw [cell_of h.bo]; rfl, by rw [cell_of h.bo]; rfl, frozen_of h.bo 0, frozen_of h.bo 1, frozen_of h.bo 2, frozen_of h.bo 3, frozen_of h.bo 4⟩
theorem WnS.set {w : World} {p : Nat} {wx : World} {ka0 : Option Addr} {kc0 : Nat} {va0 : Option Addr} {vc0 : Nat} {o0 : EntV} (h : WnS w p wx ka0 kc0 va0 vc0 o0) {ka : Option Addr} {kc : Nat} {va : Option Addr} {vc : Nat} {o : EntV} (hk : Sg (fun b => b < p) wx ka kc o.key) (hv : Sg (fun b => b < p) wx va vc o.val) :
    WnS w p (lay5 p wx (.slice ka o.key.length kc) (.int .i64 o.seq) (.bool o.gone) (.int .i64 o.till) (.slice va o.val.length vc)) ka kc va vc o := by
  have hg := lay5_grown p wx (.slice ka o.key.length kc) (.int .i64 o.seq) (.bool o.gone) (.int .i64 o.till) (.slice va o.val.length vc)
  have hp := h.hp
  refine ⟨lay5_block h.bo _ _ _ _ _, hk.grown hg fun b hb e => ?_, hv.grown hg fun b hb e => ?_, Below.grown h.bel hg h.bel.size fun k e => ?_, hp⟩
  · simp only [Option.some.injEq] at e; omega
  · simp only [Option.some.injEq] at e; omega
  · simp only [Option.some.injEq] at e; omega
theorem wns_begin {w w0 : World} (hb : Below w.heap.size w w0) : WnS w w0.heap.size (w0.alloc (.cells #[.slice none 0 0, .int .i64 0, .bool false, .int .i64 0, .slice none 0 0] 35)) none 0 none 0 (wnE none) :=
  ⟨heap_alloc_new w0 _, Sg.nil _ _, Sg.nil _ _, hb.alloc hb.size _, hb.size⟩
theorem skE_take {l : List EntV} {key : List Int} {s : Int} {k : Nat} (h : k < l.length) : skE (l.take (k + 1)) key s = if (skE (l.take k) key s).isSome = true then skE (l.take k) key s else if 0 < cmp l[k].key key ∨ cmp l[k].key key = 0 ∧ l[k].seq ≤ s then some l[k] else none := by
  have e : skE (l.take (k + 1)) key s = (skE (l.take k) key s).or (skE [l[k]] key s) := by
    unfold skE
    rw [take_snoc h, List.find?_append]
  rw [e]
  cases hs : skE (l.take k) key s with
  | some x => simp
  | none =>
    simp only [Option.or, Option.isSome_none, Bool.false_eq_true, if_false]
    unfold skE
    rw [List.find?_singleton]
    simp
theorem gotE_want {B : Nat} {g : Option EntV} {r : Ending} {w' : World} (h : GotE B g r w') : ∃ ka kc va vc, r = .returned (.tuple #[.agg #[.slice ka (wnE g).key.length kc, .int .i64 (wnE g).seq, .bool (wnE g).gone, .int .i64 (wnE g).till, .slice va (wnE g).val.length vc], .bool g.isSome]) ∧ Sl w' ka (wnE g).key.length kc (wnE g).key ∧ Sl w' va (wnE g).val.length vc (wnE g).val := by
  rcases h with ⟨rfl, he⟩ | ⟨x, ka, kc, va, vc, rfl, he, hM, _⟩
  · exact ⟨none, 0, none, 0, he, Sl.nil _, Sl.nil _⟩
  · obtain ⟨a, c, b, d, e, s1, s2, _⟩ := hM
    unfold entL at e
    simp only [List.cons.injEq, Value.slice.injEq, and_true, true_and] at e
    obtain ⟨⟨rfl, rfl⟩, rfl, rfl⟩ := e
    exact ⟨ka, kc, va, vc, he, s1, s2⟩
theorem tkB_nil : tkB [] = [] := rfl

set_option maxHeartbeats 4000000 in
set_option maxRecDepth 100000 in
theorem seeks11_any (D : PBk) (Ds : PBs) {w : World} {ao ka0 : Option Addr} {len cap kl kc0 : Nat} {l : List EntV} {key : List Int} {s : Int} (h : RS entE w ao len cap l) (hk : Sl w ka0 kl kc0 key) (hs : In64 s) :
    Calls Try.prog 5 #[.slice ao len cap, .slice ka0 kl kc0, .int .i64 s] w fun e w' => e = .returned (.bool true) ∧ Below w.heap.size w w' := by
  have hso := sorted11_any h
  have HAW : Hid (∀ wx, Calls Try.prog 9 #[] wx fun e w' => e = .returned (.bool true) ∧ Below wx.heap.size wx w') := fun wx => awake11_any D wx
  have HKY := hid (And.intro hk hs)
  clear h hk hs
  go_enter Try.func5, Try.ntmps5
  go_wp2_with fail
  refine hso.mono ?_
  rintro e w1 ⟨v1, rfl, L, SR⟩
  obtain ⟨a1, c1, rfl, rs1⟩ := SR.rs
  have hn60 := SR.2.2.2.1
  have hE := D.encode rs1 (by omega) (may_lgt SR.2.2.1)
  have hbe := blkE_srt (by omega) SR.2.2.1 SR.2.1
  have HSR : Hid (SrS w 60 w1 (.slice a1 L.length c1) L) := SR
  have HB1 := hid SR.2.2.2.2
  clear hso rs1
  by_cases q0 : L.length = 0
  · rw [if_pos q0] at hbe
    have hX : encX L = [] := by unfold encX; rw [if_neg (by rw [hbe]; decide)]
    rw [hbe, hX] at hE
    have q0' : ((L.length : Int) == 0) = true := by rw [q0]; rfl
    have q00 : (L.length : Int) = 0 := by omega
    have HSK : Hid (∀ {wx : World} {a : Option Addr} {c : Nat}, Sl wx a 0 c [] → Below w.heap.size w wx → Calls Try.prog 18 #[.slice a 0 c, .slice ka0 kl kc0, .int .i64 s] wx fun r w' => ∃ ka kc va vc, r = .returned (.tuple #[.agg #[.slice ka 0 kc, .int .i64 0, .bool false, .int .i64 0, .slice va 0 vc], .bool false]) ∧ Below wx.heap.size wx w') := fun {wx a c} hx hb => by
      refine (Ds.seek hx (by omega) (HKY.out.1.later hb) HKY.out.2).mono ?_
      rintro r w' ⟨⟨B, hg⟩, hb'⟩
      rw [tkB_nil] at hg
      obtain ⟨ka, kc, va, vc, he, _, _⟩ := gotE_want hg
      exact ⟨ka, kc, va, vc, he, hb'⟩
    generalize L.length = n at q0' q00 hE HSR
    clear q0 hbe hn60 hX SR
    go_wp2_with fail
    refine hE.mono ?_
    rintro e w2 ⟨v2, rfl, ⟨a2, c2, rfl, s2⟩, b2⟩
    have hB2 := HB1.out.trans (b2.mono HB1.out.size)
    have hsk := HSK.out s2 hB2
    have HB2 := hid hB2
    clear hE s2 b2 hB2
    go_upto_region 5 with (go_at_call 18; refine hsk.mono ?_; rintro e w3 ⟨ka, kc, va, vc, rfl, b3⟩)
    have HB3 := hid (HB2.out.trans (b3.mono HB2.out.size))
    have HB4 : Hid (Below w.heap.size w (w3.alloc (.cells #[.slice ka 0 kc, .int .i64 0, .bool false, .int .i64 0, .slice va 0 vc] 35))) := HB3.out.alloc HB3.out.size _
    clear hsk b3
    go_wp2_with (go_at_call 9; refine (HAW.out _).mono ?_; rintro e w4 ⟨rfl, b4⟩)
    exact bodyPost_ret (v := .bool true) (by simp [results, Try.results5, go_sem]) rfl ⟨rfl, HB4.out.trans (b4.mono HB4.out.size)⟩
  · rw [if_neg q0] at hbe
    have hX : encX L = blkB L := by unfold encX; rw [if_pos hbe]
    have hlen := blkB_len (L := L) (by omega) (by omega) SR.2.2.1
    obtain ⟨rs0a, rs0c, _, rsL⟩ := SR.rs
    obtain ⟨t1, t2⟩ := tk_of_blk hbe rsL.okE
    rw [hbe, hX] at hE
    obtain ⟨X, hXX⟩ : ∃ X, X = blkB L := ⟨_, rfl⟩
    rw [← hXX] at hE hlen t1 t2
    obtain ⟨XL, hXL⟩ : ∃ n, n = X.length := ⟨_, rfl⟩
    have HXL := hid hXL
    have HSK : Hid (∀ {wx : World} {a : Option Addr} {c : Nat}, Sl wx a XL c X → Below w.heap.size w wx → Calls Try.prog 18 #[.slice a XL c, .slice ka0 kl kc0, .int .i64 s] wx fun r w' => ∃ ka kc va vc, r = .returned (.tuple #[.agg #[.slice ka (wnE (skE L key s)).key.length kc, .int .i64 (wnE (skE L key s)).seq, .bool (wnE (skE L key s)).gone, .int .i64 (wnE (skE L key s)).till, .slice va (wnE (skE L key s)).val.length vc], .bool (skE L key s).isSome]) ∧ Sl w' ka (wnE (skE L key s)).key.length kc (wnE (skE L key s)).key ∧ Sl w' va (wnE (skE L key s)).val.length vc (wnE (skE L key s)).val ∧ Below wx.heap.size wx w') := fun {wx a c} hx hb => by
      refine (Ds.seek hx (by omega) (HKY.out.1.later hb) HKY.out.2).mono ?_
      rintro r w' ⟨⟨B, hg⟩, hb'⟩
      rw [t2] at hg
      obtain ⟨ka, kc, va, vc, he, k1, k2⟩ := gotE_want hg
      exact ⟨ka, kc, va, vc, he, k1, k2, hb'⟩
    obtain ⟨n, hn⟩ : ∃ n, n = L.length := ⟨_, rfl⟩
    have hLn : ¬ ((n : Int) = 0) := by omega
    have hLn2 : ((n : Int) == 0) = false := by simp; omega
    have hn62 : n ≤ 2 ^ 61 := by omega
    rw [← hn] at hE HSR ⊢
    have HN := hid hn
    clear q0 hbe hX hlen t1 t2 hXX hXL SR hn60 rsL hn
    go_wp2_with fail
    refine hE.mono ?_
    rintro e w2 ⟨v2, rfl, ⟨a2, c2, hv2, s2⟩, b2⟩
    rw [← HXL.out] at hv2 s2
    subst hv2
    have hB2 := HB1.out.trans (b2.mono HB1.out.size)
    have H0 := hid (wns_begin hB2)
    have HS2 : Hid (Sl w2 a2 XL c2 X ∧ Below w1.heap.size w1 w2) := ⟨s2, b2⟩
    obtain ⟨p, hp⟩ : ∃ p, p = w2.heap.size := ⟨_, rfl⟩
    obtain ⟨W3, hW3⟩ : ∃ W3, W3 = w2.alloc (.cells #[.slice none 0 0, .int .i64 0, .bool false, .int .i64 0, .slice none 0 0] 35) := ⟨_, rfl⟩
    rw [← hp, ← hW3] at H0
    have HW3 : Hid (W3 = w2.alloc (.cells #[.slice none 0 0, .int .i64 0, .bool false, .int .i64 0, .slice none 0 0] 35)) := hW3
    have HB3 : Hid (Below w2.heap.size w2 W3) := by show Below _ _ _; rw [hW3]; exact (Below.refl _ _).alloc (Nat.le_refl _) _
    clear hE s2 b2 hB2 hW3
    go_wp2_with fail
    rw [← HW3.out, ← hp]
    have H00 : Hid (skE (L.take 0) key s = none) := rfl
    have HP2 : Hid (w2.heap.size ≤ p) := by show _ ≤ _; omega
    clear hp
    go_loopg [13, 15, 16, 48] n (fun g hs _ _ i wr => ∃ (k : Nat) (ka : Option Addr) (kc : Nat) (va : Option Addr) (vc : Nat), k + g = n ∧ i = .int .i64 (k : Int) ∧ hs = .bool (skE (L.take k) key s).isSome ∧ Hid (WnS w p wr ka kc va vc (wnE (skE (L.take k) key s)) ∧ Below w2.heap.size w2 wr))
    case atStart => exact ⟨0, none, 0, none, 0, by omega, rfl, by rw [H00.out]; rfl, by rw [H00.out]; exact H0.out, HB3.out⟩
    case round =>
      obtain ⟨k, ka1, kc1, va1, vc1, hk, rfl, rfl, HK⟩ := hrel
      by_cases hkl : k < n
      · have hkl' : (k : Int) < (n : Int) := by omega
        have hkx : k < L.length := by have := HN.out; omega
        obtain ⟨ra, rca, hra, hrsg⟩ := HSR.out.1.rsg
        simp only [Value.slice.injEq] at hra
        obtain ⟨rfl, hnl, rfl⟩ := hra
        clear hnl
        obtain ⟨b, off, ka, kc, va, vc, rfl, e0, e1, e2, e3, e4, hem, sk, heg⟩ := RSG.ent hrsg (List.getElem?_eq_getElem hkx)
        have bw1 : Below w1.heap.size w1 wr := HS2.out.2.trans (HK.out.2.mono HS2.out.2.size)
        have d0 := cell_later bw1 e0
        have d1 := cell_later bw1 e1
        have d2 := cell_later bw1 e2
        have d3 := cell_later bw1 e3
        have d4 := cell_later bw1 e4
        have hst := skE_take (key := key) (s := s) hkx
        have sv : Sl w1 va L[k].val.length vc L[k].val := by
          obtain ⟨a', c', b', d', e', s1', s2', _⟩ := hem
          simp only [List.cons.injEq, Value.slice.injEq, and_true, true_and] at e'
          obtain ⟨⟨rfl, rfl⟩, rfl, rfl⟩ := e'
          exact s2'
        have hkr : ∀ b', Refs (.slice ka L[k].key.length kc) b' → b' < w.heap.size := fun b' hr => heg _ (by simp) b' hr
        have hvr : ∀ b', Refs (.slice va L[k].val.length vc) b' → b' < w.heap.size := fun b' hr => heg _ (by simp) b' hr
        generalize L[k] = o at d0 d1 d2 d3 d4 hst sk sv hkr hvr
        have hpp := HK.out.1.hp
        have HST1 := hid hst
        obtain ⟨GK, HG⟩ : ∃ g, Hid (g < gk ∧ k + 1 + g = n) := ⟨gk - 1, by omega, by omega⟩
        have hk62 : k ≤ 2 ^ 61 := by omega
        obtain ⟨W4, hW4⟩ : ∃ W4, W4 = wr.alloc (.cells #[.slice ka o.key.length kc, .int .i64 o.seq, .bool o.gone, .int .i64 o.till, .slice va o.val.length vc] 35) := ⟨_, rfl⟩
        have b4 : Below wr.heap.size wr W4 := by rw [hW4]; exact (Below.refl _ _).alloc (Nat.le_refl _) _
        have hbx : ∀ wx, Below W4.heap.size W4 wx → _ := fun wx hb => box_cells wr (.slice ka o.key.length kc) (.int .i64 o.seq) (.bool o.gone) (.int .i64 o.till) (.slice va o.val.length vc) 35 (wx := wx) (by rw [← hW4]; exact hb)
        have HBX := hid hbx
        have hcc := rcmp_any ((sk.later bw1).later b4) ((HKY.out.1.later HK.out.1.bel).later b4)
        have HNX : Hid (∀ wx, Below W4.heap.size W4 wx → (WnS w p wx ka1 kc1 va1 vc1 (wnE (skE (L.take k) key s)) ∧ Below w2.heap.size w2 wx) ∧ (Sg (fun b' => b' < p) wx ka kc o.key ∧ Sg (fun b' => b' < p) wx va vc o.val)) := fun wx hb => by
          have h1 := b4.trans (hb.mono b4.size)
          refine ⟨⟨HK.out.1.later h1, HK.out.2.trans (h1.mono HK.out.2.size)⟩, ⟨(sk.later bw1).later h1, fun b' hr => ?_⟩, ⟨(sv.later bw1).later h1, fun b' hr => ?_⟩⟩
          · have := hkr b' hr; omega
          · have := hvr b' hr; omega
        have HW4 := hid hW4
        have HPP : Hid (w2.heap.size ≤ p) := HP2.out
        clear hk hrsg e0 e1 e2 e3 e4 hem sk sv heg bw1 hst hkr hvr hpp hW4 b4 hbx hkx hkl
        generalize cmp o.key key = c at hcc HST1
        go_upto_region 10 with fail
        rw [← HW4.out]
        obtain ⟨x0, x1, x2, x3, x4⟩ := HBX.out _ (Below.refl _ _)
        go_upto_region 11 with (go_at_call 19; refine hcc.mono ?_; rintro e w5 ⟨rfl, b5⟩)
        clear x0 x1 x2 x3 x4 d0 d1 d2 d3 d4
        obtain ⟨x0, x1, x2, x3, x4⟩ := HBX.out _ b5
        have HW5 := hid (HNX.out _ b5).1
        have HSG := hid (HNX.out _ b5).2
        clear hcc b5 HK HNX
        cases hb : (skE (L.take k) key s).isSome with
        | true =>
          have HST : Hid (skE (L.take (k + 1)) key s = skE (L.take k) key s) := by show _ = _; rw [HST1.out, if_pos hb]
          go_wp2_with fail
          go_roundg GK
          case measure => exact HG.out.1
          case rel => exact ⟨k + 1, ka1, kc1, va1, vc1, HG.out.2, by go_num, by rw [HST.out, hb], by rw [HST.out]; exact HW5.out.1, HW5.out.2⟩
        | false =>
          have HST : Hid (¬ (0 < c ∨ c = 0 ∧ o.seq ≤ s) → skE (L.take (k + 1)) key s = skE (L.take k) key s) := fun hc => by
            rw [HST1.out, if_neg (by rw [hb]; decide), if_neg hc]
            cases hz : skE (L.take k) key s with
            | none => rfl
            | some x => rw [hz] at hb; cases hb
          have HSY : Hid ((0 < c ∨ c = 0 ∧ o.seq ≤ s) → skE (L.take (k + 1)) key s = some o) := fun hc => by rw [HST1.out, if_neg (by rw [hb]; decide), if_pos hc]
          by_cases q1 : 0 < c
          · have HC : Hid (0 < c ∨ c = 0 ∧ o.seq ≤ s) := .inl q1
            have q1' : decide ((0 : Int) < c) = true := by simpa using q1
            have A := HW5.out.1.set HSG.out.1 HSG.out.2
            have hb6 : Below w2.heap.size w2 (lay5 p w5 (.slice ka o.key.length kc) (.int .i64 o.seq) (.bool o.gone) (.int .i64 o.till) (.slice va o.val.length vc)) := Below.grown HW5.out.2 (lay5_grown _ _ _ _ _ _ _) HW5.out.2.size (fun j e => by simp only [Option.some.injEq] at e; have := HPP.out; omega)
            have HA : Hid (WnS w p (lay5 p w5 (.slice ka o.key.length kc) (.int .i64 o.seq) (.bool o.gone) (.int .i64 o.till) (.slice va o.val.length vc)) ka kc va vc o ∧ Below w2.heap.size w2 (lay5 p w5 (.slice ka o.key.length kc) (.int .i64 o.seq) (.bool o.gone) (.int .i64 o.till) (.slice va o.val.length vc))) := ⟨A, hb6⟩
            unfold lay5 at HA
            obtain ⟨u0, u1, u2, u3, u4, f0, f1, f2, f3, f4⟩ := HW5.out.1.facts
            clear A hb6
            go_wp2_with fail
            go_roundg GK
            case measure => exact HG.out.1
            case rel => exact ⟨k + 1, ka, kc, va, vc, HG.out.2, by go_num, by rw [HSY.out HC.out]; rfl, by rw [HSY.out HC.out]; exact HA.out.1, HA.out.2⟩
          · have q1' : decide ((0 : Int) < c) = false := by simpa using q1
            by_cases q2 : c = 0
            · have q2' : (c == 0) = true := by simpa using q2
              by_cases q3 : o.seq ≤ s
              · have HC : Hid (0 < c ∨ c = 0 ∧ o.seq ≤ s) := .inr ⟨q2, q3⟩
                have q3' : decide (o.seq ≤ s) = true := by simpa using q3
                have A := HW5.out.1.set HSG.out.1 HSG.out.2
                have hb6 : Below w2.heap.size w2 (lay5 p w5 (.slice ka o.key.length kc) (.int .i64 o.seq) (.bool o.gone) (.int .i64 o.till) (.slice va o.val.length vc)) := Below.grown HW5.out.2 (lay5_grown _ _ _ _ _ _ _) HW5.out.2.size (fun j e => by simp only [Option.some.injEq] at e; have := HPP.out; omega)
                have HA : Hid (WnS w p (lay5 p w5 (.slice ka o.key.length kc) (.int .i64 o.seq) (.bool o.gone) (.int .i64 o.till) (.slice va o.val.length vc)) ka kc va vc o ∧ Below w2.heap.size w2 (lay5 p w5 (.slice ka o.key.length kc) (.int .i64 o.seq) (.bool o.gone) (.int .i64 o.till) (.slice va o.val.length vc))) := ⟨A, hb6⟩
                unfold lay5 at HA
                obtain ⟨u0, u1, u2, u3, u4, f0, f1, f2, f3, f4⟩ := HW5.out.1.facts
                clear A hb6
                go_wp2_with fail
                go_roundg GK
                case measure => exact HG.out.1
                case rel => exact ⟨k + 1, ka, kc, va, vc, HG.out.2, by go_num, by rw [HSY.out HC.out]; rfl, by rw [HSY.out HC.out]; exact HA.out.1, HA.out.2⟩
              · have HC : Hid (¬ (0 < c ∨ c = 0 ∧ o.seq ≤ s)) := fun z => by rcases z with z | z; exact q1 z; exact q3 z.2
                have q3' : decide (o.seq ≤ s) = false := by simpa using q3
                go_wp2_with fail
                go_roundg GK
                case measure => exact HG.out.1
                case rel => exact ⟨k + 1, ka1, kc1, va1, vc1, HG.out.2, by go_num, by rw [HST.out HC.out, hb], by rw [HST.out HC.out]; exact HW5.out.1, HW5.out.2⟩
            · have HC : Hid (¬ (0 < c ∨ c = 0 ∧ o.seq ≤ s)) := fun z => by rcases z with z | z; exact q1 z; exact q2 z.1
              have q2' : (c == 0) = false := by simpa using q2
              go_wp2_with fail
              go_roundg GK
              case measure => exact HG.out.1
              case rel => exact ⟨k + 1, ka1, kc1, va1, vc1, HG.out.2, by go_num, by rw [HST.out HC.out, hb], by rw [HST.out HC.out]; exact HW5.out.1, HW5.out.2⟩
      · have hkl' : ¬ ((k : Int) < (n : Int)) := by omega
        obtain rfl : k = L.length := by have := HN.out; omega
        rw [List.take_length] at HK ⊢
        have hbw := HK.out.1.bel
        have hsk := HSK.out (HS2.out.1.later HK.out.2) hbw
        have HWN := hid HK.out.1
        generalize hgg : skE L key s = g at hsk HWN ⊢
        generalize hbb : g.isSome = bb at hsk ⊢
        generalize hoo : wnE g = o at hsk HWN
        clear hk hkl HK hbw hgg hbb hoo HSK
        go_upto_region 15 with (go_at_call 18; refine hsk.mono ?_; rintro e w5 ⟨ka, kc, va, vc, rfl, k1, k2, b5⟩)
        have ba := (Below.refl w5.heap.size w5).alloc (Nat.le_refl _) (.cells #[.slice ka o.key.length kc, .int .i64 o.seq, .bool o.gone, .int .i64 o.till, .slice va o.val.length vc] 35)
        have A5 := (HWN.out.later b5).later ba
        obtain ⟨u0, u1, u2, u3, u4, f0, f1, f2, f3, f4⟩ := A5.facts
        have hsm := rsameE1_eq (seq := o.seq) (till := o.till) (gone := o.gone) (k1.later ba) (k2.later ba) A5.sk.1 A5.sv.1
        have HB6 := hid A5.bel
        clear hsk k1 k2 b5 ba A5 f0 f1 f2 f3 f4
        go_wp2_with (first | (go_at_call 20; refine hsm.mono ?_; rintro e w6 ⟨rfl, b6⟩) | (go_at_call 9; refine (HAW.out _).mono ?_; rintro e w7 ⟨rfl, b7⟩))
        exact bodyPost_ret (v := .bool true) (by simp [results, Try.results5, go_sem]) rfl ⟨rfl, (HB6.out.trans (b6.mono HB6.out.size)).trans (b7.mono (Nat.le_trans HB6.out.size b6.size))⟩
end Go.Proofs.Ytifgojkmdicdmaa
