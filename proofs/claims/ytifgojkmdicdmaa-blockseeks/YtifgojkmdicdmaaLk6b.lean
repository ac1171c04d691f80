/- The landed block: a key, taken from bytes. -/
import Derived.Test.YtifgojkmdicdmaaLk6
import Derived.Test.YtifgojkmdicdmaaSfn
namespace Go.Proofs.Ytifgojkmdicdmaa
open Go.RowKit
set_option linter.unusedVariables false
set_option linter.unusedSimpArgs false

/-- Two rows of bytes in a new row. -/
theorem rb2_k {w : World} {a1 a2 : Option Addr} {m1 m2 c1 c2 : Nat} {x1 x2 : List Int} (h1 : Sl w a1 m1 c1 x1) (h2 : Sl w a2 m2 c2 x2) :
    RB (w.alloc (.cells #[.slice a1 m1 c1, .slice a2 m2 c2] 25)) (some ⟨w.heap.size, 0, none⟩) 2 2 [x1, x2] := by
  have hb : Below w.heap.size w (w.alloc (.cells #[.slice a1 m1 c1, .slice a2 m2 c2] 25)) := (Below.refl _ w).alloc (Nat.le_refl _) _
  refine ⟨rfl, (fun q => by cases q), Nat.le_refl _, by unfold maxLen; omega, fun i r hr => ?_⟩
  have hc : ∀ j, (w.alloc (.cells #[.slice a1 m1 c1, .slice a2 m2 c2] 25)).cell? ⟨w.heap.size, 0 + j, none⟩ = #[Value.slice a1 m1 c1, .slice a2 m2 c2][j]? := fun j => by
    rw [Nat.zero_add]
    exact cell_of_row _ _ _ _ _ _ (heap_alloc_new w _)
  match i, hr with
  | 0, hr => obtain rfl : x1 = r := by simpa using hr
             exact ⟨_, _, a1, c1, rfl, by rw [hc, h1.1]; rfl, by rw [h1.1]; exact h1.later hb⟩
  | 1, hr => obtain rfl : x2 = r := by simpa using hr
             exact ⟨_, _, a2, c2, rfl, by rw [hc, h2.1]; rfl, by rw [h2.1]; exact h2.later hb⟩
  | n + 2, hr => simp at hr
theorem nmL_le (d : List Int) : (nmL d).1 ≤ 4611686018427387904 := rdN_le
theorem nmL_len (d : List Int) : (nmL d).2.1.length ≤ d.length := rdN_len (s := (d, 0))

set_option maxHeartbeats 4000000 in
set_option maxRecDepth 100000 in
theorem tkey_k {w : World} {ao ka : Option Addr} {len cap kl kc : Nat} {d key : List Int} (h : Sl w ao len cap d) (hl : len ≤ 175921860444160) (hk : Sl w ka kl kc key) (hkl : kl ≤ 512) :
    Calls Try.prog 56 #[.slice ao len cap, .slice ka kl kc] w fun e w' => ∃ v r, e = .returned (.tuple #[v, r, .int .i64 ((kE key d).1 : Nat)]) ∧ Row w.heap.size w' v (kE key d).2.1 ∧ Rests ao len cap d r (kE key d).2.2 ∧ Below w.heap.size w w' := by
  have hn1 := tnum_k h
  have HS : Hid (Sl w ao len cap d ∧ Sl w ka kl kc key ∧ len ≤ 175921860444160) := ⟨h, hk, hl⟩
  have hkc : kl ≤ kc := hk.2.2.2.1
  have hkey : key.length = kl := hk.1
  have hl1 := nmL_le d
  have hll := nmL_len d
  have hdl : d.length = len := h.1
  unfold kE
  rw [hkey]
  obtain ⟨⟨n1, l1, e1⟩, hF⟩ : ∃ x, nmL d = x := ⟨_, rfl⟩
  rw [hF] at hn1 hl1 hll ⊢
  simp only at hn1 hl1 hll ⊢
  have hn63 : n1 ≤ 2 ^ 63 - 1 := by omega
  have hk62 : kl ≤ 2 ^ 61 := by omega
  clear h hk hF
  by_cases q1 : e1 = 0
  · subst q1
    rw [if_neg (by simp)]
    rw [show rst (l1, 0) = l1 from rfl] at hn1
    by_cases q2 : kl < n1
    · rw [if_pos q2]
      have c1 : (kl : Int) < (n1 : Int) := by omega
      clear q2 hl1 hll hkc hkey hdl hl
      go_enter Try.func56, Try.ntmps56
      go_wp2_with (go_at_call 57; refine hn1.mono ?_; rintro e w1 ⟨r1, rfl, s1, b1⟩)
      exact bodyPost_ret (v := .tuple #[.slice none 0 0, .slice none 0 0, .int .i64 3]) (by simp [results, Try.results56, go_sem]) rfl ⟨_, _, rfl, Row.nil _ _, Rests.nil _ _ _ _, b1⟩
    · rw [if_neg q2]
      have c1 : (n1 : Int) ≤ (kl : Int) := by omega
      have m1 := nmL_le l1
      have m2 := nmL_len l1
      have HN2 : Hid (∀ {wx a c}, Sl wx a l1.length c l1 → Calls Try.prog 57 #[.slice a l1.length c] wx fun e w' => ∃ v, e = .returned (.tuple #[.int .i64 ((nmL l1).1 : Nat), v, .int .i64 ((nmL l1).2.2 : Nat)]) ∧ Rests a l1.length c l1 v (rst (nmL l1).2) ∧ Below wx.heap.size wx w') := fun {wx a c} hs => tnum_k hs
      obtain ⟨⟨n2, l2, e2⟩, hF2⟩ : ∃ x, nmL l1 = x := ⟨_, rfl⟩
      rw [hF2] at HN2 m1 m2 ⊢
      simp only at HN2 m1 m2 ⊢
      have hn2 : n2 ≤ 2 ^ 63 - 1 := by omega
      have HWR : Hid (wrap64 ((n1 : Int) + (n2 : Int)) = (n1 : Int) + (n2 : Int)) := by show _ = _; unfold wrap64; omega
      have hl162 : l1.length ≤ 2 ^ 62 := by omega
      have hl262 : l2.length ≤ 2 ^ 62 := by omega
      clear hF2
      by_cases q3 : e2 = 0
      · subst q3
        rw [if_neg (by simp)]
        rw [show rst (l2, 0) = l2 from rfl] at HN2
        by_cases q4 : 512 < n1 + n2
        · rw [if_pos q4]
          have c4 : (512 : Int) < (n1 : Int) + (n2 : Int) := by omega
          clear q4 q2 hl1 hll hkc hkey hdl hl m1 m2
          go_enter Try.func56, Try.ntmps56
          go_upto_region 6 with (go_at_call 57; refine hn1.mono ?_; rintro e w1 ⟨r1, rfl, s1, b1⟩)
          obtain ⟨a1, c1', hr1, K1⟩ := s1 _ HS.out.1
          subst hr1
          have hN2 := HN2.out (K1.later b1)
          have hw := HWR.out
          go_wp2_with (go_at_call 57; refine hN2.mono ?_; rintro e w2 ⟨r2, rfl, s2, b2⟩)
          exact bodyPost_ret (v := .tuple #[.slice none 0 0, .slice none 0 0, .int .i64 2]) (by simp [results, Try.results56, go_sem]) rfl ⟨_, _, rfl, Row.nil _ _, Rests.nil _ _ _ _, b1.trans (b2.mono b1.size)⟩
        · rw [if_neg q4]
          have c4 : (n1 : Int) + (n2 : Int) ≤ 512 := by omega
          have c44 : ¬ ((512 : Int) < (n1 : Int) + (n2 : Int)) := by omega
          by_cases q5 : l2.length < n2
          · rw [if_pos q5]
            have c5 : (l2.length : Int) < (n2 : Int) := by omega
            clear q5 q4 q2 hl1 hll hkc hkey hdl hl m1 m2
            go_enter Try.func56, Try.ntmps56
            go_upto_region 6 with (go_at_call 57; refine hn1.mono ?_; rintro e w1 ⟨r1, rfl, s1, b1⟩)
            obtain ⟨a1, c1', hr1, K1⟩ := s1 _ HS.out.1
            subst hr1
            have hN2 := HN2.out (K1.later b1)
            have HSS := hid (And.intro s1 b1)
            go_upto_region 9 with (go_at_call 57; refine hN2.mono ?_; rintro e w2 ⟨r2, rfl, s2, b2⟩)
            obtain ⟨a2, c2, hr2, K2⟩ := s2 _ K1
            subst hr2
            have hw := HWR.out
            go_wp2_with fail
            exact bodyPost_ret (v := .tuple #[.slice none 0 0, .slice none 0 0, .int .i64 5]) (by simp [results, Try.results56, go_sem]) rfl ⟨_, _, rfl, Row.nil _ _, Rests.nil _ _ _ _, b1.trans (b2.mono b1.size)⟩
          · rw [if_neg q5]
            have c5 : (n2 : Int) ≤ (l2.length : Int) := by omega
            have hsk := HS.out.2.1.upto0 n1 (by omega)
            have hcu := run_uptoK .i64 ka kl kc n1 (by omega)
            generalize cutA ka kc 0 = k0 at hsk hcu
            have HX : Hid (n2 ≤ l2.length ∧ n1 + n2 ≤ 512) := ⟨by omega, by omega⟩
            have HSK := hid hsk
            clear q5 q4 q2 hl1 hll hkc hkey hdl hl m1 m2 hsk
            go_enter Try.func56, Try.ntmps56
            go_upto_region 6 with (go_at_call 57; refine hn1.mono ?_; rintro e w1 ⟨r1, rfl, s1, b1⟩)
            obtain ⟨a1, c1', hr1, K1⟩ := s1 _ HS.out.1
            subst hr1
            have hN2 := HN2.out (K1.later b1)
            have HSS := hid (And.intro s1 b1)
            have HK1 := hid K1
            clear hn1 s1 b1 K1
            go_upto_region 9 with (go_at_call 57; refine hN2.mono ?_; rintro e w2 ⟨r2, rfl, s2, b2⟩)
            obtain ⟨a2, c2, hr2, K2⟩ := s2 _ HK1.out
            subst hr2
            have hb2 := HSS.out.2.trans (b2.mono HSS.out.2.size)
            have HR2 := hid (HSS.out.1.trans s2)
            have HB2 := hid hb2
            have hcv := run_uptoK .i64 a2 l2.length c2 n2 (by have := HX.out; have := K2.2.2.2.1; omega)
            have hcw := fun w => run_from w a2 l2.length c2 n2 HX.out.1 K2.2.2.2.1
            have HF : Hid (Rests a2 l2.length c2 l2 (.slice (cutA a2 c2 n2) (l2.length - n2) (c2 - n2)) (l2.drop n2)) := Rests.from n2 HX.out.1 rfl
            have HSV := hid ((K2.later hb2).upto0 n2 HX.out.1)
            have HSK2 := hid (HSK.out.later hb2)
            clear hN2 s2 b2 K2 HSS hb2 HSK
            generalize cutA a2 c2 0 = v0 at hcv HSV
            generalize hL2 : l2.length = L2 at *
            generalize cutA a2 c2 n2 = v1 at hcw HF
            generalize L2 - n2 = L3 at hcw HF
            have hw := HWR.out
            go_upto_region 13 with fail
            clear hw
            have hcc : Calls Try.prog 25 #[.slice (some ⟨w2.heap.size, 0, none⟩) 2 2] (w2.alloc (.cells #[.slice k0 n1 kc, .slice v0 n2 c2] 25)).drew fun e w' => ∃ v, e = .returned v ∧ Row w2.heap.size w' v (key.take n1 ++ l2.take n2) ∧ Below w2.heap.size w2 w' := by
              have ht : tot [key.take n1, l2.take n2] ≤ 175921860444160 := by
                have h1 := HX.out
                have h2 := HSK2.out.1
                have h3 := HSV.out.1
                unfold tot
                simp only [List.flatten_cons, List.flatten_nil, List.append_nil, List.length_append]
                omega
              have hb : Below w2.heap.size w2 (w2.alloc (.cells #[.slice k0 n1 kc, .slice v0 n2 c2] 25)) := (Below.refl _ _).alloc (Nat.le_refl _) _
              have hrb := (rb2_k HSK2.out HSV.out).later ((Below.refl (w2.alloc (.cells #[.slice k0 n1 kc, .slice v0 n2 c2] 25)).heap.size _).drew)
              refine (concat_any hrb ht).mono ?_
              rintro e w' ⟨v, he, hr, hb'⟩
              have bb := hb.drew
              have hr2 := hr.base bb.size
              simp only [List.flatten_cons, List.flatten_nil, List.append_nil] at hr2
              exact ⟨v, he, hr2, bb.trans (hb'.mono bb.size)⟩
            clear HSK2 HSV HK1 HX HWR HN2 HS hL2 c1 c4 c44 hk62 hl162 hl262 hn2 hn63
            go_region_held_law (fun w' => True) (exact trivial) (first | (refine step_fn 25 (args := #[.slice (some ⟨w2.heap.size, 0, none⟩) 2 2]) rfl rfl (by simp [Act.eval, Act.put]) (by kernel_rfl) hcc ?_; rintro e w3 ⟨v3, rfl, r3, b3⟩; refine ⟨_, rfl, ?_⟩))
            go_wp2_with fail
            exact bodyPost_ret (v := .tuple #[v3, .slice v1 L3 (c2 - n2), .int .i64 0]) (by simp [results, Try.results56, go_sem]) rfl ⟨v3, _, rfl, r3.base HB2.out.size, HR2.out.trans HF.out, HB2.out.trans (b3.mono HB2.out.size)⟩
      · rw [if_pos q3]
        have hne : ((e2 : Int) != 0) = true := by simp; omega
        clear q3 q2 hl1 hll hkc hkey hdl hl m1 m2
        go_enter Try.func56, Try.ntmps56
        go_upto_region 6 with (go_at_call 57; refine hn1.mono ?_; rintro e w1 ⟨r1, rfl, s1, b1⟩)
        obtain ⟨a1, c1', hr1, K1⟩ := s1 _ HS.out.1
        subst hr1
        have hN2 := HN2.out (K1.later b1)
        go_wp2_with (go_at_call 57; refine hN2.mono ?_; rintro e w2 ⟨r2, rfl, s2, b2⟩)
        exact bodyPost_ret (v := .tuple #[.slice none 0 0, .slice none 0 0, .int .i64 (e2 : Nat)]) (by simp [results, Try.results56, go_sem]) rfl ⟨_, _, rfl, Row.nil _ _, Rests.nil _ _ _ _, b1.trans (b2.mono b1.size)⟩
  · rw [if_pos q1]
    have hne : ((e1 : Int) != 0) = true := by simp; omega
    clear q1 hl1 hll hkc hkey hdl hl
    go_enter Try.func56, Try.ntmps56
    go_wp2_with (go_at_call 57; refine hn1.mono ?_; rintro e w1 ⟨r1, rfl, s1, b1⟩)
    exact bodyPost_ret (v := .tuple #[.slice none 0 0, .slice none 0 0, .int .i64 (e1 : Nat)]) (by simp [results, Try.results56, go_sem]) rfl ⟨_, _, rfl, Row.nil _ _, Rests.nil _ _ _ _, b1⟩
end Go.Proofs.Ytifgojkmdicdmaa
