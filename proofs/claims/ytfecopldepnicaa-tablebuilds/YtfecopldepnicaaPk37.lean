import Derived.BigQuiet
import Derived.Deep.RegionHeldLaw
import Derived.Test.YtfecopldepnicaaPk05
import Derived.Test.YtfecopldepnicaaPk08
import Derived.Test.YtfecopldepnicaaPk18
import Derived.Test.YtfecopldepnicaaPk25
import Derived.Test.YtfecopldepnicaaPk30
import Derived.Test.YtfecopldepnicaaPk34
/- The landed block: what it takes from bytes: a number, a byte of Gone, a value. -/
namespace Go.Proofs.Ytfecopldepnicaa
open Go.RowKit
set_option linter.unusedVariables false
set_option linter.unusedSimpArgs false

set_option maxHeartbeats 1000000 in
set_option maxRecDepth 100000 in
theorem tnum_k {w : World} {ao : Option Addr} {len cap : Nat} {d : List Int} (h : Sl w ao len cap d) :
    Calls Try.prog 111 #[.slice ao len cap] w fun e w' => ∃ v, e = .returned (.tuple #[.int .i64 ((nmL d).1 : Nat), v, .int .i64 ((nmL d).2.2 : Nat)]) ∧ Rests ao len cap d v (rst (nmL d).2) ∧ Below w.heap.size w w' := by
  have ht := tk_l h
  have hlt := tk_lt d
  have hln := h.1
  have hcap := h.2.2.2.1
  have hcm : cap ≤ 2 ^ 63 - 1 := by have := h.2.2.2.2.1; unfold maxLen at this; omega
  rw [nmL_def]
  unfold rst
  by_cases q : (tk d).1 = 0
  · have hus := tk_used q
    rw [if_neg (not_not_intro q)]
    rw [q] at ht
    by_cases q2 : 4611686018427387904 < (tk d).2.1
    · rw [if_pos q2]
      simp only [show (3 : Nat) ≠ 0 by decide, ne_eq, not_false_eq_true, if_true]
      generalize (tk d).2.1 = n at ht hlt q2
      generalize (tk d).2.2 = sz at ht
      have c1 : (4611686018427387904 : Int) < (n : Int) := by omega
      clear h q hlt hln hcap hcm q2
      go_enter Try.func111, Try.ntmps111
      go_wp2_with (go_at_call 98; refine ht.mono ?_; rintro e w' ⟨rfl, hw⟩; obtain rfl := hw.symm)
      exact bodyPost_ret (v := .tuple #[.int .i64 0, .slice none 0 0, .int .i64 3]) (by simp [results, Try.results111, go_sem]) rfl ⟨_, rfl, Rests.nil _ _ _ _, Below.refl _ _⟩
    · rw [if_neg q2]
      simp only [ne_eq, not_true_eq_false, if_false]
      have hf := h.from (tk d).2.2 (by omega)
      have hcf := fun w => run_from w ao len cap (tk d).2.2 (by omega) hcap
      generalize (tk d).2.1 = n at ht hlt q2
      generalize (tk d).2.2 = sz at ht hf hcf hus
      have c1 : (n : Int) ≤ 4611686018427387904 := by omega
      have hn63 : n ≤ 2 ^ 63 - 1 := by omega
      have hsz : sz ≤ 2 ^ 63 - 1 := by omega
      have hF : Hid (Rests ao len cap d (.slice (cutA ao cap sz) (len - sz) (cap - sz)) (d.drop sz)) := Rests.from sz (by omega) hln
      clear h q hlt hln hcap hcm q2 hus hf
      go_enter Try.func111, Try.ntmps111
      go_wp2_with (go_at_call 98; refine ht.mono ?_; rintro e w' ⟨rfl, hw⟩; obtain rfl := hw.symm)
      go_quiet (fail)
      go_wp2_with fail
      exact bodyPost_ret (v := .tuple #[.int .i64 (n : Nat), .slice (cutA ao cap sz) (len - sz) (cap - sz), .int .i64 0]) (by simp [results, Try.results111, go_sem]) rfl ⟨_, rfl, hF.out, below_drewN (Below.refl _ _) _⟩
  · rw [if_pos q]
    simp only [q, ne_eq, not_false_eq_true, if_true]
    generalize (tk d).2.1 = n at ht
    generalize (tk d).2.2 = sz at ht
    generalize (tk d).1 = er at ht q
    have hne : ((er : Int) != 0) = true := by simp; omega
    clear h q hlt hln hcap hcm
    go_enter Try.func111, Try.ntmps111
    go_wp2_with (go_at_call 98; refine ht.mono ?_; rintro e w' ⟨rfl, hw⟩; obtain rfl := hw.symm)
    exact bodyPost_ret (v := .tuple #[.int .i64 0, .slice none 0 0, .int .i64 (er : Nat)]) (by simp [results, Try.results111, go_sem]) rfl ⟨_, rfl, Rests.nil _ _ _ _, Below.refl _ _⟩

set_option maxHeartbeats 1000000 in
set_option maxRecDepth 100000 in
theorem tval_k {w : World} {ao : Option Addr} {len cap : Nat} {d : List Int} (h : Sl w ao len cap d) (hl : len ≤ 175921860444160) :
    Calls Try.prog 113 #[.slice ao len cap] w fun e w' => ∃ v r, e = .returned (.tuple #[v, r, .int .i64 ((rdB 2048 (d, 0)).2.2 : Nat)]) ∧ Row w.heap.size w' v (rdB 2048 (d, 0)).1 ∧ Rests ao len cap d r (rst (rdB 2048 (d, 0)).2) ∧ Below w.heap.size w w' := by
  have ht := tb_l h hl 2048 (by omega)
  have hln := h.1
  have hcap := h.2.2.2.1
  have hcm : cap ≤ 2 ^ 63 - 1 := by have := h.2.2.2.2.1; unfold maxLen at this; omega
  unfold rdB rst
  simp only [ne_eq, not_true_eq_false, if_false]
  by_cases q : (tb d 2048).1 = 0
  · have hus := tb_used q
    rw [if_neg (not_not_intro q)]
    simp only [not_true_eq_false, if_false]
    rw [q] at ht
    have hf := h.from (tb d 2048).2.2 (by omega)
    have hcf := fun w => run_from w ao len cap (tb d 2048).2.2 (by omega) hcap
    generalize (tb d 2048).2.2 = sz at ht hf hcf hus
    generalize (tb d 2048).2.1 = s at ht
    have hsz : sz ≤ 2 ^ 63 - 1 := by omega
    have hF : Hid (Rests ao len cap d (.slice (cutA ao cap sz) (len - sz) (cap - sz)) (d.drop sz)) := Rests.from sz (by omega) hln
    clear h q hln hcap hcm hus hf hl
    go_enter Try.func113, Try.ntmps113
    go_wp2_with (go_at_call 97; refine ht.mono ?_; rintro e w' ⟨v, rfl, r1, b1⟩)
    go_quiet (fail)
    go_wp2_with fail
    exact bodyPost_ret (v := .tuple #[v, .slice (cutA ao cap sz) (len - sz) (cap - sz), .int .i64 0]) (by simp [results, Try.results113, go_sem]) rfl ⟨_, _, rfl, r1.later (below_drewN (Below.refl _ _) _), hF.out, below_drewN b1 _⟩
  · rw [if_pos q]
    simp only [q, not_false_eq_true, if_true]
    generalize (tb d 2048).2.1 = n at ht
    generalize (tb d 2048).2.2 = sz at ht
    generalize (tb d 2048).1 = er at ht q
    have hne : ((er : Int) != 0) = true := by simp; omega
    clear h q hln hcap hcm hl
    go_enter Try.func113, Try.ntmps113
    go_wp2_with (go_at_call 97; refine ht.mono ?_; rintro e w' ⟨v, rfl, r1, b1⟩)
    exact bodyPost_ret (v := .tuple #[.slice none 0 0, .slice none 0 0, .int .i64 (er : Nat)]) (by simp [results, Try.results113, go_sem]) rfl ⟨_, _, rfl, Row.nil _ _, Rests.nil _ _ _ _, b1⟩

set_option maxHeartbeats 1000000 in
set_option maxRecDepth 100000 in
theorem tgone_k {w : World} {ao : Option Addr} {len cap : Nat} {d : List Int} (h : Sl w ao len cap d) :
    Calls Try.prog 112 #[.slice ao len cap] w fun e w' => ∃ r, e = .returned (.tuple #[.bool (rdF (d, 0)).1, r, .int .i64 ((rdF (d, 0)).2.2 : Nat)]) ∧ Rests ao len cap d r (rst (rdF (d, 0)).2) ∧ Below w.heap.size w w' := by
  have hr := read_any ao len cap (xof d) 1 w h.2.2.2.2.2 h.2.2.2.1
  have hcap := h.2.2.2.1
  have hln := h.1
  have hcm : cap ≤ 2 ^ 63 - 1 := by have := h.2.2.2.2.1; unfold maxLen at this; omega
  unfold readV at hr
  rw [if_pos (by unfold InSize; omega)] at hr
  cases d with
  | nil =>
    have h0 : len = 0 := by simpa using hln.symm
    rw [if_pos (by omega)] at hr
    clear h hcap hln hcm h0
    go_enter Try.func112, Try.ntmps112
    go_wp2_with (go_at_call 96; refine hr.mono ?_; rintro e w' ⟨rfl, hw⟩; obtain rfl := hw.symm)
    exact bodyPost_ret (v := .tuple #[.bool false, .slice none 0 0, .int .i64 5]) (by simp [results, Try.results112, go_sem]) rfl ⟨_, rfl, Rests.nil _ _ _ _, Below.refl _ _⟩
  | cons c r =>
    have hl1 : 1 ≤ len := by rw [← hln]; simp
    rw [if_neg (by omega)] at hr
    have hc := h.2.1 c (by simp)
    obtain ⟨n, rfl⟩ := Int.eq_ofNat_of_zero_le hc.1
    have e1 : fv (xof ((n : Int) :: r)) (1 : Int).toNat = n := by simp [fv, xof]
    rw [e1] at hr
    have hf := h.from 1 hl1
    have hcf : ∀ w, (Instr.slice 25 (.slice ao len cap) (some (.int .i64 1)) none none).run Try.prog w = .ok (.slice (cutA ao cap 1) (len - 1) (cap - 1)) w := fun w => run_from w ao len cap 1 hl1 hcap
    have hF : Hid (Rests ao len cap ((n : Int) :: r) (.slice (cutA ao cap 1) (len - 1) (cap - 1)) r) := Rests.from 1 hl1 hln
    clear h hf hln e1 hcap
    by_cases q0 : n = 0
    · subst q0
      clear hc
      go_enter Try.func112, Try.ntmps112
      go_wp2_with (go_at_call 96; refine hr.mono ?_; rintro e w' ⟨rfl, hw⟩; obtain rfl := hw.symm)
      go_quiet (fail)
      go_wp2_with fail
      exact bodyPost_ret (v := .tuple #[.bool false, .slice (cutA ao cap 1) (len - 1) (cap - 1), .int .i64 0]) (by simp [results, Try.results112, go_sem]) rfl ⟨_, rfl, hF.out, below_drewN (Below.refl _ _) _⟩
    by_cases q1 : n = 1
    · subst q1
      clear hc
      go_enter Try.func112, Try.ntmps112
      go_wp2_with (go_at_call 96; refine hr.mono ?_; rintro e w' ⟨rfl, hw⟩; obtain rfl := hw.symm)
      go_quiet (fail)
      go_wp2_with fail
      exact bodyPost_ret (v := .tuple #[.bool true, .slice (cutA ao cap 1) (len - 1) (cap - 1), .int .i64 0]) (by simp [results, Try.results112, go_sem]) rfl ⟨_, rfl, hF.out, below_drewN (Below.refl _ _) _⟩
    · have c0 : ((n : Int) != 0) = true := by simp; omega
      have c1 : ((n : Int) != 1) = true := by simp; omega
      have hR : rdF ((n : Int) :: r, 0) = (false, (r, 3)) := by
        unfold rdF
        simp only [ne_eq, not_true_eq_false, if_false]
        rw [if_pos (by omega), show ((n : Int) == 1) = false by simp; omega]
      rw [hR]
      clear hc q0 q1 hF hR hcf
      go_enter Try.func112, Try.ntmps112
      go_wp2_with (go_at_call 96; refine hr.mono ?_; rintro e w' ⟨rfl, hw⟩; obtain rfl := hw.symm)
      exact bodyPost_ret (v := .tuple #[.bool false, .slice none 0 0, .int .i64 3]) (by simp [results, Try.results112, go_sem]) rfl ⟨_, rfl, Rests.nil _ _ _ _, Below.refl _ _⟩

end Go.Proofs.Ytfecopldepnicaa

/- The landed block: a key, taken from bytes. -/
namespace Go.Proofs.Ytfecopldepnicaa
open Go.RowKit
set_option linter.unusedVariables false
set_option linter.unusedSimpArgs false

/-- Two rows of bytes in a new row. -/
theorem rb2_k {w : World} {a1 a2 : Option Addr} {m1 m2 c1 c2 : Nat} {x1 x2 : List Int} (h1 : Sl w a1 m1 c1 x1) (h2 : Sl w a2 m2 c2 x2) :
    RB (w.alloc (.cells #[.slice a1 m1 c1, .slice a2 m2 c2] 25)) (some ⟨w.heap.size, 0, none⟩) 2 2 [x1, x2] := by
  have hb : Below w.heap.size w (w.alloc (.cells #[.slice a1 m1 c1, .slice a2 m2 c2] 25)) := (Below.refl _ w).alloc (Nat.le_refl _) _
  refine ⟨rfl, (fun q => by cases q), Nat.le_refl _, by unfold maxLen; omega, fun i r hr => ?_⟩
  have hc : ∀ j, (w.alloc (.cells #[.slice a1 m1 c1, .slice a2 m2 c2] 25)).cell? ⟨w.heap.size, 0 + j, none⟩ = #[Value.slice a1 m1 c1, .slice a2 m2 c2][j]? := fun j => by
    rw [Nat.zero_add]
    exact cell_of_row _ _ _ _ _ _ (heap_alloc_new w _)
  match i, hr with
  | 0, hr => obtain rfl : x1 = r := by simpa using hr
             exact ⟨_, _, a1, c1, rfl, by rw [hc, h1.1]; rfl, by rw [h1.1]; exact h1.later hb⟩
  | 1, hr => obtain rfl : x2 = r := by simpa using hr
             exact ⟨_, _, a2, c2, rfl, by rw [hc, h2.1]; rfl, by rw [h2.1]; exact h2.later hb⟩
  | n + 2, hr => simp at hr
theorem nmL_le (d : List Int) : (nmL d).1 ≤ 4611686018427387904 := rdN_le
theorem nmL_len (d : List Int) : (nmL d).2.1.length ≤ d.length := rdN_len (s := (d, 0))

set_option maxHeartbeats 4000000 in
set_option maxRecDepth 100000 in
theorem tkey_k {w : World} {ao ka : Option Addr} {len cap kl kc : Nat} {d key : List Int} (h : Sl w ao len cap d) (hl : len ≤ 175921860444160) (hk : Sl w ka kl kc key) (hkl : kl ≤ 512) :
    Calls Try.prog 110 #[.slice ao len cap, .slice ka kl kc] w fun e w' => ∃ v r, e = .returned (.tuple #[v, r, .int .i64 ((kE key d).1 : Nat)]) ∧ Row w.heap.size w' v (kE key d).2.1 ∧ Rests ao len cap d r (kE key d).2.2 ∧ Below w.heap.size w w' := by
  have hn1 := tnum_k h
  have HS : Hid (Sl w ao len cap d ∧ Sl w ka kl kc key ∧ len ≤ 175921860444160) := ⟨h, hk, hl⟩
  have hkc : kl ≤ kc := hk.2.2.2.1
  have hkey : key.length = kl := hk.1
  have hl1 := nmL_le d
  have hll := nmL_len d
  have hdl : d.length = len := h.1
  unfold kE
  rw [hkey]
  obtain ⟨⟨n1, l1, e1⟩, hF⟩ : ∃ x, nmL d = x := ⟨_, rfl⟩
  rw [hF] at hn1 hl1 hll ⊢
  simp only at hn1 hl1 hll ⊢
  have hn63 : n1 ≤ 2 ^ 63 - 1 := by omega
  have hk62 : kl ≤ 2 ^ 61 := by omega
  clear h hk hF
  by_cases q1 : e1 = 0
  · subst q1
    rw [if_neg (by simp)]
    rw [show rst (l1, 0) = l1 from rfl] at hn1
    by_cases q2 : kl < n1
    · rw [if_pos q2]
      have c1 : (kl : Int) < (n1 : Int) := by omega
      clear q2 hl1 hll hkc hkey hdl hl
      go_enter Try.func110, Try.ntmps110
      go_wp2_with (go_at_call 111; refine hn1.mono ?_; rintro e w1 ⟨r1, rfl, s1, b1⟩)
      exact bodyPost_ret (v := .tuple #[.slice none 0 0, .slice none 0 0, .int .i64 3]) (by simp [results, Try.results110, go_sem]) rfl ⟨_, _, rfl, Row.nil _ _, Rests.nil _ _ _ _, b1⟩
    · rw [if_neg q2]
      have c1 : (n1 : Int) ≤ (kl : Int) := by omega
      have m1 := nmL_le l1
      have m2 := nmL_len l1
      have HN2 : Hid (∀ {wx a c}, Sl wx a l1.length c l1 → Calls Try.prog 111 #[.slice a l1.length c] wx fun e w' => ∃ v, e = .returned (.tuple #[.int .i64 ((nmL l1).1 : Nat), v, .int .i64 ((nmL l1).2.2 : Nat)]) ∧ Rests a l1.length c l1 v (rst (nmL l1).2) ∧ Below wx.heap.size wx w') := fun {wx a c} hs => tnum_k hs
      obtain ⟨⟨n2, l2, e2⟩, hF2⟩ : ∃ x, nmL l1 = x := ⟨_, rfl⟩
      rw [hF2] at HN2 m1 m2 ⊢
      simp only at HN2 m1 m2 ⊢
      have hn2 : n2 ≤ 2 ^ 63 - 1 := by omega
      have HWR : Hid (wrap64 ((n1 : Int) + (n2 : Int)) = (n1 : Int) + (n2 : Int)) := by show _ = _; unfold wrap64; omega
      have hl162 : l1.length ≤ 2 ^ 62 := by omega
      have hl262 : l2.length ≤ 2 ^ 62 := by omega
      clear hF2
      by_cases q3 : e2 = 0
      · subst q3
        rw [if_neg (by simp)]
        rw [show rst (l2, 0) = l2 from rfl] at HN2
        by_cases q4 : 512 < n1 + n2
        · rw [if_pos q4]
          have c4 : (512 : Int) < (n1 : Int) + (n2 : Int) := by omega
          clear q4 q2 hl1 hll hkc hkey hdl hl m1 m2
          go_enter Try.func110, Try.ntmps110
          go_upto_region 6 with (go_at_call 111; refine hn1.mono ?_; rintro e w1 ⟨r1, rfl, s1, b1⟩)
          obtain ⟨a1, c1', hr1, K1⟩ := s1 _ HS.out.1
          subst hr1
          have hN2 := HN2.out (K1.later b1)
          have hw := HWR.out
          go_wp2_with (go_at_call 111; refine hN2.mono ?_; rintro e w2 ⟨r2, rfl, s2, b2⟩)
          exact bodyPost_ret (v := .tuple #[.slice none 0 0, .slice none 0 0, .int .i64 2]) (by simp [results, Try.results110, go_sem]) rfl ⟨_, _, rfl, Row.nil _ _, Rests.nil _ _ _ _, b1.trans (b2.mono b1.size)⟩
        · rw [if_neg q4]
          have c4 : (n1 : Int) + (n2 : Int) ≤ 512 := by omega
          have c44 : ¬ ((512 : Int) < (n1 : Int) + (n2 : Int)) := by omega
          by_cases q5 : l2.length < n2
          · rw [if_pos q5]
            have c5 : (l2.length : Int) < (n2 : Int) := by omega
            clear q5 q4 q2 hl1 hll hkc hkey hdl hl m1 m2
            go_enter Try.func110, Try.ntmps110
            go_upto_region 6 with (go_at_call 111; refine hn1.mono ?_; rintro e w1 ⟨r1, rfl, s1, b1⟩)
            obtain ⟨a1, c1', hr1, K1⟩ := s1 _ HS.out.1
            subst hr1
            have hN2 := HN2.out (K1.later b1)
            have HSS := hid (And.intro s1 b1)
            go_upto_region 9 with (go_at_call 111; refine hN2.mono ?_; rintro e w2 ⟨r2, rfl, s2, b2⟩)
            obtain ⟨a2, c2, hr2, K2⟩ := s2 _ K1
            subst hr2
            have hw := HWR.out
            go_wp2_with fail
            exact bodyPost_ret (v := .tuple #[.slice none 0 0, .slice none 0 0, .int .i64 5]) (by simp [results, Try.results110, go_sem]) rfl ⟨_, _, rfl, Row.nil _ _, Rests.nil _ _ _ _, b1.trans (b2.mono b1.size)⟩
          · rw [if_neg q5]
            have c5 : (n2 : Int) ≤ (l2.length : Int) := by omega
            have hsk := HS.out.2.1.upto0 n1 (by omega)
            have hcu := run_uptoK .i64 ka kl kc n1 (by omega)
            generalize cutA ka kc 0 = k0 at hsk hcu
            have HX : Hid (n2 ≤ l2.length ∧ n1 + n2 ≤ 512) := ⟨by omega, by omega⟩
            have HSK := hid hsk
            clear q5 q4 q2 hl1 hll hkc hkey hdl hl m1 m2 hsk
            go_enter Try.func110, Try.ntmps110
            go_upto_region 6 with (go_at_call 111; refine hn1.mono ?_; rintro e w1 ⟨r1, rfl, s1, b1⟩)
            obtain ⟨a1, c1', hr1, K1⟩ := s1 _ HS.out.1
            subst hr1
            have hN2 := HN2.out (K1.later b1)
            have HSS := hid (And.intro s1 b1)
            have HK1 := hid K1
            clear hn1 s1 b1 K1
            go_upto_region 9 with (go_at_call 111; refine hN2.mono ?_; rintro e w2 ⟨r2, rfl, s2, b2⟩)
            obtain ⟨a2, c2, hr2, K2⟩ := s2 _ HK1.out
            subst hr2
            have hb2 := HSS.out.2.trans (b2.mono HSS.out.2.size)
            have HR2 := hid (HSS.out.1.trans s2)
            have HB2 := hid hb2
            have hcv := run_uptoK .i64 a2 l2.length c2 n2 (by have := HX.out; have := K2.2.2.2.1; omega)
            have hcw := fun w => run_from w a2 l2.length c2 n2 HX.out.1 K2.2.2.2.1
            have HF : Hid (Rests a2 l2.length c2 l2 (.slice (cutA a2 c2 n2) (l2.length - n2) (c2 - n2)) (l2.drop n2)) := Rests.from n2 HX.out.1 rfl
            have HSV := hid ((K2.later hb2).upto0 n2 HX.out.1)
            have HSK2 := hid (HSK.out.later hb2)
            clear hN2 s2 b2 K2 HSS hb2 HSK
            generalize cutA a2 c2 0 = v0 at hcv HSV
            generalize hL2 : l2.length = L2 at *
            generalize cutA a2 c2 n2 = v1 at hcw HF
            generalize L2 - n2 = L3 at hcw HF
            have hw := HWR.out
            go_upto_region 13 with fail
            clear hw
            have hcc : Calls Try.prog 87 #[.slice (some ⟨w2.heap.size, 0, none⟩) 2 2] (w2.alloc (.cells #[.slice k0 n1 kc, .slice v0 n2 c2] 25)).drew fun e w' => ∃ v, e = .returned v ∧ Row w2.heap.size w' v (key.take n1 ++ l2.take n2) ∧ Below w2.heap.size w2 w' := by
              have ht : tot [key.take n1, l2.take n2] ≤ 175921860444160 := by
                have h1 := HX.out
                have h2 := HSK2.out.1
                have h3 := HSV.out.1
                unfold tot
                simp only [List.flatten_cons, List.flatten_nil, List.append_nil, List.length_append]
                omega
              have hb : Below w2.heap.size w2 (w2.alloc (.cells #[.slice k0 n1 kc, .slice v0 n2 c2] 25)) := (Below.refl _ _).alloc (Nat.le_refl _) _
              have hrb := (rb2_k HSK2.out HSV.out).later ((Below.refl (w2.alloc (.cells #[.slice k0 n1 kc, .slice v0 n2 c2] 25)).heap.size _).drew)
              refine (concat_any hrb ht).mono ?_
              rintro e w' ⟨v, he, hr, hb'⟩
              have bb := hb.drew
              have hr2 := hr.base bb.size
              simp only [List.flatten_cons, List.flatten_nil, List.append_nil] at hr2
              exact ⟨v, he, hr2, bb.trans (hb'.mono bb.size)⟩
            clear HSK2 HSV HK1 HX HWR HN2 HS hL2 c1 c4 c44 hk62 hl162 hl262 hn2 hn63
            go_region_held_law (fun w' => True) (exact trivial) (first | (refine step_fn 87 (args := #[.slice (some ⟨w2.heap.size, 0, none⟩) 2 2]) rfl rfl (by simp [Act.eval, Act.put]) (by kernel_rfl) hcc ?_; rintro e w3 ⟨v3, rfl, r3, b3⟩; refine ⟨_, rfl, ?_⟩))
            go_wp2_with fail
            exact bodyPost_ret (v := .tuple #[v3, .slice v1 L3 (c2 - n2), .int .i64 0]) (by simp [results, Try.results110, go_sem]) rfl ⟨v3, _, rfl, r3.base HB2.out.size, HR2.out.trans HF.out, HB2.out.trans (b3.mono HB2.out.size)⟩
      · rw [if_pos q3]
        have hne : ((e2 : Int) != 0) = true := by simp; omega
        clear q3 q2 hl1 hll hkc hkey hdl hl m1 m2
        go_enter Try.func110, Try.ntmps110
        go_upto_region 6 with (go_at_call 111; refine hn1.mono ?_; rintro e w1 ⟨r1, rfl, s1, b1⟩)
        obtain ⟨a1, c1', hr1, K1⟩ := s1 _ HS.out.1
        subst hr1
        have hN2 := HN2.out (K1.later b1)
        go_wp2_with (go_at_call 111; refine hN2.mono ?_; rintro e w2 ⟨r2, rfl, s2, b2⟩)
        exact bodyPost_ret (v := .tuple #[.slice none 0 0, .slice none 0 0, .int .i64 (e2 : Nat)]) (by simp [results, Try.results110, go_sem]) rfl ⟨_, _, rfl, Row.nil _ _, Rests.nil _ _ _ _, b1.trans (b2.mono b1.size)⟩
  · rw [if_pos q1]
    have hne : ((e1 : Int) != 0) = true := by simp; omega
    clear q1 hl1 hll hkc hkey hdl hl
    go_enter Try.func110, Try.ntmps110
    go_wp2_with (go_at_call 111; refine hn1.mono ?_; rintro e w1 ⟨r1, rfl, s1, b1⟩)
    exact bodyPost_ret (v := .tuple #[.slice none 0 0, .slice none 0 0, .int .i64 (e1 : Nat)]) (by simp [results, Try.results110, go_sem]) rfl ⟨_, _, rfl, Row.nil _ _, Rests.nil _ _ _ _, b1⟩
end Go.Proofs.Ytfecopldepnicaa

/- The landed block: an entry, taken from bytes. -/
namespace Go.Proofs.Ytfecopldepnicaa
open Go.RowKit
set_option linter.unusedVariables false
set_option linter.unusedSimpArgs false

/-- As Q; by a goto: J of its label. -/
def jumpsE (J : Nat → Act → World → Prop) (Q : Exit → Act → World → Prop) : Exit → Act → World → Prop
  | .goto l, a, w => J l a w
  | e, a, w => Q e a w
/-- A scope out of which the run jumps forward, to labels of its own. -/
theorem wp_scope_fwd {P : Program} {a : Act} {w : World} {Q : Exit → Act → World → Prop} {c : Code} (J : Nat → Act → World → Prop) (first : c.wp P (jumpsE J Q) a w)
    (pass : ∀ l a w, J l a w → ∃ r, findLabel c l = some r ∧ r.wp P (Exit.noGoto Q) a w) : (Code.scope c).wp P Q a w := by
  intro b k cs
  obtain ⟨e, a₁, w₁, hq, harr⟩ := first b (.inScope c :: k) cs
  cases e with
  | normal => exact ⟨.normal, a₁, w₁, hq, .head step_scope (Steps.trans harr (.one step_inScope))⟩
  | exit id => exact ⟨.exit id, a₁, w₁, hq, fun k' hk => .head step_scope (harr k' (by simp [exitTo, hk]))⟩
  | goto l' =>
    obtain ⟨r, hf, hr⟩ := pass l' a₁ w₁ hq
    have hg : gotoIn l' (.inScope c :: k) = some (.code r :: .inScope c :: k) := by simp [gotoIn, hf]
    have key : ∃ e a' w', Q e a' w' ∧ Arrives P (lone (b.at a₁ (.code r :: .inScope c :: k)) cs w₁) b k cs e a' w' := by
      obtain ⟨e₂, a₂, w₂, hq₂, harr₂⟩ := hr b (.inScope c :: k) cs
      cases e₂ with
      | normal => exact ⟨.normal, a₂, w₂, hq₂, Steps.trans harr₂ (.one step_inScope)⟩
      | exit id => exact ⟨.exit id, a₂, w₂, hq₂, fun k' hk => harr₂ k' (by simp [exitTo, hk])⟩
      | goto l => exact hq₂.elim
      | ret => exact ⟨_, a₂, w₂, hq₂, harr₂⟩
      | panic ch => exact ⟨_, a₂, w₂, hq₂, harr₂⟩
      | outgrown => exact ⟨_, a₂, w₂, hq₂, harr₂⟩
    obtain ⟨e₂, a₂, w₂, hq₂, harr₂⟩ := key
    exact ⟨e₂, a₂, w₂, hq₂, .of_steps (.head step_scope (harr _ hg)) harr₂⟩
  | ret => exact ⟨_, a₁, w₁, hq, .of_steps (.one step_scope) harr⟩
  | panic ch => exact ⟨_, a₁, w₁, hq, .of_steps (.one step_scope) harr⟩
  | outgrown => exact ⟨_, a₁, w₁, hq, .of_steps (.one step_scope) harr⟩

section
variable {key l l1 l2 l3 l4 : List Int} {n1 n3 e1 e2 e3 e4 : Nat} {g : Bool} {v : List Int}
theorem deV_1 (h : nmL l = (n1, (l1, e1))) (he : e1 ≠ 0) : (deV key (l, 0)).2.2 = e1 := by
  have h' : rdN 4611686018427387904 (l, 0) = (n1, (l1, e1)) := h
  unfold deV
  rw [h']
  simp only
  have r1 : rdF (l1, e1) = (false, (l1, e1)) := by unfold rdF; rw [if_pos he]
  rw [r1]
  simp only [Bool.false_eq_true, if_false]
  rw [rdN_err (s := (l1, e1)) he]
  simp only
  unfold rdB
  rw [if_pos he]
theorem rdF_false {d : List Int} (h2 : rdF (d, 0) = (g, (l2, e2))) (he : e2 ≠ 0) : g = false := by
  unfold rdF at h2
  simp only [ne_eq, not_true_eq_false, if_false] at h2
  split at h2
  · simp only [Prod.mk.injEq] at h2; exact h2.1.symm
  · rename_i c r
    simp only [Prod.mk.injEq] at h2
    obtain ⟨a, b, c'⟩ := h2
    by_cases q : 1 < c
    · rw [← a]; simp; omega
    · rw [if_neg q] at c'; exact absurd c'.symm he
theorem deV_2 (h : nmL l = (n1, (l1, 0))) (h2 : rdF (l1, 0) = (g, (l2, e2))) (he : e2 ≠ 0) : (deV key (l, 0)).2.2 = e2 := by
  have h' : rdN 4611686018427387904 (l, 0) = (n1, (l1, 0)) := h
  obtain rfl := rdF_false h2 he
  unfold deV
  rw [h']
  simp only
  rw [h2]
  simp only [Bool.false_eq_true, if_false]
  rw [rdN_err (s := (l2, e2)) he]
  simp only
  unfold rdB
  rw [if_pos he]
theorem deV_g (h : nmL l = (n1, (l1, 0))) (h2 : rdF (l1, 0) = (true, (l2, 0))) : deV key (l, 0) = (⟨key, (n1 : Int), true, 0, []⟩, (l2, 0)) := by
  have h' : rdN 4611686018427387904 (l, 0) = (n1, (l1, 0)) := h
  unfold deV
  rw [h']
  simp only
  rw [h2]
  simp
theorem deV_3 (h : nmL l = (n1, (l1, 0))) (h2 : rdF (l1, 0) = (false, (l2, 0))) (h3 : nmL l2 = (n3, (l3, e3))) (he : e3 ≠ 0) : (deV key (l, 0)).2.2 = e3 := by
  have h' : rdN 4611686018427387904 (l, 0) = (n1, (l1, 0)) := h
  have h3' : rdN 4611686018427387904 (l2, 0) = (n3, (l3, e3)) := h3
  unfold deV
  rw [h']
  simp only
  rw [h2]
  simp only [Bool.false_eq_true, if_false]
  rw [h3']
  simp only
  unfold rdB
  rw [if_pos he]
theorem deV_4 (h : nmL l = (n1, (l1, 0))) (h2 : rdF (l1, 0) = (false, (l2, 0))) (h3 : nmL l2 = (n3, (l3, 0))) (h4 : rdB 2048 (l3, 0) = (v, (l4, e4))) : deV key (l, 0) = (⟨key, (n1 : Int), false, (n3 : Int), v⟩, (l4, e4)) := by
  have h' : rdN 4611686018427387904 (l, 0) = (n1, (l1, 0)) := h
  have h3' : rdN 4611686018427387904 (l2, 0) = (n3, (l3, 0)) := h3
  unfold deV
  rw [h']
  simp only
  rw [h2]
  simp only [Bool.false_eq_true, if_false]
  rw [h3']
  simp only
  rw [h4]
end
theorem tE_k {key d : List Int} (h : (kE key d).1 ≠ 0) : tE key d = ((kE key d).1, noE, []) := by unfold tE; rw [if_pos h]
theorem tE_e {key d kk l : List Int} {e : Nat} (h0 : kE key d = (0, kk, l)) (he : (deV kk (l, 0)).2.2 = e) (hne : e ≠ 0) : tE key d = (e, noE, []) := by
  unfold tE
  rw [h0]
  simp only [ne_eq, not_true_eq_false, if_false]
  rw [he, if_pos hne]
theorem tE_o {key d kk l r : List Int} {x : EntV} (h0 : kE key d = (0, kk, l)) (he : deV kk (l, 0) = (x, (r, 0))) : tE key d = (0, x, r) := by
  unfold tE
  rw [h0]
  simp only [ne_eq, not_true_eq_false, if_false]
  rw [he]
  simp
theorem kE_okb {key d : List Int} (hk : Okb key) (hd : Okb d) : Okb (kE key d).2.1 := by
  have h1 : ∀ d, Okb d → Okb (nmL d).2.1 := fun d hd => by
    rw [nmL_def]
    split
    · exact hd
    · split
      · exact hd
      · exact fun x hx => hd x (List.mem_of_mem_drop hx)
  unfold kE
  split
  · exact fun x hx => by cases hx
  split
  · exact fun x hx => by cases hx
  split
  · exact fun x hx => by cases hx
  split
  · exact fun x hx => by cases hx
  split
  · exact fun x hx => by cases hx
  · exact Okb.app (fun x hx => hk x (List.mem_of_mem_take hx)) (fun x hx => h1 _ (h1 _ hd) x (List.mem_of_mem_take hx))

theorem kE_left (key d : List Int) : (kE key d).2.2.length ≤ d.length := by
  have h1 := rdN_len (most := 4611686018427387904) (s := (d, 0))
  have h2 := rdN_len (most := 4611686018427387904) (s := ((nmL d).2.1, 0))
  have h3 : (nmL (nmL d).2.1).2.1.length ≤ (nmL d).2.1.length := h2
  have h4 : (nmL d).2.1.length ≤ d.length := h1
  unfold kE
  split
  · simp
  split
  · simp
  split
  · simp
  split
  · simp
  split
  · simp
  · simp only [List.length_drop]; omega

/-- Where the walk stands: the answer's place, the entry under way. -/
structure TEk (w wx : World) (C : Array Value) : Prop where
  bR : wx.heap[w.heap.size]? = some (.cells #[.slice none 0 0, .int .i64 0, .bool false, .int .i64 0, .slice none 0 0] 34 (0, 0))
  bo : wx.heap[w.heap.size + 1]? = some (.cells C 34 (0, 0))
  bel : Below w.heap.size w wx
theorem TEk.later {w wx wy : World} {C : Array Value} (h : TEk w wx C) (hb : Below wx.heap.size wx wy) : TEk w wy C :=
  ⟨(hb.block _ (Array.getElem?_eq_some_iff.1 h.bR).1).trans h.bR, (hb.block _ (Array.getElem?_eq_some_iff.1 h.bo).1).trans h.bo, h.bel.trans (hb.mono h.bel.size)⟩
theorem TEk.set {w wx : World} {C : Array Value} (h : TEk w wx C) (k : Nat) (u : Value) : TEk w (wx.setCell ⟨w.heap.size + 1, k, none⟩ u) (C.setIfInBounds k u) := by
  have hg := grown_set wx (w.heap.size + 1) k u
  refine ⟨?_, heap_set h.bo k u, Below.grown h.bel hg h.bel.size fun k e => ?_⟩
  · rw [hg.block _ (Array.getElem?_eq_some_iff.1 h.bR).1 (fun e => by simp only [Option.some.injEq] at e; omega)]; exact h.bR
  · simp only [Option.some.injEq] at e
    omega
theorem TEk.facts {w wx : World} {c0 c1 c2 c3 c4 : Value} (h : TEk w wx #[c0, c1, c2, c3, c4]) :
    wx.cell? ⟨w.heap.size + 1, 0, none⟩ = some c0 ∧ wx.cell? ⟨w.heap.size + 1, 1, none⟩ = some c1 ∧ wx.cell? ⟨w.heap.size + 1, 2, none⟩ = some c2 ∧ wx.cell? ⟨w.heap.size + 1, 3, none⟩ = some c3 ∧ wx.cell? ⟨w.heap.size + 1, 4, none⟩ = some c4 ∧
    wx.frozen? ⟨w.heap.size + 1, 0, none⟩ = false ∧ wx.frozen? ⟨w.heap.size + 1, 1, none⟩ = false ∧ wx.frozen? ⟨w.heap.size + 1, 2, none⟩ = false ∧ wx.frozen? ⟨w.heap.size + 1, 3, none⟩ = false ∧ wx.frozen? ⟨w.heap.size + 1, 4, none⟩ = false :=
  ⟨by rw [cell_of h.bo]; rfl, by rw [cell_of h.bo]; rfl, by rw [cell_of h.bo]; rfl, by rw [cell_of h.bo]; rfl, by rw [cell_of h.bo]; rfl, frozen_of h.bo 0, frozen_of h.bo 1, frozen_of h.bo 2, frozen_of h.bo 3, frozen_of h.bo 4⟩
theorem TEk.res {w wx : World} {C : Array Value} (h : TEk w wx C) :
    wx.cell? ⟨w.heap.size, 0, none⟩ = some (.slice none 0 0) ∧ wx.cell? ⟨w.heap.size, 1, none⟩ = some (.int .i64 0) ∧ wx.cell? ⟨w.heap.size, 2, none⟩ = some (.bool false) ∧ wx.cell? ⟨w.heap.size, 3, none⟩ = some (.int .i64 0) ∧ wx.cell? ⟨w.heap.size, 4, none⟩ = some (.slice none 0 0) ∧
    wx.frozen? ⟨w.heap.size, 0, none⟩ = false ∧ wx.frozen? ⟨w.heap.size, 1, none⟩ = false ∧ wx.frozen? ⟨w.heap.size, 2, none⟩ = false ∧ wx.frozen? ⟨w.heap.size, 3, none⟩ = false ∧ wx.frozen? ⟨w.heap.size, 4, none⟩ = false :=
  ⟨by rw [cell_of h.bR]; rfl, by rw [cell_of h.bR]; rfl, by rw [cell_of h.bR]; rfl, by rw [cell_of h.bR]; rfl, by rw [cell_of h.bR]; rfl, frozen_of h.bR 0, frozen_of h.bR 1, frozen_of h.bR 2, frozen_of h.bR 3, frozen_of h.bR 4⟩
/-- The answer is laid. -/
def lay5 (p : Nat) (wx : World) (x0 x1 x2 x3 x4 : Value) : World := ((((wx.setCell ⟨p, 0, none⟩ x0).setCell ⟨p, 1, none⟩ x1).setCell ⟨p, 2, none⟩ x2).setCell ⟨p, 3, none⟩ x3).setCell ⟨p, 4, none⟩ x4
theorem lay5_grown (p : Nat) (wx : World) (x0 x1 x2 x3 x4 : Value) : wx.grownBy (lay5 p wx x0 x1 x2 x3 x4) (some p) :=
  grown_trans (grown_trans (grown_trans (grown_trans (grown_set _ _ _ _) (grown_set _ _ _ _)) (grown_set _ _ _ _)) (grown_set _ _ _ _)) (grown_set _ _ _ _)
theorem lay5_block {p : Nat} {wx : World} {y0 y1 y2 y3 y4 : Value} (h : wx.heap[p]? = some (.cells #[y0, y1, y2, y3, y4] 34 (0, 0))) (x0 x1 x2 x3 x4 : Value) : (lay5 p wx x0 x1 x2 x3 x4).heap[p]? = some (.cells #[x0, x1, x2, x3, x4] 34 (0, 0)) := by
  have hb := heap_set (heap_set (heap_set (heap_set (heap_set h 0 x0) 1 x1) 2 x2) 3 x3) 4 x4
  unfold lay5
  rw [hb]
  rfl
theorem in64_nat {n : Nat} (h : n ≤ 4611686018427387904) : In64 (n : Int) := ⟨by omega, by omega⟩
theorem in64_nil : In64 0 := ⟨by decide, by decide⟩
theorem TEk.fin {w wx : World} {C : Array Value} (h : TEk w wx C) (x0 x1 x2 x3 x4 : Value) :
    (lay5 w.heap.size wx x0 x1 x2 x3 x4).cell? ⟨w.heap.size, 0, none⟩ = some x0 ∧ (lay5 w.heap.size wx x0 x1 x2 x3 x4).cell? ⟨w.heap.size, 1, none⟩ = some x1 ∧ (lay5 w.heap.size wx x0 x1 x2 x3 x4).cell? ⟨w.heap.size, 2, none⟩ = some x2 ∧ (lay5 w.heap.size wx x0 x1 x2 x3 x4).cell? ⟨w.heap.size, 3, none⟩ = some x3 ∧ (lay5 w.heap.size wx x0 x1 x2 x3 x4).cell? ⟨w.heap.size, 4, none⟩ = some x4 ∧ Below w.heap.size w (lay5 w.heap.size wx x0 x1 x2 x3 x4) := by
  have hb := lay5_block h.bR x0 x1 x2 x3 x4
  refine ⟨?_, ?_, ?_, ?_, ?_, Below.grown h.bel (lay5_grown _ wx x0 x1 x2 x3 x4) h.bel.size fun k e => ?_⟩
  · rw [cell_of hb]; rfl
  · rw [cell_of hb]; rfl
  · rw [cell_of hb]; rfl
  · rw [cell_of hb]; rfl
  · rw [cell_of hb]; rfl
  · simp only [Option.some.injEq] at e
    omega
theorem tek_begin (w : World) : TEk w ((w.alloc (.cells #[.slice none 0 0, .int .i64 0, .bool false, .int .i64 0, .slice none 0 0] 34)).alloc (.cells #[.slice none 0 0, .int .i64 0, .bool false, .int .i64 0, .slice none 0 0] 34)) #[.slice none 0 0, .int .i64 0, .bool false, .int .i64 0, .slice none 0 0] := by
  have b1 : Below w.heap.size w (w.alloc (.cells #[.slice none 0 0, .int .i64 0, .bool false, .int .i64 0, .slice none 0 0] 34)) := (Below.refl _ _).alloc (Nat.le_refl _) _
  have hs : (w.alloc (.cells #[.slice none 0 0, .int .i64 0, .bool false, .int .i64 0, .slice none 0 0] 34)).heap.size = w.heap.size + 1 := by simp
  have b2 := (Below.refl _ (w.alloc (.cells #[.slice none 0 0, .int .i64 0, .bool false, .int .i64 0, .slice none 0 0] 34))).alloc (Nat.le_refl _) (.cells #[.slice none 0 0, .int .i64 0, .bool false, .int .i64 0, .slice none 0 0] 34)
  refine ⟨?_, ?_, b1.trans (b2.mono (by omega))⟩
  · rw [b2.block w.heap.size (by omega)]; exact heap_alloc_new w _
  · rw [← hs]; exact heap_alloc_new _ _
/-- An entry under way that is done. -/
structure DnE (w : World) (ao : Option Addr) (len cap : Nat) (key d : List Int) (wx : World) (ka : Option Addr) (kc : Nat) (va : Option Addr) (vc : Nat) (e : EntV) (rv : Value) : Prop where
  te : TEk w wx #[.slice ka e.key.length kc, .int .i64 e.seq, .bool e.gone, .int .i64 e.till, .slice va e.val.length vc]
  sk : Sg (fun b => w.heap.size + 2 ≤ b) wx ka kc e.key
  sv : Sg (fun b => w.heap.size + 2 ≤ b) wx va vc e.val
  i1 : In64 e.seq
  i2 : In64 e.till
  eq : ∃ r, tE key d = (0, e, r) ∧ Rests ao len cap d rv r
/-- What takeEntry answers. -/
def ToldK (w : World) (ao : Option Addr) (len cap : Nat) (key d : List Int) (r : Ending) (w' : World) : Prop :=
  ∃ ka kc va vc rv, r = .returned (.tuple #[entA ka kc va vc (tE key d).2.1, rv, .int .i64 ((tE key d).1 : Nat)]) ∧ Sg (fun b => w.heap.size ≤ b) w' ka kc (tE key d).2.1.key ∧ Sg (fun b => w.heap.size ≤ b) w' va vc (tE key d).2.1.val ∧ In64 (tE key d).2.1.seq ∧ In64 (tE key d).2.1.till ∧ Rests ao len cap d rv (tE key d).2.2 ∧ Below w.heap.size w w'
theorem DnE.told {w : World} {ao : Option Addr} {len cap : Nat} {key d : List Int} {wx : World} {ka : Option Addr} {kc : Nat} {va : Option Addr} {vc : Nat} {e : EntV} {rv : Value} (h : DnE w ao len cap key d wx ka kc va vc e rv) :
    ToldK w ao len cap key d (.returned (.tuple #[.agg #[.slice ka e.key.length kc, .int .i64 e.seq, .bool e.gone, .int .i64 e.till, .slice va e.val.length vc], rv, .int .i64 0])) (lay5 w.heap.size wx (.slice ka e.key.length kc) (.int .i64 e.seq) (.bool e.gone) (.int .i64 e.till) (.slice va e.val.length vc)) := by
  obtain ⟨r, he, hr⟩ := h.eq
  have hg := lay5_grown w.heap.size wx (.slice ka e.key.length kc) (.int .i64 e.seq) (.bool e.gone) (.int .i64 e.till) (.slice va e.val.length vc)
  unfold ToldK
  rw [he]
  exact ⟨ka, kc, va, vc, rv, rfl, (h.sk.grown hg fun b hb e => by simp only [Option.some.injEq] at e; omega).weak fun b _ hb => by omega, (h.sv.grown hg fun b hb e => by simp only [Option.some.injEq] at e; omega).weak fun b _ hb => by omega, h.i1, h.i2, hr, (h.te.fin _ _ _ _ _).2.2.2.2.2⟩
theorem told_no {w : World} {ao : Option Addr} {len cap : Nat} {key d : List Int} {wx : World} {C : Array Value} {E : Nat} (h : TEk w wx C) (he : tE key d = (E, noE, [])) :
    ToldK w ao len cap key d (.returned (.tuple #[.agg #[.slice none 0 0, .int .i64 0, .bool false, .int .i64 0, .slice none 0 0], .slice none 0 0, .int .i64 (E : Nat)])) (lay5 w.heap.size wx (.slice none 0 0) (.int .i64 0) (.bool false) (.int .i64 0) (.slice none 0 0)) := by
  unfold ToldK
  rw [he]
  exact ⟨none, 0, none, 0, .slice none 0 0, rfl, Sg.nil _ _, Sg.nil _ _, in64_nil, in64_nil, Rests.nil _ _ _ _, (h.fin _ _ _ _ _).2.2.2.2.2⟩

/-- An entry under way, with its key. -/
structure UWk (w wx : World) (ka : Option Addr) (kc : Nat) (kk : List Int) (C : Array Value) : Prop where
  te : TEk w wx C
  sk : Sg (fun b => w.heap.size + 2 ≤ b) wx ka kc kk
theorem UWk.later {w wx wy : World} {ka : Option Addr} {kc : Nat} {kk : List Int} {C : Array Value} (h : UWk w wx ka kc kk C) (hb : Below wx.heap.size wx wy) : UWk w wy ka kc kk C := ⟨h.te.later hb, h.sk.later hb⟩
theorem UWk.set {w wx : World} {ka : Option Addr} {kc : Nat} {kk : List Int} {C : Array Value} (h : UWk w wx ka kc kk C) (k : Nat) (u : Value) : UWk w (wx.setCell ⟨w.heap.size + 1, k, none⟩ u) ka kc kk (C.setIfInBounds k u) :=
  ⟨h.te.set k u, h.sk.grown (grown_set wx (w.heap.size + 1) k u) fun b hb e => by simp only [Option.some.injEq] at e; omega⟩
theorem Rests.form {w : World} {ao : Option Addr} {len cap : Nat} {d xs : List Int} {r : Value} (h : Rests ao len cap d r xs) (hs : Sl w ao len cap d) : ∃ a c, r = .slice a xs.length c := by
  obtain ⟨a, c, e, _⟩ := h w hs
  exact ⟨a, c, e⟩

set_option maxHeartbeats 8000000 in
set_option maxRecDepth 100000 in
theorem tent_k {w : World} {ao pa : Option Addr} {len cap pl pc : Nat} {d key : List Int} (h : Sl w ao len cap d) (hl : len ≤ 175921860444160) (hk : Sl w pa pl pc key) (hkl : pl ≤ 512) :
    Calls Try.prog 100 #[.slice ao len cap, .slice pa pl pc] w (ToldK w ao len cap key d) := by
  have HT0 : Hid (TEk w _ _) := tek_begin w
  have HS0 : Hid (Sl w ao len cap d ∧ len ≤ 175921860444160 ∧ d.length = len) := ⟨h, hl, h.1⟩
  obtain ⟨W, hW⟩ : ∃ W, W = ((w.alloc (.cells #[.slice none 0 0, .int .i64 0, .bool false, .int .i64 0, .slice none 0 0] 34)).alloc (.cells #[.slice none 0 0, .int .i64 0, .bool false, .int .i64 0, .slice none 0 0] 34)) := ⟨_, rfl⟩
  rw [← hW] at HT0
  have HW := hid hW
  have hk0 := tkey_k (h.later HT0.out.bel) hl (hk.later HT0.out.bel) hkl
  have hok := kE_okb hk.2.1 h.2.1
  obtain ⟨⟨e0, kk, l0⟩, hF⟩ : ∃ x, kE key d = x := ⟨_, rfl⟩
  rw [hF] at hk0 hok
  have HF := hid hF
  have HOK := hid hok
  have HSZ : Hid (w.heap.size + 2 ≤ W.heap.size) := by show _ ≤ _; rw [hW]; simp
  simp only at hk0
  clear h hl hF hW hk hkl hok
  go_enter Try.func100, Try.ntmps100
  go_wp2_with fail
  refine wp_scope_fwd (fun l a' w' => (l = 0 ∧ ∃ (E : Nat) (C : Array Value), Hid (tE key d = (E, noE, []) ∧ TEk w w' C) ∧ ∃ (u0 u1 u2 u3 u5 u6 u7 u8 u9 u11 u12 u13 u14 u15 u16 u17 u18 u19 u20 u21 u22 u23 u24 u25 u26 u27 u28 u29 u30 u31 u32 u33 u34 u35 u36 u37 u38 u39 u40 u41 u42 u43 u44 u45 u46 u47 u48 u49 u50 u51 u52 u53 u54 u55 u56 u57 u58 u59 u60 u61 u62 u63 : Value), a' = { tmps := #[u0, u1, u2, u3, .pointer (some ⟨w.heap.size, 0, none⟩), u5, u6, u7, u8, u9, .int .i64 (E : Nat), u11, u12, u13, u14, u15, u16, u17, u18, u19, u20, u21, u22, u23, u24, u25, u26, u27, u28, u29, u30, u31, u32, u33, u34, u35, u36, u37, u38, u39, u40, u41, u42, u43, u44, u45, u46, u47, u48, u49, u50, u51, u52, u53, u54, u55, u56, u57, u58, u59, u60, u61, u62, u63], defers := [] }) ∨ (l = 1 ∧ ∃ ka kc va vc e rv, Hid (DnE w ao len cap key d w' ka kc va vc e rv) ∧ ∃ (u0 u1 u2 u3 u5 u6 u8 u10 u11 u12 u13 u14 u15 u16 u17 u18 u19 u20 u21 u22 u23 u24 u25 u26 u27 u28 u29 u30 u31 u32 u33 u34 u35 u36 u37 u38 u39 u40 u41 u42 u43 u44 u45 u46 u47 u48 u49 u50 u51 u52 u53 u54 u55 u56 u57 u58 u59 u60 u61 u62 u63 : Value), a' = { tmps := #[u0, u1, u2, u3, .pointer (some ⟨w.heap.size, 0, none⟩), u5, u6, .pointer (some ⟨w.heap.size + 1, 0, none⟩), u8, rv, u10, u11, u12, u13, u14, u15, u16, u17, u18, u19, u20, u21, u22, u23, u24, u25, u26, u27, u28, u29, u30, u31, u32, u33, u34, u35, u36, u37, u38, u39, u40, u41, u42, u43, u44, u45, u46, u47, u48, u49, u50, u51, u52, u53, u54, u55, u56, u57, u58, u59, u60, u61, u62, u63], defers := [] })) ?_ ?_
  · go_upto_region 2 with fail
    rw [← HW.out]
    by_cases q0 : e0 = 0
    · subst q0
      go_upto_region 4 with (go_at_call 110; refine hk0.mono ?_; rintro e w1 ⟨v1, r1, rfl, R1, s1, b1⟩)
      obtain ⟨a1, c1, hv1, K1⟩ := sg_row R1 HOK.out
      obtain ⟨a2, c2, hr1⟩ := s1.form HS0.out.1
      subst hv1 hr1
      have U1 : UWk w w1 a1 c1 kk #[.slice none 0 0, .int .i64 0, .bool false, .int .i64 0, .slice none 0 0] := ⟨HT0.out.later b1, K1.weak fun b _ hb => by have := HSZ.out; omega⟩
      have U1' : UWk w (w1.setCell ⟨w.heap.size + 1, 0, none⟩ (.slice a1 kk.length c1)) a1 c1 kk #[.slice a1 kk.length c1, .int .i64 0, .bool false, .int .i64 0, .slice none 0 0] := U1.set 0 (.slice a1 kk.length c1)
      obtain ⟨y0, y1, y2, y3, y4, f0, f1, f2, f3, f4⟩ := U1.te.facts
      go_upto_region 5 with fail
      obtain ⟨W1, hW1⟩ : ∃ W1, W1 = w1.setCell ⟨w.heap.size + 1, 0, none⟩ (.slice a1 kk.length c1) := ⟨_, rfl⟩
      rw [← hW1] at U1' ⊢
      have HU1 := hid U1'
      have HR1 := hid s1
      have hN1 := tnum_k ((s1 w HS0.out.1).sl.later U1'.te.bel)
      have m1 := nmL_le l0
      have m2 := nmL_len l0
      obtain ⟨⟨n1, l1, e1⟩, hF1⟩ : ∃ x, nmL l0 = x := ⟨_, rfl⟩
      rw [hF1] at hN1 m1 m2
      simp only at hN1 m1 m2
      have HF1 := hid hF1
      have HL0 : Hid (l0.length ≤ d.length) := by
        obtain ⟨_, _, e, hs⟩ := s1 w HS0.out.1
        show _ ≤ _
        have h5 : (kE key d).2.2.length ≤ d.length := kE_left key d
        rw [HF.out] at h5
        exact h5
      have HM : Hid (n1 ≤ 4611686018427387904 ∧ l1.length ≤ l0.length) := ⟨m1, m2⟩
      have hn163 : n1 ≤ 2 ^ 63 - 1 := by omega
      clear U1 U1' hW1 hF1 s1 b1 K1 R1 hk0 y0 y1 y2 y3 y4 f0 f1 f2 f3 f4 m1 m2 HT0
      obtain ⟨y0, y1, y2, y3, y4, f0, f1, f2, f3, f4⟩ := HU1.out.te.facts
      by_cases q1 : e1 = 0
      · subst q1
        rw [show rst (l1, 0) = l1 from rfl] at hN1
        go_upto_region 7 with (go_at_call 111; refine hN1.mono ?_; rintro e w2 ⟨r2, rfl, s2, b2⟩; have U2 := HU1.out.later b2; clear y0 y1 y2 y3 y4 f0 f1 f2 f3 f4; obtain ⟨y0, y1, y2, y3, y4, f0, f1, f2, f3, f4⟩ := U2.te.facts)
        have U2' : UWk w (w2.setCell ⟨w.heap.size + 1, 1, none⟩ (.int .i64 (n1 : Nat))) a1 c1 kk #[.slice a1 kk.length c1, .int .i64 (n1 : Nat), .bool false, .int .i64 0, .slice none 0 0] := U2.set 1 (.int .i64 (n1 : Nat))
        have hr12 := HR1.out.trans s2
        obtain ⟨a3, c3, hr2⟩ := hr12.form HS0.out.1
        subst hr2
        obtain ⟨W2, hW2⟩ : ∃ W2, W2 = w2.setCell ⟨w.heap.size + 1, 1, none⟩ (.int .i64 (n1 : Nat)) := ⟨_, rfl⟩
        rw [← hW2] at U2' ⊢
        have HU2 := hid U2'
        have HR2 := hid hr12
        have hG := tgone_k ((hr12 w HS0.out.1).sl.later U2'.te.bel)
        have m3 := rdF_len (s := (l1, 0))
        obtain ⟨⟨g, l2, e2⟩, hF2⟩ : ∃ x, rdF (l1, 0) = x := ⟨_, rfl⟩
        rw [hF2] at hG m3
        simp only at hG m3
        have HF2 := hid hF2
        have HM2 : Hid (l2.length ≤ l1.length) := m3
        clear U2 U2' hW2 hF2 s2 b2 hN1 y0 y1 y2 y3 y4 f0 f1 f2 f3 f4 m3 HU1 hr12
        obtain ⟨y0, y1, y2, y3, y4, f0, f1, f2, f3, f4⟩ := HU2.out.te.facts
        by_cases q2 : e2 = 0
        · subst q2
          rw [show rst (l2, 0) = l2 from rfl] at hG
          go_upto_region 9 with (go_at_call 112; refine hG.mono ?_; rintro e w3 ⟨r3, rfl, s3, b3⟩; have U3 := HU2.out.later b3; clear y0 y1 y2 y3 y4 f0 f1 f2 f3 f4; obtain ⟨y0, y1, y2, y3, y4, f0, f1, f2, f3, f4⟩ := U3.te.facts)
          have U3' : UWk w (w3.setCell ⟨w.heap.size + 1, 2, none⟩ (.bool g)) a1 c1 kk #[.slice a1 kk.length c1, .int .i64 (n1 : Nat), .bool g, .int .i64 0, .slice none 0 0] := U3.set 2 (.bool g)
          have hr13 := HR2.out.trans s3
          obtain ⟨a4, c4, hr3⟩ := hr13.form HS0.out.1
          subst hr3
          obtain ⟨W3, hW3⟩ : ∃ W3, W3 = w3.setCell ⟨w.heap.size + 1, 2, none⟩ (.bool g) := ⟨_, rfl⟩
          rw [← hW3] at U3' ⊢
          have HU3 := hid U3'
          have HR3 := hid hr13
          clear U3 U3' hW3 s3 b3 hG y0 y1 y2 y3 y4 f0 f1 f2 f3 f4 HU2 hr13
          obtain ⟨y0, y1, y2, y3, y4, f0, f1, f2, f3, f4⟩ := HU3.out.te.facts
          cases g with
          | true =>
            have HD : Hid (DnE w ao len cap key d W3 a1 c1 none 0 ⟨kk, (n1 : Nat), true, 0, []⟩ (.slice a4 l2.length c4)) := ⟨HU3.out.te, HU3.out.sk, Sg.nil _ _, in64_nat HM.out.1, in64_nil, l2, tE_o HF.out (deV_g HF1.out HF2.out), HR3.out⟩
            go_wp2_with fail
            go_step3
            exact Or.inr ⟨rfl, a1, c1, none, 0, ⟨kk, (n1 : Nat), true, 0, []⟩, .slice a4 l2.length c4, HD, _, _, _, _, _, _, _, _, _, _, _, _, _, _, _, _, _, _, _, _, _, _, _, _, _, _, _, _, _, _, _, _, _, _, _, _, _, _, _, _, _, _, _, _, _, _, _, _, _, _, _, _, _, _, _, _, _, _, _, _, _, rfl⟩
          | false =>
            have hN3 := tnum_k ((HR3.out w HS0.out.1).sl.later HU3.out.te.bel)
            have m1 := nmL_le l2
            have m2 := nmL_len l2
            obtain ⟨⟨n3, l3, e3⟩, hF3⟩ : ∃ x, nmL l2 = x := ⟨_, rfl⟩
            rw [hF3] at hN3 m1 m2
            simp only at hN3 m1 m2
            have HF3 := hid hF3
            have HM3 : Hid (n3 ≤ 4611686018427387904 ∧ l3.length ≤ l2.length) := ⟨m1, m2⟩
            have hn363 : n3 ≤ 2 ^ 63 - 1 := by omega
            clear hF3 m1 m2
            by_cases q3 : e3 = 0
            · subst q3
              rw [show rst (l3, 0) = l3 from rfl] at hN3
              go_upto_region 12 with (go_at_call 111; refine hN3.mono ?_; rintro e w4 ⟨r4, rfl, s4, b4⟩; have U4 := HU3.out.later b4; clear y0 y1 y2 y3 y4 f0 f1 f2 f3 f4; obtain ⟨y0, y1, y2, y3, y4, f0, f1, f2, f3, f4⟩ := U4.te.facts)
              have U4' : UWk w (w4.setCell ⟨w.heap.size + 1, 3, none⟩ (.int .i64 (n3 : Nat))) a1 c1 kk #[.slice a1 kk.length c1, .int .i64 (n1 : Nat), .bool false, .int .i64 (n3 : Nat), .slice none 0 0] := U4.set 3 (.int .i64 (n3 : Nat))
              have hr14 := HR3.out.trans s4
              obtain ⟨a5, c5, hr4⟩ := hr14.form HS0.out.1
              subst hr4
              obtain ⟨W4, hW4⟩ : ∃ W4, W4 = w4.setCell ⟨w.heap.size + 1, 3, none⟩ (.int .i64 (n3 : Nat)) := ⟨_, rfl⟩
              rw [← hW4] at U4' ⊢
              have HU4 := hid U4'
              have HR4 := hid hr14
              have hV := tval_k ((hr14 w HS0.out.1).sl.later U4'.te.bel) (by have := HM3.out; have := HM2.out; have := HM.out; have := HL0.out; have := HS0.out; omega)
              have hov : Okb (rdB 2048 (l3, 0)).1 := rdB_okb (hr14 w HS0.out.1).sl.2.1
              obtain ⟨⟨vv, l4, e4⟩, hF4⟩ : ∃ x, rdB 2048 (l3, 0) = x := ⟨_, rfl⟩
              rw [hF4] at hV hov
              simp only at hV hov
              have HF4 := hid hF4
              have HOV := hid hov
              have HSZ4 : Hid (w.heap.size + 2 ≤ W4.heap.size) := by
                have := (Array.getElem?_eq_some_iff.1 U4'.te.bo).1
                show _ ≤ _
                omega
              clear U4 U4' hW4 hF4 s4 b4 hN3 y0 y1 y2 y3 y4 f0 f1 f2 f3 f4 HU3 hr14 hov
              obtain ⟨y0, y1, y2, y3, y4, f0, f1, f2, f3, f4⟩ := HU4.out.te.facts
              by_cases q4 : e4 = 0
              · subst q4
                rw [show rst (l4, 0) = l4 from rfl] at hV
                go_upto_region 13 with (go_at_call 113; refine hV.mono ?_; rintro e w5 ⟨v5, r5, rfl, R5, s5, b5⟩; obtain ⟨a6, c6, rfl, K5⟩ := sg_row R5 HOV.out; have U5 := HU4.out.later b5; clear y0 y1 y2 y3 y4 f0 f1 f2 f3 f4; obtain ⟨y0, y1, y2, y3, y4, f0, f1, f2, f3, f4⟩ := U5.te.facts)
                have U5' : UWk w (w5.setCell ⟨w.heap.size + 1, 4, none⟩ (.slice a6 vv.length c6)) a1 c1 kk #[.slice a1 kk.length c1, .int .i64 (n1 : Nat), .bool false, .int .i64 (n3 : Nat), .slice a6 vv.length c6] := U5.set 4 (.slice a6 vv.length c6)
                have K5' : Sg (fun b => w.heap.size + 2 ≤ b) (w5.setCell ⟨w.heap.size + 1, 4, none⟩ (.slice a6 vv.length c6)) a6 c6 vv := (K5.weak fun b _ hb => by have := HSZ4.out; omega).grown (grown_set w5 (w.heap.size + 1) 4 (.slice a6 vv.length c6)) fun b hb e => by simp only [Option.some.injEq] at e; omega
                have HD : Hid (DnE w ao len cap key d (w5.setCell ⟨w.heap.size + 1, 4, none⟩ (.slice a6 vv.length c6)) a1 c1 a6 c6 ⟨kk, (n1 : Nat), false, (n3 : Nat), vv⟩ r5) := ⟨U5'.te, U5'.sk, K5', in64_nat HM.out.1, in64_nat HM3.out.1, l4, tE_o HF.out (deV_4 HF1.out HF2.out HF3.out HF4.out), HR4.out.trans s5⟩
                obtain ⟨W5, hW5⟩ : ∃ W5, W5 = w5.setCell ⟨w.heap.size + 1, 4, none⟩ (.slice a6 vv.length c6) := ⟨_, rfl⟩
                rw [← hW5] at HD ⊢
                clear U5 U5' K5 K5' hW5 s5 b5 R5 hV y0 y1 y2 y3 y4 f0 f1 f2 f3 f4 HU4
                obtain ⟨x0, x1, x2, x3, x4, g0, g1, g2, g3, g4⟩ := HD.out.te.facts
                obtain ⟨z0, z1, z2, z3, z4, h0, h1, h2, h3, h4⟩ := HD.out.te.res
                obtain ⟨o0, o1, o2, o3, o4, ob⟩ := HD.out.te.fin (.slice a1 kk.length c1) (.int .i64 (n1 : Nat)) (.bool false) (.int .i64 (n3 : Nat)) (.slice a6 vv.length c6)
                have HO := hid HD.out.told
                unfold lay5 at o0 o1 o2 o3 o4 HO
                clear ob
                go_wp2_with fail
                refine wp_label ?_
                go_wp2_with fail
                try simp only [jumpsE]
                exact bodyPost_ret (v := .tuple #[.agg #[.slice a1 kk.length c1, .int .i64 (n1 : Nat), .bool false, .int .i64 (n3 : Nat), .slice a6 vv.length c6], r5, .int .i64 0]) (by simp [results, Try.results100, go_sem, o0, o1, o2, o3, o4]) rfl HO.out
              · have hne : ((e4 : Int) != 0) = true := by simp; omega
                have HQ : Hid (tE key d = (e4, noE, [])) := tE_e HF.out (by rw [deV_4 HF1.out HF2.out HF3.out HF4.out]) q4
                clear q4
                go_wp2_with (go_at_call 113; refine hV.mono ?_; rintro e w5 ⟨v5, r5, rfl, R5, s5, b5⟩; obtain ⟨a6, c6, rfl, K5⟩ := sg_row R5 HOV.out; have U5 := HU4.out.later b5; clear y0 y1 y2 y3 y4 f0 f1 f2 f3 f4; obtain ⟨y0, y1, y2, y3, y4, f0, f1, f2, f3, f4⟩ := U5.te.facts)
                go_step3
                exact Or.inl ⟨rfl, e4, _, ⟨HQ.out, (U5.set 4 (.slice a6 vv.length c6)).te⟩, _, _, _, _, _, _, _, _, _, _, _, _, _, _, _, _, _, _, _, _, _, _, _, _, _, _, _, _, _, _, _, _, _, _, _, _, _, _, _, _, _, _, _, _, _, _, _, _, _, _, _, _, _, _, _, _, _, _, _, _, _, _, rfl⟩
            · have hne : ((e3 : Int) != 0) = true := by simp; omega
              have HQ : Hid (tE key d = (e3, noE, [])) := tE_e HF.out (deV_3 HF1.out HF2.out HF3.out q3) q3
              clear q3
              go_wp2_with (go_at_call 111; refine hN3.mono ?_; rintro e w4 ⟨r4, rfl, s4, b4⟩; have U4 := HU3.out.later b4; clear y0 y1 y2 y3 y4 f0 f1 f2 f3 f4; obtain ⟨y0, y1, y2, y3, y4, f0, f1, f2, f3, f4⟩ := U4.te.facts)
              go_step3
              exact Or.inl ⟨rfl, e3, _, ⟨HQ.out, (U4.set 3 (.int .i64 (n3 : Nat))).te⟩, _, _, _, _, _, _, _, _, _, _, _, _, _, _, _, _, _, _, _, _, _, _, _, _, _, _, _, _, _, _, _, _, _, _, _, _, _, _, _, _, _, _, _, _, _, _, _, _, _, _, _, _, _, _, _, _, _, _, _, _, _, _, rfl⟩
        · have hne : ((e2 : Int) != 0) = true := by simp; omega
          have HQ : Hid (tE key d = (e2, noE, [])) := tE_e HF.out (deV_2 HF1.out HF2.out q2) q2
          clear q2
          go_wp2_with (go_at_call 112; refine hG.mono ?_; rintro e w3 ⟨r3, rfl, s3, b3⟩; have U3 := HU2.out.later b3; clear y0 y1 y2 y3 y4 f0 f1 f2 f3 f4; obtain ⟨y0, y1, y2, y3, y4, f0, f1, f2, f3, f4⟩ := U3.te.facts)
          go_step3
          exact Or.inl ⟨rfl, e2, _, ⟨HQ.out, (U3.set 2 (.bool g)).te⟩, _, _, _, _, _, _, _, _, _, _, _, _, _, _, _, _, _, _, _, _, _, _, _, _, _, _, _, _, _, _, _, _, _, _, _, _, _, _, _, _, _, _, _, _, _, _, _, _, _, _, _, _, _, _, _, _, _, _, _, _, _, _, rfl⟩
      · have hne : ((e1 : Int) != 0) = true := by simp; omega
        have HQ : Hid (tE key d = (e1, noE, [])) := tE_e HF.out (deV_1 HF1.out q1) q1
        clear q1
        go_wp2_with (go_at_call 111; refine hN1.mono ?_; rintro e w2 ⟨r2, rfl, s2, b2⟩; have U2 := HU1.out.later b2; clear y0 y1 y2 y3 y4 f0 f1 f2 f3 f4; obtain ⟨y0, y1, y2, y3, y4, f0, f1, f2, f3, f4⟩ := U2.te.facts)
        go_step3
        exact Or.inl ⟨rfl, e1, _, ⟨HQ.out, (U2.set 1 (.int .i64 (n1 : Nat))).te⟩, _, _, _, _, _, _, _, _, _, _, _, _, _, _, _, _, _, _, _, _, _, _, _, _, _, _, _, _, _, _, _, _, _, _, _, _, _, _, _, _, _, _, _, _, _, _, _, _, _, _, _, _, _, _, _, _, _, _, _, _, _, _, rfl⟩
    · have hne : ((e0 : Int) != 0) = true := by simp; omega
      have HQ : Hid (tE key d = (e0, noE, [])) := by
        show _ = _
        rw [tE_k (by rw [HF.out]; exact q0), HF.out]
      clear q0
      go_wp2_with (go_at_call 110; refine hk0.mono ?_; rintro e w1 ⟨v1, r1, rfl, R1, s1, b1⟩)
      go_step3
      exact Or.inl ⟨rfl, e0, _, ⟨HQ.out, HT0.out.later b1⟩, _, _, _, _, _, _, _, _, _, _, _, _, _, _, _, _, _, _, _, _, _, _, _, _, _, _, _, _, _, _, _, _, _, _, _, _, _, _, _, _, _, _, _, _, _, _, _, _, _, _, _, _, _, _, _, _, _, _, _, _, _, _, rfl⟩
  · rintro l a' w' (⟨rfl, E, C, HX, u0, u1, u2, u3, u5, u6, u7, u8, u9, u11, u12, u13, u14, u15, u16, u17, u18, u19, u20, u21, u22, u23, u24, u25, u26, u27, u28, u29, u30, u31, u32, u33, u34, u35, u36, u37, u38, u39, u40, u41, u42, u43, u44, u45, u46, u47, u48, u49, u50, u51, u52, u53, u54, u55, u56, u57, u58, u59, u60, u61, u62, u63, rfl⟩ | ⟨rfl, ka, kc, va, vc, e, rv, HX, u0, u1, u2, u3, u5, u6, u8, u10, u11, u12, u13, u14, u15, u16, u17, u18, u19, u20, u21, u22, u23, u24, u25, u26, u27, u28, u29, u30, u31, u32, u33, u34, u35, u36, u37, u38, u39, u40, u41, u42, u43, u44, u45, u46, u47, u48, u49, u50, u51, u52, u53, u54, u55, u56, u57, u58, u59, u60, u61, u62, u63, rfl⟩)
    · refine ⟨_, rfl, ?_⟩
      obtain ⟨z0, z1, z2, z3, z4, h0, h1, h2, h3, h4⟩ := HX.out.2.res
      obtain ⟨o0, o1, o2, o3, o4, ob⟩ := HX.out.2.fin (.slice none 0 0) (.int .i64 0) (.bool false) (.int .i64 0) (.slice none 0 0)
      have HO := hid (told_no (ao := ao) (len := len) (cap := cap) HX.out.2 HX.out.1)
      unfold lay5 at o0 o1 o2 o3 o4 HO
      clear ob
      go_wp2_with fail
      simp only [Exit.noGoto]
      exact bodyPost_ret (v := .tuple #[.agg #[.slice none 0 0, .int .i64 0, .bool false, .int .i64 0, .slice none 0 0], .slice none 0 0, .int .i64 (E : Nat)]) (by simp [results, Try.results100, go_sem, o0, o1, o2, o3, o4]) rfl HO.out
    · refine ⟨_, rfl, ?_⟩
      obtain ⟨x0, x1, x2, x3, x4, g0, g1, g2, g3, g4⟩ := HX.out.te.facts
      obtain ⟨z0, z1, z2, z3, z4, h0, h1, h2, h3, h4⟩ := HX.out.te.res
      obtain ⟨o0, o1, o2, o3, o4, ob⟩ := HX.out.te.fin (.slice ka e.key.length kc) (.int .i64 e.seq) (.bool e.gone) (.int .i64 e.till) (.slice va e.val.length vc)
      have HO := hid HX.out.told
      unfold lay5 at o0 o1 o2 o3 o4 HO
      clear ob
      go_wp2_with fail
      simp only [Exit.noGoto]
      exact bodyPost_ret (v := .tuple #[.agg #[.slice ka e.key.length kc, .int .i64 e.seq, .bool e.gone, .int .i64 e.till, .slice va e.val.length vc], rv, .int .i64 0]) (by simp [results, Try.results100, go_sem, o0, o1, o2, o3, o4]) rfl HO.out
end Go.Proofs.Ytfecopldepnicaa
