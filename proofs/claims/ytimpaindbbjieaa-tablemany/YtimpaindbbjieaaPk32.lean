import Derived.Deep.QuietTactic
import Derived.BigQuiet
import Derived.Deep.RegionHeldLaw
import Derived.Deep.RegionLaw
import Derived.Test.YtimpaindbbjieaaPk01
import Derived.Test.YtimpaindbbjieaaPk20
import Derived.Test.YtimpaindbbjieaaPk31
/- The landed filters: Has. -/
namespace Go.Proofs.Ytimpaindbbjieaa
open Go.RowKit
set_option linter.unusedVariables false
set_option linter.unusedSimpArgs false

theorem run_ix6 (w : World) (A : Array Value) (j : Nat) {k : IntKind} {x : Int} (hA : A.size = 6) (hj : j < 6) (h : A[j]? = some (.int k x)) : (Instr.index 96 (.agg A) (.int .i64 (j : Int))).run Try.prog w = .ok (.int k x) w := by
  have h0 : ¬ ((j : Int) < 0) := by omega
  have hx : A.toList[j]? = some (.int k x) := by rw [Array.getElem?_toList]; exact h
  simp [Instr.index, run_underlying Try.underlying96, asIntOf, go_sem, hj, h]
theorem and_bit {X r : Nat} (hX : X < 256) (hr : r < 8) : (bits .and .u8 (X : Int) ((2 ^ r : Nat) : Int) == 0) = !decide (X / 2 ^ r % 2 = 1) := by
  have hpw : 2 ^ r < 2 ^ 8 := Nat.pow_lt_pow_right (by decide) (by omega)
  rw [u8_and_nat X (2 ^ r) hX (by omega), ← Nat.testBit_eq_decide_div_mod_eq]
  cases hb : X.testBit r
  · have : X &&& 2 ^ r = 0 := by
      apply Nat.eq_of_testBit_eq
      intro i
      rw [Nat.testBit_and, Nat.testBit_two_pow]
      by_cases e : r = i
      · subst e; simp [hb]
      · simp [e]
    rw [this]
    rfl
  · have : X &&& 2 ^ r ≠ 0 := fun e => by
      have h1 : (X &&& 2 ^ r).testBit r = true := by rw [Nat.testBit_and, hb, Nat.testBit_two_pow_self]; rfl
      rw [e] at h1
      simp at h1
    simp only [Bool.not_true, beq_eq_false_iff_ne, ne_eq]
    omega

set_option maxHeartbeats 2000000 in
set_option maxRecDepth 100000 in
theorem bhas_any {w : World} {fa ka : Option Addr} {fl fc kl kc : Nat} {f key : List Int} (h1 : Sl w fa fl fc f) (h2 : Sl w ka kl kc key) :
    Calls Try.prog 56 #[.slice fa fl fc, .slice ka kl kc] w fun e w' => e = .returned (.bool (has f key)) ∧ Below w.heap.size w w' := by
  have hfl := h1.1
  have hl63 : fl ≤ 2 ^ 63 - 1 := by have := h1.2.2.2; unfold maxLen at this; omega
  by_cases q0 : fl = 0
  · have hR : has f key = true := by unfold has; rw [if_pos (.inl (by omega))]
    rw [hR]
    have e0 : ((fl : Int) == 0) = true := by simp; omega
    clear h1 h2 hR q0 hfl
    go_enter Try.func56, Try.ntmps56
    go_wp2_with fail
    exact bodyPost_ret (v := .bool true) (by simp [results, Try.results56, go_sem]) rfl ⟨rfl, Below.refl _ _⟩
  by_cases q1 : 1048576 < fl
  · have hR : has f key = true := by unfold has; rw [if_pos (.inr (by omega))]
    rw [hR]
    have e0 : ((fl : Int) == 0) = false := by simp; omega
    have e1 : (1048576 : Int) < (fl : Int) := by omega
    clear h1 h2 hR q0 hfl q1
    go_enter Try.func56, Try.ntmps56
    go_wp2_with fail
    exact bodyPost_ret (v := .bool true) (by simp [results, Try.results56, go_sem]) rfl ⟨rfl, Below.refl _ _⟩
  have hR : has f key = (prbs key (8 * fl)).all (hasb f) := by unfold has; rw [if_neg (by omega), hfl]
  rw [hR]
  have e0 : ((fl : Int) == 0) = false := by simp; omega
  have e1 : (fl : Int) ≤ 1048576 := by omega
  have hfl62 : fl ≤ 2 ^ 50 := by omega
  have hpr := places_any (M := 8 * fl) h2 (by omega) (by omega)
  rw [show ((8 * fl : Nat) : Int) = (fl : Int) * 8 by omega] at hpr
  have HP : Hid ((∀ p ∈ prbs key (8 * fl), p < 8 * fl) ∧ (prbs key (8 * fl)).length = 6 ∧ (∀ j p, (prbs key (8 * fl))[j]? = some p → (prA key (8 * fl))[j]? = some (Value.int .i64 ((p : Nat) : Int))) ∧ (prA key (8 * fl)).size = 6) := ⟨fun p hp => prbs_lt hp, prbs_len (by omega), fun j p h => prA_at h, prA_size (by omega)⟩
  generalize prA key (8 * fl) = PA at hpr HP
  generalize prbs key (8 * fl) = P at HP
  have HS : Hid (Sl w fa fl fc f) := h1
  obtain ⟨T, hT⟩ : ∃ T, T = P.all (hasb f) := ⟨_, rfl⟩
  rw [← hT]
  have HT : Hid (T = P.all (hasb f)) := hT
  clear h1 h2 hR q0 q1 hT
  go_enter Try.func56, Try.ntmps56
  go_wp2_with (go_at_call 65; refine hpr.mono ?_; rintro e w3 ⟨rfl, b3⟩)
  have HB := hid9 b3
  clear hpr b3
  go_loopg [6, 20] 6 (fun g _ i wr => ∃ j m : Nat, j + g = 6 ∧ i = .int .i64 (j : Int) ∧ wr = w3.drewN m ∧ Hid ((P.take j).all (hasb f) = true))
  case atStart => exact ⟨0, 0, by omega, rfl, rfl, rfl⟩
  case round =>
    obtain ⟨j, m, hj, rfl, hw, HJ⟩ := hrel
    obtain ⟨W3, hW3⟩ : ∃ W, W = w3.drewN m := ⟨_, rfl⟩
    have HB3 : Hid (Below w.heap.size w W3 ∧ W3 = w3.drewN m) := ⟨by rw [hW3]; exact below_drewN HB.out _, hW3⟩
    rw [← hW3] at hw
    subst hw
    clear hW3
    by_cases hjn : j < 6
    · have hjn' : (j : Int) < 6 := by omega
      have hjx : j < P.length := by have := HP.out.2.1; omega
      have HPJ := hid9 (List.getElem?_eq_getElem hjx)
      have hpl := HP.out.1 P[j] (List.getElem_mem hjx)
      have hix := fun w => run_ix6 w PA j HP.out.2.2.2 hjn (HP.out.2.2.1 j P[j] HPJ.out)
      generalize P[j] = p at hix hpl HPJ
      obtain ⟨i, hi⟩ : ∃ i, i = p / 8 := ⟨_, rfl⟩
      obtain ⟨r, hr⟩ : ∃ r, r = p % 8 := ⟨_, rfl⟩
      have hiN : i < fl := by omega
      obtain ⟨hX8, b, off, rfl, hc0⟩ := HS.out.2.2.2.2.2 i hiN
      have hc := cell_later HB3.out.1 hc0
      have hfx : f[i]? = some ((xof f i : Nat) : Int) := by
        have hif : i < f.length := by omega
        have h0 := HS.out.2.1 f[i] (List.getElem_mem hif)
        rw [List.getElem?_eq_getElem hif]
        simp only [xof, List.getD_eq_getElem?_getD, List.getElem?_eq_getElem hif, Option.getD_some, Option.some.injEq]
        omega
      have hbit := hasb_bit hfx hi hr
      have hat := all_take (q := hasb f) HPJ.out
      generalize xof f i = X at hX8 hc hbit hc0 hfx
      have hp62 : p ≤ 2 ^ 60 := by omega
      have hmk := fun (w : World) => bmask_any (w := w) hp62 hr
      have hq8 : (p : Int) / 8 = (i : Int) := by omega
      have hr8 : (p : Int) % 8 = (r : Int) := by omega
      have hr7 : r < 8 := by omega
      have hiN' : (i : Int) < (fl : Int) := by omega
      have hj62 : j ≤ 2 ^ 61 := by omega
      have HAT : Hid ((P.take (j + 1)).all (hasb f) = decide (X / 2 ^ r % 2 = 1) ∧ (decide (X / 2 ^ r % 2 = 1) = false → T = false)) := by
        rw [HJ.out, hbit, Bool.true_and] at hat
        refine ⟨hat, fun e => ?_⟩
        rw [HT.out, List.all_eq_false]
        exact ⟨p, List.mem_of_getElem? HPJ.out, by rw [hbit, e]; decide⟩
      obtain ⟨GJ, HGJ⟩ : ∃ g, Hid (g < gk ∧ j + 1 + g = 6) := ⟨gk - 1, by omega, by omega⟩
      have hand := and_bit hX8 hr7
      generalize ((2 ^ r : Nat) : Int) = R at hand hmk
      clear hi hr hc0 hfx hbit hat hj hpl hr8
      by_cases qb : X / 2 ^ r % 2 = 1
      · have hb : (bits .and .u8 (X : Int) R == 0) = false := by rw [hand]; simp [qb]
        have HNX : Hid ((P.take (j + 1)).all (hasb f) = true) := by show _ = _; rw [HAT.out.1]; simpa using qb
        clear hand qb
        go_wp2_with fail
        go_quiet ((go_at_call 66; exact Calls.quiet_of_same (hmk _)))
        go_wp2_with fail
        go_roundg GJ
        case measure => exact HGJ.out.1
        case rel => exact ⟨j + 1, m + nq, HGJ.out.2, by go_num, by rw [HB3.out.2, World.drewN_drewN], HNX⟩
      · have hb : (bits .and .u8 (X : Int) R == 0) = true := by rw [hand]; simp [qb]
        have hTf : T = false := HAT.out.2 (by simpa using qb)
        subst hTf
        clear hand qb
        go_wp2_with fail
        go_quiet ((go_at_call 66; exact Calls.quiet_of_same (hmk _)))
        go_wp2_with fail
        exact bodyPost_ret (v := .bool false) (by simp [results, Try.results56, go_sem]) rfl ⟨rfl, below_drewN HB3.out.1 _⟩
    · have hjn' : ¬ ((j : Int) < 6) := by omega
      have hTT : T = true := by
        have := HJ.out
        rw [List.take_of_length_le (by have := HP.out.2.1; omega)] at this
        rw [HT.out, this]
      subst hTT
      have HB4 := hid9 HB3.out.1
      clear hj hjn HJ
      go_wp2_with fail
      exact bodyPost_ret (v := .bool true) (by simp [results, Try.results56, go_sem]) rfl ⟨rfl, HB4.out⟩
end Go.Proofs.Ytimpaindbbjieaa

/- A call of a Go function as one step of a region that draws its order. -/
namespace Go.Proofs.Ytimpaindbbjieaa
open Go.RowKit
set_option linter.unusedVariables false
set_option linter.unusedSimpArgs false

theorem step_fn {P : Program} {ops : Array Oper} {w : World} {o : Oper} {a : Act} {K : Act → World → Prop} {Q : Exit → Act → World → Prop} {E : Prop} {R : Ending → World → Prop} (f : FuncId) {xs : Array Operand} {ts : Array TypeId} {args : Array Value} (hgd : o.guard = none)
    (hop : o.op = .call { callee := .value (.func f), args := xs, argTypes := ts }) (hargs : xs.map a.eval = args) (hf : (callFunc f args).run P w = .ok (.enter f args) w) (hc : Calls P f args w R) (h : ∀ e w', R e w' → ∃ v, e = .returned v ∧ K (a.put o.dst v) w') :
    if Region.wanted o (yielded ops a.tmps) = true then Oper.wp P o a w K Q else E := by
  have hw : Region.wanted o (yielded ops a.tmps) = true := by simp [Region.wanted, hgd]
  rw [if_pos hw]
  have hrun : (execOp a.eval o).run P w = .ok (.enter f args) w := by
    unfold execOp
    rw [hop]
    simp [resolve, invoke, Act.eval, go_sem, hargs, hf]
  unfold Oper.wp
  rw [hrun]
  exact hc.mono fun e w' hR => by
    obtain ⟨v, he, hk⟩ := h e w' hR
    subst he
    exact hk
end Go.Proofs.Ytimpaindbbjieaa

/- The landed filters: Build; all of them. -/
namespace Go.Proofs.Ytimpaindbbjieaa
open Go.RowKit
set_option linter.unusedVariables false
set_option linter.unusedSimpArgs false

theorem bmany_any {w : World} {ao : Option Addr} {len cap : Nat} {keys : List (List Int)} (h : RB w ao len cap keys) (hl : 100000 < len) : Calls Try.prog 31 #[.slice ao len cap] w fun e w' => ∃ v, e = .returned (.tuple #[v, .int .i64 13]) ∧ SlV w' v [] ∧ Below w.heap.size w w' := by
  have hl' : (100000 : Int) < (len : Int) := by omega
  clear h hl
  go_enter Try.func31, Try.ntmps31
  go_wp2_with fail
  exact bodyPost_ret (v := .tuple #[.slice none 0 0, .int .i64 13]) (by simp [results, Try.results31, go_sem]) rfl ⟨_, rfl, slv_nil _, Below.refl _ _⟩

/-- A filter that is being made. -/
structure FlC (w : World) (g N : Nat) (wx : World) (bs : List Int) : Prop where
  row : Row w.heap.size wx (.slice (some ⟨g, 0, none⟩) N N) bs
  bel : Below w.heap.size w wx
theorem FlC.set {w : World} {g N : Nat} {wx : World} {bs : List Int} (h : FlC w g N wx bs) {i : Nat} (hi : i < bs.length) (hg : w.heap.size ≤ g) (x : Int) : FlC w g N (wx.setCell ⟨g, i, none⟩ (.int .u8 x)) (bs.set i x) := by
  have hne : ∀ b, b ≠ g → (wx.setCell ⟨g, i, none⟩ (.int .u8 x)).heap[b]? = wx.heap[b]? := fun b hb => Below.heap_setCell _ _ _ _ (fun e => hb e)
  exact ⟨row_set h.row hi x, ⟨h.bel.os, h.bel.tape, h.bel.output, by simp [World.setCell]; exact h.bel.size, fun k hk => by rw [hne k (by omega)]; exact h.bel.block k hk⟩⟩
theorem FlC.drew1 {w : World} {g N : Nat} {wx : World} {bs : List Int} (h : FlC w g N wx bs) : FlC w g N wx.drew bs := ⟨h.row.later (Below.refl _ _).drew, h.bel.drew⟩
theorem FlC.drew {w : World} {g N : Nat} {wx : World} {bs : List Int} (h : FlC w g N wx bs) (m : Nat) : FlC w g N (wx.drewN m) bs := ⟨h.row.later (below_drewN (Below.refl _ _) m), below_drewN h.bel m⟩

set_option maxHeartbeats 2000000 in
set_option maxRecDepth 100000 in
theorem bbuildR_any {w : World} {ao : Option Addr} {len cap : Nat} {keys : List (List Int)} (h : RB w ao len cap keys) (hl : len ≤ 100000) :
    Calls Try.prog 31 #[.slice ao len cap] w fun e w' => ∃ v, e = .returned (.tuple #[v, .int .i64 0]) ∧ Row w.heap.size w' v (fil keys) ∧ Below w.heap.size w w' := by
  have HS : Hid (RB w ao len cap keys ∧ keys.length = len) := ⟨h, h.1⟩
  have hfb := fbytes_any (w := w) hl
  obtain ⟨N, hN⟩ : ∃ N, N = fsz len := ⟨_, rfl⟩
  rw [← hN] at hfb
  have hNv : N = (max 64 (10 * len) + 7) / 8 := hN
  have hN9 : N ≤ 125008 := by omega
  have HN8 : Hid (8 ≤ N) := by show 8 ≤ N; omega
  have HN : Hid (N = fsz len) := hN
  have hl' : (len : Int) ≤ 100000 := by omega
  clear h hN hNv
  have hmk := run_make_row' (P := Try.prog) 25 5 (.int .u8 0) 1 Try.underlying25 Try.info5 rfl .i64 .i64 N (by omega) (by omega)
  have H0 : Hid (FlC w w.heap.size N (w.alloc (.cells (madeCells #[.int .u8 0] N) 5)) (setbs (List.replicate N 0) ((keys.take 0).flatMap fun k => prbs k (8 * N)))) := ⟨row_zeros w N (by omega), (Below.refl _ _).alloc (Nat.le_refl _) _⟩
  have hl63 : len ≤ 2 ^ 62 := by omega
  have hN62 : N ≤ 2 ^ 50 := by omega
  go_enter Try.func31, Try.ntmps31
  go_wp2_with (go_at_call 64; refine hfb.mono ?_; rintro e w' ⟨rfl, hw⟩; obtain rfl := hw.symm)
  clear hfb
  go_loopg [6, 8, 18] len (fun g _ _ i wr => ∃ k : Nat, k + g = len ∧ i = .int .i64 (k : Int) ∧ Hid (FlC w w.heap.size N wr (setbs (List.replicate N 0) ((keys.take k).flatMap fun k => prbs k (8 * N)))))
  case atStart => exact ⟨0, by omega, rfl, H0⟩
  case round =>
    obtain ⟨k, hk, rfl, HK⟩ := hrel
    by_cases hkl : k < len
    · have hkl' : (k : Int) < (len : Int) := by omega
      have hkx : k < keys.length := by have := HS.out.2; omega
      obtain ⟨b, off, ka, kc, rfl, hc0, sk⟩ := HS.out.1.2.2.2.2 k keys[k] (List.getElem?_eq_getElem hkx)
      have hc := cell_later HK.out.bel hc0
      have HFL := hid9 (show (keys.take (k + 1)).flatMap (fun k => prbs k (8 * N)) = (keys.take k).flatMap (fun k => prbs k (8 * N)) ++ prbs keys[k] (8 * N) by rw [List.take_add_one, List.getElem?_eq_getElem hkx, List.flatMap_append]; show _ ++ (prbs keys[k] (8 * N) ++ []) = _; rw [List.append_nil])
      have hpr := places_any (M := 8 * N) (sk.later HK.out.bel) (by have := HN8.out; omega) (by omega)
      rw [show ((8 * N : Nat) : Int) = (N : Int) * 8 by omega] at hpr
      generalize keys[k] = key at hc hc0 sk HFL hpr
      have HP : Hid ((∀ p ∈ prbs key (8 * N), p < 8 * N) ∧ (prbs key (8 * N)).length = 6 ∧ (∀ j p, (prbs key (8 * N))[j]? = some p → (prA key (8 * N))[j]? = some (Value.int .i64 ((p : Nat) : Int))) ∧ (prA key (8 * N)).size = 6) := ⟨fun p hp => prbs_lt hp, prbs_len (by have := HN8.out; omega), fun j p h => prA_at h, prA_size (by have := HN8.out; omega)⟩
      generalize prA key (8 * N) = PA at hpr HP
      generalize prbs key (8 * N) = P at HP HFL
      generalize hBS : setbs (List.replicate N 0) ((keys.take k).flatMap fun k => prbs k (8 * N)) = bs at HK
      have HBS : Hid (setbs (List.replicate N 0) ((keys.take k).flatMap fun k => prbs k (8 * N)) = bs ∧ bs.length = N ∧ Okb bs) := ⟨hBS, by rw [← hBS, setbs_len]; simp, by rw [← hBS]; exact setbs_ok _ (okb_zeros _)⟩
      obtain ⟨GK, HG⟩ : ∃ g, Hid (g < gk ∧ k + 1 + g = len) := ⟨gk - 1, by omega, by omega⟩
      clear hk hc0 sk hBS H0
      go_wp2_with (go_at_call 65; refine hpr.mono ?_; rintro e w3 ⟨rfl, b3⟩)
      have HF0 : Hid (FlC w w.heap.size N w3 (setbs bs (P.take 0))) := ⟨by show Row _ _ _ bs; exact HK.out.row.later b3, HK.out.bel.trans (b3.mono HK.out.bel.size)⟩
      clear b3 HK hpr
      go_loopg [8, 27] 6 (fun g _ i wr => ∃ j : Nat, j + g = 6 ∧ i = .int .i64 (j : Int) ∧ Hid (FlC w w.heap.size N wr (setbs bs (P.take j))))
      case atStart => exact ⟨0, by omega, rfl, HF0⟩
      case round =>
        obtain ⟨j, hj, rfl, HJ⟩ := hrel
        by_cases hjn : j < 6
        · have hjn' : (j : Int) < 6 := by omega
          have hjx : j < P.length := by have := HP.out.2.1; omega
          have HPJ := hid9 (List.getElem?_eq_getElem hjx)
          have hpl := HP.out.1 P[j] (List.getElem_mem hjx)
          have hix := fun w => run_ix6 w PA j HP.out.2.2.2 hjn (HP.out.2.2.1 j P[j] HPJ.out)
          generalize P[j] = p at hix hpl HPJ
          obtain ⟨i, hi⟩ : ∃ i, i = p / 8 := ⟨_, rfl⟩
          have hiN : i < N := by omega
          have hlen : (setbs bs (P.take j)).length = N := by rw [setbs_len]; exact HBS.out.2.1
          obtain ⟨x, hxx⟩ : ∃ x, (setbs bs (P.take j))[i]? = some x := ⟨_, List.getElem?_eq_getElem (by omega)⟩
          obtain ⟨y0, y1, -, -, -⟩ := row_at HJ.out.row hxx
          have hp62 : p ≤ 2 ^ 60 := by omega
          obtain ⟨r, hr⟩ : ∃ r, r = p % 8 := ⟨_, rfl⟩
          have hmsk := fun (w : World) => bmask_any (w := w) hp62 hr
          have hq8 : (p : Int) / 8 = (i : Int) := by omega
          have hwi : IntKind.i64.wrap (i : Int) = (i : Int) := by rw [IntKind.wrap_i64]; omega
          have hr7 : r < 8 := by omega
          have hiN' : (i : Int) < (N : Int) := by omega
          have hok := setbs_ok (P.take j) HBS.out.2.2
          have hx8 := hok _ (List.mem_of_getElem? hxx)
          obtain ⟨X, rfl⟩ := Int.eq_ofNat_of_zero_le hx8.1
          have hpw : 2 ^ r < 2 ^ 8 := Nat.pow_lt_pow_right (by decide) (by omega)
          have hor := u8_or_nat X (2 ^ r) (by omega) (by omega)
          obtain ⟨GJ, HGJ⟩ : ∃ g, Hid (g < gk ∧ j + 1 + g = 6) := ⟨gk - 1, by omega, by omega⟩
          have hj62 : j ≤ 2 ^ 61 := by omega
          have HNX : Hid (∀ wx, FlC w w.heap.size N wx (setbs bs (P.take j)) → FlC w w.heap.size N (wx.setCell ⟨w.heap.size, i, none⟩ (.int .u8 ((X ||| 2 ^ r : Nat) : Int))) (setbs bs (P.take (j + 1)))) := fun wx hx => by
            have e : setbs bs (P.take (j + 1)) = (setbs bs (P.take j)).set i ((X ||| 2 ^ r : Nat) : Int) := by
              rw [List.take_add_one, HPJ.out, setbs_app]
              exact setb_at hxx hi hr
            rw [e]
            exact hx.set (by omega) (Nat.le_refl _) _
          generalize ((X ||| 2 ^ r : Nat) : Int) = Y at hor HNX
          generalize ((2 ^ r : Nat) : Int) = R at hor hmsk
          clear hi hr hok hlen hxx hx8 hpw hr7 hpl hjx hj
          go_upto_region 10 with fail
          go_region_law (refine step_fn 66 (args := #[.int .i64 (p : Int)]) rfl rfl (by simp [Act.eval, Act.put]) (by kernel_rfl) (hmsk _) ?_; rintro e w7 ⟨rfl, hw7⟩; subst hw7; refine ⟨_, rfl, ?_⟩)
          all_goals
            go_wp2_with fail
            go_roundg GJ
            case measure => exact HGJ.out.1
            case rel => exact ⟨j + 1, HGJ.out.2, by go_num, by repeat (first | exact HNX.out _ HJ.out | refine FlC.drew1 ?_)⟩
        · have hjn' : ¬ ((j : Int) < 6) := by omega
          have HF : Hid (FlC w w.heap.size N wr (setbs (List.replicate N 0) ((keys.take (k + 1)).flatMap fun k => prbs k (8 * N)))) := by
            have := HJ.out
            rw [List.take_of_length_le (by have := HP.out.2.1; omega)] at this
            show FlC _ _ _ _ _
            rw [HFL.out, setbs_app, HBS.out.1]
            exact this
          clear hj hjn HJ
          go_wp2_with fail
          go_roundg GK
          case measure => exact HG.out.1
          case rel => exact ⟨k + 1, HG.out.2, by go_num, HF⟩
    · have hkl' : (len : Int) ≤ (k : Int) := by omega
      obtain rfl : k = len := by omega
      have HE : Hid (setbs (List.replicate N 0) ((keys.take k).flatMap fun k => prbs k (8 * N)) = fil keys) := by
        show _ = _
        unfold fil
        rw [HS.out.2, ← HN.out, List.take_of_length_le (by have := HS.out.2; omega)]
      clear hk hkl
      go_wp2_with fail
      exact bodyPost_ret (v := .tuple #[.slice (some ⟨w.heap.size, 0, none⟩) N N, .int .i64 0]) (by simp [results, Try.results31, go_sem]) rfl ⟨_, rfl, by rw [← HE.out]; exact HK.out.row, HK.out.bel⟩
theorem bbuild_any {w : World} {ao : Option Addr} {len cap : Nat} {keys : List (List Int)} (h : RB w ao len cap keys) (hl : len ≤ 100000) :
    Calls Try.prog 31 #[.slice ao len cap] w fun e w' => ∃ v, e = .returned (.tuple #[v, .int .i64 0]) ∧ SlV w' v (fil keys) ∧ Below w.heap.size w w' := (bbuildR_any h hl).mono fun e w' ⟨v, h1, h2, h3⟩ => ⟨v, h1, SlV.ofRow h2 (fil_ok _), h3⟩
end Go.Proofs.Ytimpaindbbjieaa
