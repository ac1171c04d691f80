/- The landed block: Decode. -/
import Derived.Test.YtifgojkmdicdmaaLk8
import Derived.Test.YtifgojkmdicdmaaLk4
namespace Go.Proofs.Ytifgojkmdicdmaa
open Go.RowKit
set_option linter.unusedVariables false
set_option linter.unusedSimpArgs false

/-- What cut answers; the restarts' places. -/
def cutE (d : List Int) : Nat := if d.length < 4 then 5 else if lastN d = 0 ∨ (d.length - 4) / 4 < lastN d then 3 else 0
def plcN (d : List Int) : List Int := (d.drop (d.length - 4 - 4 * lastN d)).take (4 * lastN d)
theorem Rests.upto {ao : Option Addr} {len cap : Nat} {d : List Int} (j : Nat) (hj : j ≤ len) (hd : d.length = len) : Rests ao len cap d (.slice (cutA ao cap 0) j cap) (d.take j) := fun w h => by
  have e : (d.take j).length = j := by rw [List.length_take, hd]; omega
  exact ⟨_, _, by rw [e], by rw [e]; exact h.upto0 j hj⟩
theorem Rests.mid {ao : Option Addr} {len cap : Nat} {d : List Int} (i j : Nat) (hi : i ≤ j) (hj : j ≤ len) (hd : d.length = len) : Rests ao len cap d (.slice (cutA ao cap i) (j - i) (cap - i)) ((d.drop i).take (j - i)) := fun w h => by
  have e : ((d.drop i).take (j - i)).length = j - i := by rw [List.length_take, List.length_drop, hd]; omega
  exact ⟨_, _, by rw [e], by rw [e]; exact h.cut i j hi hj⟩
theorem lastN_lt {d : List Int} (hok : Okb d) (h : 4 ≤ d.length) : lastN d < 4294967296 := by
  unfold lastN
  have := fv_lt (xof (d.drop (d.length - 4))) 4 (fun j hj => by
    have hl : (d.drop (d.length - 4)).length = 4 := by rw [List.length_drop]; omega
    have hx := xof_at (xs := d.drop (d.length - 4)) (k := j) (fun x hx => hok x (List.mem_of_mem_drop hx)) (by omega)
    have hb := hok _ (List.mem_of_mem_drop (List.getElem_mem (l := d.drop (d.length - 4)) (n := j) (by omega)))
    omega)
  omega

set_option maxHeartbeats 2000000 in
set_option maxRecDepth 100000 in
theorem cut_k {w : World} {ao : Option Addr} {len cap : Nat} {d : List Int} (h : Sl w ao len cap d) (hl : len ≤ 2000000) :
    Calls Try.prog 32 #[.slice ao len cap] w fun e w' => ∃ v u, e = .returned (.tuple #[v, u, .int .i64 (cutE d : Nat)]) ∧ (cutE d = 0 → Rests ao len cap d v (bodyN d) ∧ Rests ao len cap d u (plcN d)) ∧ Below w.heap.size w w' := by
  have hln := h.1
  have hcap := h.2.2.2.1
  by_cases q : len < 4
  · have hE : cutE d = 5 := by unfold cutE; rw [if_pos (by omega)]
    rw [hE]
    have hr := read_any (cutA ao cap 0) (len - 0) (cap - 0) (xof (d.drop 0)) 4 w (h.from 0 (Nat.zero_le _)).2.2.2.2.2 (by omega)
    unfold readV at hr
    rw [if_pos (by unfold InSize; omega), if_pos (by omega)] at hr
    have hcf : ∀ w, (Instr.slice 25 (.slice ao len cap) (some (.int .i64 0)) none none).run Try.prog w = .ok (.slice (cutA ao cap 0) (len - 0) (cap - 0)) w := fun w => run_from w ao len cap 0 (Nat.zero_le _) hcap
    generalize cutA ao cap 0 = a0 at hr hcf
    generalize len - 0 = l0 at hr hcf
    generalize cap - 0 = c0 at hr hcf
    have q' : (len : Int) < 4 := by omega
    have hl62 : len ≤ 2 ^ 61 := by omega
    have hwm : wrap64 ((len : Int) - 4) = (len : Int) - 4 := by unfold wrap64; omega
    have hmx : max ((len : Int) - 4) 0 = 0 := by omega
    clear h hl hln hcap hE q
    go_enter Try.func32, Try.ntmps32
    go_wp2_with (go_at_call 50; refine hr.mono ?_; rintro e w' ⟨rfl, hw⟩; obtain rfl := hw.symm)
    exact bodyPost_ret (v := .tuple #[.slice none 0 0, .slice none 0 0, .int .i64 5]) (by simp [results, Try.results32, go_sem]) rfl ⟨_, _, rfl, (fun q => by cases q), Below.refl _ _⟩
  · have hr := read_any (cutA ao cap (len - 4)) (len - (len - 4)) (cap - (len - 4)) (xof (d.drop (len - 4))) 4 w (h.from (len - 4) (by omega)).2.2.2.2.2 (by omega)
    unfold readV at hr
    rw [if_pos (by unfold InSize; omega), if_neg (by omega)] at hr
    have hcf := fun w => run_from w ao len cap (len - 4) (by omega) hcap
    have hlt := lastN_lt h.2.1 (by omega)
    have hE : cutE d = if lastN d = 0 ∨ (len - 4) / 4 < lastN d then 3 else 0 := by unfold cutE; rw [if_neg (by omega), hln]
    have hR1 : lastN d ≠ 0 ∧ lastN d ≤ (len - 4) / 4 → Rests ao len cap d (.slice (cutA ao cap 0) (len - 4 - 4 * lastN d) cap) (bodyN d) ∧ Rests ao len cap d (.slice (cutA ao cap (len - 4 - 4 * lastN d)) (len - 4 - (len - 4 - 4 * lastN d)) (cap - (len - 4 - 4 * lastN d))) (plcN d) := fun hq => by
      refine ⟨?_, ?_⟩
      · unfold bodyN; rw [hln]; exact Rests.upto _ (by omega) hln
      · have := Rests.mid (ao := ao) (cap := cap) (d := d) (len := len) (len - 4 - 4 * lastN d) (len - 4) (by omega) (by omega) hln
        unfold plcN
        rw [hln]
        rw [show len - 4 - (len - 4 - 4 * lastN d) = 4 * lastN d by omega] at this ⊢
        exact this
    have hN : fv (xof (d.drop (len - 4))) (4 : Int).toNat = lastN d := by unfold lastN; rw [hln]; rfl
    rw [hN] at hr
    rw [hE]
    generalize lastN d = n at hr hlt hR1
    have HR := hid hR1
    obtain ⟨M, hM⟩ : ∃ M, len = M + 4 := ⟨len - 4, by omega⟩
    subst hM
    rw [show M + 4 - 4 = M by omega] at hr hcf HR ⊢
    have hM62 : M ≤ 2 ^ 61 := by omega
    have hwm : wrap64 (((M + 4 : Nat) : Int) - 4) = (M : Int) := by unfold wrap64; omega
    have hwm2 : wrap64 ((M : Int) + 4 - 4) = (M : Int) := by unfold wrap64; omega
    have hmx : max (M : Int) 0 = (M : Int) := by omega
    have hn62 : n ≤ 2 ^ 61 := by omega
    generalize hX1 : M + 4 - M = X1 at hr hcf
    generalize cutA ao cap M = a1 at hr hcf
    generalize hX2 : cap - M = X2 at hr hcf
    have hd4 : Int.tdiv (M : Int) 4 = ((M / 4 : Nat) : Int) := by rw [Int.tdiv_eq_ediv_of_nonneg (by omega)]; omega
    have hd5 : (M : Int) / 4 = ((M / 4 : Nat) : Int) := by omega
    have hD62 : M / 4 ≤ 2 ^ 61 := by omega
    by_cases q0 : n = 0
    · subst q0
      rw [if_pos (.inl rfl)]
      clear HR hR1 hE hN hX1 hX2 hd4 hd5 hD62 hlt hwm
      have hcf' := hcf
      clear h hl hln hcap q
      go_enter Try.func32, Try.ntmps32
      go_wp2_with (go_at_call 50; refine hr.mono ?_; rintro e w' ⟨rfl, hw⟩; obtain rfl := hw.symm)
      exact bodyPost_ret (v := .tuple #[.slice none 0 0, .slice none 0 0, .int .i64 3]) (by simp [results, Try.results32, go_sem]) rfl ⟨_, _, rfl, (fun q => by cases q), Below.refl _ _⟩
    · have q0' : ((n : Int) == 0) = false := by simp; omega
      have q00 : ¬ ((n : Int) = 0) := by omega
      by_cases q1 : M / 4 < n
      · rw [if_pos (.inr q1)]
        have q1' : ((M / 4 : Nat) : Int) < (n : Int) := by omega
        generalize M / 4 = D at q1' hd4 hd5 hD62
        clear HR hR1 hE hN hX1 hX2 hlt hwm h hl hln hcap q q1 q0
        go_enter Try.func32, Try.ntmps32
        go_wp2_with (go_at_call 50; refine hr.mono ?_; rintro e w' ⟨rfl, hw⟩; obtain rfl := hw.symm)
        exact bodyPost_ret (v := .tuple #[.slice none 0 0, .slice none 0 0, .int .i64 3]) (by simp [results, Try.results32, go_sem]) rfl ⟨_, _, rfl, (fun q => by cases q), Below.refl _ _⟩
      · rw [if_neg (by omega)]
        obtain ⟨r1, r2⟩ := HR.out ⟨q0, by omega⟩
        have q1' : (n : Int) ≤ ((M / 4 : Nat) : Int) := by omega
        have q1'' : ¬ (((M / 4 : Nat) : Int) < (n : Int)) := by omega
        have hw4 : wrap64 ((n : Int) * 4) = (n : Int) * 4 := by unfold wrap64; omega
        obtain ⟨B, hB⟩ : ∃ B, M = B + 4 * n := ⟨M - 4 * n, by omega⟩
        have hw5 : wrap64 ((M : Int) - (n : Int) * 4) = (B : Int) := by unfold wrap64; omega
        have hB62 : B ≤ 2 ^ 61 := by omega
        have hBM : M - 4 * n = B := by omega
        rw [hBM] at r1 r2
        have hcu := run_uptoK .i64 ao (M + 4) cap B (by omega)
        have hcm := fun w => run_cut w ao (M + 4) cap B M (by omega) (by omega)
        have hBi : ((B : Nat) : Int) = (M : Int) - (n : Int) * 4 := by omega
        simp only [hBi] at hcu hcm
        rw [hBi] at hw5
        generalize M / 4 = D at q1' q1'' hd4 hd5 hD62
        have HR1 := hid r1
        have HR2 := hid r2
        generalize cutA ao cap 0 = b0 at hcu HR1
        generalize cutA ao cap B = b1 at hcm HR2
        generalize M - B = B2 at hcm HR2
        clear HR hR1 hE hN hX1 hX2 hlt hwm h hl hln hcap q q1 q0 r1 r2 hB hBM hBi
        go_enter Try.func32, Try.ntmps32
        go_wp2_with (go_at_call 50; refine hr.mono ?_; rintro e w' ⟨rfl, hw⟩; obtain rfl := hw.symm)
        go_quiet (fail)
        go_wp2_with fail
        exact bodyPost_ret (v := .tuple #[.slice b0 B cap, .slice b1 B2 (cap - B), .int .i64 0]) (by simp [results, Try.results32, go_sem]) rfl ⟨_, _, rfl, (fun _ => ⟨HR1.out, HR2.out⟩), below_drewN (Below.refl _ _) _⟩

set_option maxHeartbeats 2000000 in
set_option maxRecDepth 100000 in
theorem dec_k {w : World} {ao : Option Addr} {len cap : Nat} {d : List Int} (h : Sl w ao len cap d) (hl : len ≤ 2000000) :
    Calls Try.prog 14 #[.slice ao len cap] w fun e w' => ∃ v, e = .returned (.tuple #[v, .int .i64 (tkEL d : Nat)]) ∧ RSV entE w' v (tkBL d) ∧ Below w.heap.size w w' := by
  have hcu := cut_k h hl
  have HS : Hid (Sl w ao len cap d ∧ len ≤ 2000000 ∧ d.length = len) := ⟨h, hl, h.1⟩
  by_cases q0 : cutE d = 0
  · rw [q0] at hcu
    have HTA : Hid (∀ {wx a n c}, Sl wx a n c (bodyN d) → n ≤ len → Calls Try.prog 33 #[.slice a n c] wx fun e w' => ∃ v, e = .returned (.tuple #[v, .int .i64 ((allL d).1 : Nat)]) ∧ RSV entE w' v (if (allL d).1 = 0 then (allL d).2.take 401 else []) ∧ Below wx.heap.size wx w') := fun {wx a n c} hs hn => tall_k (N := d.length) hs (by have := HS.out; omega) (by have := HS.out; omega)
    have hE : tkEL d = if (allL d).1 ≠ 0 then (allL d).1 else if blkE ((allL d).2.take 401) ≠ 0 ∨ blkB ((allL d).2.take 401) ≠ d then 3 else 0 := by
      unfold tkEL
      unfold cutE at q0
      split at q0
      · cases q0
      · rename_i z
        rw [if_neg z]
        split at q0
        · cases q0
        · rename_i z2
          rw [if_neg z2]
    have hBo : (bodyN d).length ≤ len := by unfold bodyN; rw [List.length_take]; have := HS.out; omega
    have HB : Hid (tkBL d = if tkEL d = 0 then (allL d).2.take 401 else []) := rfl
    obtain ⟨⟨E1, L⟩, hA⟩ : ∃ x, allL d = x := ⟨_, rfl⟩
    rw [hA] at hE HTA HB
    simp only at hE HTA HB
    have HBO := hid hBo
    clear h hl q0 hA hBo
    by_cases q1 : E1 = 0
    · subst q1
      rw [if_pos rfl] at HTA
      rw [if_neg (by simp)] at hE
      have HM : Hid ((L.take 401).length ≤ 401) := by show _ ≤ _; rw [List.length_take]; omega
      generalize L.take 401 = M at HTA hE HB HM
      by_cases q2 : blkE M = 0
      · have HEN : Hid (∀ {wx a c}, RS entE wx a M.length c M → M.length ≤ 401 → Calls Try.prog 10 #[.slice a M.length c] wx fun e w' => ∃ a' c', e = .returned (.tuple #[.slice a' (blkB M).length c', .int .i64 0]) ∧ Sl w' a' (blkB M).length c' (blkB M) ∧ Below wx.heap.size wx w') := fun {wx a c} hs hn => by
          refine (encR_k hs (by omega)).mono ?_
          rintro e w' ⟨v, he, hr, hb⟩
          rw [q2] at he
          rw [if_pos q2] at hr
          obtain ⟨a', c', hv, hs'⟩ := Sl.ofRow hr (okb_blkB hs.okE)
          exact ⟨a', c', by rw [he, hv]; rfl, hs', hb⟩
        by_cases q3 : blkB M = d
        · have hE0 : tkEL d = 0 := by rw [hE, if_neg (by simp [q2, q3])]
          rw [hE0]
          have HBB : Hid (tkBL d = M) := by show _ = _; rw [HB.out, if_pos hE0]
          have HD : Hid (decide (blkB M = d) = true) := decide_eq_true q3
          generalize (blkB M).length = X at HEN
          generalize blkB M = Y at HEN HD
          clear hE hE0 q2 q3
          go_enter Try.func14, Try.ntmps14
          go_upto_region 4 with (go_at_call 32; refine hcu.mono ?_; rintro e w1 ⟨v1, u1, rfl, hr1, b1⟩)
          obtain ⟨s1, s2⟩ := hr1 (by first | exact trivial | rfl)
          obtain ⟨a1, c1, hv1, K1⟩ := s1 w HS.out.1
          subst hv1
          have hta := HTA.out (K1.later b1) HBO.out
          go_upto_region 7 with (go_at_call 33; refine hta.mono ?_; rintro e w2 ⟨v2, rfl, ⟨a2, c2, rfl, rs2⟩, b2⟩)
          have hen := HEN.out rs2 HM.out
          have B2 := b1.trans (b2.mono b1.size)
          have HR2 := hid rs2
          go_upto_region 8 with (go_at_call 10; refine hen.mono ?_; rintro e w3 ⟨a3, c3, rfl, s3, b3⟩)
          have B3 := B2.trans (b3.mono B2.size)
          have heq := eql_m s3 (HS.out.1.later B3)
          rw [HD.out] at heq
          have HR3 := hid (HR2.out.later b3)
          clear hcu hta hen rs2 s1 s2 hr1 K1
          go_wp2_with (go_at_call 34; refine heq.mono ?_; rintro e w4 ⟨rfl, hw⟩; obtain rfl := hw.symm)
          exact bodyPost_ret (v := .tuple #[.slice a2 M.length c2, .int .i64 0]) (by simp [results, Try.results14, go_sem]) rfl ⟨_, rfl, by rw [HBB.out]; exact ⟨a2, c2, rfl, HR3.out⟩, B3⟩
        · have hE0 : tkEL d = 3 := by rw [hE, if_pos (.inr q3)]
          rw [hE0]
          have HBB : Hid (tkBL d = []) := by show _ = _; rw [HB.out, if_neg (by rw [hE0]; decide)]
          have HD : Hid (decide (blkB M = d) = false) := decide_eq_false q3
          generalize (blkB M).length = X at HEN
          generalize blkB M = Y at HEN HD
          clear hE hE0 q2 q3
          go_enter Try.func14, Try.ntmps14
          go_upto_region 4 with (go_at_call 32; refine hcu.mono ?_; rintro e w1 ⟨v1, u1, rfl, hr1, b1⟩)
          obtain ⟨s1, s2⟩ := hr1 (by first | exact trivial | rfl)
          obtain ⟨a1, c1, hv1, K1⟩ := s1 w HS.out.1
          subst hv1
          have hta := HTA.out (K1.later b1) HBO.out
          go_upto_region 7 with (go_at_call 33; refine hta.mono ?_; rintro e w2 ⟨v2, rfl, ⟨a2, c2, rfl, rs2⟩, b2⟩)
          have hen := HEN.out rs2 HM.out
          have B2 := b1.trans (b2.mono b1.size)
          go_upto_region 8 with (go_at_call 10; refine hen.mono ?_; rintro e w3 ⟨a3, c3, rfl, s3, b3⟩)
          have B3 := B2.trans (b3.mono B2.size)
          have heq := eql_m s3 (HS.out.1.later B3)
          rw [HD.out] at heq
          clear hcu hta hen rs2 s1 s2 hr1 K1
          go_wp2_with (go_at_call 34; refine heq.mono ?_; rintro e w4 ⟨rfl, hw⟩; obtain rfl := hw.symm)
          exact bodyPost_ret (v := .tuple #[.slice none 0 0, .int .i64 3]) (by simp [results, Try.results14, go_sem]) rfl ⟨_, rfl, by rw [HBB.out]; exact RSV.nil _, B3⟩
      · have hE0 : tkEL d = 3 := by rw [hE, if_pos (.inl q2)]
        rw [hE0]
        have HBB : Hid (tkBL d = []) := by show _ = _; rw [HB.out, if_neg (by rw [hE0]; decide)]
        have HEN : Hid (∀ {wx a c}, RS entE wx a M.length c M → M.length ≤ 401 → Calls Try.prog 10 #[.slice a M.length c] wx fun e w' => ∃ v', e = .returned (.tuple #[v', .int .i64 (blkE M : Nat)]) ∧ Below wx.heap.size wx w') := fun {wx a c} hs hn => (encR_k hs (by omega)).mono fun e w' ⟨v, he, hr, hb⟩ => ⟨v, he, hb⟩
        have hne : ((blkE M : Int) != 0) = true := by simp; omega
        generalize blkE M = EE at HEN hne
        clear hE hE0 q2
        go_enter Try.func14, Try.ntmps14
        go_upto_region 4 with (go_at_call 32; refine hcu.mono ?_; rintro e w1 ⟨v1, u1, rfl, hr1, b1⟩)
        obtain ⟨s1, s2⟩ := hr1 (by first | exact trivial | rfl)
        obtain ⟨a1, c1, hv1, K1⟩ := s1 w HS.out.1
        subst hv1
        have hta := HTA.out (K1.later b1) HBO.out
        go_upto_region 7 with (go_at_call 33; refine hta.mono ?_; rintro e w2 ⟨v2, rfl, ⟨a2, c2, rfl, rs2⟩, b2⟩)
        have hen := HEN.out rs2 HM.out
        have B2 := b1.trans (b2.mono b1.size)
        clear hcu hta rs2 s1 s2 hr1 K1
        go_wp2_with (go_at_call 10; refine hen.mono ?_; rintro e w3 ⟨v3, rfl, b3⟩)
        exact bodyPost_ret (v := .tuple #[.slice none 0 0, .int .i64 3]) (by simp [results, Try.results14, go_sem]) rfl ⟨_, rfl, by rw [HBB.out]; exact RSV.nil _, B2.trans (b3.mono B2.size)⟩
    · rw [if_pos q1] at hE
      rw [hE]
      have HBB : Hid (tkBL d = []) := by show _ = _; rw [HB.out, if_neg (by rw [hE]; exact q1)]
      rw [if_neg q1] at HTA
      have hne : ((E1 : Int) != 0) = true := by simp; omega
      clear hE q1
      go_enter Try.func14, Try.ntmps14
      go_upto_region 4 with (go_at_call 32; refine hcu.mono ?_; rintro e w1 ⟨v1, u1, rfl, hr1, b1⟩)
      obtain ⟨s1, s2⟩ := hr1 (by first | exact trivial | rfl)
      obtain ⟨a1, c1, hv1, K1⟩ := s1 w HS.out.1
      subst hv1
      have hta := HTA.out (K1.later b1) HBO.out
      clear hcu s1 s2 hr1 K1
      go_wp2_with (go_at_call 33; refine hta.mono ?_; rintro e w2 ⟨v2, rfl, rs2, b2⟩)
      exact bodyPost_ret (v := .tuple #[.slice none 0 0, .int .i64 (E1 : Nat)]) (by simp [results, Try.results14, go_sem]) rfl ⟨_, rfl, by rw [HBB.out]; exact RSV.nil _, b1.trans (b2.mono b1.size)⟩
  · have hE : tkEL d = cutE d := by
      unfold tkEL
      unfold cutE at q0 ⊢
      split
      · rfl
      · rename_i z
        rw [if_neg z] at q0
        split
        · rfl
        · rename_i z2
          rw [if_neg z2] at q0
          exact absurd rfl q0
    rw [hE]
    have HBB : Hid (tkBL d = []) := by show _ = _; unfold tkBL; rw [if_neg (by rw [hE]; exact q0)]
    have hne : ((cutE d : Int) != 0) = true := by simp; omega
    generalize cutE d = E0 at hcu hne
    clear hE q0 h hl
    go_enter Try.func14, Try.ntmps14
    go_wp2_with (go_at_call 32; refine hcu.mono ?_; rintro e w1 ⟨v1, u1, rfl, hr1, b1⟩)
    exact bodyPost_ret (v := .tuple #[.slice none 0 0, .int .i64 (E0 : Nat)]) (by simp [results, Try.results14, go_sem]) rfl ⟨_, rfl, by rw [HBB.out]; exact RSV.nil _, b1⟩
end Go.Proofs.Ytifgojkmdicdmaa
