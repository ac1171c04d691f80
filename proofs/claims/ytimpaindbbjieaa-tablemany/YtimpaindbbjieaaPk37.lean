import Derived.Test.YtimpaindbbjieaaPk29
import Derived.Test.YtimpaindbbjieaaPk36
/- The landed block: Decode. -/
namespace Go.Proofs.Ytimpaindbbjieaa
open Go.RowKit
set_option linter.unusedVariables false
set_option linter.unusedSimpArgs false

/-- What cut answers; the restarts' places. -/
def cutE (d : List Int) : Nat := if d.length < 4 then 5 else if lastN d = 0 ∨ (d.length - 4) / 4 < lastN d then 3 else 0
def plcN (d : List Int) : List Int := (d.drop (d.length - 4 - 4 * lastN d)).take (4 * lastN d)
theorem Rests.upto {ao : Option Addr} {len cap : Nat} {d : List Int} (j : Nat) (hj : j ≤ len) (hd : d.length = len) : Rests ao len cap d (.slice (cutA ao cap 0) j cap) (d.take j) := fun w h => by
  have e : (d.take j).length = j := by rw [List.length_take, hd]; omega
  exact ⟨_, _, by rw [e], by rw [e]; exact h.upto0 j hj⟩
theorem Rests.mid {ao : Option Addr} {len cap : Nat} {d : List Int} (i j : Nat) (hi : i ≤ j) (hj : j ≤ len) (hd : d.length = len) : Rests ao len cap d (.slice (cutA ao cap i) (j - i) (cap - i)) ((d.drop i).take (j - i)) := fun w h => by
  have e : ((d.drop i).take (j - i)).length = j - i := by rw [List.length_take, List.length_drop, hd]; omega
  exact ⟨_, _, by rw [e], by rw [e]; exact h.cut i j hi hj⟩
theorem lastN_lt {d : List Int} (hok : Okb d) (h : 4 ≤ d.length) : lastN d < 4294967296 := by
  unfold lastN
  have := fv_lt (xof (d.drop (d.length - 4))) 4 (fun j hj => by
    have hl : (d.drop (d.length - 4)).length = 4 := by rw [List.length_drop]; omega
    have hx := xof_at (xs := d.drop (d.length - 4)) (k := j) (fun x hx => hok x (List.mem_of_mem_drop hx)) (by omega)
    have hb := hok _ (List.mem_of_mem_drop (List.getElem_mem (l := d.drop (d.length - 4)) (n := j) (by omega)))
    omega)
  omega

set_option maxHeartbeats 2000000 in
set_option maxRecDepth 100000 in
theorem cut_k {w : World} {ao : Option Addr} {len cap : Nat} {d : List Int} (h : Sl w ao len cap d) (hl : len ≤ 5000000) :
    Calls Try.prog 80 #[.slice ao len cap] w fun e w' => ∃ v u, e = .returned (.tuple #[v, u, .int .i64 (cutE d : Nat)]) ∧ (cutE d = 0 → Rests ao len cap d v (bodyN d) ∧ Rests ao len cap d u (plcN d)) ∧ Below w.heap.size w w' := by
  have hln := h.1
  have hcap := h.2.2.2.1
  by_cases q : len < 4
  · have hE : cutE d = 5 := by unfold cutE; rw [if_pos (by omega)]
    rw [hE]
    have hr := read_any (cutA ao cap 0) (len - 0) (cap - 0) (xof (d.drop 0)) 4 w (h.from 0 (Nat.zero_le _)).2.2.2.2.2 (by omega)
    unfold readV at hr
    rw [if_pos (by unfold InSize; omega), if_pos (by omega)] at hr
    have hcf : ∀ w, (Instr.slice 25 (.slice ao len cap) (some (.int .i64 0)) none none).run Try.prog w = .ok (.slice (cutA ao cap 0) (len - 0) (cap - 0)) w := fun w => run_from w ao len cap 0 (Nat.zero_le _) hcap
    generalize cutA ao cap 0 = a0 at hr hcf
    generalize len - 0 = l0 at hr hcf
    generalize cap - 0 = c0 at hr hcf
    have q' : (len : Int) < 4 := by omega
    have hl62 : len ≤ 2 ^ 61 := by omega
    have hwm : wrap64 ((len : Int) - 4) = (len : Int) - 4 := by unfold wrap64; omega
    have hmx : max ((len : Int) - 4) 0 = 0 := by omega
    clear h hl hln hcap hE q
    go_enter Try.func80, Try.ntmps80
    go_wp2_with (go_at_call 96; refine hr.mono ?_; rintro e w' ⟨rfl, hw⟩; obtain rfl := hw.symm)
    exact bodyPost_ret (v := .tuple #[.slice none 0 0, .slice none 0 0, .int .i64 5]) (by simp [results, Try.results80, go_sem]) rfl ⟨_, _, rfl, (fun q => by cases q), Below.refl _ _⟩
  · have hr := read_any (cutA ao cap (len - 4)) (len - (len - 4)) (cap - (len - 4)) (xof (d.drop (len - 4))) 4 w (h.from (len - 4) (by omega)).2.2.2.2.2 (by omega)
    unfold readV at hr
    rw [if_pos (by unfold InSize; omega), if_neg (by omega)] at hr
    have hcf := fun w => run_from w ao len cap (len - 4) (by omega) hcap
    have hlt := lastN_lt h.2.1 (by omega)
    have hE : cutE d = if lastN d = 0 ∨ (len - 4) / 4 < lastN d then 3 else 0 := by unfold cutE; rw [if_neg (by omega), hln]
    have hR1 : lastN d ≠ 0 ∧ lastN d ≤ (len - 4) / 4 → Rests ao len cap d (.slice (cutA ao cap 0) (len - 4 - 4 * lastN d) cap) (bodyN d) ∧ Rests ao len cap d (.slice (cutA ao cap (len - 4 - 4 * lastN d)) (len - 4 - (len - 4 - 4 * lastN d)) (cap - (len - 4 - 4 * lastN d))) (plcN d) := fun hq => by
      refine ⟨?_, ?_⟩
      · unfold bodyN; rw [hln]; exact Rests.upto _ (by omega) hln
      · have := Rests.mid (ao := ao) (cap := cap) (d := d) (len := len) (len - 4 - 4 * lastN d) (len - 4) (by omega) (by omega) hln
        unfold plcN
        rw [hln]
        rw [show len - 4 - (len - 4 - 4 * lastN d) = 4 * lastN d by omega] at this ⊢
        exact this
    have hN : fv (xof (d.drop (len - 4))) (4 : Int).toNat = lastN d := by unfold lastN; rw [hln]; rfl
    rw [hN] at hr
    rw [hE]
    generalize lastN d = n at hr hlt hR1
    have HR := hid hR1
    obtain ⟨M, hM⟩ : ∃ M, len = M + 4 := ⟨len - 4, by omega⟩
    subst hM
    rw [show M + 4 - 4 = M by omega] at hr hcf HR ⊢
    have hM62 : M ≤ 2 ^ 61 := by omega
    have hwm : wrap64 (((M + 4 : Nat) : Int) - 4) = (M : Int) := by unfold wrap64; omega
    have hwm2 : wrap64 ((M : Int) + 4 - 4) = (M : Int) := by unfold wrap64; omega
    have hmx : max (M : Int) 0 = (M : Int) := by omega
    have hn62 : n ≤ 2 ^ 61 := by omega
    generalize hX1 : M + 4 - M = X1 at hr hcf
    generalize cutA ao cap M = a1 at hr hcf
    generalize hX2 : cap - M = X2 at hr hcf
    have hd4 : Int.tdiv (M : Int) 4 = ((M / 4 : Nat) : Int) := by rw [Int.tdiv_eq_ediv_of_nonneg (by omega)]; omega
    have hd5 : (M : Int) / 4 = ((M / 4 : Nat) : Int) := by omega
    have hD62 : M / 4 ≤ 2 ^ 61 := by omega
    by_cases q0 : n = 0
    · subst q0
      rw [if_pos (.inl rfl)]
      clear HR hR1 hE hN hX1 hX2 hd4 hd5 hD62 hlt hwm
      have hcf' := hcf
      clear h hl hln hcap q
      go_enter Try.func80, Try.ntmps80
      go_wp2_with (go_at_call 96; refine hr.mono ?_; rintro e w' ⟨rfl, hw⟩; obtain rfl := hw.symm)
      exact bodyPost_ret (v := .tuple #[.slice none 0 0, .slice none 0 0, .int .i64 3]) (by simp [results, Try.results80, go_sem]) rfl ⟨_, _, rfl, (fun q => by cases q), Below.refl _ _⟩
    · have q0' : ((n : Int) == 0) = false := by simp; omega
      have q00 : ¬ ((n : Int) = 0) := by omega
      by_cases q1 : M / 4 < n
      · rw [if_pos (.inr q1)]
        have q1' : ((M / 4 : Nat) : Int) < (n : Int) := by omega
        generalize M / 4 = D at q1' hd4 hd5 hD62
        clear HR hR1 hE hN hX1 hX2 hlt hwm h hl hln hcap q q1 q0
        go_enter Try.func80, Try.ntmps80
        go_wp2_with (go_at_call 96; refine hr.mono ?_; rintro e w' ⟨rfl, hw⟩; obtain rfl := hw.symm)
        exact bodyPost_ret (v := .tuple #[.slice none 0 0, .slice none 0 0, .int .i64 3]) (by simp [results, Try.results80, go_sem]) rfl ⟨_, _, rfl, (fun q => by cases q), Below.refl _ _⟩
      · rw [if_neg (by omega)]
        obtain ⟨r1, r2⟩ := HR.out ⟨q0, by omega⟩
        have q1' : (n : Int) ≤ ((M / 4 : Nat) : Int) := by omega
        have q1'' : ¬ (((M / 4 : Nat) : Int) < (n : Int)) := by omega
        have hw4 : wrap64 ((n : Int) * 4) = (n : Int) * 4 := by unfold wrap64; omega
        obtain ⟨B, hB⟩ : ∃ B, M = B + 4 * n := ⟨M - 4 * n, by omega⟩
        have hw5 : wrap64 ((M : Int) - (n : Int) * 4) = (B : Int) := by unfold wrap64; omega
        have hB62 : B ≤ 2 ^ 61 := by omega
        have hBM : M - 4 * n = B := by omega
        rw [hBM] at r1 r2
        have hcu := run_uptoK .i64 ao (M + 4) cap B (by omega)
        have hcm := fun w => run_cut w ao (M + 4) cap B M (by omega) (by omega)
        have hBi : ((B : Nat) : Int) = (M : Int) - (n : Int) * 4 := by omega
        simp only [hBi] at hcu hcm
        rw [hBi] at hw5
        generalize M / 4 = D at q1' q1'' hd4 hd5 hD62
        have HR1 := hid r1
        have HR2 := hid r2
        generalize cutA ao cap 0 = b0 at hcu HR1
        generalize cutA ao cap B = b1 at hcm HR2
        generalize M - B = B2 at hcm HR2
        clear HR hR1 hE hN hX1 hX2 hlt hwm h hl hln hcap q q1 q0 r1 r2 hB hBM hBi
        go_enter Try.func80, Try.ntmps80
        go_wp2_with (go_at_call 96; refine hr.mono ?_; rintro e w' ⟨rfl, hw⟩; obtain rfl := hw.symm)
        go_quiet (fail)
        go_wp2_with fail
        exact bodyPost_ret (v := .tuple #[.slice b0 B cap, .slice b1 B2 (cap - B), .int .i64 0]) (by simp [results, Try.results80, go_sem]) rfl ⟨_, _, rfl, (fun _ => ⟨HR1.out, HR2.out⟩), below_drewN (Below.refl _ _) _⟩

set_option maxHeartbeats 2000000 in
set_option maxRecDepth 100000 in
theorem decG_k {w : World} {ao : Option Addr} {len cap : Nat} {d : List Int} (h : Sl w ao len cap d) (hl : len ≤ 5000000) :
    Calls Try.prog 54 #[.slice ao len cap] w fun e w' => ∃ v, e = .returned (.tuple #[v, .int .i64 (tkEL d : Nat)]) ∧ RGV w.heap.size w' v (tkBL d) ∧ Below w.heap.size w w' := by
  have hcu := cut_k h hl
  have HS : Hid (Sl w ao len cap d ∧ len ≤ 5000000 ∧ d.length = len) := ⟨h, hl, h.1⟩
  by_cases q0 : cutE d = 0
  · rw [q0] at hcu
    have HTA : Hid (∀ {wx a n c}, Sl wx a n c (bodyN d) → n ≤ len → Calls Try.prog 81 #[.slice a n c] wx fun e w' => ∃ v, e = .returned (.tuple #[v, .int .i64 ((allL d).1 : Nat)]) ∧ RGV wx.heap.size w' v (if (allL d).1 = 0 then (allL d).2.take 401 else []) ∧ Below wx.heap.size wx w') := fun {wx a n c} hs hn => tallG_k (N := d.length) hs (by have := HS.out; omega) (by have := HS.out; omega)
    have hE : tkEL d = if (allL d).1 ≠ 0 then (allL d).1 else if blkE ((allL d).2.take 401) ≠ 0 ∨ blkB ((allL d).2.take 401) ≠ d then 3 else 0 := by
      unfold tkEL
      unfold cutE at q0
      split at q0
      · cases q0
      · rename_i z
        rw [if_neg z]
        split at q0
        · cases q0
        · rename_i z2
          rw [if_neg z2]
    have hBo : (bodyN d).length ≤ len := by unfold bodyN; rw [List.length_take]; have := HS.out; omega
    have HB : Hid (tkBL d = if tkEL d = 0 then (allL d).2.take 401 else []) := rfl
    obtain ⟨⟨E1, L⟩, hA⟩ : ∃ x, allL d = x := ⟨_, rfl⟩
    rw [hA] at hE HTA HB
    simp only at hE HTA HB
    have HBO := hid hBo
    clear h hl q0 hA hBo
    by_cases q1 : E1 = 0
    · subst q1
      rw [if_pos rfl] at HTA
      rw [if_neg (by simp)] at hE
      have HM : Hid ((L.take 401).length ≤ 401) := by show _ ≤ _; rw [List.length_take]; omega
      generalize L.take 401 = M at HTA hE HB HM
      by_cases q2 : blkE M = 0
      · have HEN : Hid (∀ {wx a c}, RS entE wx a M.length c M → M.length ≤ 401 → Calls Try.prog 62 #[.slice a M.length c] wx fun e w' => ∃ a' c', e = .returned (.tuple #[.slice a' (blkB M).length c', .int .i64 0]) ∧ Sl w' a' (blkB M).length c' (blkB M) ∧ Below wx.heap.size wx w') := fun {wx a c} hs hn => by
          refine (encR_k hs (by omega)).mono ?_
          rintro e w' ⟨v, he, hr, hb⟩
          rw [q2] at he
          rw [if_pos q2] at hr
          obtain ⟨a', c', hv, hs'⟩ := Sl.ofRow hr (okb_blkB hs.okE)
          exact ⟨a', c', by rw [he, hv]; rfl, hs', hb⟩
        by_cases q3 : blkB M = d
        · have hE0 : tkEL d = 0 := by rw [hE, if_neg (by simp [q2, q3])]
          rw [hE0]
          have HBB : Hid (tkBL d = M) := by show _ = _; rw [HB.out, if_pos hE0]
          have HD : Hid (decide (blkB M = d) = true) := decide_eq_true q3
          generalize (blkB M).length = X at HEN
          generalize blkB M = Y at HEN HD
          clear hE hE0 q2 q3
          go_enter Try.func54, Try.ntmps54
          go_upto_region 4 with (go_at_call 80; refine hcu.mono ?_; rintro e w1 ⟨v1, u1, rfl, hr1, b1⟩)
          obtain ⟨s1, s2⟩ := hr1 (by first | exact trivial | rfl)
          obtain ⟨a1, c1, hv1, K1⟩ := s1 w HS.out.1
          subst hv1
          have hta := HTA.out (K1.later b1) HBO.out
          go_upto_region 7 with (go_at_call 81; refine hta.mono ?_; rintro e w2 ⟨v2, rfl, ⟨a2, c2, rfl, rs2, rb2⟩, b2⟩)
          have hen := HEN.out rs2.rs HM.out
          have B2 := b1.trans (b2.mono b1.size)
          have HR2 := hid rs2
          have HRB2 := hid rb2
          have HSZ1 := hid b1.size
          go_upto_region 8 with (go_at_call 62; refine hen.mono ?_; rintro e w3 ⟨a3, c3, rfl, s3, b3⟩)
          have B3 := B2.trans (b3.mono B2.size)
          have heq := eql_m s3 (HS.out.1.later B3)
          rw [HD.out] at heq
          have HR3 := hid (HR2.out.later b3)
          clear hcu hta hen rs2 rb2 s1 s2 hr1 K1
          go_wp2_with (go_at_call 50; refine heq.mono ?_; rintro e w4 ⟨rfl, hw⟩; obtain rfl := hw.symm)
          exact bodyPost_ret (v := .tuple #[.slice a2 M.length c2, .int .i64 0]) (by simp [results, Try.results54, go_sem]) rfl ⟨_, rfl, by rw [HBB.out]; exact ⟨a2, c2, rfl, HR3.out.weakG fun b hb => Nat.le_trans HSZ1.out hb, fun b o eb => Nat.le_trans HSZ1.out (HRB2.out b o eb)⟩, B3⟩
        · have hE0 : tkEL d = 3 := by rw [hE, if_pos (.inr q3)]
          rw [hE0]
          have HBB : Hid (tkBL d = []) := by show _ = _; rw [HB.out, if_neg (by rw [hE0]; decide)]
          have HD : Hid (decide (blkB M = d) = false) := decide_eq_false q3
          generalize (blkB M).length = X at HEN
          generalize blkB M = Y at HEN HD
          clear hE hE0 q2 q3
          go_enter Try.func54, Try.ntmps54
          go_upto_region 4 with (go_at_call 80; refine hcu.mono ?_; rintro e w1 ⟨v1, u1, rfl, hr1, b1⟩)
          obtain ⟨s1, s2⟩ := hr1 (by first | exact trivial | rfl)
          obtain ⟨a1, c1, hv1, K1⟩ := s1 w HS.out.1
          subst hv1
          have hta := HTA.out (K1.later b1) HBO.out
          go_upto_region 7 with (go_at_call 81; refine hta.mono ?_; rintro e w2 ⟨v2, rfl, ⟨a2, c2, rfl, rs2, rb2⟩, b2⟩)
          have hen := HEN.out rs2.rs HM.out
          have B2 := b1.trans (b2.mono b1.size)
          go_upto_region 8 with (go_at_call 62; refine hen.mono ?_; rintro e w3 ⟨a3, c3, rfl, s3, b3⟩)
          have B3 := B2.trans (b3.mono B2.size)
          have heq := eql_m s3 (HS.out.1.later B3)
          rw [HD.out] at heq
          clear hcu hta hen rs2 rb2 s1 s2 hr1 K1
          go_wp2_with (go_at_call 50; refine heq.mono ?_; rintro e w4 ⟨rfl, hw⟩; obtain rfl := hw.symm)
          exact bodyPost_ret (v := .tuple #[.slice none 0 0, .int .i64 3]) (by simp [results, Try.results54, go_sem]) rfl ⟨_, rfl, by rw [HBB.out]; exact RGV.nil _ _, B3⟩
      · have hE0 : tkEL d = 3 := by rw [hE, if_pos (.inl q2)]
        rw [hE0]
        have HBB : Hid (tkBL d = []) := by show _ = _; rw [HB.out, if_neg (by rw [hE0]; decide)]
        have HEN : Hid (∀ {wx a c}, RS entE wx a M.length c M → M.length ≤ 401 → Calls Try.prog 62 #[.slice a M.length c] wx fun e w' => ∃ v', e = .returned (.tuple #[v', .int .i64 (blkE M : Nat)]) ∧ Below wx.heap.size wx w') := fun {wx a c} hs hn => (encR_k hs (by omega)).mono fun e w' ⟨v, he, hr, hb⟩ => ⟨v, he, hb⟩
        have hne : ((blkE M : Int) != 0) = true := by simp; omega
        generalize blkE M = EE at HEN hne
        clear hE hE0 q2
        go_enter Try.func54, Try.ntmps54
        go_upto_region 4 with (go_at_call 80; refine hcu.mono ?_; rintro e w1 ⟨v1, u1, rfl, hr1, b1⟩)
        obtain ⟨s1, s2⟩ := hr1 (by first | exact trivial | rfl)
        obtain ⟨a1, c1, hv1, K1⟩ := s1 w HS.out.1
        subst hv1
        have hta := HTA.out (K1.later b1) HBO.out
        go_upto_region 7 with (go_at_call 81; refine hta.mono ?_; rintro e w2 ⟨v2, rfl, ⟨a2, c2, rfl, rs2, rb2⟩, b2⟩)
        have hen := HEN.out rs2.rs HM.out
        have B2 := b1.trans (b2.mono b1.size)
        clear hcu hta rs2 rb2 s1 s2 hr1 K1
        go_wp2_with (go_at_call 62; refine hen.mono ?_; rintro e w3 ⟨v3, rfl, b3⟩)
        exact bodyPost_ret (v := .tuple #[.slice none 0 0, .int .i64 3]) (by simp [results, Try.results54, go_sem]) rfl ⟨_, rfl, by rw [HBB.out]; exact RGV.nil _ _, B2.trans (b3.mono B2.size)⟩
    · rw [if_pos q1] at hE
      rw [hE]
      have HBB : Hid (tkBL d = []) := by show _ = _; rw [HB.out, if_neg (by rw [hE]; exact q1)]
      rw [if_neg q1] at HTA
      have hne : ((E1 : Int) != 0) = true := by simp; omega
      clear hE q1
      go_enter Try.func54, Try.ntmps54
      go_upto_region 4 with (go_at_call 80; refine hcu.mono ?_; rintro e w1 ⟨v1, u1, rfl, hr1, b1⟩)
      obtain ⟨s1, s2⟩ := hr1 (by first | exact trivial | rfl)
      obtain ⟨a1, c1, hv1, K1⟩ := s1 w HS.out.1
      subst hv1
      have hta := HTA.out (K1.later b1) HBO.out
      clear hcu s1 s2 hr1 K1
      go_wp2_with (go_at_call 81; refine hta.mono ?_; rintro e w2 ⟨v2, rfl, rs2, b2⟩)
      exact bodyPost_ret (v := .tuple #[.slice none 0 0, .int .i64 (E1 : Nat)]) (by simp [results, Try.results54, go_sem]) rfl ⟨_, rfl, by rw [HBB.out]; exact RGV.nil _ _, b1.trans (b2.mono b1.size)⟩
  · have hE : tkEL d = cutE d := by
      unfold tkEL
      unfold cutE at q0 ⊢
      split
      · rfl
      · rename_i z
        rw [if_neg z] at q0
        split
        · rfl
        · rename_i z2
          rw [if_neg z2] at q0
          exact absurd rfl q0
    rw [hE]
    have HBB : Hid (tkBL d = []) := by show _ = _; unfold tkBL; rw [if_neg (by rw [hE]; exact q0)]
    have hne : ((cutE d : Int) != 0) = true := by simp; omega
    generalize cutE d = E0 at hcu hne
    clear hE q0 h hl
    go_enter Try.func54, Try.ntmps54
    go_wp2_with (go_at_call 80; refine hcu.mono ?_; rintro e w1 ⟨v1, u1, rfl, hr1, b1⟩)
    exact bodyPost_ret (v := .tuple #[.slice none 0 0, .int .i64 (E0 : Nat)]) (by simp [results, Try.results54, go_sem]) rfl ⟨_, rfl, by rw [HBB.out]; exact RGV.nil _ _, b1⟩
theorem dec_k {w : World} {ao : Option Addr} {len cap : Nat} {d : List Int} (h : Sl w ao len cap d) (hl : len ≤ 5000000) :
    Calls Try.prog 54 #[.slice ao len cap] w fun e w' => ∃ v, e = .returned (.tuple #[v, .int .i64 (tkEL d : Nat)]) ∧ RSV entE w' v (tkBL d) ∧ Below w.heap.size w w' := (decG_k h hl).mono fun e w' ⟨v, h1, h2, h3⟩ => ⟨v, h1, h2.rsv, h3⟩
end Go.Proofs.Ytimpaindbbjieaa

/- The landed table: the index; the entries of blocks. -/
namespace Go.Proofs.Ytimpaindbbjieaa
open Go.RowKit
set_option linter.unusedVariables false
set_option linter.unusedSimpArgs false

theorem ixT_nil (n room : Nat) : ixT n [] room = some [] := by cases n <;> simp [ixT]
theorem ixT_step {n room : Nat} {xs : List Int} (h : xs ≠ []) : (rwT xs room = none → ixT (n + 1) xs room = none) ∧ (∀ r, rwT xs room = some r → ixT (n + 1) xs room = (ixT n (xs.drop r.2) room).map (r.1 :: ·)) := by
  refine ⟨fun z => ?_, fun r z => ?_⟩
  · conv => lhs; unfold ixT
    rw [if_neg h, z]
  · conv => lhs; unfold ixT
    rw [if_neg h, z]
/-- What takeIndex answers. -/
def IxR (o : Option (List RowV)) (e : Ending) (w' : World) : Prop :=
  (o = none ∧ e = .returned (.tuple #[.slice none 0 0, .int .i64 3])) ∨ ∃ rs v, o = some rs ∧ e = .returned (.tuple #[v, .int .i64 0]) ∧ RSV rowE w' v rs
set_option maxHeartbeats 4000000 in
set_option maxRecDepth 100000 in
theorem index_t {w : World} {ao : Option Addr} {len cap room : Nat} {xs : List Int} (h : Sl w ao len cap xs) (hl : len ≤ 5000000) (hr : room ≤ 5000000) {N : Nat} (hN : len ≤ N) :
    Calls Try.prog 46 #[.slice ao len cap, .int .i64 (room : Int)] w fun e w' => IxR (ixT N xs room) e w' ∧ Below w.heap.size w w' := by
  obtain ⟨O, hO⟩ : ∃ O, O = ixT N xs room := ⟨_, rfl⟩
  rw [← hO]
  have HS : Hid (Sl w ao len cap xs ∧ len ≤ 5000000 ∧ room ≤ 5000000) := ⟨h, hl, hr⟩
  have H0 : Hid (RowS rowE w.heap.size w (.slice none 0 0) [] ∧ Below w.heap.size w w ∧ Rests ao len cap xs (.slice ao len cap) xs ∧ O = (ixT N xs room).map ([] ++ ·) ∧ ([] : List RowV).length + xs.length ≤ len ∧ len ≤ N) :=
    ⟨RowS.nil _ _, Below.refl _ _, fun wx hx => ⟨ao, cap, by rw [h.1], by rw [h.1]; exact hx⟩, by rw [hO]; cases ixT N xs room <;> rfl, by rw [h.1]; simp, hN⟩
  have hl62 : len ≤ 2 ^ 61 := by omega
  have hxl : xs.length = len := h.1
  clear h hO hN
  go_enter Try.func46, Try.ntmps46
  go_wp2_with fail
  go_loopg [0, 6, 7, 8, 9] len (fun g bv rv _ _ _ wr => ∃ (a : Option Addr) (c n : Nat) (d : List Int) (acc : List RowV), bv = .slice a d.length c ∧ d.length ≤ g ∧ d.length ≤ n ∧ Hid (RowS rowE w.heap.size wr rv acc ∧ Below w.heap.size w wr ∧ Rests ao len cap xs (.slice a d.length c) d ∧ O = (ixT n d room).map (acc ++ ·) ∧ acc.length + d.length ≤ len))
  case atStart => exact ⟨ao, cap, N, xs, [], by rw [hxl], by omega, by rw [hxl]; exact H0.out.2.2.2.2.2, H0.out.1, H0.out.2.1, by rw [hxl]; exact H0.out.2.2.1, H0.out.2.2.2.1, H0.out.2.2.2.2.1⟩
  case round =>
    obtain ⟨a, c, n, d, acc, rfl, hg, hn, HK⟩ := hrel
    by_cases hz : d = []
    · subst hz
      have HE : Hid (O = some acc) := by show _ = _; rw [HK.out.2.2.2.1, ixT_nil]; simp
      have HR := hid HK.out.1
      have HB := hid HK.out.2.1
      obtain ⟨v1, v2, v3, hv⟩ : ∃ v1 v2 v3, u6 = .slice v1 v2 v3 := by obtain ⟨a9, c9, hv, _⟩ := HK.out.1.rs; exact ⟨_, _, _, hv⟩
      subst hv
      clear HK hg hn
      go_wp2_with fail
      exact bodyPost_ret (v := .tuple #[.slice v1 v2 v3, .int .i64 0]) (by simp [results, Try.results46, go_sem]) rfl ⟨.inr ⟨acc, _, HE.out, rfl, RSV.ofRow HR.out⟩, HB.out⟩
    · obtain ⟨n, rfl⟩ : ∃ m, n = m + 1 := ⟨n - 1, by cases d with | nil => exact absurd rfl hz | cons x r => simp at hn; omega⟩
      have hd1 : 1 ≤ d.length := by cases d with | nil => exact absurd rfl hz | cons x r => simp
      have hd1' : (0 : Int) < (d.length : Int) := by omega
      obtain ⟨st1, st2⟩ := ixT_step (n := n) (room := room) hz
      have hsl := (HK.out.2.2.1 w HS.out.1).sl
      have hdl : d.length ≤ len := by have := HK.out.2.2.2.2; omega
      have hrow := row_t (hsl.later HK.out.2.1) (by have := HS.out.2.1; omega) HS.out.2.2
      have hus := fun r hr => rwT_used (xs := d) (room := room) (r := r) hr
      have HUS := hid hus
      have HST := hid (And.intro st1 st2)
      obtain ⟨DL, hDL⟩ : ∃ n, n = d.length := ⟨_, rfl⟩
      rw [← hDL] at hrow hd1' hd1 ⊢
      have HDL : Hid (DL = d.length ∧ DL ≤ gk ∧ DL ≤ n + 1 ∧ DL ≤ len ∧ len ≤ 5000000) := ⟨hDL, by omega, by omega, by omega, HS.out.2.1⟩
      have hDL62 : DL ≤ 2 ^ 60 := by have := HDL.out; omega
      have hcp := hsl.2.2.2.1
      have HCF : Hid (∀ i, i ≤ DL → ∀ w, (Instr.slice 25 (.slice a DL c) (some (.int .i64 (i : Int))) none none).run Try.prog w = .ok (.slice (cutA a c i) (DL - i) (c - i)) w) := fun i hi w => run_from w a DL c i hi (by rw [hDL]; exact hcp)
      clear st1 st2 hus hsl hdl hz hg hn hDL hcp
      obtain ⟨v1, v2, v3, hv⟩ : ∃ v1 v2 v3, u6 = .slice v1 v2 v3 := by obtain ⟨a9, c9, hv, _⟩ := HK.out.1.rs; exact ⟨_, _, _, hv⟩
      subst hv
      have HROW := hid HK.out.1
      have HB := hid HK.out.2.1
      have HRE := hid HK.out.2.2.1
      have HOO := hid HK.out.2.2.2.1
      have HAC := hid HK.out.2.2.2.2
      clear HK
      go_wp2_with fail
      refine hrow.mono ?_
      rintro e w1 ⟨hR, b1⟩
      rcases hR with ⟨o1, rfl⟩ | ⟨⟨⟨⟨p, q⟩, k⟩, m⟩, a1, c1, o1, rfl, r1⟩
      · have HE : Hid (O = none) := by show _ = _; rw [HOO.out, HST.out.1 o1]; rfl
        have HBF : Hid (Below w.heap.size w (w1.alloc (.cells #[.int .i64 0, .int .i64 0, .slice none 0 0] 86))) := (HB.out.trans (b1.mono HB.out.size)).alloc (Nat.le_trans HB.out.size b1.size) _
        clear o1 hrow b1
        go_wp2_with fail
        exact bodyPost_ret (v := .tuple #[.slice none 0 0, .int .i64 3]) (by simp [results, Try.results46, go_sem]) rfl ⟨.inl ⟨HE.out, rfl⟩, HBF.out⟩
      · simp only at r1
        obtain ⟨u1, u2, u3, u4⟩ := HUS.out _ o1
        simp only at u1 u2 u3 u4
        have HO2 : Hid (O = (ixT n (d.drop m) room).map ((acc ++ [⟨(p, q), k⟩]) ++ ·)) := by
          show _ = _
          rw [HOO.out, HST.out.2 _ o1]
          cases ixT n (d.drop m) room <;> simp
        have HM : Hid (1 ≤ m ∧ m ≤ DL ∧ (d.drop m).length = DL - m) := ⟨u1, by rw [HDL.out.1]; exact u2, by rw [List.length_drop, ← HDL.out.1]⟩
        have hcf := HCF.out m (by have := HM.out; omega)
        have HRE2 : Hid (Rests ao len cap xs (.slice (cutA a c m) (DL - m) (c - m)) (d.drop m)) := by
          have h1 := HRE.out
          have h2 := Rests.from (ao := a) (len := DL) (cap := c) (d := d) m HM.out.2.1 HDL.out.1.symm
          rw [← HDL.out.1] at h1
          exact h1.trans h2
        have hp62 : p ≤ 2 ^ 60 := by have := HS.out; omega
        have hq62 : q ≤ 2 ^ 60 := by have := HS.out; omega
        have hm62 : m ≤ 2 ^ 60 := by have := HM.out; omega
        have hmd : (m : Int) ≤ (DL : Int) := by have := HM.out; omega
        obtain ⟨KL, hKL⟩ : ∃ n, n = k.length := ⟨_, rfl⟩
        rw [← hKL] at r1 ⊢
        have hokk : Okb k := by
          have := tb_okb (xs := d) (most := 512) (HRE.out w HS.out.1).sl.2.1
          have h9 := o1
          unfold rwT at h9
          split at h9
          · cases h9
          split at h9
          · cases h9
          split at h9
          · cases h9
          split at h9
          · cases h9
          · cases h9; exact this
        have hskl : Sl w1 a1 KL c1 k := r1.slT hokk
        obtain ⟨W2, hW2⟩ : ∃ W, w1.alloc (.cells #[.int .i64 (p : Int), .int .i64 (q : Int), .slice a1 KL c1] 86) = W := ⟨_, rfl⟩
        have b2 : Below w1.heap.size w1 W2 := by rw [← hW2]; exact (Below.refl _ _).alloc (Nat.le_refl _) _
        have y0 : W2.cell? ⟨w1.heap.size, 0, none⟩ = some (.int .i64 (p : Int)) := by rw [← hW2, cell_of (heap_alloc_new w1 _)]; rfl
        have y1 : W2.cell? ⟨w1.heap.size, 1, none⟩ = some (.int .i64 (q : Int)) := by rw [← hW2, cell_of (heap_alloc_new w1 _)]; rfl
        have y2 : W2.cell? ⟨w1.heap.size, 2, none⟩ = some (.slice a1 KL c1) := by rw [← hW2, cell_of (heap_alloc_new w1 _)]; rfl
        have b3 : Below W2.heap.size W2 (W2.alloc (.cells #[.int .i64 (p : Int), .int .i64 (q : Int), .slice a1 KL c1] 86)) := (Below.refl _ _).alloc (Nat.le_refl _) _
        have hone := rs_one (E := rowE) (w := W2) (vs := [.int .i64 (p : Int), .int .i64 (q : Int), .slice a1 KL c1]) (x := ⟨(p, q), k⟩) ⟨a1, c1, by rw [hKL], by rw [← hKL]; exact hskl.later b2⟩
        have HONE := hid hone
        have B1 := HB.out.trans (b1.mono HB.out.size)
        have B2 := B1.trans (b2.mono B1.size)
        have HB3 := hid (B2.trans (b3.mono B2.size))
        have HR3 := hid (((HROW.out.later b1).later b2).later b3)
        have HSEP : Hid (∀ u ∈ [Value.int .i64 (p : Int), .int .i64 (q : Int), .slice a1 KL c1], ∀ b, Refs u b → (Value.slice v1 v2 v3).ownBlock ≠ some b) := fun u hu b hr e => by
          simp only [List.mem_cons, List.not_mem_nil, or_false] at hu
          rcases hu with rfl | rfl | rfl
          · exact (refs_int hr).elim
          · exact (refs_int hr).elim
          · have h1 := (HROW.out.own_lt e).2
            have h2 : wr.heap.size ≤ b := by
              obtain ⟨off, l9, c9, he, hl9⟩ := hr
              rcases r1.2 with z | ⟨g, cap9, cur, z1, z2, z3, z4⟩
              · simp only [Value.slice.injEq] at he
                obtain ⟨rfl, rfl, rfl⟩ := he
                cases z.1
              · simp only [Value.slice.injEq] at he z1
                obtain ⟨rfl, rfl, rfl⟩ := he
                simp only [Option.some.injEq, Addr.mk.injEq] at z1
                omega
            omega
        have HLN : Hid (acc.length ≤ 5000000) := by have := HAC.out; have := HDL.out; show _ ≤ _; omega
        obtain ⟨a9, hca⟩ : ∃ x, x = cutA a c m := ⟨_, rfl⟩
        obtain ⟨c9, hcc⟩ : ∃ x, x = c - m := ⟨_, rfl⟩
        obtain ⟨D9, hcd⟩ : ∃ x, x = DL - m := ⟨_, rfl⟩
        rw [← hca, ← hcc, ← hcd] at hcf HRE2
        have HD9 : Hid (D9 = (d.drop m).length ∧ D9 < gk ∧ D9 ≤ n ∧ acc.length + 1 + D9 ≤ len) := ⟨by rw [hcd, HM.out.2.2], by have := HDL.out; have := HM.out; omega, by have := HDL.out; have := HM.out; omega, by have := HAC.out; have := HDL.out; have := HM.out; omega⟩
        clear o1 hrow b1 b2 b3 r1 hskl hone B1 B2 u1 u2 u3 u4 hokk hca hcc hcd hKL
        go_wp2_with (at_builtin; refine wpList_appS rowE (t := 71) (z := .agg #[.int .i64 0, .int .i64 0, .slice none 0 0]) (bytes := 40) (B := w.heap.size) Try.underlying71 rowE_info rfl (by decide) rfl (.tmp 22) (.tmp 24) rfl rfl HR3.out rfl HONE.out HSEP.out (by have := HLN.out; omega) (by have := HLN.out; omega) HB3.out.size ?_; intro v9 w9 r9 g9 m9)
        have HB9 := hid (HB3.out.trans (HR3.out.below g9 HB3.out.size))
        go_roundg D9
        case measure => exact HD9.out.2.1
        case rel => exact ⟨a9, c9, n, d.drop m, acc ++ [⟨(p, q), k⟩], by rw [← HD9.out.1], by rw [← HD9.out.1]; exact Nat.le_refl _, by rw [← HD9.out.1]; exact HD9.out.2.2.1, r9, HB9.out, by rw [← HD9.out.1]; exact HRE2.out, HO2.out, by rw [← HD9.out.1, List.length_append]; simpa using HD9.out.2.2.2⟩
theorem teK_err {x : List Int} {r : List (List Int)} {acc : List EntV} (h : tkEL x ≠ 0) : teK (x :: r) acc = (tkEL x, []) := by
  conv => lhs; unfold teK
  rw [if_pos h]
theorem teK_ok {x : List Int} {r : List (List Int)} {acc : List EntV} (h : tkEL x = 0) : teK (x :: r) acc = teK r (if acc.length ≤ 4000 then acc ++ tkBL x else acc) := by
  conv => lhs; unfold teK
  rw [if_neg (not_not_intro h)]
theorem tkBL_len (x : List Int) : (tkBL x).length ≤ 401 := by
  unfold tkBL
  split
  · rw [List.length_take]; omega
  · simp
theorem teK_len : ∀ (l : List (List Int)) (acc : List EntV), acc.length ≤ 4401 → (teK l acc).2.length ≤ 4401
  | [], acc, h => h
  | x :: r, acc, h => by
    by_cases q : tkEL x = 0
    · rw [teK_ok q]
      refine teK_len r _ ?_
      have := tkBL_len x
      split
      · rw [List.length_append]; omega
      · exact h
    · rw [teK_err q]; simp
end Go.Proofs.Ytimpaindbbjieaa

/- The landed table: the entries of blocks. -/
namespace Go.Proofs.Ytimpaindbbjieaa
open Go.RowKit
set_option linter.unusedVariables false
set_option linter.unusedSimpArgs false

set_option maxHeartbeats 4000000 in
set_option maxRecDepth 100000 in
theorem ents_t {w : World} {ao pa : Option Addr} {len cap pl pc : Nat} {xs : List Int} {ss : List (Nat × Nat)} (h : Sl w ao len cap xs) (hl : len ≤ 5000000) (hs : RS spnE w pa pl pc ss) (hpl : pl ≤ 2 ^ 40) (hp : ∀ s ∈ ss, s.1 + s.2 + 4 ≤ len) :
    Calls Try.prog 49 #[.slice ao len cap, .slice pa pl pc] w fun e w' => ∃ v, e = .returned (.tuple #[v, .int .i64 ((teK (ss.map (ofS xs)) []).1 : Nat)]) ∧ RSV entE w' v (teK (ss.map (ofS xs)) []).2 ∧ Below w.heap.size w w' := by
  have hln : ss.length = pl := hs.len.1
  obtain ⟨T, hT⟩ : ∃ T, T = teK (ss.map (ofS xs)) [] := ⟨_, rfl⟩
  rw [← hT]
  have HS : Hid (Sl w ao len cap xs ∧ RS spnE w pa pl pc ss ∧ ss.length = pl ∧ (∀ s ∈ ss, s.1 + s.2 + 4 ≤ len) ∧ len ≤ 5000000 ∧ len ≤ cap) := ⟨h, hs, hln, hp, hl, h.2.2.2.1⟩
  have H0 : Hid (RowS entE w.heap.size w (.slice none 0 0) [] ∧ Below w.heap.size w w ∧ T = teK ((ss.drop 0).map (ofS xs)) [] ∧ ([] : List EntV).length ≤ 4401) := ⟨RowS.nil _ _, Below.refl _ _, by rw [hT]; rfl, by simp⟩
  have hpl62 : pl ≤ 2 ^ 61 := by omega
  clear h hs hp hl hT
  go_enter Try.func49, Try.ntmps49
  go_wp2_with fail
  go_loopg [6, 8, 9, 10, 13] pl (fun g v _ _ _ i wr => ∃ (k : Nat) (acc : List EntV), k + g = pl ∧ i = .int .i64 (k : Int) ∧ Hid (RowS entE w.heap.size wr v acc ∧ Below w.heap.size w wr ∧ T = teK ((ss.drop k).map (ofS xs)) acc ∧ acc.length ≤ 4401))
  case atStart => exact ⟨0, [], by omega, rfl, H0⟩
  case round =>
    obtain ⟨k, acc, hk, rfl, HK⟩ := hrel
    obtain ⟨v1, v2, v3, hv⟩ : ∃ v1 v2 v3, u6 = .slice v1 v2 v3 := by obtain ⟨a9, c9, hv, _⟩ := HK.out.1.rs; exact ⟨_, _, _, hv⟩
    have hv2 : v2 = acc.length := by obtain ⟨a9, c9, hv', _⟩ := HK.out.1.rs; rw [hv] at hv'; simp only [Value.slice.injEq] at hv'; exact hv'.2.1
    subst hv hv2
    by_cases hkl : k < pl
    · have hkl' : (k : Int) < (pl : Int) := by omega
      have hkx : k < ss.length := by omega
      have bel := HK.out.2.1
      obtain ⟨b, off, rfl, d0, d1⟩ := RS.spn (HS.out.2.1.later bel) (List.getElem?_eq_getElem hkx)
      have hsp := HS.out.2.2.2.1 _ (List.getElem_mem hkx)
      have hdr : (ss.drop k).map (ofS xs) = ofS xs ss[k] :: (ss.drop (k + 1)).map (ofS xs) := by rw [List.drop_eq_getElem_cons hkx]; rfl
      have HT1 : Hid (T = teK (ofS xs ss[k] :: (ss.drop (k + 1)).map (ofS xs)) acc) := by show _ = _; rw [HK.out.2.2.1, hdr]
      generalize ss[k] = s at d0 d1 hsp HT1
      obtain ⟨p, n⟩ := s
      simp only at d0 d1 hsp
      have hlen := HS.out.2.2.2.2.1
      obtain ⟨W, hW⟩ : ∃ W, wr.alloc (.cells #[.int .i64 (p : Int), .int .i64 (n : Int)] 74) = W := ⟨_, rfl⟩
      have bW : Below wr.heap.size wr W := by rw [← hW]; exact (Below.refl _ _).alloc (Nat.le_refl _) _
      have HBW := hid (bel.trans (bW.mono bel.size))
      have y0 : W.cell? ⟨wr.heap.size, 0, none⟩ = some (.int .i64 (p : Int)) := by rw [← hW, cell_of (heap_alloc_new wr _)]; rfl
      have y1 : W.cell? ⟨wr.heap.size, 1, none⟩ = some (.int .i64 (n : Int)) := by rw [← hW, cell_of (heap_alloc_new wr _)]; rfl
      have hof := spof_t (w := W) (ao := ao) (len := len) (cap := cap) (p := p) (n := n) (by have := HS.out.2.2.2.2.2; omega) (by omega) (by omega)
      have HDE : Hid (∀ wx, Below W.heap.size W wx → Calls Try.prog 54 #[.slice (cutA ao cap p) n (cap - p)] wx fun e w' => ∃ v, e = .returned (.tuple #[v, .int .i64 (tkEL (ofS xs (p, n)) : Nat)]) ∧ RGV wx.heap.size w' v (tkBL (ofS xs (p, n))) ∧ Below wx.heap.size wx w') := fun wx hb => by
        have := ((HS.out.1.later HBW.out).later hb).cut p (p + n) (by omega) (by omega)
        rw [show p + n - p = n by omega] at this
        exact decG_k this (by omega)
      have HBL := hid (tkBL_len (ofS xs (p, n)))
      have HROW : Hid (RowS entE w.heap.size W (.slice v1 acc.length v3) acc ∧ acc.length ≤ 4401) := ⟨HK.out.1.later bW, HK.out.2.2.2⟩
      have HOW : Hid (∀ g, (Value.slice v1 acc.length v3).ownBlock = some g → g < W.heap.size) := fun g hg => Nat.lt_of_lt_of_le (HK.out.1.own_lt hg).2 bW.size
      obtain ⟨X, hX⟩ : ∃ X, X = ofS xs (p, n) := ⟨_, rfl⟩
      rw [← hX] at HDE HBL HT1
      generalize cutA ao cap p = a1 at hof HDE
      generalize cap - p = c1 at hof HDE
      have hk62 : k ≤ 2 ^ 61 := by omega
      obtain ⟨GK, HG⟩ : ∃ g, Hid (g < gk ∧ k + 1 + g = pl) := ⟨gk - 1, by omega, by omega⟩
      obtain ⟨E, hE⟩ : ∃ E, E = tkEL X := ⟨_, rfl⟩
      obtain ⟨L, hL⟩ : ∃ L, L = tkBL X := ⟨_, rfl⟩
      rw [← hE, ← hL] at HDE
      rw [← hL] at HBL
      have HEL := hid (And.intro hE hL)
      clear hk bel bW hsp hlen HK hX hE hL hdr
      go_wp2_with (go_at_call 47; refine hof.mono ?_; rintro e w1 ⟨rfl, b1⟩)
      refine (HDE.out _ b1).mono ?_
      rintro e w2 ⟨v9, rfl, ⟨a9, c9, rfl, ⟨us, hu, hug⟩, _⟩, b2⟩
      have B1 := HBW.out.trans (b1.mono HBW.out.size)
      have HB2 := hid (B1.trans (b2.mono B1.size))
      have HR2 := hid ((HROW.out.1.later b1).later b2)
      have HU := hid hu
      have HSEP : Hid (∀ u ∈ us, ∀ b, Refs u b → (Value.slice v1 acc.length v3).ownBlock ≠ some b) := fun u hu b hr e => by
        have h1 := hug u hu b hr
        have h2 := HOW.out b e
        have h3 := b1.size
        omega
      have hL62 : L.length ≤ 2 ^ 60 := by have := HBL.out; omega
      have hac62 : acc.length ≤ 2 ^ 60 := by have := HROW.out.2; omega
      clear hof HDE b1 b2 B1 hu hug
      by_cases q : E = 0
      · subst q
        have HT2 : Hid (T = teK ((ss.drop (k + 1)).map (ofS xs)) (if acc.length ≤ 4000 then acc ++ L else acc)) := by show _ = _; rw [HT1.out, teK_ok HEL.out.1.symm, HEL.out.2]
        by_cases q2 : acc.length ≤ 4000
        · have q2' : (acc.length : Int) ≤ 4000 := by omega
          rw [if_pos q2] at HT2
          have HLN : Hid (acc.length ≤ 4000 ∧ L.length ≤ 401) := ⟨q2, HBL.out⟩
          generalize hAL : acc.length = AL at HR2 HSEP q2' hac62 ⊢
          have HAL := hid hAL
          generalize hLL : L.length = LL at HU hL62 ⊢
          have HLL := hid hLL
          clear q2 hAL hLL
          go_wp2_with (at_builtin; refine wpList_appS entE (t := 22) (z := .agg #[.slice none 0 0, .int .i64 0, .bool false, .int .i64 0, .slice none 0 0]) (bytes := 72) (B := w.heap.size) Try.underlying22 entE_info rfl (by decide) rfl (.tmp 30) (.tmp 31) rfl rfl HR2.out rfl HU.out HSEP.out (by have := HLN.out; have := HLL.out; omega) (by have := HLN.out; have := HLL.out; omega) HB2.out.size ?_; intro v10 w10 r10 g10 m10)
          have HB3 := hid (HB2.out.trans (HR2.out.below g10 HB2.out.size))
          go_roundg GK
          case measure => exact HG.out.1
          case rel => exact ⟨k + 1, acc ++ L, HG.out.2, by go_num, r10, HB3.out, HT2.out, by rw [List.length_append]; have := HLN.out; omega⟩
        · have q2' : ¬ ((acc.length : Int) ≤ 4000) := by omega
          rw [if_neg q2] at HT2
          have HLN := hid HROW.out.2
          generalize hAL : acc.length = AL at HR2 HSEP q2' hac62 HLN ⊢
          clear q2 hAL
          go_wp2_with fail
          go_roundg GK
          case measure => exact HG.out.1
          case rel => exact ⟨k + 1, acc, HG.out.2, by go_num, HR2.out, HB2.out, HT2.out, HROW.out.2⟩
      · have HT2 : Hid (T = (E, [])) := by show _ = _; rw [HT1.out, teK_err (by rw [← HEL.out.1]; exact q), HEL.out.1]
        have q' : ¬ ((E : Int) = 0) := by omega
        clear q
        go_wp2_with fail
        exact bodyPost_ret (v := .tuple #[.slice none 0 0, .int .i64 (E : Int)]) (by simp [results, Try.results49, go_sem]) rfl ⟨_, by rw [HT2.out], by rw [HT2.out]; exact RSV.nil _, HB2.out⟩
    · have hkl' : (pl : Int) ≤ (k : Int) := by omega
      have HE : Hid (T = (0, acc)) := by
        show _ = _
        rw [HK.out.2.2.1, List.drop_eq_nil_of_le (by omega)]
        rfl
      have HB := hid HK.out.2.1
      have HR := hid HK.out.1
      clear hk hkl HK
      go_wp2_with fail
      exact bodyPost_ret (v := .tuple #[.slice v1 acc.length v3, .int .i64 0]) (by simp [results, Try.results49, go_sem]) rfl ⟨_, by rw [HE.out]; rfl, by rw [HE.out]; exact RSV.ofRow HR.out, HB.out⟩
end Go.Proofs.Ytimpaindbbjieaa
