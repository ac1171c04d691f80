import Derived.Deep.RegionHeldLaw
import Derived.BigQuiet
import Derived.Test.YtimpaindbbjieaaPk05
import Derived.Test.YtimpaindbbjieaaPk19
import Derived.Test.YtimpaindbbjieaaPk26
import Derived.Test.YtimpaindbbjieaaPk30
import Derived.Test.YtimpaindbbjieaaPk32
import Derived.Test.YtimpaindbbjieaaPk33
/- The landed table: the sums of parts; the foot. -/
namespace Go.Proofs.Ytimpaindbbjieaa
open Go.RowKit
set_option linter.unusedVariables false
set_option linter.unusedSimpArgs false

theorem all_takeS {ss : List (Nat × Nat)} {f : Nat × Nat → Bool} {k : Nat} (h : k < ss.length) : (ss.take (k + 1)).all f = ((ss.take k).all f && f ss[k]) := by
  rw [List.take_add_one, List.getElem?_eq_getElem h, List.all_append]
  simp
set_option maxHeartbeats 4000000 in
set_option maxRecDepth 100000 in
theorem csum_t {w : World} {ao pa : Option Addr} {len cap pl pc : Nat} {xs : List Int} {ss : List (Nat × Nat)} (h : Sl w ao len cap xs) (hl : len ≤ 5000000) (hs : RS spnE w pa pl pc ss) (hpl : pl ≤ 2 ^ 40) (hp : ∀ s ∈ ss, s.1 + s.2 + 4 ≤ len) {C : Int} (hC : C = if ss.all (okS xs) = true then 0 else 4) :
    Calls Try.prog 45 #[.slice ao len cap, .slice pa pl pc] w fun e w' => e = .returned (.int .i64 C) ∧ Below w.heap.size w w' := by
  have hln : ss.length = pl := hs.len.1
  have hlc := h.2.2.2.1
  have HS : Hid (Sl w ao len cap xs ∧ RS spnE w pa pl pc ss ∧ ss.length = pl ∧ (∀ s ∈ ss, s.1 + s.2 + 4 ≤ len) ∧ len ≤ 5000000 ∧ len ≤ cap) := ⟨h, hs, hln, hp, hl, hlc⟩
  have HC := hid hC
  have hpl62 : pl ≤ 2 ^ 61 := by omega
  clear h hs hp hC hl hlc
  go_enter Try.func45, Try.ntmps45
  go_wp2_with fail
  go_loopg [6, 9] pl (fun g _ i wr => ∃ k : Nat, k + g = pl ∧ i = .int .i64 (k : Int) ∧ Hid ((ss.take k).all (okS xs) = true ∧ Below w.heap.size w wr))
  case atStart => exact ⟨0, by omega, rfl, rfl, Below.refl _ _⟩
  case round =>
    obtain ⟨k, hk, rfl, HK⟩ := hrel
    by_cases hkl : k < pl
    · have hkl' : (k : Int) < (pl : Int) := by omega
      have hkx : k < ss.length := by omega
      have bel := HK.out.2
      obtain ⟨b, off, rfl, d0, d1⟩ := RS.spn (HS.out.2.1.later bel) (List.getElem?_eq_getElem hkx)
      have hsp := HS.out.2.2.2.1 _ (List.getElem_mem hkx)
      have HT := hid (all_takeS (f := okS xs) hkx)
      have HNO : Hid (okS xs ss[k] = false → C = 4) := fun q => by
        rw [HC.out, if_neg]
        intro z
        have := List.all_eq_true.1 z _ (List.getElem_mem hkx)
        rw [q] at this
        cases this
      generalize ss[k] = s at d0 d1 hsp HT HNO
      obtain ⟨p, n⟩ := s
      simp only at d0 d1 hsp
      obtain ⟨W, hW⟩ : ∃ W, wr.alloc (.cells #[.int .i64 (p : Int), .int .i64 (n : Int)] 74) = W := ⟨_, rfl⟩
      have bW : Below wr.heap.size wr W := by rw [← hW]; exact (Below.refl _ _).alloc (Nat.le_refl _) _
      have HBW := hid (bel.trans (bW.mono bel.size))
      have y0 : W.cell? ⟨wr.heap.size, 0, none⟩ = some (.int .i64 (p : Int)) := by rw [← hW, cell_of (heap_alloc_new wr _)]; rfl
      have y1 : W.cell? ⟨wr.heap.size, 1, none⟩ = some (.int .i64 (n : Int)) := by rw [← hW, cell_of (heap_alloc_new wr _)]; rfl
      have HY : Hid (∀ wx, Below W.heap.size W wx → wx.cell? ⟨wr.heap.size, 0, none⟩ = some (.int .i64 (p : Int)) ∧ wx.cell? ⟨wr.heap.size, 1, none⟩ = some (.int .i64 (n : Int))) := fun wx hb => ⟨cell_later hb y0, cell_later hb y1⟩
      have HBD : Hid (Below W.heap.size W W.drew) := (Below.refl _ W).drew
      have hlen := HS.out.2.2.2.2.1
      have HEN : Hid (∀ wx, Calls Try.prog 75 #[.agg #[.int .i64 (p : Int), .int .i64 (n : Int)]] wx fun e w' => e = .returned (.int .i64 ((p + n : Nat) : Int)) ∧ Below wx.heap.size wx w') := fun wx => spend_t (by omega) (by omega)
      have HWD : Hid (∀ wx, Below W.heap.size W wx → Calls Try.prog 74 #[.slice ao len cap, .int .i64 ((p + n : Nat) : Int)] wx fun e w' => e = .returned (.int .u64 ((wd xs (p + n) : Nat) : Int)) ∧ w' = wx) := fun wx hb => word_t ((HS.out.1.later HBW.out).later hb) (by omega) (by omega)
      have HOF : Hid (∀ wx, Calls Try.prog 47 #[.agg #[.int .i64 (p : Int), .int .i64 (n : Int)], .slice ao len cap] wx fun e w' => e = .returned (.slice (cutA ao cap p) n (cap - p)) ∧ Below wx.heap.size wx w') := fun wx => spof_t (by have := HS.out.2.2.2.2.2; omega) (by omega) (by omega)
      have HMS : Hid (∀ wx, Below W.heap.size W wx → Calls Try.prog 68 #[.slice (cutA ao cap p) n (cap - p)] wx fun e w' => e = .returned (.int .u64 (mask (more 0 (nl (ofS xs (p, n)))) : Nat)) ∧ w' = wx) := fun wx hb => by
        have := ((HS.out.1.later HBW.out).later hb).cut p (p + n) (by omega) (by omega)
        rw [show p + n - p = n by omega] at this
        exact msum_t this
      have HOK : Hid (okS xs (p, n) = decide (wd xs (p + n) = mask (more 0 (nl (ofS xs (p, n)))))) := rfl
      generalize wd xs (p + n) = V at HWD HOK
      generalize mask (more 0 (nl (ofS xs (p, n)))) = M at HMS HOK
      generalize cutA ao cap p = a1 at HOF HMS
      generalize cap - p = c1 at HOF HMS
      generalize hPN : p + n = PN at HEN HWD
      have hk62 : k ≤ 2 ^ 61 := by omega
      obtain ⟨GK, HG⟩ : ∃ g, Hid (g < gk ∧ k + 1 + g = pl) := ⟨gk - 1, by omega, by omega⟩
      have HA := hid HK.out.1
      clear hk bel bW hsp hlen HK hPN
      by_cases q : V = M
      · have HQ : Hid ((ss.take (k + 1)).all (okS xs) = true) := by show _ = _; rw [HT.out, HA.out, HOK.out, decide_eq_true q]; rfl
        subst q
        go_upto_region 4 with fail
        go_region_held_law (fun w' => w'.cell? ⟨wr.heap.size, 0, none⟩ = some (.int .i64 (p : Int)) ∧ w'.cell? ⟨wr.heap.size, 1, none⟩ = some (.int .i64 (n : Int))) (first | exact HY.out _ B6 | exact HY.out _ B5 | exact HY.out _ HBD.out | exact ⟨y0, y1⟩) (first | (go_at_call 75; refine (HEN.out _).mono ?_; rintro e w5 ⟨rfl, b5⟩; have B5 := HBD.out.trans (b5.mono HBD.out.size); clear b5) | (go_at_call 74; refine (HWD.out _ B5).mono ?_; rintro e w' ⟨rfl, hw⟩; obtain rfl := hw.symm) | (go_at_call 47; refine (HOF.out _).mono ?_; rintro e w6 ⟨rfl, b6⟩; have B6 := B5.trans (b6.mono B5.size); clear b6) | (go_at_call 68; refine (HMS.out _ B6).mono ?_; rintro e w' ⟨rfl, hw⟩; obtain rfl := hw.symm))
        all_goals
          go_wp2_with fail
          go_roundg GK
          case measure => exact HG.out.1
          case rel => exact ⟨k + 1, HG.out.2, by go_num, HQ.out, HBW.out.trans (B6.mono HBW.out.size)⟩
      · have HQ : Hid (C = 4) := HNO.out (by rw [HOK.out, decide_eq_false q])
        have q' : ¬ ((V : Int) = (M : Int)) := by omega
        clear q
        go_upto_region 4 with fail
        go_region_held_law (fun w' => w'.cell? ⟨wr.heap.size, 0, none⟩ = some (.int .i64 (p : Int)) ∧ w'.cell? ⟨wr.heap.size, 1, none⟩ = some (.int .i64 (n : Int))) (first | exact HY.out _ B6 | exact HY.out _ B5 | exact HY.out _ HBD.out | exact ⟨y0, y1⟩) (first | (go_at_call 75; refine (HEN.out _).mono ?_; rintro e w5 ⟨rfl, b5⟩; have B5 := HBD.out.trans (b5.mono HBD.out.size); clear b5) | (go_at_call 74; refine (HWD.out _ B5).mono ?_; rintro e w' ⟨rfl, hw⟩; obtain rfl := hw.symm) | (go_at_call 47; refine (HOF.out _).mono ?_; rintro e w6 ⟨rfl, b6⟩; have B6 := B5.trans (b6.mono B5.size); clear b6) | (go_at_call 68; refine (HMS.out _ B6).mono ?_; rintro e w' ⟨rfl, hw⟩; obtain rfl := hw.symm))
        all_goals
          go_wp2_with fail
          exact bodyPost_ret (v := .int .i64 4) (by simp [results, Try.results45, go_sem]) rfl ⟨by rw [HQ.out], HBW.out.trans (B6.mono HBW.out.size)⟩
    · have hkl' : (pl : Int) ≤ (k : Int) := by omega
      have HE : Hid (C = 0) := by
        have := HK.out.1
        rw [List.take_of_length_le (by omega)] at this
        show C = 0
        rw [HC.out, if_pos this]
      have HB := hid HK.out.2
      clear hk hkl HK
      go_wp2_with fail
      exact bodyPost_ret (v := .int .i64 0) (by simp [results, Try.results45, go_sem]) rfl ⟨by rw [HE.out], HB.out⟩
end Go.Proofs.Ytimpaindbbjieaa

/- The landed block: what it takes from bytes: a number, a byte of Gone, a value. -/
namespace Go.Proofs.Ytimpaindbbjieaa
open Go.RowKit
set_option linter.unusedVariables false
set_option linter.unusedSimpArgs false

set_option maxHeartbeats 1000000 in
set_option maxRecDepth 100000 in
theorem tnum_k {w : World} {ao : Option Addr} {len cap : Nat} {d : List Int} (h : Sl w ao len cap d) :
    Calls Try.prog 111 #[.slice ao len cap] w fun e w' => ∃ v, e = .returned (.tuple #[.int .i64 ((nmL d).1 : Nat), v, .int .i64 ((nmL d).2.2 : Nat)]) ∧ Rests ao len cap d v (rst (nmL d).2) ∧ Below w.heap.size w w' := by
  have ht := tk_l h
  have hlt := tk_lt d
  have hln := h.1
  have hcap := h.2.2.2.1
  have hcm : cap ≤ 2 ^ 63 - 1 := by have := h.2.2.2.2.1; unfold maxLen at this; omega
  rw [nmL_def]
  unfold rst
  by_cases q : (tk d).1 = 0
  · have hus := tk_used q
    rw [if_neg (not_not_intro q)]
    rw [q] at ht
    by_cases q2 : 4611686018427387904 < (tk d).2.1
    · rw [if_pos q2]
      simp only [show (3 : Nat) ≠ 0 by decide, ne_eq, not_false_eq_true, if_true]
      generalize (tk d).2.1 = n at ht hlt q2
      generalize (tk d).2.2 = sz at ht
      have c1 : (4611686018427387904 : Int) < (n : Int) := by omega
      clear h q hlt hln hcap hcm q2
      go_enter Try.func111, Try.ntmps111
      go_wp2_with (go_at_call 98; refine ht.mono ?_; rintro e w' ⟨rfl, hw⟩; obtain rfl := hw.symm)
      exact bodyPost_ret (v := .tuple #[.int .i64 0, .slice none 0 0, .int .i64 3]) (by simp [results, Try.results111, go_sem]) rfl ⟨_, rfl, Rests.nil _ _ _ _, Below.refl _ _⟩
    · rw [if_neg q2]
      simp only [ne_eq, not_true_eq_false, if_false]
      have hf := h.from (tk d).2.2 (by omega)
      have hcf := fun w => run_from w ao len cap (tk d).2.2 (by omega) hcap
      generalize (tk d).2.1 = n at ht hlt q2
      generalize (tk d).2.2 = sz at ht hf hcf hus
      have c1 : (n : Int) ≤ 4611686018427387904 := by omega
      have hn63 : n ≤ 2 ^ 63 - 1 := by omega
      have hsz : sz ≤ 2 ^ 63 - 1 := by omega
      have hF : Hid (Rests ao len cap d (.slice (cutA ao cap sz) (len - sz) (cap - sz)) (d.drop sz)) := Rests.from sz (by omega) hln
      clear h q hlt hln hcap hcm q2 hus hf
      go_enter Try.func111, Try.ntmps111
      go_wp2_with (go_at_call 98; refine ht.mono ?_; rintro e w' ⟨rfl, hw⟩; obtain rfl := hw.symm)
      go_quiet (fail)
      go_wp2_with fail
      exact bodyPost_ret (v := .tuple #[.int .i64 (n : Nat), .slice (cutA ao cap sz) (len - sz) (cap - sz), .int .i64 0]) (by simp [results, Try.results111, go_sem]) rfl ⟨_, rfl, hF.out, below_drewN (Below.refl _ _) _⟩
  · rw [if_pos q]
    simp only [q, ne_eq, not_false_eq_true, if_true]
    generalize (tk d).2.1 = n at ht
    generalize (tk d).2.2 = sz at ht
    generalize (tk d).1 = er at ht q
    have hne : ((er : Int) != 0) = true := by simp; omega
    clear h q hlt hln hcap hcm
    go_enter Try.func111, Try.ntmps111
    go_wp2_with (go_at_call 98; refine ht.mono ?_; rintro e w' ⟨rfl, hw⟩; obtain rfl := hw.symm)
    exact bodyPost_ret (v := .tuple #[.int .i64 0, .slice none 0 0, .int .i64 (er : Nat)]) (by simp [results, Try.results111, go_sem]) rfl ⟨_, rfl, Rests.nil _ _ _ _, Below.refl _ _⟩

set_option maxHeartbeats 1000000 in
set_option maxRecDepth 100000 in
theorem tval_k {w : World} {ao : Option Addr} {len cap : Nat} {d : List Int} (h : Sl w ao len cap d) (hl : len ≤ 175921860444160) :
    Calls Try.prog 113 #[.slice ao len cap] w fun e w' => ∃ v r, e = .returned (.tuple #[v, r, .int .i64 ((rdB 2048 (d, 0)).2.2 : Nat)]) ∧ Row w.heap.size w' v (rdB 2048 (d, 0)).1 ∧ Rests ao len cap d r (rst (rdB 2048 (d, 0)).2) ∧ Below w.heap.size w w' := by
  have ht := tb_l h hl 2048 (by omega)
  have hln := h.1
  have hcap := h.2.2.2.1
  have hcm : cap ≤ 2 ^ 63 - 1 := by have := h.2.2.2.2.1; unfold maxLen at this; omega
  unfold rdB rst
  simp only [ne_eq, not_true_eq_false, if_false]
  by_cases q : (tb d 2048).1 = 0
  · have hus := tb_used q
    rw [if_neg (not_not_intro q)]
    simp only [not_true_eq_false, if_false]
    rw [q] at ht
    have hf := h.from (tb d 2048).2.2 (by omega)
    have hcf := fun w => run_from w ao len cap (tb d 2048).2.2 (by omega) hcap
    generalize (tb d 2048).2.2 = sz at ht hf hcf hus
    generalize (tb d 2048).2.1 = s at ht
    have hsz : sz ≤ 2 ^ 63 - 1 := by omega
    have hF : Hid (Rests ao len cap d (.slice (cutA ao cap sz) (len - sz) (cap - sz)) (d.drop sz)) := Rests.from sz (by omega) hln
    clear h q hln hcap hcm hus hf hl
    go_enter Try.func113, Try.ntmps113
    go_wp2_with (go_at_call 97; refine ht.mono ?_; rintro e w' ⟨v, rfl, r1, b1⟩)
    go_quiet (fail)
    go_wp2_with fail
    exact bodyPost_ret (v := .tuple #[v, .slice (cutA ao cap sz) (len - sz) (cap - sz), .int .i64 0]) (by simp [results, Try.results113, go_sem]) rfl ⟨_, _, rfl, r1.later (below_drewN (Below.refl _ _) _), hF.out, below_drewN b1 _⟩
  · rw [if_pos q]
    simp only [q, not_false_eq_true, if_true]
    generalize (tb d 2048).2.1 = n at ht
    generalize (tb d 2048).2.2 = sz at ht
    generalize (tb d 2048).1 = er at ht q
    have hne : ((er : Int) != 0) = true := by simp; omega
    clear h q hln hcap hcm hl
    go_enter Try.func113, Try.ntmps113
    go_wp2_with (go_at_call 97; refine ht.mono ?_; rintro e w' ⟨v, rfl, r1, b1⟩)
    exact bodyPost_ret (v := .tuple #[.slice none 0 0, .slice none 0 0, .int .i64 (er : Nat)]) (by simp [results, Try.results113, go_sem]) rfl ⟨_, _, rfl, Row.nil _ _, Rests.nil _ _ _ _, b1⟩

set_option maxHeartbeats 1000000 in
set_option maxRecDepth 100000 in
theorem tgone_k {w : World} {ao : Option Addr} {len cap : Nat} {d : List Int} (h : Sl w ao len cap d) :
    Calls Try.prog 112 #[.slice ao len cap] w fun e w' => ∃ r, e = .returned (.tuple #[.bool (rdF (d, 0)).1, r, .int .i64 ((rdF (d, 0)).2.2 : Nat)]) ∧ Rests ao len cap d r (rst (rdF (d, 0)).2) ∧ Below w.heap.size w w' := by
  have hr := read_any ao len cap (xof d) 1 w h.2.2.2.2.2 h.2.2.2.1
  have hcap := h.2.2.2.1
  have hln := h.1
  have hcm : cap ≤ 2 ^ 63 - 1 := by have := h.2.2.2.2.1; unfold maxLen at this; omega
  unfold readV at hr
  rw [if_pos (by unfold InSize; omega)] at hr
  cases d with
  | nil =>
    have h0 : len = 0 := by simpa using hln.symm
    rw [if_pos (by omega)] at hr
    clear h hcap hln hcm h0
    go_enter Try.func112, Try.ntmps112
    go_wp2_with (go_at_call 96; refine hr.mono ?_; rintro e w' ⟨rfl, hw⟩; obtain rfl := hw.symm)
    exact bodyPost_ret (v := .tuple #[.bool false, .slice none 0 0, .int .i64 5]) (by simp [results, Try.results112, go_sem]) rfl ⟨_, rfl, Rests.nil _ _ _ _, Below.refl _ _⟩
  | cons c r =>
    have hl1 : 1 ≤ len := by rw [← hln]; simp
    rw [if_neg (by omega)] at hr
    have hc := h.2.1 c (by simp)
    obtain ⟨n, rfl⟩ := Int.eq_ofNat_of_zero_le hc.1
    have e1 : fv (xof ((n : Int) :: r)) (1 : Int).toNat = n := by simp [fv, xof]
    rw [e1] at hr
    have hf := h.from 1 hl1
    have hcf : ∀ w, (Instr.slice 25 (.slice ao len cap) (some (.int .i64 1)) none none).run Try.prog w = .ok (.slice (cutA ao cap 1) (len - 1) (cap - 1)) w := fun w => run_from w ao len cap 1 hl1 hcap
    have hF : Hid (Rests ao len cap ((n : Int) :: r) (.slice (cutA ao cap 1) (len - 1) (cap - 1)) r) := Rests.from 1 hl1 hln
    clear h hf hln e1 hcap
    by_cases q0 : n = 0
    · subst q0
      clear hc
      go_enter Try.func112, Try.ntmps112
      go_wp2_with (go_at_call 96; refine hr.mono ?_; rintro e w' ⟨rfl, hw⟩; obtain rfl := hw.symm)
      go_quiet (fail)
      go_wp2_with fail
      exact bodyPost_ret (v := .tuple #[.bool false, .slice (cutA ao cap 1) (len - 1) (cap - 1), .int .i64 0]) (by simp [results, Try.results112, go_sem]) rfl ⟨_, rfl, hF.out, below_drewN (Below.refl _ _) _⟩
    by_cases q1 : n = 1
    · subst q1
      clear hc
      go_enter Try.func112, Try.ntmps112
      go_wp2_with (go_at_call 96; refine hr.mono ?_; rintro e w' ⟨rfl, hw⟩; obtain rfl := hw.symm)
      go_quiet (fail)
      go_wp2_with fail
      exact bodyPost_ret (v := .tuple #[.bool true, .slice (cutA ao cap 1) (len - 1) (cap - 1), .int .i64 0]) (by simp [results, Try.results112, go_sem]) rfl ⟨_, rfl, hF.out, below_drewN (Below.refl _ _) _⟩
    · have c0 : ((n : Int) != 0) = true := by simp; omega
      have c1 : ((n : Int) != 1) = true := by simp; omega
      have hR : rdF ((n : Int) :: r, 0) = (false, (r, 3)) := by
        unfold rdF
        simp only [ne_eq, not_true_eq_false, if_false]
        rw [if_pos (by omega), show ((n : Int) == 1) = false by simp; omega]
      rw [hR]
      clear hc q0 q1 hF hR hcf
      go_enter Try.func112, Try.ntmps112
      go_wp2_with (go_at_call 96; refine hr.mono ?_; rintro e w' ⟨rfl, hw⟩; obtain rfl := hw.symm)
      exact bodyPost_ret (v := .tuple #[.bool false, .slice none 0 0, .int .i64 3]) (by simp [results, Try.results112, go_sem]) rfl ⟨_, rfl, Rests.nil _ _ _ _, Below.refl _ _⟩

end Go.Proofs.Ytimpaindbbjieaa

/- The landed block: a key, taken from bytes. -/
namespace Go.Proofs.Ytimpaindbbjieaa
open Go.RowKit
set_option linter.unusedVariables false
set_option linter.unusedSimpArgs false

/-- Two rows of bytes in a new row. -/
theorem rb2_k {w : World} {a1 a2 : Option Addr} {m1 m2 c1 c2 : Nat} {x1 x2 : List Int} (h1 : Sl w a1 m1 c1 x1) (h2 : Sl w a2 m2 c2 x2) :
    RB (w.alloc (.cells #[.slice a1 m1 c1, .slice a2 m2 c2] 25)) (some ⟨w.heap.size, 0, none⟩) 2 2 [x1, x2] := by
  have hb : Below w.heap.size w (w.alloc (.cells #[.slice a1 m1 c1, .slice a2 m2 c2] 25)) := (Below.refl _ w).alloc (Nat.le_refl _) _
  refine ⟨rfl, (fun q => by cases q), Nat.le_refl _, by unfold maxLen; omega, fun i r hr => ?_⟩
  have hc : ∀ j, (w.alloc (.cells #[.slice a1 m1 c1, .slice a2 m2 c2] 25)).cell? ⟨w.heap.size, 0 + j, none⟩ = #[Value.slice a1 m1 c1, .slice a2 m2 c2][j]? := fun j => by
    rw [Nat.zero_add]
    exact cell_of_row _ _ _ _ _ _ (heap_alloc_new w _)
  match i, hr with
  | 0, hr => obtain rfl : x1 = r := by simpa using hr
             exact ⟨_, _, a1, c1, rfl, by rw [hc, h1.1]; rfl, by rw [h1.1]; exact h1.later hb⟩
  | 1, hr => obtain rfl : x2 = r := by simpa using hr
             exact ⟨_, _, a2, c2, rfl, by rw [hc, h2.1]; rfl, by rw [h2.1]; exact h2.later hb⟩
  | n + 2, hr => simp at hr
theorem nmL_le (d : List Int) : (nmL d).1 ≤ 4611686018427387904 := rdN_le
theorem nmL_len (d : List Int) : (nmL d).2.1.length ≤ d.length := rdN_len (s := (d, 0))

set_option maxHeartbeats 4000000 in
set_option maxRecDepth 100000 in
theorem tkey_k {w : World} {ao ka : Option Addr} {len cap kl kc : Nat} {d key : List Int} (h : Sl w ao len cap d) (hl : len ≤ 175921860444160) (hk : Sl w ka kl kc key) (hkl : kl ≤ 512) :
    Calls Try.prog 110 #[.slice ao len cap, .slice ka kl kc] w fun e w' => ∃ v r, e = .returned (.tuple #[v, r, .int .i64 ((kE key d).1 : Nat)]) ∧ Row w.heap.size w' v (kE key d).2.1 ∧ Rests ao len cap d r (kE key d).2.2 ∧ Below w.heap.size w w' := by
  have hn1 := tnum_k h
  have HS : Hid (Sl w ao len cap d ∧ Sl w ka kl kc key ∧ len ≤ 175921860444160) := ⟨h, hk, hl⟩
  have hkc : kl ≤ kc := hk.2.2.2.1
  have hkey : key.length = kl := hk.1
  have hl1 := nmL_le d
  have hll := nmL_len d
  have hdl : d.length = len := h.1
  unfold kE
  rw [hkey]
  obtain ⟨⟨n1, l1, e1⟩, hF⟩ : ∃ x, nmL d = x := ⟨_, rfl⟩
  rw [hF] at hn1 hl1 hll ⊢
  simp only at hn1 hl1 hll ⊢
  have hn63 : n1 ≤ 2 ^ 63 - 1 := by omega
  have hk62 : kl ≤ 2 ^ 61 := by omega
  clear h hk hF
  by_cases q1 : e1 = 0
  · subst q1
    rw [if_neg (by simp)]
    rw [show rst (l1, 0) = l1 from rfl] at hn1
    by_cases q2 : kl < n1
    · rw [if_pos q2]
      have c1 : (kl : Int) < (n1 : Int) := by omega
      clear q2 hl1 hll hkc hkey hdl hl
      go_enter Try.func110, Try.ntmps110
      go_wp2_with (go_at_call 111; refine hn1.mono ?_; rintro e w1 ⟨r1, rfl, s1, b1⟩)
      exact bodyPost_ret (v := .tuple #[.slice none 0 0, .slice none 0 0, .int .i64 3]) (by simp [results, Try.results110, go_sem]) rfl ⟨_, _, rfl, Row.nil _ _, Rests.nil _ _ _ _, b1⟩
    · rw [if_neg q2]
      have c1 : (n1 : Int) ≤ (kl : Int) := by omega
      have m1 := nmL_le l1
      have m2 := nmL_len l1
      have HN2 : Hid (∀ {wx a c}, Sl wx a l1.length c l1 → Calls Try.prog 111 #[.slice a l1.length c] wx fun e w' => ∃ v, e = .returned (.tuple #[.int .i64 ((nmL l1).1 : Nat), v, .int .i64 ((nmL l1).2.2 : Nat)]) ∧ Rests a l1.length c l1 v (rst (nmL l1).2) ∧ Below wx.heap.size wx w') := fun {wx a c} hs => tnum_k hs
      obtain ⟨⟨n2, l2, e2⟩, hF2⟩ : ∃ x, nmL l1 = x := ⟨_, rfl⟩
      rw [hF2] at HN2 m1 m2 ⊢
      simp only at HN2 m1 m2 ⊢
      have hn2 : n2 ≤ 2 ^ 63 - 1 := by omega
      have HWR : Hid (wrap64 ((n1 : Int) + (n2 : Int)) = (n1 : Int) + (n2 : Int)) := by show _ = _; unfold wrap64; omega
      have hl162 : l1.length ≤ 2 ^ 62 := by omega
      have hl262 : l2.length ≤ 2 ^ 62 := by omega
      clear hF2
      by_cases q3 : e2 = 0
      · subst q3
        rw [if_neg (by simp)]
        rw [show rst (l2, 0) = l2 from rfl] at HN2
        by_cases q4 : 512 < n1 + n2
        · rw [if_pos q4]
          have c4 : (512 : Int) < (n1 : Int) + (n2 : Int) := by omega
          clear q4 q2 hl1 hll hkc hkey hdl hl m1 m2
          go_enter Try.func110, Try.ntmps110
          go_upto_region 6 with (go_at_call 111; refine hn1.mono ?_; rintro e w1 ⟨r1, rfl, s1, b1⟩)
          obtain ⟨a1, c1', hr1, K1⟩ := s1 _ HS.out.1
          subst hr1
          have hN2 := HN2.out (K1.later b1)
          have hw := HWR.out
          go_wp2_with (go_at_call 111; refine hN2.mono ?_; rintro e w2 ⟨r2, rfl, s2, b2⟩)
          exact bodyPost_ret (v := .tuple #[.slice none 0 0, .slice none 0 0, .int .i64 2]) (by simp [results, Try.results110, go_sem]) rfl ⟨_, _, rfl, Row.nil _ _, Rests.nil _ _ _ _, b1.trans (b2.mono b1.size)⟩
        · rw [if_neg q4]
          have c4 : (n1 : Int) + (n2 : Int) ≤ 512 := by omega
          have c44 : ¬ ((512 : Int) < (n1 : Int) + (n2 : Int)) := by omega
          by_cases q5 : l2.length < n2
          · rw [if_pos q5]
            have c5 : (l2.length : Int) < (n2 : Int) := by omega
            clear q5 q4 q2 hl1 hll hkc hkey hdl hl m1 m2
            go_enter Try.func110, Try.ntmps110
            go_upto_region 6 with (go_at_call 111; refine hn1.mono ?_; rintro e w1 ⟨r1, rfl, s1, b1⟩)
            obtain ⟨a1, c1', hr1, K1⟩ := s1 _ HS.out.1
            subst hr1
            have hN2 := HN2.out (K1.later b1)
            have HSS := hid (And.intro s1 b1)
            go_upto_region 9 with (go_at_call 111; refine hN2.mono ?_; rintro e w2 ⟨r2, rfl, s2, b2⟩)
            obtain ⟨a2, c2, hr2, K2⟩ := s2 _ K1
            subst hr2
            have hw := HWR.out
            go_wp2_with fail
            exact bodyPost_ret (v := .tuple #[.slice none 0 0, .slice none 0 0, .int .i64 5]) (by simp [results, Try.results110, go_sem]) rfl ⟨_, _, rfl, Row.nil _ _, Rests.nil _ _ _ _, b1.trans (b2.mono b1.size)⟩
          · rw [if_neg q5]
            have c5 : (n2 : Int) ≤ (l2.length : Int) := by omega
            have hsk := HS.out.2.1.upto0 n1 (by omega)
            have hcu := run_uptoK .i64 ka kl kc n1 (by omega)
            generalize cutA ka kc 0 = k0 at hsk hcu
            have HX : Hid (n2 ≤ l2.length ∧ n1 + n2 ≤ 512) := ⟨by omega, by omega⟩
            have HSK := hid hsk
            clear q5 q4 q2 hl1 hll hkc hkey hdl hl m1 m2 hsk
            go_enter Try.func110, Try.ntmps110
            go_upto_region 6 with (go_at_call 111; refine hn1.mono ?_; rintro e w1 ⟨r1, rfl, s1, b1⟩)
            obtain ⟨a1, c1', hr1, K1⟩ := s1 _ HS.out.1
            subst hr1
            have hN2 := HN2.out (K1.later b1)
            have HSS := hid (And.intro s1 b1)
            have HK1 := hid K1
            clear hn1 s1 b1 K1
            go_upto_region 9 with (go_at_call 111; refine hN2.mono ?_; rintro e w2 ⟨r2, rfl, s2, b2⟩)
            obtain ⟨a2, c2, hr2, K2⟩ := s2 _ HK1.out
            subst hr2
            have hb2 := HSS.out.2.trans (b2.mono HSS.out.2.size)
            have HR2 := hid (HSS.out.1.trans s2)
            have HB2 := hid hb2
            have hcv := run_uptoK .i64 a2 l2.length c2 n2 (by have := HX.out; have := K2.2.2.2.1; omega)
            have hcw := fun w => run_from w a2 l2.length c2 n2 HX.out.1 K2.2.2.2.1
            have HF : Hid (Rests a2 l2.length c2 l2 (.slice (cutA a2 c2 n2) (l2.length - n2) (c2 - n2)) (l2.drop n2)) := Rests.from n2 HX.out.1 rfl
            have HSV := hid ((K2.later hb2).upto0 n2 HX.out.1)
            have HSK2 := hid (HSK.out.later hb2)
            clear hN2 s2 b2 K2 HSS hb2 HSK
            generalize cutA a2 c2 0 = v0 at hcv HSV
            generalize hL2 : l2.length = L2 at *
            generalize cutA a2 c2 n2 = v1 at hcw HF
            generalize L2 - n2 = L3 at hcw HF
            have hw := HWR.out
            go_upto_region 13 with fail
            clear hw
            have hcc : Calls Try.prog 87 #[.slice (some ⟨w2.heap.size, 0, none⟩) 2 2] (w2.alloc (.cells #[.slice k0 n1 kc, .slice v0 n2 c2] 25)).drew fun e w' => ∃ v, e = .returned v ∧ Row w2.heap.size w' v (key.take n1 ++ l2.take n2) ∧ Below w2.heap.size w2 w' := by
              have ht : tot [key.take n1, l2.take n2] ≤ 175921860444160 := by
                have h1 := HX.out
                have h2 := HSK2.out.1
                have h3 := HSV.out.1
                unfold tot
                simp only [List.flatten_cons, List.flatten_nil, List.append_nil, List.length_append]
                omega
              have hb : Below w2.heap.size w2 (w2.alloc (.cells #[.slice k0 n1 kc, .slice v0 n2 c2] 25)) := (Below.refl _ _).alloc (Nat.le_refl _) _
              have hrb := (rb2_k HSK2.out HSV.out).later ((Below.refl (w2.alloc (.cells #[.slice k0 n1 kc, .slice v0 n2 c2] 25)).heap.size _).drew)
              refine (concat_any hrb ht).mono ?_
              rintro e w' ⟨v, he, hr, hb'⟩
              have bb := hb.drew
              have hr2 := hr.base bb.size
              simp only [List.flatten_cons, List.flatten_nil, List.append_nil] at hr2
              exact ⟨v, he, hr2, bb.trans (hb'.mono bb.size)⟩
            clear HSK2 HSV HK1 HX HWR HN2 HS hL2 c1 c4 c44 hk62 hl162 hl262 hn2 hn63
            go_region_held_law (fun w' => True) (exact trivial) (first | (refine step_fn 87 (args := #[.slice (some ⟨w2.heap.size, 0, none⟩) 2 2]) rfl rfl (by simp [Act.eval, Act.put]) (by kernel_rfl) hcc ?_; rintro e w3 ⟨v3, rfl, r3, b3⟩; refine ⟨_, rfl, ?_⟩))
            go_wp2_with fail
            exact bodyPost_ret (v := .tuple #[v3, .slice v1 L3 (c2 - n2), .int .i64 0]) (by simp [results, Try.results110, go_sem]) rfl ⟨v3, _, rfl, r3.base HB2.out.size, HR2.out.trans HF.out, HB2.out.trans (b3.mono HB2.out.size)⟩
      · rw [if_pos q3]
        have hne : ((e2 : Int) != 0) = true := by simp; omega
        clear q3 q2 hl1 hll hkc hkey hdl hl m1 m2
        go_enter Try.func110, Try.ntmps110
        go_upto_region 6 with (go_at_call 111; refine hn1.mono ?_; rintro e w1 ⟨r1, rfl, s1, b1⟩)
        obtain ⟨a1, c1', hr1, K1⟩ := s1 _ HS.out.1
        subst hr1
        have hN2 := HN2.out (K1.later b1)
        go_wp2_with (go_at_call 111; refine hN2.mono ?_; rintro e w2 ⟨r2, rfl, s2, b2⟩)
        exact bodyPost_ret (v := .tuple #[.slice none 0 0, .slice none 0 0, .int .i64 (e2 : Nat)]) (by simp [results, Try.results110, go_sem]) rfl ⟨_, _, rfl, Row.nil _ _, Rests.nil _ _ _ _, b1.trans (b2.mono b1.size)⟩
  · rw [if_pos q1]
    have hne : ((e1 : Int) != 0) = true := by simp; omega
    clear q1 hl1 hll hkc hkey hdl hl
    go_enter Try.func110, Try.ntmps110
    go_wp2_with (go_at_call 111; refine hn1.mono ?_; rintro e w1 ⟨r1, rfl, s1, b1⟩)
    exact bodyPost_ret (v := .tuple #[.slice none 0 0, .slice none 0 0, .int .i64 (e1 : Nat)]) (by simp [results, Try.results110, go_sem]) rfl ⟨_, _, rfl, Row.nil _ _, Rests.nil _ _ _ _, b1⟩
end Go.Proofs.Ytimpaindbbjieaa
