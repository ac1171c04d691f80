import Derived.BigQuiet
import Derived.Deep.RegionHeldLaw
import Derived.Test.YtimpaindbbjieabPk12
import Derived.Test.YtimpaindbbjieabPk31
import Derived.Test.YtimpaindbbjieabPk32
/- What is left of bytes that are read: slices of slices, in any world. -/
namespace Go.Proofs.Ytimpaindbbjieab
open Go.RowKit
set_option linter.unusedVariables false
set_option linter.unusedSimpArgs false

/-- What is left, where nothing is wrong. -/
def rst (s : Rd) : List Int := if s.2 ≠ 0 then [] else s.1
/-- A slice of a slice: what it holds, in any world. -/
def Rests (ao : Option Addr) (len cap : Nat) (d : List Int) (r : Value) (xs : List Int) : Prop := ∀ w, Sl w ao len cap d → SlV w r xs
theorem SlV.sl {w : World} {a : Option Addr} {n c : Nat} {xs : List Int} (h : SlV w (.slice a n c) xs) : Sl w a n c xs := by
  obtain ⟨a', c', e, hs⟩ := h
  simp only [Value.slice.injEq] at e
  obtain ⟨rfl, rfl, rfl⟩ := e
  exact hs
theorem Rests.trans {ao a : Option Addr} {len cap n c : Nat} {d xs ys : List Int} {r : Value} (h : Rests ao len cap d (.slice a n c) xs) (g : Rests a n c xs r ys) : Rests ao len cap d r ys := fun w hw => g w (h w hw).sl
theorem Rests.nil (ao : Option Addr) (len cap : Nat) (d : List Int) : Rests ao len cap d (.slice none 0 0) [] := fun w _ => slv_nil w
theorem Rests.from {ao : Option Addr} {len cap : Nat} {d : List Int} (i : Nat) (hi : i ≤ len) (hd : d.length = len) : Rests ao len cap d (.slice (cutA ao cap i) (len - i) (cap - i)) (d.drop i) := fun w h => by
  have e : (d.drop i).length = len - i := by rw [List.length_drop, hd]
  exact ⟨_, _, by rw [e], by rw [e]; exact h.from i hi⟩
end Go.Proofs.Ytimpaindbbjieab

/- The landed table: parts of bytes, their sums. -/
namespace Go.Proofs.Ytimpaindbbjieab
open Go.RowKit
set_option linter.unusedVariables false
set_option linter.unusedSimpArgs false

set_option maxRecDepth 100000 in
theorem spend_t {w : World} {p n : Nat} (hp : p ≤ 100000000) (hn : n ≤ 100000000) :
    Calls Try.prog 54 #[.agg #[.int .i64 (p : Int), .int .i64 (n : Int)]] w fun e w' => e = .returned (.int .i64 ((p + n : Nat) : Int)) ∧ Below w.heap.size w w' := by
  have HB : Hid (Below w.heap.size w (w.alloc (.cells #[.int .i64 (p : Int), .int .i64 (n : Int)] 59))) := (Below.refl _ _).alloc (Nat.le_refl _) _
  have hp62 : p ≤ 2 ^ 61 := by omega
  have hn62 : n ≤ 2 ^ 61 := by omega
  go_enter Try.func54, Try.ntmps54
  go_wp2_with fail
  exact bodyPost_ret (v := .int .i64 ((p : Int) + (n : Int))) (by simp [results, Try.results54, go_sem]) rfl ⟨by rw [show ((p + n : Nat) : Int) = (p : Int) + (n : Int) by omega], HB.out⟩
set_option maxHeartbeats 1000000 in
set_option maxRecDepth 100000 in
theorem spof_t {w : World} {ao : Option Addr} {len cap p n : Nat} (hpn : p + n ≤ cap) (hp : p ≤ 100000000) (hn : n ≤ 100000000) :
    Calls Try.prog 31 #[.agg #[.int .i64 (p : Int), .int .i64 (n : Int)], .slice ao len cap] w fun e w' => e = .returned (.slice (cutA ao cap p) n (cap - p)) ∧ Below w.heap.size w w' := by
  have hcut := fun w => run_cut w ao len cap p (p + n) (by omega) hpn
  rw [show p + n - p = n by omega] at hcut
  have y0 : (w.alloc (.cells #[.int .i64 (p : Int), .int .i64 (n : Int)] 59)).cell? ⟨w.heap.size, 0, none⟩ = some (.int .i64 (p : Int)) := by rw [cell_of (heap_alloc_new w _)]; rfl
  have y1 : (w.alloc (.cells #[.int .i64 (p : Int), .int .i64 (n : Int)] 59)).cell? ⟨w.heap.size, 1, none⟩ = some (.int .i64 (n : Int)) := by rw [cell_of (heap_alloc_new w _)]; rfl
  have HB : Hid (Below w.heap.size w (w.alloc (.cells #[.int .i64 (p : Int), .int .i64 (n : Int)] 59))) := (Below.refl _ _).alloc (Nat.le_refl _) _
  have HE : Hid (∀ wx, Calls Try.prog 54 #[.agg #[.int .i64 (p : Int), .int .i64 (n : Int)]] wx fun e w' => e = .returned (.int .i64 ((p + n : Nat) : Int)) ∧ Below wx.heap.size wx w') := fun wx => spend_t hp hn
  have hpn' : (p : Int) ≤ ((p + n : Nat) : Int) := by omega
  have hp62 : p ≤ 2 ^ 61 := by omega
  have hn62 : n ≤ 2 ^ 61 := by omega
  generalize cutA ao cap p = a1 at hcut ⊢
  generalize cap - p = c1 at hcut ⊢
  generalize hPN : p + n = PN at hcut HE hpn'
  have hPN62 : PN ≤ 2 ^ 61 := by omega
  clear hpn hp hn hPN
  generalize hW : w.alloc (.cells #[.int .i64 (p : Int), .int .i64 (n : Int)] 59) = W at y0 y1 HB
  go_enter Try.func31, Try.ntmps31
  go_wp2_with fail
  go_region_held_law (fun w' => w'.cell? ⟨w.heap.size, 0, none⟩ = some (.int .i64 (p : Int)) ∧ w'.cell? ⟨w.heap.size, 1, none⟩ = some (.int .i64 (n : Int))) (first | exact ⟨y0, y1⟩ | exact ⟨cell_later hb5 y0, cell_later hb5 y1⟩) (first | (go_at_call 54; refine (HE.out _).mono ?_; rintro e w5 ⟨rfl, hb5⟩))
  all_goals
    go_wp2_with fail
    exact bodyPost_ret (v := .slice a1 n c1) (by simp [results, Try.results31, go_sem]) rfl ⟨rfl, HB.out.drew.trans (hb5.mono HB.out.drew.size)⟩
set_option maxRecDepth 100000 in
theorem word_t {w : World} {ao : Option Addr} {len cap : Nat} {xs : List Int} (h : Sl w ao len cap xs) {i : Nat} (hi : i + 4 ≤ len) (hl : len ≤ 100000000) :
    Calls Try.prog 53 #[.slice ao len cap, .int .i64 (i : Int)] w fun e w' => e = .returned (.int .u64 ((wd xs i : Nat) : Int)) ∧ w' = w := by
  have hr := read4_l (h.from i (by omega)) (by omega)
  have hcf := fun w => run_from w ao len cap i (by omega) h.2.2.2.1
  unfold wd
  generalize fv (xof (xs.drop i)) 4 = V at hr ⊢
  generalize cutA ao cap i = a1 at hcf hr
  generalize len - i = n1 at hcf hr
  generalize cap - i = c1 at hcf hr
  clear h
  have hi62 : i ≤ 2 ^ 61 := by omega
  go_enter Try.func53, Try.ntmps53
  go_wp2_with (go_at_call 71; refine hr.mono ?_; rintro e w' ⟨rfl, hw⟩; obtain rfl := hw.symm)
  exact bodyPost_ret (v := .int .u64 (V : Int)) (by simp [results, Try.results53, go_sem]) rfl ⟨rfl, rfl⟩
/-- What spanWithin answers. -/
def spR (o : Option (Nat × Nat)) : Value := match o with
  | some s => .tuple #[.agg #[.int .i64 (s.1 : Int), .int .i64 (s.2 : Int)], .bool true]
  | none => .tuple #[.agg #[.int .i64 0, .int .i64 0], .bool false]
/-- Two cells, laid. -/
def lay2 (p : Nat) (wx : World) (x0 x1 : Value) : World := (wx.setCell ⟨p, 0, none⟩ x0).setCell ⟨p, 1, none⟩ x1
theorem lay2_grown (p : Nat) (wx : World) (x0 x1 : Value) : wx.grownBy (lay2 p wx x0 x1) (some p) := grown_trans (grown_set _ _ _ _) (grown_set _ _ _ _)
theorem lay2_block {p : Nat} {wx : World} {y0 y1 : Value} {t : TypeId} (h : wx.heap[p]? = some (.cells #[y0, y1] t (0, 0))) (x0 x1 : Value) : (lay2 p wx x0 x1).heap[p]? = some (.cells #[x0, x1] t (0, 0)) := by
  have hb := heap_set (heap_set h 0 x0) 1 x1
  unfold lay2
  rw [hb]
  rfl
theorem lay2_below {B p : Nat} {w wx : World} (h : Below B w wx) (hB : B ≤ w.heap.size) (hp : B ≤ p) (x0 x1 : Value) : Below B w (lay2 p wx x0 x1) := by
  refine h.trans (Below.grown (Below.refl B wx) (lay2_grown p wx x0 x1) (Nat.le_trans hB h.size) fun k e => ?_)
  simp only [Option.some.injEq] at e
  omega
set_option maxHeartbeats 1000000 in
set_option maxRecDepth 100000 in
theorem spw_t {w : World} {P N m : Nat} (hP : P < 18446744073709551616) (hN : N < 18446744073709551616) (hm : m ≤ 100000000) :
    Calls Try.prog 52 #[.int .u64 (P : Int), .int .u64 (N : Int), .int .i64 (m : Int)] w fun e w' => e = .returned (spR (spO P N m)) ∧ Below w.heap.size w w' := by
  have hm62 : m ≤ 2 ^ 61 := by omega
  have hwm : IntKind.u64.wrap (m : Int) = (m : Int) := wrap64u (by omega)
  have HZ : Hid (Below w.heap.size w (w.alloc (.cells #[.int .i64 0, .int .i64 0] 59))) := (Below.refl _ _).alloc (Nat.le_refl _) _
  by_cases q1 : m < P
  · have e1 : spO P N m = none := by unfold spO; rw [if_neg (by omega)]
    rw [e1]
    have q1' : (m : Int) < (P : Int) := by omega
    clear hm hP hN q1 e1
    go_enter Try.func52, Try.ntmps52
    go_wp2_with fail
    exact bodyPost_ret (v := .tuple #[.agg #[.int .i64 0, .int .i64 0], .bool false]) (by simp [results, Try.results52, go_sem]) rfl ⟨rfl, HZ.out⟩
  · have q1' : ¬ ((m : Int) < (P : Int)) := by omega
    by_cases q2 : m < N
    · have e1 : spO P N m = none := by unfold spO; rw [if_neg (by omega)]
      rw [e1]
      have q2' : (m : Int) < (N : Int) := by omega
      clear hm hP hN q1 q2 e1
      go_enter Try.func52, Try.ntmps52
      go_wp2_with fail
      exact bodyPost_ret (v := .tuple #[.agg #[.int .i64 0, .int .i64 0], .bool false]) (by simp [results, Try.results52, go_sem]) rfl ⟨rfl, HZ.out⟩
    · have q2' : ¬ ((m : Int) < (N : Int)) := by omega
      have hP62 : P ≤ 2 ^ 61 := by omega
      have hN62 : N ≤ 2 ^ 61 := by omega
      by_cases q3 : m < P + N + 4
      · have e1 : spO P N m = none := by unfold spO; rw [if_neg (by omega)]
        rw [e1]
        have q3' : (m : Int) < (P : Int) + (N : Int) + 4 := by omega
        clear hm hP hN q1 q2 q3 e1
        go_enter Try.func52, Try.ntmps52
        go_wp2_with fail
        exact bodyPost_ret (v := .tuple #[.agg #[.int .i64 0, .int .i64 0], .bool false]) (by simp [results, Try.results52, go_sem]) rfl ⟨rfl, HZ.out⟩
      · have e1 : spO P N m = some (P, N) := by unfold spO; rw [if_pos (by omega)]
        rw [e1]
        have q3' : ¬ ((m : Int) < (P : Int) + (N : Int) + 4) := by omega
        have HX : Hid (Below w.heap.size w (w.alloc (.cells #[.int .i64 (P : Int), .int .i64 (N : Int)] 59))) := (Below.refl _ _).alloc (Nat.le_refl _) _
        have hwP : IntKind.i64.wrap (P : Int) = (P : Int) := by rw [IntKind.wrap_i64]; omega
        have hwN : IntKind.i64.wrap (N : Int) = (N : Int) := by rw [IntKind.wrap_i64]; omega
        clear hm hP hN q1 q2 q3 e1 HZ
        go_enter Try.func52, Try.ntmps52
        go_wp2_with fail
        exact bodyPost_ret (v := .tuple #[.agg #[.int .i64 (P : Int), .int .i64 (N : Int)], .bool true]) (by simp [results, Try.results52, go_sem]) rfl ⟨rfl, HX.out⟩
end Go.Proofs.Ytimpaindbbjieab

/- The landed table: the sums of parts; the foot. -/
namespace Go.Proofs.Ytimpaindbbjieab
open Go.RowKit
set_option linter.unusedVariables false
set_option linter.unusedSimpArgs false

theorem all_takeS {ss : List (Nat × Nat)} {f : Nat × Nat → Bool} {k : Nat} (h : k < ss.length) : (ss.take (k + 1)).all f = ((ss.take k).all f && f ss[k]) := by
  rw [List.take_add_one, List.getElem?_eq_getElem h, List.all_append]
  simp
set_option maxHeartbeats 4000000 in
set_option maxRecDepth 100000 in
theorem csum_t {w : World} {ao pa : Option Addr} {len cap pl pc : Nat} {xs : List Int} {ss : List (Nat × Nat)} (h : Sl w ao len cap xs) (hl : len ≤ 5000000) (hs : RS spnE w pa pl pc ss) (hpl : pl ≤ 2 ^ 40) (hp : ∀ s ∈ ss, s.1 + s.2 + 4 ≤ len) {C : Int} (hC : C = if ss.all (okS xs) = true then 0 else 4) :
    Calls Try.prog 29 #[.slice ao len cap, .slice pa pl pc] w fun e w' => e = .returned (.int .i64 C) ∧ Below w.heap.size w w' := by
  have hln : ss.length = pl := hs.len.1
  have hlc := h.2.2.2.1
  have HS : Hid (Sl w ao len cap xs ∧ RS spnE w pa pl pc ss ∧ ss.length = pl ∧ (∀ s ∈ ss, s.1 + s.2 + 4 ≤ len) ∧ len ≤ 5000000 ∧ len ≤ cap) := ⟨h, hs, hln, hp, hl, hlc⟩
  have HC := hid hC
  have hpl62 : pl ≤ 2 ^ 61 := by omega
  clear h hs hp hC hl hlc
  go_enter Try.func29, Try.ntmps29
  go_wp2_with fail
  go_loopg [6, 9] pl (fun g _ i wr => ∃ k : Nat, k + g = pl ∧ i = .int .i64 (k : Int) ∧ Hid ((ss.take k).all (okS xs) = true ∧ Below w.heap.size w wr))
  case atStart => exact ⟨0, by omega, rfl, rfl, Below.refl _ _⟩
  case round =>
    obtain ⟨k, hk, rfl, HK⟩ := hrel
    by_cases hkl : k < pl
    · have hkl' : (k : Int) < (pl : Int) := by omega
      have hkx : k < ss.length := by omega
      have bel := HK.out.2
      obtain ⟨b, off, rfl, d0, d1⟩ := RS.spn (HS.out.2.1.later bel) (List.getElem?_eq_getElem hkx)
      have hsp := HS.out.2.2.2.1 _ (List.getElem_mem hkx)
      have HT := hid (all_takeS (f := okS xs) hkx)
      have HNO : Hid (okS xs ss[k] = false → C = 4) := fun q => by
        rw [HC.out, if_neg]
        intro z
        have := List.all_eq_true.1 z _ (List.getElem_mem hkx)
        rw [q] at this
        cases this
      generalize ss[k] = s at d0 d1 hsp HT HNO
      obtain ⟨p, n⟩ := s
      simp only at d0 d1 hsp
      obtain ⟨W, hW⟩ : ∃ W, wr.alloc (.cells #[.int .i64 (p : Int), .int .i64 (n : Int)] 59) = W := ⟨_, rfl⟩
      have bW : Below wr.heap.size wr W := by rw [← hW]; exact (Below.refl _ _).alloc (Nat.le_refl _) _
      have HBW := hid (bel.trans (bW.mono bel.size))
      have y0 : W.cell? ⟨wr.heap.size, 0, none⟩ = some (.int .i64 (p : Int)) := by rw [← hW, cell_of (heap_alloc_new wr _)]; rfl
      have y1 : W.cell? ⟨wr.heap.size, 1, none⟩ = some (.int .i64 (n : Int)) := by rw [← hW, cell_of (heap_alloc_new wr _)]; rfl
      have HY : Hid (∀ wx, Below W.heap.size W wx → wx.cell? ⟨wr.heap.size, 0, none⟩ = some (.int .i64 (p : Int)) ∧ wx.cell? ⟨wr.heap.size, 1, none⟩ = some (.int .i64 (n : Int))) := fun wx hb => ⟨cell_later hb y0, cell_later hb y1⟩
      have HBD : Hid (Below W.heap.size W W.drew) := (Below.refl _ W).drew
      have hlen := HS.out.2.2.2.2.1
      have HEN : Hid (∀ wx, Calls Try.prog 54 #[.agg #[.int .i64 (p : Int), .int .i64 (n : Int)]] wx fun e w' => e = .returned (.int .i64 ((p + n : Nat) : Int)) ∧ Below wx.heap.size wx w') := fun wx => spend_t (by omega) (by omega)
      have HWD : Hid (∀ wx, Below W.heap.size W wx → Calls Try.prog 53 #[.slice ao len cap, .int .i64 ((p + n : Nat) : Int)] wx fun e w' => e = .returned (.int .u64 ((wd xs (p + n) : Nat) : Int)) ∧ w' = wx) := fun wx hb => word_t ((HS.out.1.later HBW.out).later hb) (by omega) (by omega)
      have HOF : Hid (∀ wx, Calls Try.prog 31 #[.agg #[.int .i64 (p : Int), .int .i64 (n : Int)], .slice ao len cap] wx fun e w' => e = .returned (.slice (cutA ao cap p) n (cap - p)) ∧ Below wx.heap.size wx w') := fun wx => spof_t (by have := HS.out.2.2.2.2.2; omega) (by omega) (by omega)
      have HMS : Hid (∀ wx, Below W.heap.size W wx → Calls Try.prog 51 #[.slice (cutA ao cap p) n (cap - p)] wx fun e w' => e = .returned (.int .u64 (mask (more 0 (nl (ofS xs (p, n)))) : Nat)) ∧ w' = wx) := fun wx hb => by
        have := ((HS.out.1.later HBW.out).later hb).cut p (p + n) (by omega) (by omega)
        rw [show p + n - p = n by omega] at this
        exact msum_t this
      have HOK : Hid (okS xs (p, n) = decide (wd xs (p + n) = mask (more 0 (nl (ofS xs (p, n)))))) := rfl
      generalize wd xs (p + n) = V at HWD HOK
      generalize mask (more 0 (nl (ofS xs (p, n)))) = M at HMS HOK
      generalize cutA ao cap p = a1 at HOF HMS
      generalize cap - p = c1 at HOF HMS
      generalize hPN : p + n = PN at HEN HWD
      have hk62 : k ≤ 2 ^ 61 := by omega
      obtain ⟨GK, HG⟩ : ∃ g, Hid (g < gk ∧ k + 1 + g = pl) := ⟨gk - 1, by omega, by omega⟩
      have HA := hid HK.out.1
      clear hk bel bW hsp hlen HK hPN
      by_cases q : V = M
      · have HQ : Hid ((ss.take (k + 1)).all (okS xs) = true) := by show _ = _; rw [HT.out, HA.out, HOK.out, decide_eq_true q]; rfl
        subst q
        go_upto_region 4 with fail
        go_region_held_law (fun w' => w'.cell? ⟨wr.heap.size, 0, none⟩ = some (.int .i64 (p : Int)) ∧ w'.cell? ⟨wr.heap.size, 1, none⟩ = some (.int .i64 (n : Int))) (first | exact HY.out _ B6 | exact HY.out _ B5 | exact HY.out _ HBD.out | exact ⟨y0, y1⟩) (first | (go_at_call 54; refine (HEN.out _).mono ?_; rintro e w5 ⟨rfl, b5⟩; have B5 := HBD.out.trans (b5.mono HBD.out.size); clear b5) | (go_at_call 53; refine (HWD.out _ B5).mono ?_; rintro e w' ⟨rfl, hw⟩; obtain rfl := hw.symm) | (go_at_call 31; refine (HOF.out _).mono ?_; rintro e w6 ⟨rfl, b6⟩; have B6 := B5.trans (b6.mono B5.size); clear b6) | (go_at_call 51; refine (HMS.out _ B6).mono ?_; rintro e w' ⟨rfl, hw⟩; obtain rfl := hw.symm))
        all_goals
          go_wp2_with fail
          go_roundg GK
          case measure => exact HG.out.1
          case rel => exact ⟨k + 1, HG.out.2, by go_num, HQ.out, HBW.out.trans (B6.mono HBW.out.size)⟩
      · have HQ : Hid (C = 4) := HNO.out (by rw [HOK.out, decide_eq_false q])
        have q' : ¬ ((V : Int) = (M : Int)) := by omega
        clear q
        go_upto_region 4 with fail
        go_region_held_law (fun w' => w'.cell? ⟨wr.heap.size, 0, none⟩ = some (.int .i64 (p : Int)) ∧ w'.cell? ⟨wr.heap.size, 1, none⟩ = some (.int .i64 (n : Int))) (first | exact HY.out _ B6 | exact HY.out _ B5 | exact HY.out _ HBD.out | exact ⟨y0, y1⟩) (first | (go_at_call 54; refine (HEN.out _).mono ?_; rintro e w5 ⟨rfl, b5⟩; have B5 := HBD.out.trans (b5.mono HBD.out.size); clear b5) | (go_at_call 53; refine (HWD.out _ B5).mono ?_; rintro e w' ⟨rfl, hw⟩; obtain rfl := hw.symm) | (go_at_call 31; refine (HOF.out _).mono ?_; rintro e w6 ⟨rfl, b6⟩; have B6 := B5.trans (b6.mono B5.size); clear b6) | (go_at_call 51; refine (HMS.out _ B6).mono ?_; rintro e w' ⟨rfl, hw⟩; obtain rfl := hw.symm))
        all_goals
          go_wp2_with fail
          exact bodyPost_ret (v := .int .i64 4) (by simp [results, Try.results29, go_sem]) rfl ⟨by rw [HQ.out], HBW.out.trans (B6.mono HBW.out.size)⟩
    · have hkl' : (pl : Int) ≤ (k : Int) := by omega
      have HE : Hid (C = 0) := by
        have := HK.out.1
        rw [List.take_of_length_le (by omega)] at this
        show C = 0
        rw [HC.out, if_pos this]
      have HB := hid HK.out.2
      clear hk hkl HK
      go_wp2_with fail
      exact bodyPost_ret (v := .int .i64 0) (by simp [results, Try.results29, go_sem]) rfl ⟨by rw [HE.out], HB.out⟩
end Go.Proofs.Ytimpaindbbjieab
