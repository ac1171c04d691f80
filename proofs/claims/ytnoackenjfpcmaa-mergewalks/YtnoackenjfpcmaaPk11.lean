import Derived.Laws.Cover1
import Derived.Test.YtnoackenjfpcmaaPk07
import Derived.Test.YtnoackenjfpcmaaPk09
import Derived.Test.YtnoackenjfpcmaaPk10
/- The document's own Compare, and its numbers. -/
namespace Go.Proofs.Ytnoackenjfpcmaa
open Go.RowKit
set_option linter.unusedVariables false
set_option linter.unusedSimpArgs false

theorem less_cmp : ∀ {xs ys : List Int}, Okb xs → Okb ys → Op.bytesLess (xs.map fun n => UInt8.ofNat n.toNat) (ys.map fun n => UInt8.ofNat n.toNat) = decide (cmp xs ys = -1)
  | [], [], _, _ => by simp [Op.bytesLess, cmp]
  | [], _ :: _, _, _ => by simp [Op.bytesLess, cmp]
  | _ :: _, [], _, _ => by simp [Op.bytesLess, cmp]
  | x :: xs, y :: ys, hx, hy => by
    have ih := less_cmp hx.tail hy.tail
    have h1 := hx.head
    have h2 := hy.head
    have e1 : (UInt8.ofNat x.toNat).toNat = x.toNat := by
      rw [UInt8.toNat_ofNat']
      simp only [Nat.reducePow]
      exact Nat.mod_eq_of_lt (by omega)
    have e2 : (UInt8.ofNat y.toNat).toNat = y.toNat := by
      rw [UInt8.toNat_ofNat']
      simp only [Nat.reducePow]
      exact Nat.mod_eq_of_lt (by omega)
    rw [List.map_cons, List.map_cons, Op.bytesLess]
    rcases Int.lt_trichotomy x y with h | h | h
    · have l1 : UInt8.ofNat x.toNat < UInt8.ofNat y.toNat := by rw [UInt8.lt_iff_toNat_lt, e1, e2]; omega
      rw [cmp_less h]
      simp [l1]
    · subst h
      rw [cmp_same, ← ih]
      simp
    · have l1 : ¬ UInt8.ofNat x.toNat < UInt8.ofNat y.toNat := by rw [UInt8.lt_iff_toNat_lt, e1, e2]; omega
      have l2 : UInt8.ofNat x.toNat ≠ UInt8.ofNat y.toNat := fun e => by
        have := congrArg UInt8.toNat e
        rw [e1, e2] at this
        omega
      rw [cmp_more h]
      simp [l1, l2]
theorem less_str {xs ys : List Int} (hx : Okb xs) (hy : Okb ys) : Op.bytesLess (strOfNums xs).toList (strOfNums ys).toList = decide (cmp xs ys = -1) := by
  rw [ByteArray.toList_eq, ByteArray.toList_eq, strOfNums_data, strOfNums_data]
  exact less_cmp hx hy

set_option maxHeartbeats 1000000 in
set_option maxRecDepth 100000 in
theorem rcmp_any {w : World} {a b : Option Addr} {la ca lb cb : Nat} {xs ys : List Int} (ha : Sl w a la ca xs) (hb : Sl w b lb cb ys) :
    Calls Try.prog 18 #[.slice a la ca, .slice b lb cb] w fun e w' => e = .returned (.int .i64 (cmp xs ys)) ∧ Below w.heap.size w w' := by
  have g1 := fun j => str_l (ha.drewN j)
  have g2 := fun j => str_l (hb.drewN j)
  have hlt := less_str ha.2.1 hb.2.1
  have heq := str_eq ha.2.1 hb.2.1
  have hz := @cmp_zero xs ys
  have hv := cmp_vals xs ys
  clear ha hb
  generalize strOfNums xs = S1 at g1 hlt heq
  generalize strOfNums ys = S2 at g2 hlt heq
  generalize cmp xs ys = c at hlt hz hv ⊢
  rcases hv with e | e | e <;> subst e
  · have h1 : Op.bytesLess S1.toList S2.toList = true := by rw [hlt]; rfl
    clear hlt heq hz
    go_enter Try.func18, Try.ntmps18
    go_wp2_with fail
    go_quiet (fail)
    go_wp2_with fail
    go_ret
    exact ⟨rfl, below_drewN (Below.refl _ _) _⟩
  · have h1 : Op.bytesLess S1.toList S2.toList = false := by rw [hlt]; rfl
    have h2 : (S1.toList == S2.toList) = true := by rw [heq]; simpa using hz.1 rfl
    clear hlt heq hz
    go_enter Try.func18, Try.ntmps18
    go_wp2_with fail
    go_quiet (fail)
    go_wp2_with fail
    go_ret
    exact ⟨rfl, below_drewN (Below.refl _ _) _⟩
  · have h1 : Op.bytesLess S1.toList S2.toList = false := by rw [hlt]; rfl
    have h2 : (S1.toList == S2.toList) = false := by
      rw [heq, decide_eq_false_iff_not]
      intro e
      have := hz.2 e
      omega
    clear hlt heq hz
    go_enter Try.func18, Try.ntmps18
    go_wp2_with fail
    go_quiet (fail)
    go_wp2_with fail
    go_ret
    exact ⟨rfl, below_drewN (Below.refl _ _) _⟩

/-- A number as eight bytes: its sign bit turned. -/
def turned (n : Int) : Nat := (n + 9223372036854775808).toNat
theorem xor_top {a : Nat} (h : a < 9223372036854775808) : a ^^^ 9223372036854775808 = a + 9223372036854775808 := by
  have e : (9223372036854775808 : Nat) = 2 ^ 63 := rfl
  rw [e] at h ⊢
  rw [Nat.add_comm]
  apply Nat.eq_of_testBit_eq
  intro i
  rw [Nat.testBit_xor, Nat.testBit_two_pow]
  rcases Nat.lt_trichotomy i 63 with q | q | q
  · rw [Nat.testBit_two_pow_add_gt q]
    have : decide (63 = i) = false := by simp; omega
    simp [this]
  · subst q
    rw [Nat.testBit_two_pow_add_eq]
    simp
  · have h1 : a.testBit i = false := Nat.testBit_lt_two_pow (Nat.lt_of_lt_of_le h (Nat.pow_le_pow_right (by decide) (by omega)))
    have h2 : (2 ^ 63 + a).testBit i = false := Nat.testBit_lt_two_pow (Nat.lt_of_lt_of_le (show 2 ^ 63 + a < 2 ^ 64 by omega) (Nat.pow_le_pow_right (by decide) (by omega)))
    have : decide (63 = i) = false := by simp; omega
    rw [h1, h2, this]
    rfl
theorem xor_low {a : Nat} (h : a < 9223372036854775808) : (a + 9223372036854775808) ^^^ 9223372036854775808 = a := by
  rw [← xor_top h, Nat.xor_assoc, Nat.xor_self, Nat.xor_zero]
def InI (n : Int) : Prop := -9223372036854775808 ≤ n ∧ n ≤ 9223372036854775807
theorem turned_lt {n : Int} (h : InI n) : turned n < 18446744073709551616 := by unfold InI at h; unfold turned; omega
theorem turn_xor {n : Int} (h : InI n) : ∃ A : Nat, A < 18446744073709551616 ∧ IntKind.u64.wrap n = (A : Int) ∧ A ^^^ 9223372036854775808 = turned n := by
  unfold InI at h
  unfold turned
  by_cases q : 0 ≤ n
  · refine ⟨n.toNat, by omega, ?_, ?_⟩
    · rw [IntKind.wrap_u64]
      omega
    · rw [xor_top (by omega)]
      omega
  · refine ⟨(n + 18446744073709551616).toNat, by omega, ?_, ?_⟩
    · rw [IntKind.wrap_u64]
      omega
    · have e : (n + 18446744073709551616).toNat = (n + 9223372036854775808).toNat + 9223372036854775808 := by omega
      rw [e, xor_low (by omega)]
theorem fxs8 (n : Nat) : fxs n 8 = fx n 8 := by
  unfold fxs
  rw [if_pos (by unfold InSize; decide)]
  rfl
/-- The number of eight bytes. -/
def back (u : Nat) : Int := (u : Int) - 9223372036854775808
theorem back_turned {n : Int} (h : InI n) : back (turned n) = n := by unfold InI at h; unfold back turned; omega
theorem back_xor {u : Nat} (h : u < 18446744073709551616) : ∃ A : Nat, A < 18446744073709551616 ∧ u ^^^ 9223372036854775808 = A ∧ IntKind.i64.wrap (A : Int) = back u := by
  by_cases q : u < 9223372036854775808
  · refine ⟨u + 9223372036854775808, by omega, xor_top q, ?_⟩
    unfold back
    rw [IntKind.wrap_i64]
    omega
  · obtain ⟨t, rfl⟩ : ∃ t, u = t + 9223372036854775808 := ⟨u - 9223372036854775808, by omega⟩
    refine ⟨t, by omega, xor_low (by omega), ?_⟩
    unfold back
    rw [IntKind.wrap_i64]
    omega
/-- The number at the beginning: an error (0: none) and itself. -/
def tn (xs : List Int) : Nat × Int := if xs.length < 8 then (5, 0) else (0, back (fv (xof xs) 8))
theorem fv8_lt {xs : List Int} (h : Okb xs) (h8 : 8 ≤ xs.length) : fv (xof xs) 8 < 18446744073709551616 := by
  have := fv_lt (xof xs) 8 (fun j hj => by
    have := h xs[j] (List.getElem_mem (by omega))
    simp [xof, List.getElem?_eq_getElem (show j < xs.length by omega)]
    omega)
  omega
end Go.Proofs.Ytnoackenjfpcmaa

/- The document's own May, Weight and Ahead of entries. -/
namespace Go.Proofs.Ytnoackenjfpcmaa
open Go.RowKit
set_option linter.unusedVariables false
set_option linter.unusedSimpArgs false

set_option maxHeartbeats 2000000 in
set_option maxRecDepth 100000 in
theorem rahead_any {w : World} {ka va kb vb : Option Addr} {kc vc kd vd : Nat} {a b : EntV} (ha : Sl w ka a.key.length kc a.key) (hb : Sl w kb b.key.length kd b.key) : Calls Try.prog 22 #[entA ka kc va vc a, entA kb kd vb vd b] w fun r w' => r = .returned (.int .i64 (ahead a b)) ∧ Below w.heap.size w w' := by
  obtain ⟨key, seq, gone, till, vl⟩ := a
  obtain ⟨key', seq', gone', till', vl'⟩ := b
  unfold entA ahead
  simp only at ha hb ⊢
  obtain ⟨W, hW⟩ : ∃ W, W = (w.alloc (.cells #[.slice ka key.length kc, .int .i64 seq, .bool gone, .int .i64 till, .slice va vl.length vc] 35)).alloc (.cells #[.slice kb key'.length kd, .int .i64 seq', .bool gone', .int .i64 till', .slice vb vl'.length vd] 35) := ⟨_, rfl⟩
  have b1 : Below w.heap.size w W := by rw [hW]; exact ((Below.refl _ w).alloc (Nat.le_refl _) _).alloc (by simp) _
  have c1 : W.cell? ⟨w.heap.size, 1, none⟩ = some (.int .i64 seq) := by rw [hW]; simp
  have c2 : W.cell? ⟨w.heap.size + 1, 1, none⟩ = some (.int .i64 seq') := by rw [hW]; simp
  have hc := rcmp_any (ha.later b1) (hb.later b1)
  have HK : Hid (∀ w2, Below W.heap.size W w2 → (w2.cell? ⟨w.heap.size, 1, none⟩ = some (.int .i64 seq) ∧ w2.cell? ⟨w.heap.size + 1, 1, none⟩ = some (.int .i64 seq')) ∧ Below w.heap.size w w2) := fun w2 h => ⟨⟨cell_later h c1, cell_later h c2⟩, b1.trans (h.mono b1.size)⟩
  have HW := hid hW
  generalize cmp key key' = c at hc ⊢
  rw [hW] at hc
  generalize key.length = kl at hc HW ⊢
  generalize key'.length = kl' at hc HW ⊢
  generalize vl.length = ln at hc HW ⊢
  generalize vl'.length = ln' at hc HW ⊢
  clear ha hb c1 c2 b1 hW
  by_cases q : c = 0
  · subst q
    have e0 : ((0 : Int) != 0) = false := rfl
    simp only [ne_eq, not_true_eq_false, if_false]
    go_enter Try.func22, Try.ntmps22
    go_wp2_with (go_at_call 18; refine hc.mono ?_; rintro e w2 ⟨rfl, b2⟩; rw [← HW.out] at b2; obtain ⟨⟨d1, d2⟩, b3⟩ := HK.out _ b2)
    all_goals
      go_ret
      refine ⟨congrArg (fun b => Ending.returned (.int .i64 b)) ?_, by assumption⟩
      first | rfl | (repeat' split) <;> omega
  · have e0 : (c != 0) = true := by simpa using q
    simp only [ne_eq, q, not_false_eq_true, if_true]
    go_enter Try.func22, Try.ntmps22
    go_wp2_with (go_at_call 18; refine hc.mono ?_; rintro e w2 ⟨rfl, b2⟩; rw [← HW.out] at b2; obtain ⟨⟨d1, d2⟩, b3⟩ := HK.out _ b2)
    go_ret
    exact ⟨rfl, b3⟩
end Go.Proofs.Ytnoackenjfpcmaa

/- The document's own SameOps, SameBatch, SameEntry, SameEntries, of what is the same. -/
namespace Go.Proofs.Ytnoackenjfpcmaa
open Go.RowKit
set_option linter.unusedVariables false
set_option linter.unusedSimpArgs false

set_option maxHeartbeats 2000000 in
set_option maxRecDepth 100000 in
theorem rsameE1_eq {w : World} {ka kc va vc ka' kc' va' vc' : _} {key vl : List Int} {seq till : Int} {gone : Bool} (k1 : Sl w ka key.length kc key) (k2 : Sl w va vl.length vc vl) (l1 : Sl w ka' key.length kc' key) (l2 : Sl w va' vl.length vc' vl) :
    Calls Try.prog 20 #[.agg #[.slice ka key.length kc, .int .i64 seq, .bool gone, .int .i64 till, .slice va vl.length vc], .agg #[.slice ka' key.length kc', .int .i64 seq, .bool gone, .int .i64 till, .slice va' vl.length vc']] w fun e w' => e = .returned (.bool true) ∧ Below w.heap.size w w' := by
  have hbb : Below w.heap.size w ((w.alloc (.cells #[.slice ka key.length kc, .int .i64 seq, .bool gone, .int .i64 till, .slice va vl.length vc] 35)).alloc (.cells #[.slice ka' key.length kc', .int .i64 seq, .bool gone, .int .i64 till, .slice va' vl.length vc'] 35)) := ((Below.refl _ _).alloc (Nat.le_refl _) _).alloc (by simp) _
  have g1 := str_l (k1.later hbb)
  have g2 := str_l (k2.later hbb)
  have g3 := str_l (l1.later hbb)
  have g4 := str_l (l2.later hbb)
  have HB : Hid _ := hbb
  have n1 : ((strOfNums key).toList == (strOfNums key).toList) = true := by simp
  have n2 : ((strOfNums vl).toList == (strOfNums vl).toList) = true := by simp
  have n3 : (till == till) = true := by simp
  have n5 : (seq == seq) = true := by simp
  have n4 : (gone == gone) = true := by cases gone <;> rfl
  generalize strOfNums key = s1 at g1 g3 n1
  generalize strOfNums vl = s2 at g2 g4 n2
  clear k1 k2 l1 l2 hbb
  go_enter Try.func20, Try.ntmps20
  go_wp2_with fail
  exact bodyPost_ret (v := .bool true) (by simp [results, Try.results20, go_sem]) rfl ⟨rfl, HB.out⟩

set_option maxHeartbeats 4000000 in
set_option maxRecDepth 100000 in
theorem rsameE_eq {w : World} {a1 a2 : Option Addr} {len c1 c2 : Nat} {os : List EntV} (h1 : RS entE w a1 len c1 os) (h2 : RS entE w a2 len c2 os) :
    Calls Try.prog 14 #[.slice a1 len c1, .slice a2 len c2] w fun e w' => e = .returned (.bool true) ∧ Below w.heap.size w w' := by
  have hl := h1.len
  have hl63 : len ≤ 2 ^ 63 - 1 := by have := hl.2; unfold maxLen at this; omega
  have HS : Hid (RS entE w a1 len c1 os ∧ RS entE w a2 len c2 os) := ⟨h1, h2⟩
  have hln := hl.1
  have hne : ((len : Int) != (len : Int)) = false := by simp
  clear h1 h2 hl
  go_enter Try.func14, Try.ntmps14
  go_wp2_with fail
  go_loopg [5, 13] len (fun g _ i wr => ∃ k : Nat, k + g = len ∧ i = .int .i64 (k : Int) ∧ Hid (Below w.heap.size w wr))
  case atStart => exact ⟨0, by omega, rfl, Below.refl _ _⟩
  case round =>
    obtain ⟨k, hk, rfl, HK⟩ := hrel
    by_cases hkl : k < len
    · have hkl' : (k : Int) < (len : Int) := by omega
      have hko : k < os.length := by omega
      have hox := List.getElem?_eq_getElem hko
      obtain ⟨b, off, ka, kc, va, vc, rfl, d0, d1, d2, d3, d4, k1, k2, k3⟩ := RS.ent (HS.out.1.later HK.out) hox
      obtain ⟨b', off', ka', kc', va', vc', rfl, e0, e1, e2, e3, e4, l1, l2, l3⟩ := RS.ent (HS.out.2.later HK.out) hox
      generalize os[k] = o at d0 d1 d2 d3 d4 k1 k2 k3 e0 e1 e2 e3 e4 l1 l2 l3
      obtain ⟨key, seq, gone, till, vl⟩ := o
      simp only at d0 d1 d2 d3 d4 k1 k2 k3 e0 e1 e2 e3 e4 l1 l2 l3
      have hE := rsameE1_eq (seq := seq) (till := till) (gone := gone) (k1.drewN 1) (k2.drewN 1) (l1.drewN 1) (l2.drewN 1)
      have hk62 : k ≤ 2 ^ 63 - 2 := by omega
      obtain ⟨GK, HG⟩ : ∃ g, Hid (g < gk ∧ k + 1 + g = len) := ⟨gk - 1, by omega, by omega⟩
      generalize key.length = kl at d0 e0 hE
      generalize vl.length = ln at d4 e4 hE
      clear k1 k2 k3 l1 l2 l3 hk hox
      go_wp2_with fail
      go_region_held_law (fun w' => (w'.cell? ⟨b, off + k * 5, none⟩ = some (.slice ka kl kc) ∧ w'.cell? ⟨b, off + k * 5 + 1, none⟩ = some (.int .i64 seq) ∧ w'.cell? ⟨b, off + k * 5 + 2, none⟩ = some (.bool gone) ∧ w'.cell? ⟨b, off + k * 5 + 3, none⟩ = some (.int .i64 till) ∧ w'.cell? ⟨b, off + k * 5 + 4, none⟩ = some (.slice va ln vc)) ∧ (w'.cell? ⟨b', off' + k * 5, none⟩ = some (.slice ka' kl kc') ∧ w'.cell? ⟨b', off' + k * 5 + 1, none⟩ = some (.int .i64 seq) ∧ w'.cell? ⟨b', off' + k * 5 + 2, none⟩ = some (.bool gone) ∧ w'.cell? ⟨b', off' + k * 5 + 3, none⟩ = some (.int .i64 till) ∧ w'.cell? ⟨b', off' + k * 5 + 4, none⟩ = some (.slice va' ln vc'))) (first | exact ⟨⟨d0, d1, d2, d3, d4⟩, ⟨e0, e1, e2, e3, e4⟩⟩ | exact ⟨⟨cell_later hb5 d0, cell_later hb5 d1, cell_later hb5 d2, cell_later hb5 d3, cell_later hb5 d4⟩, ⟨cell_later hb5 e0, cell_later hb5 e1, cell_later hb5 e2, cell_later hb5 e3, cell_later hb5 e4⟩⟩) (first | (go_at_call 20; refine hE.mono ?_; rintro e w5 ⟨rfl, hb5⟩))
      have HW : Hid (Below w.heap.size w w5) := (below_drewN HK.out 1).trans (hb5.mono (below_drewN HK.out 1).size)
      clear hE hb5 HK
      go_wp2_with fail
      go_roundg GK
      case measure => exact HG.out.1
      case rel => exact ⟨k + 1, HG.out.2, by go_num, HW⟩
    · have hkl' : (len : Int) ≤ (k : Int) := by omega
      have HW : Hid (Below w.heap.size w wr) := HK.out
      clear hk HK
      go_wp2_with fail
      exact bodyPost_ret (v := .bool true) (by simp [results, Try.results14, go_sem]) rfl ⟨rfl, HW.out⟩
end Go.Proofs.Ytnoackenjfpcmaa
