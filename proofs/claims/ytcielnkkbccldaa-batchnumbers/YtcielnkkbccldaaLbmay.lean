/- What the landed batch's May answers. -/
import Derived.Test.YtcielnkkbccldaaBel
namespace Go.Proofs.Ytcielnkkbccldaa
open Go.RowKit
set_option linter.unusedVariables false
set_option linter.unusedSimpArgs false

/-- What is wrong with a batch's numbers: 0: nothing. -/
def mayN (s : Int) (n : Nat) : Nat := if n < 1 ∨ 400 < n then 13 else if s < 1 ∨ 4611686018427387904 - ((n : Int) - 1) < s then 1 else 0
theorem mayB_n (s : Int) (os : List OpV) : mayB s os = if mayN s os.length ≠ 0 then mayN s os.length else mayO os := by
  unfold mayB mayN
  split
  · simp
  · split <;> simp

set_option maxHeartbeats 1000000 in
set_option maxRecDepth 100000 in
theorem bnum_any {w : World} {s : Int} {n : Nat} (hs : In64 s) (hn : n ≤ 2 ^ 63 - 1) :
    Calls Try.prog 26 #[.int .i64 s, .int .i64 (n : Int)] w fun e w' => e = .returned (.int .i64 (mayN s n : Nat)) ∧ w' = w := by
  unfold mayN
  by_cases q1 : n < 1
  · rw [if_pos (.inl q1)]
    have c1 : (n : Int) < 1 := by omega
    clear hs q1
    go_enter Try.func26, Try.ntmps26
    go_wp2_with fail
    exact bodyPost_ret (v := .int .i64 13) (by simp [results, Try.results26, go_sem]) rfl ⟨rfl, rfl⟩
  by_cases q2 : 400 < n
  · rw [if_pos (.inr q2)]
    have c1 : ¬ (n : Int) < 1 := by omega
    have c2 : (400 : Int) < (n : Int) := by omega
    clear hs q1 q2
    go_enter Try.func26, Try.ntmps26
    go_wp2_with fail
    exact bodyPost_ret (v := .int .i64 13) (by simp [results, Try.results26, go_sem]) rfl ⟨rfl, rfl⟩
  rw [if_neg (by omega)]
  have c1 : ¬ (n : Int) < 1 := by omega
  have c2 : (n : Int) ≤ 400 := by omega
  by_cases q3 : s < 1
  · rw [if_pos (.inl q3)]
    clear hs q1 q2
    go_enter Try.func26, Try.ntmps26
    go_wp2_with fail
    exact bodyPost_ret (v := .int .i64 1) (by simp [results, Try.results26, go_sem]) rfl ⟨rfl, rfl⟩
  have hw1 : wrap64 ((n : Int) - 1) = (n : Int) - 1 := by unfold wrap64; omega
  have hw2 : wrap64 (4611686018427387904 - ((n : Int) - 1)) = 4611686018427387904 - ((n : Int) - 1) := by unfold wrap64; omega
  by_cases q4 : 4611686018427387904 - ((n : Int) - 1) < s
  · rw [if_pos (.inr q4)]
    clear hs q1 q2
    go_enter Try.func26, Try.ntmps26
    go_wp2_with fail
    exact bodyPost_ret (v := .int .i64 1) (by simp [results, Try.results26, go_sem]) rfl ⟨rfl, rfl⟩
  · rw [if_neg (by omega)]
    clear hs q1 q2
    go_enter Try.func26, Try.ntmps26
    go_wp2_with fail
    exact bodyPost_ret (v := .int .i64 0) (by simp [results, Try.results26, go_sem]) rfl ⟨rfl, rfl⟩

set_option maxHeartbeats 2000000 in
set_option maxRecDepth 100000 in
theorem bop_any {w : World} {ka va : Option Addr} {kl kc ln vc : Nat} {gone : Bool} {till : Int} {key vl : List Int} (hk : key.length = kl) (hv : vl.length = ln) (hkm : kl ≤ 2 ^ 63 - 1) (hvm : ln ≤ 2 ^ 63 - 1) :
    Calls Try.prog 27 #[.agg #[.slice ka kl kc, .bool gone, .int .i64 till, .slice va ln vc]] w fun e w' => e = .returned (.int .i64 (may1 ⟨key, gone, till, vl⟩ : Nat)) ∧ Below w.heap.size w w' := by
  have HB : Hid (Below w.heap.size w (w.alloc (.cells #[.slice ka kl kc, .bool gone, .int .i64 till, .slice va ln vc] 42))) := (Below.refl _ w).alloc (Nat.le_refl _) _
  obtain ⟨m, hmm⟩ : ∃ m, m = may1 ⟨key, gone, till, vl⟩ := ⟨_, rfl⟩
  rw [← hmm]
  unfold may1 at hmm
  simp only [hk, hv] at hmm
  clear hk hv
  by_cases qA : kl = 0
  · rw [if_pos (.inl qA)] at hmm
    subst hmm
    have eA : ((kl : Int) == 0) = true := by simp; omega
    clear qA
    go_enter Try.func27, Try.ntmps27
    go_wp2_with fail
    exact bodyPost_ret (v := .int .i64 1) (by simp [results, Try.results27, go_sem]) rfl ⟨rfl, HB.out⟩
  have eA : ((kl : Int) == 0) = false := by simp; omega
  by_cases qB : till < 0
  · rw [if_pos (.inr (.inl qB))] at hmm
    subst hmm
    clear qA
    go_enter Try.func27, Try.ntmps27
    go_wp2_with fail
    exact bodyPost_ret (v := .int .i64 1) (by simp [results, Try.results27, go_sem]) rfl ⟨rfl, HB.out⟩
  have qB' : 0 ≤ till := by omega
  by_cases qC : 4611686018427387904 < till
  · rw [if_pos (.inr (.inr (.inl qC)))] at hmm
    subst hmm
    clear qA
    go_enter Try.func27, Try.ntmps27
    go_wp2_with fail
    exact bodyPost_ret (v := .int .i64 1) (by simp [results, Try.results27, go_sem]) rfl ⟨rfl, HB.out⟩
  have qC' : till ≤ 4611686018427387904 := by omega
  cases gone with
  | true =>
    by_cases qD : till = 0
    · by_cases qE : 0 < ln
      · rw [if_pos (.inr (.inr (.inr ⟨rfl, .inr qE⟩)))] at hmm
        subst hmm
        have qD' : (till != 0) = false := by simp; omega
        have qE' : (0 : Int) < (ln : Int) := by omega
        clear qA qD
        go_enter Try.func27, Try.ntmps27
        go_wp2_with fail
        exact bodyPost_ret (v := .int .i64 1) (by simp [results, Try.results27, go_sem]) rfl ⟨rfl, HB.out⟩
      · rw [if_neg (by rintro (q | q | q | ⟨_, q | q⟩) <;> omega)] at hmm
        have qD' : (till != 0) = false := by simp; omega
        have qE' : (ln : Int) ≤ 0 := by omega
        by_cases qF : 512 < kl
        · rw [if_pos (.inl qF)] at hmm
          subst hmm
          have qF' : (512 : Int) < (kl : Int) := by omega
          clear qA qD
          go_enter Try.func27, Try.ntmps27
          go_wp2_with fail
          exact bodyPost_ret (v := .int .i64 2) (by simp [results, Try.results27, go_sem]) rfl ⟨rfl, HB.out⟩
        · rw [if_neg (by omega)] at hmm
          subst hmm
          have qF' : (kl : Int) ≤ 512 := by omega
          have qG' : (ln : Int) ≤ 2048 := by omega
          clear qA qD
          go_enter Try.func27, Try.ntmps27
          go_wp2_with fail
          exact bodyPost_ret (v := .int .i64 0) (by simp [results, Try.results27, go_sem]) rfl ⟨rfl, HB.out⟩
    · rw [if_pos (.inr (.inr (.inr ⟨rfl, .inl qD⟩)))] at hmm
      subst hmm
      have qD' : (till != 0) = true := by simp; omega
      clear qA qD
      go_enter Try.func27, Try.ntmps27
      go_wp2_with fail
      exact bodyPost_ret (v := .int .i64 1) (by simp [results, Try.results27, go_sem]) rfl ⟨rfl, HB.out⟩
  | false =>
    rw [if_neg (by rintro (q | q | q | ⟨q, _⟩); omega; omega; omega; cases q)] at hmm
    by_cases qF : 512 < kl
    · rw [if_pos (.inl qF)] at hmm
      subst hmm
      have qF' : (512 : Int) < (kl : Int) := by omega
      clear qA
      go_enter Try.func27, Try.ntmps27
      go_wp2_with fail
      exact bodyPost_ret (v := .int .i64 2) (by simp [results, Try.results27, go_sem]) rfl ⟨rfl, HB.out⟩
    · have qF' : (kl : Int) ≤ 512 := by omega
      by_cases qG : 2048 < ln
      · rw [if_pos (.inr qG)] at hmm
        subst hmm
        have qG' : (2048 : Int) < (ln : Int) := by omega
        clear qA
        go_enter Try.func27, Try.ntmps27
        go_wp2_with fail
        exact bodyPost_ret (v := .int .i64 2) (by simp [results, Try.results27, go_sem]) rfl ⟨rfl, HB.out⟩
      · rw [if_neg (by omega)] at hmm
        subst hmm
        have qG' : (ln : Int) ≤ 2048 := by omega
        clear qA
        go_enter Try.func27, Try.ntmps27
        go_wp2_with fail
        exact bodyPost_ret (v := .int .i64 0) (by simp [results, Try.results27, go_sem]) rfl ⟨rfl, HB.out⟩

set_option maxHeartbeats 4000000 in
set_option maxRecDepth 100000 in
theorem bmay_any {w : World} {ao : Option Addr} {len cap : Nat} {s : Int} {os : List OpV} (h : RS opE w ao len cap os) (hs : In64 s) :
    Calls Try.prog 14 #[.agg #[.int .i64 s, .slice ao len cap]] w fun e w' => e = .returned (.int .i64 (mayB s os : Nat)) ∧ Below w.heap.size w w' := by
  have hl := h.len
  have hl63 : len ≤ 2 ^ 63 - 1 := by have := hl.2; unfold maxLen at this; omega
  have HB : Hid (Below w.heap.size w (w.alloc (.cells #[.int .i64 s, .slice ao len cap] 24))) := (Below.refl _ w).alloc (Nat.le_refl _) _
  have hn := fun wx => bnum_any (w := wx) hs hl63
  have hT0 := mayB_n s os
  rw [hl.1] at hT0
  obtain ⟨T, hT⟩ : ∃ T, T = mayB s os := ⟨_, rfl⟩
  rw [← hT] at hT0 ⊢
  obtain ⟨m, hm⟩ : ∃ m, m = mayN s len := ⟨_, rfl⟩
  rw [← hm] at hT0 hn
  have hln := hl.1
  have HS : Hid (RS opE w ao len cap os) := h
  clear hT hm h hl hs
  go_enter Try.func14, Try.ntmps14
  go_wp2_with fail
  refine wp_scope_jumps 0 (fun a' w' => Below w.heap.size w w' ∧ ∃ (u0 u1 u2 u4 u5 u6 u7 u8 u9 u10 u11 u12 u13 u14 u15 u16 u17 u18 u19 u20 u21 u22 u23 u24 u25 u26 : Value), a' = { tmps := #[u0, u1, u2, .int .i64 (T : Nat), u4, u5, u6, u7, u8, u9, u10, u11, u12, u13, u14, u15, u16, u17, u18, u19, u20, u21, u22, u23, u24, u25, u26], defers := [] }) (fun _ _ => 0) rfl ?_ ?_
  · by_cases q : m ≠ 0
    · rw [if_pos q] at hT0
      subst hT0
      have hne : ((T : Int) != 0) = true := by simp; omega
      clear q
      go_wp2_with (go_at_call 26; refine (hn _).mono ?_; rintro e w2 ⟨rfl, hw⟩; obtain rfl := hw.symm)
      go_step3
      exact ⟨rfl, HB.out, _, _, _, _, _, _, _, _, _, _, _, _, _, _, _, _, _, _, _, _, _, _, _, _, _, _, rfl⟩
    · obtain rfl : m = 0 := by omega
      have HT : Hid (mayO (os.drop 0) = T) := by show _ = _; rw [hT0]; simp
      clear q hT0
      go_wp2_with (go_at_call 26; refine (hn _).mono ?_; rintro e w2 ⟨rfl, hw⟩; obtain rfl := hw.symm)
      clear hn
      go_loopg [3, 5, 17] len (fun g _ _ i wr => ∃ k : Nat, k + g = len ∧ i = .int .i64 (k : Int) ∧ Hid (Below w.heap.size w wr ∧ mayO (os.drop k) = T))
      case atStart => exact ⟨0, by omega, rfl, HB.out, HT.out⟩
      case round =>
        obtain ⟨k, hk, rfl, HK⟩ := hrel
        by_cases hkl : k < len
        · have hkl' : (k : Int) < (len : Int) := by omega
          have hko : k < os.length := by omega
          have hox := List.getElem?_eq_getElem hko
          obtain ⟨b, off, ka, kc, va, vc, rfl, d0, d1, d2, d3, k1, k2, k3⟩ := RS.op (HS.out.later HK.out.1) hox
          have hm := mayO_drop hox
          rw [HK.out.2] at hm
          generalize os[k] = o at d0 d1 d2 d3 k1 k2 k3 hm
          have hkey63 : o.key.length ≤ 2 ^ 63 - 1 := by have := k1.2.2.2; unfold maxLen at this; omega
          have hval63 : o.val.length ≤ 2 ^ 63 - 1 := by have := k2.2.2.2; unfold maxLen at this; omega
          obtain ⟨key, gone, till, vl⟩ := o
          simp only at d0 d1 d2 d3 hkey63 hval63 k3
          have HW : Hid (Below w.heap.size w (wr.alloc (.cells #[.slice ka key.length kc, .bool gone, .int .i64 till, .slice va vl.length vc] 42))) := HK.out.1.alloc HK.out.1.size _
          have ho := fun wx => bop_any (w := wx) (ka := ka) (kc := kc) (va := va) (vc := vc) (gone := gone) (till := till) (key := key) (vl := vl) rfl rfl hkey63 hval63
          obtain ⟨m, hmm⟩ : ∃ m, m = may1 ⟨key, gone, till, vl⟩ := ⟨_, rfl⟩
          rw [← hmm] at hm ho
          have hk62 : k ≤ 2 ^ 63 - 2 := by omega
          obtain ⟨GK, HG⟩ : ∃ g, Hid (g < gk ∧ k + 1 + g = len) := ⟨gk - 1, by omega, by omega⟩
          clear k1 k2 hk HK hox hmm
          generalize key.length = kl at d0 hkey63 HW ho
          generalize vl.length = ln at d3 hval63 HW ho
          by_cases q : m ≠ 0
          · rw [if_pos q] at hm
            subst hm
            have hne : ((T : Int) != 0) = true := by simp; omega
            clear q
            go_wp2_with (go_at_call 27; refine (ho _).mono ?_; rintro e w3 ⟨rfl, hb3⟩)
            go_step3
            exact ⟨rfl, HW.out.trans (hb3.mono HW.out.size), _, _, _, _, _, _, _, _, _, _, _, _, _, _, _, _, _, _, _, _, _, _, _, _, _, _, rfl⟩
          · obtain rfl : m = 0 := by omega
            have HM : Hid (mayO (os.drop (k + 1)) = T) := by show _ = _; rw [hm]; simp
            clear q hm
            go_wp2_with (go_at_call 27; refine (ho _).mono ?_; rintro e w3 ⟨rfl, hb3⟩)
            go_roundg GK
            case measure => exact HG.out.1
            case rel => exact ⟨k + 1, HG.out.2, by go_num, HW.out.trans (hb3.mono HW.out.size), HM.out⟩
        · have hkl' : (len : Int) ≤ (k : Int) := by omega
          have hT : T = 0 := by rw [← HK.out.2, List.drop_eq_nil_of_le (by omega)]; rfl
          subst hT
          have HW : Hid (Below w.heap.size w wr) := HK.out.1
          clear hk HK
          go_wp2_with fail
          simp only [Exit.jump]
          exact bodyPost_ret (v := .int .i64 0) (by simp [results, Try.results14, go_sem]) rfl ⟨rfl, HW.out⟩
  · rintro a' w' ⟨hb, u0, u1, u2, u4, u5, u6, u7, u8, u9, u10, u11, u12, u13, u14, u15, u16, u17, u18, u19, u20, u21, u22, u23, u24, u25, u26, rfl⟩
    go_wp2_with fail
    simp only [Exit.jump]
    exact bodyPost_ret (v := .int .i64 (T : Nat)) (by simp [results, Try.results14, go_sem]) rfl ⟨rfl, hb⟩
end Go.Proofs.Ytcielnkkbccldaa
