/- The laws on filters: Builds, Many. -/
import Derived.Test.YtpmebgcknijnkaaBllaw
import Derived.Test.YtpmebgcknijnkaaRwb
import Derived.Deep.RegionHeldLaw
namespace Go.Proofs.Ytpmebgcknijnkaa
open Go.RowKit
set_option linter.unusedVariables false
set_option linter.unusedSimpArgs false

/-- Few keys, none long. -/
def fewB (keys : List (List Int)) : Prop := keys.length ≤ 200 ∧ ∀ k ∈ keys, k.length ≤ 2000

set_option maxHeartbeats 1000000 in
set_option maxRecDepth 100000 in
theorem few_any {w : World} {ao : Option Addr} {len cap : Nat} {keys : List (List Int)} (h : RB w ao len cap keys) :
    Calls Try.prog 13 #[.slice ao len cap] w fun e w' => (e = .returned (.bool false) ∨ (e = .returned (.bool true) ∧ fewB keys)) ∧ w' = w := by
  have HS : Hid (RB w ao len cap keys) := h
  have hln := h.1
  have hl63 : len ≤ 2 ^ 63 - 1 := by have := h.2.2; unfold maxLen at this; omega
  clear h
  go_enter Try.func13, Try.ntmps13
  go_wp2_with fail
  go_loopg [3, 4, 7] len (fun g _ _ i wr => ∃ k : Nat, k + g = len ∧ i = .int .i64 (k : Int) ∧ wr = w ∧ Hid (k ≤ 200 ∧ ∀ x ∈ keys.take k, x.length ≤ 2000))
  case atStart => exact ⟨0, by omega, rfl, rfl, Nat.zero_le _, fun x hx => by simp at hx⟩
  case round =>
    obtain ⟨k, hk, rfl, hw, HK⟩ := hrel
    obtain rfl := hw.symm
    by_cases hkl : k < len
    · have hkl' : (k : Int) < (len : Int) := by omega
      have hkx : k < keys.length := by omega
      have HX := hid9 (List.getElem?_eq_getElem hkx)
      obtain ⟨b, off, a, c, rfl, hc, hs⟩ := HS.out.2.2.2.2 k keys[k] HX.out
      have hkm : keys[k].length ≤ 2 ^ 63 - 1 := by have := hs.2.2.2; unfold maxLen at this; omega
      generalize keys[k] = x at hc hs HX hkm
      have hk62 : k ≤ 2 ^ 63 - 2 := by omega
      obtain ⟨GK, HG⟩ : ∃ g, Hid (g < gk ∧ k + 1 + g = len) := ⟨gk - 1, by omega, by omega⟩
      by_cases q1 : 200 ≤ k
      · have q1' : (200 : Int) ≤ (k : Int) := by omega
        clear hk hs
        go_wp2_with fail
        exact bodyPost_ret (v := .bool false) (by simp [results, Try.results13, go_sem]) rfl ⟨.inl rfl, rfl⟩
      have q1' : (k : Int) < 200 := by omega
      by_cases q2 : 2000 < x.length
      · have q2' : (2000 : Int) < (x.length : Int) := by omega
        clear hk hs
        go_wp2_with fail
        exact bodyPost_ret (v := .bool false) (by simp [results, Try.results13, go_sem]) rfl ⟨.inl rfl, rfl⟩
      have q2' : (x.length : Int) ≤ 2000 := by omega
      have HN : Hid (k + 1 ≤ 200 ∧ ∀ y ∈ keys.take (k + 1), y.length ≤ 2000) := ⟨by omega, fun y hy => by
        rw [List.take_add_one, HX.out] at hy
        rcases List.mem_append.1 hy with e | e
        · exact HK.out.2 y e
        · have e' : y = x := by simpa using e
          rw [e']; omega⟩
      clear hk hs
      go_wp2_with fail
      go_roundg GK
      case measure => exact HG.out.1
      case rel => exact ⟨k + 1, HG.out.2, by go_num, rfl, HN⟩
    · have hkl' : (len : Int) ≤ (k : Int) := by omega
      have HF : Hid (fewB keys) := by
        have := HK.out
        rw [List.take_of_length_le (by omega)] at this
        exact ⟨by omega, this.2⟩
      clear hk hkl
      go_wp2_with fail
      exact bodyPost_ret (v := .bool true) (by simp [results, Try.results13, go_sem]) rfl ⟨.inr ⟨rfl, HF.out⟩, rfl⟩

set_option maxHeartbeats 2000000 in
set_option maxRecDepth 100000 in
theorem builds_any (D : PBl) {w : World} {ao : Option Addr} {len cap : Nat} {keys : List (List Int)} (h : RB w ao len cap keys) :
    Calls Try.prog 4 #[.slice ao len cap] w fun e w' => e = .returned (.bool true) ∧ Below w.heap.size w w' := by
  have HS : Hid (RB w ao len cap keys) := h
  have hfew := few_any h
  have hln := h.1
  clear h
  go_enter Try.func4, Try.ntmps4
  go_wp2_with fail
  refine hfew.mono ?_
  rintro e w1 ⟨hb, hw⟩
  obtain rfl := hw.symm
  rcases hb with rfl | ⟨rfl, hb⟩
  · clear hfew
    go_wp2_with fail
    refine (awake10_any D w).mono ?_
    rintro e w2 ⟨rfl, b2⟩
    go_wp2_with fail
    exact bodyPost_ret (v := .bool true) (by simp [results, Try.results4, go_sem]) rfl ⟨rfl, b2⟩
  · have HF : Hid (len ≤ 200) := by have := hb.1; show _ ≤ _; omega
    have hbd := D.build HS.out (by have := HF.out; omega)
    have hok := fil_ok keys
    obtain ⟨L, hL⟩ : ∃ L, L = fil keys := ⟨_, rfl⟩
    rw [← hL] at hbd hok
    have HR : Hid (∀ wx, Below w.heap.size w wx → Calls Try.prog 15 #[.slice ao len cap] wx fun e w' => ∃ a c, e = .returned (.slice a L.length c) ∧ Sl w' a L.length c L ∧ Below wx.heap.size wx w') := fun wx hb => by
      refine (rfilter_any (HS.out.later hb) (by have := HF.out; omega)).mono ?_
      rintro e w' ⟨v, rfl, r, b⟩
      rw [← hL] at r
      obtain ⟨a, c, rfl, hs⟩ := Sl.ofRow r hok
      exact ⟨a, c, rfl, hs, b⟩
    clear hfew hb hL hok
    go_wp2_with fail
    refine hbd.mono ?_
    rintro e w2 ⟨v2, rfl, ⟨a2, c2, rfl, s2⟩, b2⟩
    have H2 := hid9 (And.intro s2 b2)
    have hS2 := fun j => str_l (s2.drewN j)
    clear hbd s2 b2
    have HST : Hid (∀ wx, Below w2.heap.size w2 wx → (convert 22 9 (.slice a2 L.length c2)).run Try.prog wx = .ok (.string (strOfNums L)) wx) := fun wx hb => str_l (H2.out.1.later hb)
    have heq : ((strOfNums L).toList == (strOfNums L).toList) = true := by simp
    clear hS2
    go_upto_region 4 with fail
    have hs0 := HST.out w2.drew (Below.refl _ _).drew
    generalize hSS : strOfNums L = S at hs0 heq HST
    have HSS : Hid (strOfNums L = S) := hSS
    clear hSS
    go_region_held_law (fun _ => True) (exact trivial) (first
      | (go_at_call 15; refine (HR.out _ (H2.out.2.drew)).mono ?_; rintro e w3 ⟨a3, c3, rfl, s3, b3⟩; have b23 : Below w2.heap.size w2 w3 := (Below.refl _ _).drew.trans b3; have hs3 := HST.out w3 b23; have ht3 := str_l s3; rw [HSS.out] at ht3)
      | (go_at_call 12; refine (awake10_any D w3).mono ?_; rintro e w4 ⟨rfl, b4⟩))
    all_goals
      go_wp2_with fail
      exact bodyPost_ret (v := .bool true) (by simp [results, Try.results4, go_sem]) rfl ⟨rfl, (H2.out.2.trans (b23.mono H2.out.2.size)).trans (b4.mono (Nat.le_trans H2.out.2.size b23.size))⟩
end Go.Proofs.Ytpmebgcknijnkaa
