/- How many bytes a character has. -/
import Derived.Test.YtlbbaniehkghdaaDoorRtx
namespace Go.Proofs.YtlbbaniehkghdaaDoor
open Go.RowKit
set_option linter.unusedVariables false

/-- The same by the first byte, and by what is known of the next. -/
def tszV (x : Nat) (A1 Aa Ab Ac Ad A2 A3 : Bool) : Nat :=
  if decide (1 ≤ x) && decide (x ≤ 127) then 1
  else if decide (194 ≤ x) && decide (x ≤ 223) && A1 then 2
  else if decide (x = 224) && Aa && A2 then 3
  else if decide (x = 237) && Ab && A2 then 3
  else if decide (225 ≤ x) && decide (x ≤ 239) && !decide (x = 237) && A1 && A2 then 3
  else if decide (x = 240) && Ac && A2 && A3 then 4
  else if decide (241 ≤ x) && decide (x ≤ 243) && A1 && A2 && A3 then 4
  else if decide (x = 244) && Ad && A2 && A3 then 4
  else 0
theorem tsz_ul (X : Nat → Nat) (len : Nat) (hp : 0 < len) (hx : X 0 < 256) : tsz (ul X len) = tszV (X 0) (atB (ul X len) 1 128 191) (atB (ul X len) 1 160 191) (atB (ul X len) 1 128 159) (atB (ul X len) 1 144 191) (atB (ul X len) 1 128 143) (atB (ul X len) 2 128 191) (atB (ul X len) 3 128 191) := by
  obtain ⟨t, ht⟩ : ∃ t, ul X len = UInt8.ofNat (X 0) :: t := by
    cases e : ul X len with
    | nil => have := ul_length X len; rw [e] at this; simp at this; omega
    | cons c t =>
      have := ul_get X len 0 hp
      rw [e] at this
      simp at this
      exact ⟨t, by rw [this]⟩
  have le1 : ∀ k : Nat, k < 256 → decide (UInt8.ofNat k ≤ UInt8.ofNat (X 0)) = decide (k ≤ X 0) := fun k hk => decide_eq_decide.2 (ofNat_le hk hx)
  have le2 : ∀ k : Nat, k < 256 → decide (UInt8.ofNat (X 0) ≤ UInt8.ofNat k) = decide (X 0 ≤ k) := fun k hk => decide_eq_decide.2 (ofNat_le hx hk)
  have eq1 : ∀ k : Nat, k < 256 → (UInt8.ofNat (X 0) == UInt8.ofNat k) = decide (X 0 = k) := fun k hk => by
    rw [Bool.eq_iff_iff, beq_iff_eq, ofNat_eq hx hk, decide_eq_true_eq]
  have l1 := le1 1 (by decide)
  have l127 := le2 127 (by decide)
  have l194 := le1 194 (by decide)
  have l223 := le2 223 (by decide)
  have l225 := le1 225 (by decide)
  have l239 := le2 239 (by decide)
  have l241 := le1 241 (by decide)
  have l243 := le2 243 (by decide)
  have q224 := eq1 224 (by decide)
  have q237 := eq1 237 (by decide)
  have q240 := eq1 240 (by decide)
  have q244 := eq1 244 (by decide)
  have bne237 : (UInt8.ofNat (X 0) != 237) = !decide (X 0 = 237) := by
    have : (UInt8.ofNat (X 0) == 237) = decide (X 0 = 237) := q237
    unfold bne
    rw [this]
  unfold tsz tszV
  rw [ht]
  simp only []
  have g1 : decide ((1 : UInt8) ≤ UInt8.ofNat (X 0)) = decide (1 ≤ X 0) := l1
  have g127 : decide (UInt8.ofNat (X 0) ≤ 127) = decide (X 0 ≤ 127) := l127
  have g194 : decide ((194 : UInt8) ≤ UInt8.ofNat (X 0)) = decide (194 ≤ X 0) := l194
  have g223 : decide (UInt8.ofNat (X 0) ≤ 223) = decide (X 0 ≤ 223) := l223
  have g225 : decide ((225 : UInt8) ≤ UInt8.ofNat (X 0)) = decide (225 ≤ X 0) := l225
  have g239 : decide (UInt8.ofNat (X 0) ≤ 239) = decide (X 0 ≤ 239) := l239
  have g241 : decide ((241 : UInt8) ≤ UInt8.ofNat (X 0)) = decide (241 ≤ X 0) := l241
  have g243 : decide (UInt8.ofNat (X 0) ≤ 243) = decide (X 0 ≤ 243) := l243
  have p224 : (UInt8.ofNat (X 0) == 224) = decide (X 0 = 224) := q224
  have p237 : (UInt8.ofNat (X 0) == 237) = decide (X 0 = 237) := q237
  have p240 : (UInt8.ofNat (X 0) == 240) = decide (X 0 = 240) := q240
  have p244 : (UInt8.ofNat (X 0) == 244) = decide (X 0 = 244) := q244
  rw [g1, g127, g194, g223, p224, p237, g225, g239, bne237, p240, g241, g243, p244]

set_option maxHeartbeats 4000000 in
set_option maxRecDepth 100000 in
theorem rsize_at (ao : Option Addr) (len cap x : Nat) (w : World) (A1 Aa Ab Ac Ad A2 A3 : Bool) (hp : 0 < len) (hx : x < 256) (hc : ∃ b off, ao = some ⟨b, off, none⟩ ∧ w.cell? ⟨b, off, none⟩ = some (.int .u8 (x : Int)))
    (F : Int → Int → Int → Bool) (hat : ∀ i lo hi : Int, 0 ≤ i → 0 ≤ lo → lo < 256 → 0 ≤ hi → hi < 256 → Calls Tryd.prog 39 #[.slice ao len cap, .int .i64 i, .int .u8 lo, .int .u8 hi] w fun e w' => e = .returned (.bool (F i lo hi)) ∧ w' = w)
    (hA1 : F 1 128 191 = A1)
    (hAa : F 1 160 191 = Aa)
    (hAb : F 1 128 159 = Ab)
    (hAc : F 1 144 191 = Ac)
    (hAd : F 1 128 143 = Ad)
    (hA2 : F 2 128 191 = A2)
    (hA3 : F 3 128 191 = A3) :
    Calls Tryd.prog 26 #[.slice ao len cap] w fun e w' => e = .returned (.int .i64 (tszV x A1 Aa Ab Ac Ad A2 A3 : Nat)) ∧ w' = w := by
  obtain ⟨b, off, rfl, hcell⟩ := hc
  have hp' : (0 : Int) < (len : Int) := by omega
  clear hp
  have cls : (1 ≤ x ∧ x ≤ 127) ∨ (194 ≤ x ∧ x ≤ 223) ∨ (x = 224) ∨ (225 ≤ x ∧ x ≤ 236) ∨ (x = 237) ∨ (238 ≤ x ∧ x ≤ 239) ∨ (x = 240) ∨ (241 ≤ x ∧ x ≤ 243) ∨ (x = 244) ∨ (x = 0) ∨ (128 ≤ x ∧ x ≤ 193) ∨ (245 ≤ x ∧ x ≤ 255) := by omega
  rcases cls with q | q | q | q | q | q | q | q | q | q | q | q
  · skip
    have q1 : (1 : Int) ≤ (x : Int) := by omega
    have q2 : (x : Int) ≤ 127 := by omega
    have e0 : tszV x A1 Aa Ab Ac Ad A2 A3 = 1 := by
      unfold tszV
      have f := q
      simp only [show decide (1 ≤ x) = true by simp; omega, show decide (194 ≤ x) = false by simp; omega, show decide (225 ≤ x) = false by simp; omega, show decide (241 ≤ x) = false by simp; omega, show decide (x ≤ 127) = true by simp; omega, show decide (x ≤ 223) = true by simp; omega, show decide (x ≤ 239) = true by simp; omega, show decide (x ≤ 243) = true by simp; omega, show decide (x = 224) = false by simp; omega, show decide (x = 237) = false by simp; omega, show decide (x = 240) = false by simp; omega, show decide (x = 244) = false by simp; omega]
      simp
    rw [e0]
    clear e0
    clear q
    go_enter Tryd.func26, Tryd.ntmps26
    go_wp2_with (go_at_call 39; refine (hat _ _ _ (by decide) (by decide) (by decide) (by decide) (by decide)).mono ?_; rintro e w ⟨rfl, rfl⟩)
    go_ret
    exact ⟨rfl, rfl⟩
  · skip
    cases A1 with
    | false =>
      have q1 : (194 : Int) ≤ (x : Int) := by omega
      have q2 : (x : Int) ≤ 223 := by omega
      have e0 : tszV x false Aa Ab Ac Ad A2 A3 = 0 := by
        unfold tszV
        have f := q
        simp only [show decide (1 ≤ x) = true by simp; omega, show decide (194 ≤ x) = true by simp; omega, show decide (225 ≤ x) = false by simp; omega, show decide (241 ≤ x) = false by simp; omega, show decide (x ≤ 127) = false by simp; omega, show decide (x ≤ 223) = true by simp; omega, show decide (x ≤ 239) = true by simp; omega, show decide (x ≤ 243) = true by simp; omega, show decide (x = 224) = false by simp; omega, show decide (x = 237) = false by simp; omega, show decide (x = 240) = false by simp; omega, show decide (x = 244) = false by simp; omega]
        simp
      rw [e0]
      clear e0
      clear q
      go_enter Tryd.func26, Tryd.ntmps26
      go_wp2_with (go_at_call 39; refine (hat _ _ _ (by decide) (by decide) (by decide) (by decide) (by decide)).mono ?_; rintro e w ⟨rfl, rfl⟩)
      go_ret
      exact ⟨rfl, rfl⟩
    | true =>
      have q1 : (194 : Int) ≤ (x : Int) := by omega
      have q2 : (x : Int) ≤ 223 := by omega
      have e0 : tszV x true Aa Ab Ac Ad A2 A3 = 2 := by
        unfold tszV
        have f := q
        simp only [show decide (1 ≤ x) = true by simp; omega, show decide (194 ≤ x) = true by simp; omega, show decide (225 ≤ x) = false by simp; omega, show decide (241 ≤ x) = false by simp; omega, show decide (x ≤ 127) = false by simp; omega, show decide (x ≤ 223) = true by simp; omega, show decide (x ≤ 239) = true by simp; omega, show decide (x ≤ 243) = true by simp; omega, show decide (x = 224) = false by simp; omega, show decide (x = 237) = false by simp; omega, show decide (x = 240) = false by simp; omega, show decide (x = 244) = false by simp; omega]
        simp
      rw [e0]
      clear e0
      clear q
      go_enter Tryd.func26, Tryd.ntmps26
      go_wp2_with (go_at_call 39; refine (hat _ _ _ (by decide) (by decide) (by decide) (by decide) (by decide)).mono ?_; rintro e w ⟨rfl, rfl⟩)
      go_ret
      exact ⟨rfl, rfl⟩
  · skip
    cases Aa with
    | false =>
      subst q
      have e0 : tszV 224 A1 false Ab Ac Ad A2 A3 = 0 := by
        unfold tszV
        simp
      rw [e0]
      clear e0
      go_enter Tryd.func26, Tryd.ntmps26
      go_wp2_with (go_at_call 39; refine (hat _ _ _ (by decide) (by decide) (by decide) (by decide) (by decide)).mono ?_; rintro e w ⟨rfl, rfl⟩)
      go_ret
      exact ⟨rfl, rfl⟩
    | true =>
      cases A2 with
      | false =>
        subst q
        have e0 : tszV 224 A1 true Ab Ac Ad false A3 = 0 := by
          unfold tszV
          simp
        rw [e0]
        clear e0
        go_enter Tryd.func26, Tryd.ntmps26
        go_wp2_with (go_at_call 39; refine (hat _ _ _ (by decide) (by decide) (by decide) (by decide) (by decide)).mono ?_; rintro e w ⟨rfl, rfl⟩)
        go_ret
        exact ⟨rfl, rfl⟩
      | true =>
        subst q
        have e0 : tszV 224 A1 true Ab Ac Ad true A3 = 3 := by
          unfold tszV
          simp
        rw [e0]
        clear e0
        go_enter Tryd.func26, Tryd.ntmps26
        go_wp2_with (go_at_call 39; refine (hat _ _ _ (by decide) (by decide) (by decide) (by decide) (by decide)).mono ?_; rintro e w ⟨rfl, rfl⟩)
        go_ret
        exact ⟨rfl, rfl⟩
  · skip
    cases A1 with
    | false =>
      have q1 : (225 : Int) ≤ (x : Int) := by omega
      have q2 : (x : Int) ≤ 236 := by omega
      have e0 : tszV x false Aa Ab Ac Ad A2 A3 = 0 := by
        unfold tszV
        have f := q
        simp only [show decide (1 ≤ x) = true by simp; omega, show decide (194 ≤ x) = true by simp; omega, show decide (225 ≤ x) = true by simp; omega, show decide (241 ≤ x) = false by simp; omega, show decide (x ≤ 127) = false by simp; omega, show decide (x ≤ 223) = false by simp; omega, show decide (x ≤ 239) = true by simp; omega, show decide (x ≤ 243) = true by simp; omega, show decide (x = 224) = false by simp; omega, show decide (x = 237) = false by simp; omega, show decide (x = 240) = false by simp; omega, show decide (x = 244) = false by simp; omega]
        simp
      rw [e0]
      clear e0
      clear q
      go_enter Tryd.func26, Tryd.ntmps26
      go_wp2_with (go_at_call 39; refine (hat _ _ _ (by decide) (by decide) (by decide) (by decide) (by decide)).mono ?_; rintro e w ⟨rfl, rfl⟩)
      go_ret
      exact ⟨rfl, rfl⟩
    | true =>
      cases A2 with
      | false =>
        have q1 : (225 : Int) ≤ (x : Int) := by omega
        have q2 : (x : Int) ≤ 236 := by omega
        have e0 : tszV x true Aa Ab Ac Ad false A3 = 0 := by
          unfold tszV
          have f := q
          simp only [show decide (1 ≤ x) = true by simp; omega, show decide (194 ≤ x) = true by simp; omega, show decide (225 ≤ x) = true by simp; omega, show decide (241 ≤ x) = false by simp; omega, show decide (x ≤ 127) = false by simp; omega, show decide (x ≤ 223) = false by simp; omega, show decide (x ≤ 239) = true by simp; omega, show decide (x ≤ 243) = true by simp; omega, show decide (x = 224) = false by simp; omega, show decide (x = 237) = false by simp; omega, show decide (x = 240) = false by simp; omega, show decide (x = 244) = false by simp; omega]
          simp
        rw [e0]
        clear e0
        clear q
        go_enter Tryd.func26, Tryd.ntmps26
        go_wp2_with (go_at_call 39; refine (hat _ _ _ (by decide) (by decide) (by decide) (by decide) (by decide)).mono ?_; rintro e w ⟨rfl, rfl⟩)
        go_ret
        exact ⟨rfl, rfl⟩
      | true =>
        have q1 : (225 : Int) ≤ (x : Int) := by omega
        have q2 : (x : Int) ≤ 236 := by omega
        have e0 : tszV x true Aa Ab Ac Ad true A3 = 3 := by
          unfold tszV
          have f := q
          simp only [show decide (1 ≤ x) = true by simp; omega, show decide (194 ≤ x) = true by simp; omega, show decide (225 ≤ x) = true by simp; omega, show decide (241 ≤ x) = false by simp; omega, show decide (x ≤ 127) = false by simp; omega, show decide (x ≤ 223) = false by simp; omega, show decide (x ≤ 239) = true by simp; omega, show decide (x ≤ 243) = true by simp; omega, show decide (x = 224) = false by simp; omega, show decide (x = 237) = false by simp; omega, show decide (x = 240) = false by simp; omega, show decide (x = 244) = false by simp; omega]
          simp
        rw [e0]
        clear e0
        clear q
        go_enter Tryd.func26, Tryd.ntmps26
        go_wp2_with (go_at_call 39; refine (hat _ _ _ (by decide) (by decide) (by decide) (by decide) (by decide)).mono ?_; rintro e w ⟨rfl, rfl⟩)
        go_ret
        exact ⟨rfl, rfl⟩
  · skip
    cases Ab with
    | false =>
      subst q
      have e0 : tszV 237 A1 Aa false Ac Ad A2 A3 = 0 := by
        unfold tszV
        simp
      rw [e0]
      clear e0
      go_enter Tryd.func26, Tryd.ntmps26
      go_wp2_with (go_at_call 39; refine (hat _ _ _ (by decide) (by decide) (by decide) (by decide) (by decide)).mono ?_; rintro e w ⟨rfl, rfl⟩)
      go_ret
      exact ⟨rfl, rfl⟩
    | true =>
      cases A2 with
      | false =>
        subst q
        have e0 : tszV 237 A1 Aa true Ac Ad false A3 = 0 := by
          unfold tszV
          simp
        rw [e0]
        clear e0
        go_enter Tryd.func26, Tryd.ntmps26
        go_wp2_with (go_at_call 39; refine (hat _ _ _ (by decide) (by decide) (by decide) (by decide) (by decide)).mono ?_; rintro e w ⟨rfl, rfl⟩)
        go_ret
        exact ⟨rfl, rfl⟩
      | true =>
        subst q
        have e0 : tszV 237 A1 Aa true Ac Ad true A3 = 3 := by
          unfold tszV
          simp
        rw [e0]
        clear e0
        go_enter Tryd.func26, Tryd.ntmps26
        go_wp2_with (go_at_call 39; refine (hat _ _ _ (by decide) (by decide) (by decide) (by decide) (by decide)).mono ?_; rintro e w ⟨rfl, rfl⟩)
        go_ret
        exact ⟨rfl, rfl⟩
  · skip
    cases A1 with
    | false =>
      have q1 : (238 : Int) ≤ (x : Int) := by omega
      have q2 : (x : Int) ≤ 239 := by omega
      have e0 : tszV x false Aa Ab Ac Ad A2 A3 = 0 := by
        unfold tszV
        have f := q
        simp only [show decide (1 ≤ x) = true by simp; omega, show decide (194 ≤ x) = true by simp; omega, show decide (225 ≤ x) = true by simp; omega, show decide (241 ≤ x) = false by simp; omega, show decide (x ≤ 127) = false by simp; omega, show decide (x ≤ 223) = false by simp; omega, show decide (x ≤ 239) = true by simp; omega, show decide (x ≤ 243) = true by simp; omega, show decide (x = 224) = false by simp; omega, show decide (x = 237) = false by simp; omega, show decide (x = 240) = false by simp; omega, show decide (x = 244) = false by simp; omega]
        simp
      rw [e0]
      clear e0
      clear q
      go_enter Tryd.func26, Tryd.ntmps26
      go_wp2_with (go_at_call 39; refine (hat _ _ _ (by decide) (by decide) (by decide) (by decide) (by decide)).mono ?_; rintro e w ⟨rfl, rfl⟩)
      go_ret
      exact ⟨rfl, rfl⟩
    | true =>
      cases A2 with
      | false =>
        have q1 : (238 : Int) ≤ (x : Int) := by omega
        have q2 : (x : Int) ≤ 239 := by omega
        have e0 : tszV x true Aa Ab Ac Ad false A3 = 0 := by
          unfold tszV
          have f := q
          simp only [show decide (1 ≤ x) = true by simp; omega, show decide (194 ≤ x) = true by simp; omega, show decide (225 ≤ x) = true by simp; omega, show decide (241 ≤ x) = false by simp; omega, show decide (x ≤ 127) = false by simp; omega, show decide (x ≤ 223) = false by simp; omega, show decide (x ≤ 239) = true by simp; omega, show decide (x ≤ 243) = true by simp; omega, show decide (x = 224) = false by simp; omega, show decide (x = 237) = false by simp; omega, show decide (x = 240) = false by simp; omega, show decide (x = 244) = false by simp; omega]
          simp
        rw [e0]
        clear e0
        clear q
        go_enter Tryd.func26, Tryd.ntmps26
        go_wp2_with (go_at_call 39; refine (hat _ _ _ (by decide) (by decide) (by decide) (by decide) (by decide)).mono ?_; rintro e w ⟨rfl, rfl⟩)
        go_ret
        exact ⟨rfl, rfl⟩
      | true =>
        have q1 : (238 : Int) ≤ (x : Int) := by omega
        have q2 : (x : Int) ≤ 239 := by omega
        have e0 : tszV x true Aa Ab Ac Ad true A3 = 3 := by
          unfold tszV
          have f := q
          simp only [show decide (1 ≤ x) = true by simp; omega, show decide (194 ≤ x) = true by simp; omega, show decide (225 ≤ x) = true by simp; omega, show decide (241 ≤ x) = false by simp; omega, show decide (x ≤ 127) = false by simp; omega, show decide (x ≤ 223) = false by simp; omega, show decide (x ≤ 239) = true by simp; omega, show decide (x ≤ 243) = true by simp; omega, show decide (x = 224) = false by simp; omega, show decide (x = 237) = false by simp; omega, show decide (x = 240) = false by simp; omega, show decide (x = 244) = false by simp; omega]
          simp
        rw [e0]
        clear e0
        clear q
        go_enter Tryd.func26, Tryd.ntmps26
        go_wp2_with (go_at_call 39; refine (hat _ _ _ (by decide) (by decide) (by decide) (by decide) (by decide)).mono ?_; rintro e w ⟨rfl, rfl⟩)
        go_ret
        exact ⟨rfl, rfl⟩
  · skip
    cases Ac with
    | false =>
      subst q
      have e0 : tszV 240 A1 Aa Ab false Ad A2 A3 = 0 := by
        unfold tszV
        simp
      rw [e0]
      clear e0
      go_enter Tryd.func26, Tryd.ntmps26
      go_wp2_with (go_at_call 39; refine (hat _ _ _ (by decide) (by decide) (by decide) (by decide) (by decide)).mono ?_; rintro e w ⟨rfl, rfl⟩)
      go_ret
      exact ⟨rfl, rfl⟩
    | true =>
      cases A2 with
      | false =>
        subst q
        have e0 : tszV 240 A1 Aa Ab true Ad false A3 = 0 := by
          unfold tszV
          simp
        rw [e0]
        clear e0
        go_enter Tryd.func26, Tryd.ntmps26
        go_wp2_with (go_at_call 39; refine (hat _ _ _ (by decide) (by decide) (by decide) (by decide) (by decide)).mono ?_; rintro e w ⟨rfl, rfl⟩)
        go_ret
        exact ⟨rfl, rfl⟩
      | true =>
        cases A3 with
        | false =>
          subst q
          have e0 : tszV 240 A1 Aa Ab true Ad true false = 0 := by
            unfold tszV
            simp
          rw [e0]
          clear e0
          go_enter Tryd.func26, Tryd.ntmps26
          go_wp2_with (go_at_call 39; refine (hat _ _ _ (by decide) (by decide) (by decide) (by decide) (by decide)).mono ?_; rintro e w ⟨rfl, rfl⟩)
          go_ret
          exact ⟨rfl, rfl⟩
        | true =>
          subst q
          have e0 : tszV 240 A1 Aa Ab true Ad true true = 4 := by
            unfold tszV
            simp
          rw [e0]
          clear e0
          go_enter Tryd.func26, Tryd.ntmps26
          go_wp2_with (go_at_call 39; refine (hat _ _ _ (by decide) (by decide) (by decide) (by decide) (by decide)).mono ?_; rintro e w ⟨rfl, rfl⟩)
          go_ret
          exact ⟨rfl, rfl⟩
  · skip
    cases A1 with
    | false =>
      have q1 : (241 : Int) ≤ (x : Int) := by omega
      have q2 : (x : Int) ≤ 243 := by omega
      have e0 : tszV x false Aa Ab Ac Ad A2 A3 = 0 := by
        unfold tszV
        have f := q
        simp only [show decide (1 ≤ x) = true by simp; omega, show decide (194 ≤ x) = true by simp; omega, show decide (225 ≤ x) = true by simp; omega, show decide (241 ≤ x) = true by simp; omega, show decide (x ≤ 127) = false by simp; omega, show decide (x ≤ 223) = false by simp; omega, show decide (x ≤ 239) = false by simp; omega, show decide (x ≤ 243) = true by simp; omega, show decide (x = 224) = false by simp; omega, show decide (x = 237) = false by simp; omega, show decide (x = 240) = false by simp; omega, show decide (x = 244) = false by simp; omega]
        simp
      rw [e0]
      clear e0
      clear q
      go_enter Tryd.func26, Tryd.ntmps26
      go_wp2_with (go_at_call 39; refine (hat _ _ _ (by decide) (by decide) (by decide) (by decide) (by decide)).mono ?_; rintro e w ⟨rfl, rfl⟩)
      go_ret
      exact ⟨rfl, rfl⟩
    | true =>
      cases A2 with
      | false =>
        have q1 : (241 : Int) ≤ (x : Int) := by omega
        have q2 : (x : Int) ≤ 243 := by omega
        have e0 : tszV x true Aa Ab Ac Ad false A3 = 0 := by
          unfold tszV
          have f := q
          simp only [show decide (1 ≤ x) = true by simp; omega, show decide (194 ≤ x) = true by simp; omega, show decide (225 ≤ x) = true by simp; omega, show decide (241 ≤ x) = true by simp; omega, show decide (x ≤ 127) = false by simp; omega, show decide (x ≤ 223) = false by simp; omega, show decide (x ≤ 239) = false by simp; omega, show decide (x ≤ 243) = true by simp; omega, show decide (x = 224) = false by simp; omega, show decide (x = 237) = false by simp; omega, show decide (x = 240) = false by simp; omega, show decide (x = 244) = false by simp; omega]
          simp
        rw [e0]
        clear e0
        clear q
        go_enter Tryd.func26, Tryd.ntmps26
        go_wp2_with (go_at_call 39; refine (hat _ _ _ (by decide) (by decide) (by decide) (by decide) (by decide)).mono ?_; rintro e w ⟨rfl, rfl⟩)
        go_ret
        exact ⟨rfl, rfl⟩
      | true =>
        cases A3 with
        | false =>
          have q1 : (241 : Int) ≤ (x : Int) := by omega
          have q2 : (x : Int) ≤ 243 := by omega
          have e0 : tszV x true Aa Ab Ac Ad true false = 0 := by
            unfold tszV
            have f := q
            simp only [show decide (1 ≤ x) = true by simp; omega, show decide (194 ≤ x) = true by simp; omega, show decide (225 ≤ x) = true by simp; omega, show decide (241 ≤ x) = true by simp; omega, show decide (x ≤ 127) = false by simp; omega, show decide (x ≤ 223) = false by simp; omega, show decide (x ≤ 239) = false by simp; omega, show decide (x ≤ 243) = true by simp; omega, show decide (x = 224) = false by simp; omega, show decide (x = 237) = false by simp; omega, show decide (x = 240) = false by simp; omega, show decide (x = 244) = false by simp; omega]
            simp
          rw [e0]
          clear e0
          clear q
          go_enter Tryd.func26, Tryd.ntmps26
          go_wp2_with (go_at_call 39; refine (hat _ _ _ (by decide) (by decide) (by decide) (by decide) (by decide)).mono ?_; rintro e w ⟨rfl, rfl⟩)
          go_ret
          exact ⟨rfl, rfl⟩
        | true =>
          have q1 : (241 : Int) ≤ (x : Int) := by omega
          have q2 : (x : Int) ≤ 243 := by omega
          have e0 : tszV x true Aa Ab Ac Ad true true = 4 := by
            unfold tszV
            have f := q
            simp only [show decide (1 ≤ x) = true by simp; omega, show decide (194 ≤ x) = true by simp; omega, show decide (225 ≤ x) = true by simp; omega, show decide (241 ≤ x) = true by simp; omega, show decide (x ≤ 127) = false by simp; omega, show decide (x ≤ 223) = false by simp; omega, show decide (x ≤ 239) = false by simp; omega, show decide (x ≤ 243) = true by simp; omega, show decide (x = 224) = false by simp; omega, show decide (x = 237) = false by simp; omega, show decide (x = 240) = false by simp; omega, show decide (x = 244) = false by simp; omega]
            simp
          rw [e0]
          clear e0
          clear q
          go_enter Tryd.func26, Tryd.ntmps26
          go_wp2_with (go_at_call 39; refine (hat _ _ _ (by decide) (by decide) (by decide) (by decide) (by decide)).mono ?_; rintro e w ⟨rfl, rfl⟩)
          go_ret
          exact ⟨rfl, rfl⟩
  · skip
    cases Ad with
    | false =>
      subst q
      have e0 : tszV 244 A1 Aa Ab Ac false A2 A3 = 0 := by
        unfold tszV
        simp
      rw [e0]
      clear e0
      go_enter Tryd.func26, Tryd.ntmps26
      go_wp2_with (go_at_call 39; refine (hat _ _ _ (by decide) (by decide) (by decide) (by decide) (by decide)).mono ?_; rintro e w ⟨rfl, rfl⟩)
      go_ret
      exact ⟨rfl, rfl⟩
    | true =>
      cases A2 with
      | false =>
        subst q
        have e0 : tszV 244 A1 Aa Ab Ac true false A3 = 0 := by
          unfold tszV
          simp
        rw [e0]
        clear e0
        go_enter Tryd.func26, Tryd.ntmps26
        go_wp2_with (go_at_call 39; refine (hat _ _ _ (by decide) (by decide) (by decide) (by decide) (by decide)).mono ?_; rintro e w ⟨rfl, rfl⟩)
        go_ret
        exact ⟨rfl, rfl⟩
      | true =>
        cases A3 with
        | false =>
          subst q
          have e0 : tszV 244 A1 Aa Ab Ac true true false = 0 := by
            unfold tszV
            simp
          rw [e0]
          clear e0
          go_enter Tryd.func26, Tryd.ntmps26
          go_wp2_with (go_at_call 39; refine (hat _ _ _ (by decide) (by decide) (by decide) (by decide) (by decide)).mono ?_; rintro e w ⟨rfl, rfl⟩)
          go_ret
          exact ⟨rfl, rfl⟩
        | true =>
          subst q
          have e0 : tszV 244 A1 Aa Ab Ac true true true = 4 := by
            unfold tszV
            simp
          rw [e0]
          clear e0
          go_enter Tryd.func26, Tryd.ntmps26
          go_wp2_with (go_at_call 39; refine (hat _ _ _ (by decide) (by decide) (by decide) (by decide) (by decide)).mono ?_; rintro e w ⟨rfl, rfl⟩)
          go_ret
          exact ⟨rfl, rfl⟩
  · skip
    subst q
    have e0 : tszV 0 A1 Aa Ab Ac Ad A2 A3 = 0 := by
      unfold tszV
      simp
    rw [e0]
    clear e0
    go_enter Tryd.func26, Tryd.ntmps26
    go_wp2_with (go_at_call 39; refine (hat _ _ _ (by decide) (by decide) (by decide) (by decide) (by decide)).mono ?_; rintro e w ⟨rfl, rfl⟩)
    go_ret
    exact ⟨rfl, rfl⟩
  · skip
    have q1 : (128 : Int) ≤ (x : Int) := by omega
    have q2 : (x : Int) ≤ 193 := by omega
    have e0 : tszV x A1 Aa Ab Ac Ad A2 A3 = 0 := by
      unfold tszV
      have f := q
      simp only [show decide (1 ≤ x) = true by simp; omega, show decide (194 ≤ x) = false by simp; omega, show decide (225 ≤ x) = false by simp; omega, show decide (241 ≤ x) = false by simp; omega, show decide (x ≤ 127) = false by simp; omega, show decide (x ≤ 223) = true by simp; omega, show decide (x ≤ 239) = true by simp; omega, show decide (x ≤ 243) = true by simp; omega, show decide (x = 224) = false by simp; omega, show decide (x = 237) = false by simp; omega, show decide (x = 240) = false by simp; omega, show decide (x = 244) = false by simp; omega]
      simp
    rw [e0]
    clear e0
    clear q
    go_enter Tryd.func26, Tryd.ntmps26
    go_wp2_with (go_at_call 39; refine (hat _ _ _ (by decide) (by decide) (by decide) (by decide) (by decide)).mono ?_; rintro e w ⟨rfl, rfl⟩)
    go_ret
    exact ⟨rfl, rfl⟩
  · skip
    have q1 : (245 : Int) ≤ (x : Int) := by omega
    have q2 : (x : Int) ≤ 255 := by omega
    have e0 : tszV x A1 Aa Ab Ac Ad A2 A3 = 0 := by
      unfold tszV
      have f := q
      simp only [show decide (1 ≤ x) = true by simp; omega, show decide (194 ≤ x) = true by simp; omega, show decide (225 ≤ x) = true by simp; omega, show decide (241 ≤ x) = true by simp; omega, show decide (x ≤ 127) = false by simp; omega, show decide (x ≤ 223) = false by simp; omega, show decide (x ≤ 239) = false by simp; omega, show decide (x ≤ 243) = false by simp; omega, show decide (x = 224) = false by simp; omega, show decide (x = 237) = false by simp; omega, show decide (x = 240) = false by simp; omega, show decide (x = 244) = false by simp; omega]
      simp
    rw [e0]
    clear e0
    clear q
    go_enter Tryd.func26, Tryd.ntmps26
    go_wp2_with (go_at_call 39; refine (hat _ _ _ (by decide) (by decide) (by decide) (by decide) (by decide)).mono ?_; rintro e w ⟨rfl, rfl⟩)
    go_ret
    exact ⟨rfl, rfl⟩

theorem rat_int (ao : Option Addr) (len cap : Nat) (X : Nat → Nat) (w : World) (hb : Byt w ao len X) (hl : len ≤ maxLen) (i lo hi : Int) (h1 : 0 ≤ i) (h2 : 0 ≤ lo) (h3 : lo < 256) (h4 : 0 ≤ hi) (h5 : hi < 256) :
    Calls Tryd.prog 39 #[.slice ao len cap, .int .i64 i, .int .u8 lo, .int .u8 hi] w fun e w' => e = .returned (.bool (atB (ul X len) i.toNat (UInt8.ofNat lo.toNat) (UInt8.ofNat hi.toNat))) ∧ w' = w := by
  obtain ⟨a, rfl⟩ := Int.eq_ofNat_of_zero_le h1
  obtain ⟨b, rfl⟩ := Int.eq_ofNat_of_zero_le h2
  obtain ⟨c, rfl⟩ := Int.eq_ofNat_of_zero_le h4
  exact rat_any ao len cap X a b c w hb hl (by omega) (by omega)
theorem rsize_any (ao : Option Addr) (len cap : Nat) (X : Nat → Nat) (w : World) (hb : Byt w ao len X) (hl : len ≤ maxLen) (hp : 0 < len) :
    Calls Tryd.prog 26 #[.slice ao len cap] w fun e w' => e = .returned (.int .i64 (tsz (ul X len) : Nat)) ∧ w' = w := by
  rw [tsz_ul X len hp (hb 0 hp).1]
  obtain ⟨hx, b, off, e, hcell⟩ := hb 0 hp
  exact rsize_at ao len cap (X 0) w _ _ _ _ _ _ _ hp hx ⟨b, off, e, hcell⟩ (fun i lo hi => atB (ul X len) i.toNat (UInt8.ofNat lo.toNat) (UInt8.ofNat hi.toNat)) (fun i lo hi h1 h2 h3 h4 h5 => rat_int ao len cap X w hb hl i lo hi h1 h2 h3 h4 h5) rfl rfl rfl rfl rfl rfl rfl
end Go.Proofs.YtlbbaniehkghdaaDoor
