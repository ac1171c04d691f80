/- The eight steps, by goto. -/
import Derived.Test.YtbinabegiikcaaaRmore
namespace Go.Proofs.Ytbinabegiikcaaa
open Go.RowKit
set_option linter.unusedVariables false

def cnt (v : Value) : Nat := match v with | .int _ n => n.toNat | _ => 0

set_option maxHeartbeats 1000000 in
set_option maxRecDepth 100000 in
theorem eight_any (s : Nat) (w : World) (hs : s < 4294967296) : Calls Try.prog 42 #[.int .u32 (s : Int)] w fun e w' => e = .returned (.int .u32 (stps 8 s : Nat)) ∧ w' = w := by
  have step : ∀ u : Nat, u < 4294967296 → ∃ v : Nat, Hid (v = stp u ∧ v < 4294967296) ∧ ((bits .and .u32 (u : Int) 1 = 1 ∧ bits .xor .u32 ((u : Int) / 2) 2197175160 = (v : Int)) ∨ (bits .and .u32 (u : Int) 1 = 0 ∧ (u : Int) / 2 = (v : Int))) := fun u hu => by
    refine ⟨stp u, ⟨rfl, stp_lt hu⟩, ?_⟩
    have hand := and1_32 hu
    by_cases hp : u % 2 = 1
    · rw [hp] at hand
      refine .inl ⟨hand, ?_⟩
      have := xorP (a := u / 2) (by omega)
      unfold stp
      rw [if_pos hp, ← this]
      congr 1
    · have hp0 : u % 2 = 0 := by omega
      rw [hp0] at hand
      refine .inr ⟨hand, ?_⟩
      unfold stp
      rw [if_neg hp]
      omega
  have HS : Hid (∀ u : Nat, u < 4294967296 → ∃ v : Nat, Hid (v = stp u ∧ v < 4294967296) ∧ ((bits .and .u32 (u : Int) 1 = 1 ∧ bits .xor .u32 ((u : Int) / 2) 2197175160 = (v : Int)) ∨ (bits .and .u32 (u : Int) 1 = 0 ∧ (u : Int) / 2 = (v : Int)))) := step
  have H0 : Hid (s < 4294967296) := hs
  clear step hs
  go_enter Try.func42, Try.ntmps42
  go_wp2_with fail
  refine wp_scope_jumps 0 (fun a' w' => w' = w ∧ ∃ (j u : Nat) (u1 u4 u5 u6 u7 u8 u9 u10 u11 u12 u13 u14 u15 u16 u17 : Value), a' = { tmps := #[.int .u32 (u : Int), u1, .int .u32 0, .int .i64 (j : Int), u4, u5, u6, u7, u8, u9, u10, u11, u12, u13, u14, u15, u16, u17], defers := [] } ∧ Hid (1 ≤ j ∧ j < 8 ∧ u < 4294967296 ∧ stps j u = stps 8 s)) (fun a _ => cnt (a.eval (.tmp 3))) rfl ?_ ?_
  · obtain ⟨v, HV, ⟨h1, h2⟩ | ⟨h1, h2⟩⟩ := HS.out s H0.out
    · go_wp2_with fail
      go_step3
      go_wp2_with fail
      go_step3
      exact ⟨rfl, rfl, 7, v, _, _, _, _, _, _, _, _, _, _, _, _, _, _, _, rfl, by omega, by omega, HV.out.2, by rw [HV.out.1]; rfl⟩
    · go_wp2_with fail
      go_step3
      go_wp2_with fail
      go_step3
      exact ⟨rfl, rfl, 7, v, _, _, _, _, _, _, _, _, _, _, _, _, _, _, _, by rw [← h2]; rfl, by omega, by omega, HV.out.2, by rw [HV.out.1]; rfl⟩
  · rintro a' w' ⟨rfl, j, u, u1, u4, u5, u6, u7, u8, u9, u10, u11, u12, u13, u14, u15, u16, u17, rfl, HJ⟩
    have hj8 : (j : Int) < 8 := by have := HJ.out; omega
    have hj1 : (1 : Int) ≤ (j : Int) := by have := HJ.out; omega
    obtain ⟨v, HV, hv⟩ := HS.out u HJ.out.2.2.1
    obtain ⟨i, rfl⟩ : ∃ i, j = i + 1 := ⟨j - 1, by have := HJ.out; omega⟩
    have hji : ((i + 1 : Nat) : Int) - 1 = (i : Int) := by omega
    have hst : stps i v = stps 8 s := by
      have h1 := HJ.out
      rw [HV.out.1, ← h1.2.2.2]
      rfl
    have HST : Hid (stps i v = stps 8 s) := hst
    clear hst
    by_cases hl : 0 < i
    · have hl' : (0 : Int) < (i : Int) := by omega
      rcases hv with ⟨h1, h2⟩ | ⟨h1, h2⟩
      · go_wp2_with fail
        go_step3
        refine ⟨rfl, ⟨rfl, i, v, _, _, _, _, _, _, _, _, _, _, _, _, _, _, _, rfl, by omega, by omega, HV.out.2, HST.out⟩, ?_⟩
        simp [cnt, Act.eval]
      · go_wp2_with fail
        go_step3
        refine ⟨rfl, ⟨rfl, i, v, _, _, _, _, _, _, _, _, _, _, _, _, _, _, _, by rw [← h2], by omega, by omega, HV.out.2, HST.out⟩, ?_⟩
        simp [cnt, Act.eval]
    · have hl' : (i : Int) ≤ 0 := by omega
      have hj7 : i = 0 := by omega
      have hr : v = stps 8 s := by have := HST.out; rw [hj7] at this; exact this
      rcases hv with ⟨h1, h2⟩ | ⟨h1, h2⟩
      · go_wp2_with fail
        simp only [Exit.jump]
        go_ret
        exact ⟨rfl, rfl⟩
      · go_wp2_with fail
        simp only [Exit.jump]
        go_ret
        exact ⟨rfl, rfl⟩
end Go.Proofs.Ytbinabegiikcaaa
