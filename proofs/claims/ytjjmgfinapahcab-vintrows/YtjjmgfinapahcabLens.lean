/- What Length answers, and the document's own; and the law on lengths. -/
import Derived.Test.YtjjmgfinapahcabTlen
namespace Go.Proofs.Ytjjmgfinapahcab
open Go.RowKit

def LenOk (x : Int) : Prop := 0 ≤ x ∧ x ≤ 268435455
instance (x : Int) : Decidable (LenOk x) := by unfold LenOk; infer_instance
def lenB (x : Int) : List Int := if LenOk x then uv x.toNat else []
def lenF (x : Int) : Int := if LenOk x then 0 else 1

set_option maxHeartbeats 1000000 in
set_option maxRecDepth 100000 in
theorem length_any (x : Int) (w : World) : Calls Try.prog 10 #[.int .i64 x] w fun e w' => ∃ ao cap, e = .returned (.tuple #[.slice ao (lenB x).length cap, .int .i64 (lenF x)]) ∧ (ao = none → (lenB x).length = 0 ∧ cap = 0) ∧ (lenB x).length ≤ cap ∧ cap ≤ maxLen ∧ Byt w' ao (lenB x).length (xof (lenB x)) ∧ Below w.heap.size w w' := by
  by_cases h : LenOk x
  · have e1 : lenB x = uv x.toNat := if_pos h
    have e2 : lenF x = 0 := if_pos h
    rw [e1, e2]
    unfold LenOk at h
    obtain ⟨n, rfl⟩ := Int.eq_ofNat_of_zero_le h.1
    simp only [Int.toNat_natCast]
    have hs : Calls Try.prog 12 #[.slice none 0 0, .int .u64 (n : Int)] w fun e w' => ∃ ao cap, e = .returned (.slice ao (uv n).length cap) ∧ (ao = none → (uv n).length = 0 ∧ cap = 0) ∧ (uv n).length ≤ cap ∧ cap ≤ maxLen ∧ Byt w' ao (uv n).length (xof (uv n)) ∧ Below w.heap.size w w' :=
      (sevs_any w.heap.size (.slice none 0 0) [] n w (Row.nil _ _) (Nat.le_refl _) (by have := uv_len64 (n := n) (by omega); simp; omega) (by omega)).mono fun e w' ⟨v', he, hr, hg, _⟩ => by
        obtain ⟨ao, cap, rfl, q1, q2, q3, q4⟩ := hr.byt (okb_uv n)
        exact ⟨ao, cap, he, q1, q2, q3, q4, grown_below (Row.nil _ _) hg (Nat.le_refl _)⟩
    have q1 : (0 : Int) ≤ (n : Int) := by omega
    have q2 : (n : Int) ≤ 268435455 := by omega
    clear e1 e2 h
    go_enter Try.func10, Try.ntmps10
    go_wp2_with (go_at_call 12; refine hs.mono ?_; rintro e w1 ⟨ao, cap, rfl, r1, r2, r3, r4, r5⟩)
    exact bodyPost_ret (v := .tuple #[.slice ao (uv n).length cap, .int .i64 0]) (by simp [results, Try.results10, go_sem]) rfl ⟨ao, cap, rfl, r1, r2, r3, r4, r5⟩
  · have e1 : lenB x = [] := if_neg h
    have e2 : lenF x = 1 := if_neg h
    rw [e1, e2]
    unfold LenOk at h
    clear e1 e2
    by_cases h1 : x < 0
    · clear h
      go_enter Try.func10, Try.ntmps10
      go_wp2
      exact bodyPost_ret (v := .tuple #[.slice none 0 0, .int .i64 1]) (by simp [results, Try.results10, go_sem]) rfl ⟨none, 0, rfl, fun _ => ⟨trivial, rfl⟩, Nat.le_refl _, Nat.zero_le _, (fun k hk => by cases hk), Below.refl _ _⟩
    · have h2 : (268435455 : Int) < x := by omega
      have h3 : (0 : Int) ≤ x := by omega
      clear h h1
      go_enter Try.func10, Try.ntmps10
      go_wp2
      exact bodyPost_ret (v := .tuple #[.slice none 0 0, .int .i64 1]) (by simp [results, Try.results10, go_sem]) rfl ⟨none, 0, rfl, fun _ => ⟨trivial, rfl⟩, Nat.le_refl _, Nat.zero_le _, (fun k hk => by cases hk), Below.refl _ _⟩

end Go.Proofs.Ytjjmgfinapahcab
