/- What Length answers, and the document's own; and the law on lengths. -/
import Derived.Test.YtjjmgfinapahcaaRtlen
namespace Go.Proofs.Ytjjmgfinapahcaa
open Go.RowKit

def LenOk (x : Int) : Prop := 0 ≤ x ∧ x ≤ 268435455
instance (x : Int) : Decidable (LenOk x) := by unfold LenOk; infer_instance
def lenB (x : Int) : List Int := if LenOk x then uv x.toNat else []
def lenF (x : Int) : Int := if LenOk x then 0 else 1

set_option maxHeartbeats 1000000 in
set_option maxRecDepth 100000 in
theorem length_any (x : Int) (w : World) : Calls Try.prog 22 #[.int .i64 x] w fun e w' => ∃ ao cap, e = .returned (.tuple #[.slice ao (lenB x).length cap, .int .i64 (lenF x)]) ∧ (ao = none → (lenB x).length = 0 ∧ cap = 0) ∧ (lenB x).length ≤ cap ∧ cap ≤ maxLen ∧ Byt w' ao (lenB x).length (xof (lenB x)) ∧ Below w.heap.size w w' := by
  by_cases h : LenOk x
  · have e1 : lenB x = uv x.toNat := if_pos h
    have e2 : lenF x = 0 := if_pos h
    rw [e1, e2]
    unfold LenOk at h
    obtain ⟨n, rfl⟩ := Int.eq_ofNat_of_zero_le h.1
    simp only [Int.toNat_natCast]
    have hs : Calls Try.prog 30 #[.slice none 0 0, .int .u64 (n : Int)] w fun e w' => ∃ ao cap, e = .returned (.slice ao (uv n).length cap) ∧ (ao = none → (uv n).length = 0 ∧ cap = 0) ∧ (uv n).length ≤ cap ∧ cap ≤ maxLen ∧ Byt w' ao (uv n).length (xof (uv n)) ∧ Below w.heap.size w w' :=
      (sevs_any w.heap.size (.slice none 0 0) [] n w (Row.nil _ _) (Nat.le_refl _) (by have := uv_len64 (n := n) (by omega); simp; omega) (by omega)).mono fun e w' ⟨v', he, hr, hg, _⟩ => by
        obtain ⟨ao, cap, rfl, q1, q2, q3, q4⟩ := hr.byt (okb_uv n)
        exact ⟨ao, cap, he, q1, q2, q3, q4, grown_below (Row.nil _ _) hg (Nat.le_refl _)⟩
    have q1 : (0 : Int) ≤ (n : Int) := by omega
    have q2 : (n : Int) ≤ 268435455 := by omega
    clear e1 e2 h
    go_enter Try.func22, Try.ntmps22
    go_wp2_with (go_at_call 30; refine hs.mono ?_; rintro e w1 ⟨ao, cap, rfl, r1, r2, r3, r4, r5⟩)
    exact bodyPost_ret (v := .tuple #[.slice ao (uv n).length cap, .int .i64 0]) (by simp [results, Try.results22, go_sem]) rfl ⟨ao, cap, rfl, r1, r2, r3, r4, r5⟩
  · have e1 : lenB x = [] := if_neg h
    have e2 : lenF x = 1 := if_neg h
    rw [e1, e2]
    unfold LenOk at h
    clear e1 e2
    by_cases h1 : x < 0
    · clear h
      go_enter Try.func22, Try.ntmps22
      go_wp2
      exact bodyPost_ret (v := .tuple #[.slice none 0 0, .int .i64 1]) (by simp [results, Try.results22, go_sem]) rfl ⟨none, 0, rfl, fun _ => ⟨trivial, rfl⟩, Nat.le_refl _, Nat.zero_le _, (fun k hk => by cases hk), Below.refl _ _⟩
    · have h2 : (268435455 : Int) < x := by omega
      have h3 : (0 : Int) ≤ x := by omega
      clear h h1
      go_enter Try.func22, Try.ntmps22
      go_wp2
      exact bodyPost_ret (v := .tuple #[.slice none 0 0, .int .i64 1]) (by simp [results, Try.results22, go_sem]) rfl ⟨none, 0, rfl, fun _ => ⟨trivial, rfl⟩, Nat.le_refl _, Nat.zero_le _, (fun k hk => by cases hk), Below.refl _ _⟩

set_option maxHeartbeats 1000000 in
set_option maxRecDepth 100000 in
theorem rlength_any (x : Int) (w : World) : Calls Try.prog 23 #[.int .i64 x] w fun e w' => ∃ ao cap, e = .returned (.tuple #[.slice ao (lenB x).length cap, .int .i64 (lenF x)]) ∧ (ao = none → (lenB x).length = 0 ∧ cap = 0) ∧ (lenB x).length ≤ cap ∧ cap ≤ maxLen ∧ Byt w' ao (lenB x).length (xof (lenB x)) ∧ Below w.heap.size w w' := by
  by_cases h : LenOk x
  · have e1 : lenB x = uv x.toNat := if_pos h
    have e2 : lenF x = 0 := if_pos h
    rw [e1, e2]
    unfold LenOk at h
    obtain ⟨n, rfl⟩ := Int.eq_ofNat_of_zero_le h.1
    simp only [Int.toNat_natCast]
    have hs : Calls Try.prog 12 #[.slice none 0 0, .int .u64 (n : Int)] w fun e w' => ∃ ao cap, e = .returned (.slice ao (uv n).length cap) ∧ (ao = none → (uv n).length = 0 ∧ cap = 0) ∧ (uv n).length ≤ cap ∧ cap ≤ maxLen ∧ Byt w' ao (uv n).length (xof (uv n)) ∧ Below w.heap.size w w' :=
      (rput_any w.heap.size (.slice none 0 0) [] n w (Row.nil _ _) (Nat.le_refl _) (by have := uv_len64 (n := n) (by omega); simp; omega) (by omega)).mono fun e w' ⟨v', he, hr, hg, _⟩ => by
        obtain ⟨ao, cap, rfl, q1, q2, q3, q4⟩ := hr.byt (okb_uv n)
        exact ⟨ao, cap, he, q1, q2, q3, q4, grown_below (Row.nil _ _) hg (Nat.le_refl _)⟩
    have q1 : (0 : Int) ≤ (n : Int) := by omega
    have q2 : (n : Int) ≤ 268435455 := by omega
    clear e1 e2 h
    go_enter Try.func23, Try.ntmps23
    go_wp2_with (go_at_call 12; refine hs.mono ?_; rintro e w1 ⟨ao, cap, rfl, r1, r2, r3, r4, r5⟩)
    exact bodyPost_ret (v := .tuple #[.slice ao (uv n).length cap, .int .i64 0]) (by simp [results, Try.results23, go_sem]) rfl ⟨ao, cap, rfl, r1, r2, r3, r4, r5⟩
  · have e1 : lenB x = [] := if_neg h
    have e2 : lenF x = 1 := if_neg h
    rw [e1, e2]
    unfold LenOk at h
    clear e1 e2
    by_cases h1 : x < 0
    · clear h
      go_enter Try.func23, Try.ntmps23
      go_wp2
      exact bodyPost_ret (v := .tuple #[.slice none 0 0, .int .i64 1]) (by simp [results, Try.results23, go_sem]) rfl ⟨none, 0, rfl, fun _ => ⟨trivial, rfl⟩, Nat.le_refl _, Nat.zero_le _, (fun k hk => by cases hk), Below.refl _ _⟩
    · have h2 : (268435455 : Int) < x := by omega
      have h3 : (0 : Int) ≤ x := by omega
      clear h h1
      go_enter Try.func23, Try.ntmps23
      go_wp2
      exact bodyPost_ret (v := .tuple #[.slice none 0 0, .int .i64 1]) (by simp [results, Try.results23, go_sem]) rfl ⟨none, 0, rfl, fun _ => ⟨trivial, rfl⟩, Nat.le_refl _, Nat.zero_le _, (fun k hk => by cases hk), Below.refl _ _⟩

theorem tlenV_tuple (X : Nat → Nat) (len E : Nat) : ∃ (N K F : Int), tlenV X len E = .tuple #[.int .i64 N, .int .i64 K, .int .i64 F] := by
  unfold tlenV
  split
  · exact ⟨_, _, _, rfl⟩
  · split
    · exact ⟨_, _, _, rfl⟩
    · exact ⟨_, _, _, rfl⟩

set_option maxHeartbeats 1000000 in
set_option maxRecDepth 100000 in
theorem lengths_any (ao : Option Addr) (len cap : Nat) (X : Nat → Nat) (x : Int) (W : World) (hb : Byt W ao len X) (hl : len ≤ cap) :
    Calls Try.prog 5 #[.slice ao len cap, .int .i64 x] W fun e w' => e = .returned (.bool true) ∧ Below W.heap.size W w' := by
  obtain ⟨E, hE⟩ := exists_end X (min len 4)
  obtain ⟨N, K, F, hT⟩ := tlenV_tuple X len E
  have h1 := tlen_any ao len cap E X W hb hl hE
  have h2 := rtlen_any ao len cap E X W hb hl hE
  rw [hT] at h1 h2
  have h3 := length_any x W
  clear hb hl hE hT
  go_enter Try.func5, Try.ntmps5
  go_upto_region 4 with (first | (go_at_call 20; refine h1.mono ?_; rintro e W ⟨rfl, rfl⟩) | (go_at_call 21; refine h2.mono ?_; rintro e W ⟨rfl, rfl⟩) | (go_at_call 22; refine h3.mono ?_; rintro e w1 ⟨ao1, cap1, rfl, r1, _, _, r4, r5⟩))
  have h4 := rlength_any x w1
  have R1 : Hid ((ao1 = none → (lenB x).length = 0 ∧ cap1 = 0) ∧ Byt w1 ao1 (lenB x).length (xof (lenB x)) ∧ Below W.heap.size W w1) := ⟨r1, r4, r5⟩
  clear h1 h2 h3 r1 r4 r5
  go_upto_region 5 with (go_at_call 23; refine h4.mono ?_; rintro e w2 ⟨ao2, cap2, rfl, r1, _, _, r4, r5⟩)
  have s1 := run_str (cap := cap1) (R1.out.2.1.later r5) R1.out.1
  have s2 := run_str (cap := cap2) r4 r1
  have hB : Hid (Below W.heap.size W w2) := R1.out.2.2.trans (r5.mono R1.out.2.2.size)
  have ha := awake_any w2
  clear h4 R1 r1 r4 r5
  go_wp2_with (go_at_call 15; refine ha.mono ?_; rintro e w3 ⟨rfl, hb3⟩)
  go_ret
  exact ⟨rfl, hB.out.trans (hb3.mono hB.out.size)⟩
end Go.Proofs.Ytjjmgfinapahcaa
