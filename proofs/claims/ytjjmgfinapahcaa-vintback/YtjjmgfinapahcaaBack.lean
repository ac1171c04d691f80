/- The law on what is written and read. -/
import Derived.Test.YtjjmgfinapahcaaBackA
namespace Go.Proofs.Ytjjmgfinapahcaa
open Go.RowKit
set_option linter.unusedVariables false

set_option maxHeartbeats 1000000 in
set_option maxRecDepth 100000 in
theorem back_any (n : Nat) (x : Int) (so : Option Addr) (ls cs : Nat) (S : Nat → Nat) (W : World) (hn : n < 18446744073709551616) (hs : Byt W so ls S) (hnil : so = none → ls = 0 ∧ cs = 0) (hls : ls ≤ 140737488351232) :
    Calls Try.prog 7 #[.int .u64 (n : Int), .int .i64 x, .slice so ls cs] W fun e w' => e = .returned (.bool true) ∧ Below W.heap.size W w' := by
  have HS : Hid (Byt W so ls S ∧ (so = none → ls = 0 ∧ cs = 0) ∧ ls ≤ 140737488351232 ∧ n < 18446744073709551616) := ⟨hs, hnil, hls, hn⟩
  have hput := put_made n W hn
  have hlen := fun w => len_any n w hn
  have hp10 : (uv n).length ≤ 10 := uv_len64 hn
  have hpos : 0 < (uv n).length := uv_pos n
  obtain ⟨P, hP⟩ : ∃ P, P = uv n := ⟨_, rfl⟩
  have HP : Hid (P = uv n ∧ Okb P) := ⟨hP, hP ▸ okb_uv n⟩
  rw [← hP] at hput hp10 hpos
  have hlen' : ∀ w, Calls Try.prog 13 #[.int .u64 (n : Int)] w fun e w' => e = .returned (.int .i64 (P.length : Int)) ∧ w' = w := fun w => hP ▸ hlen w
  clear hP hlen hn hs hnil hls
  go_enter Try.func7, Try.ntmps7
  go_upto_region 2 with (go_at_call 11; refine hput.mono ?_; rintro e w1 ⟨po, pc, rfl, m1, m2, m3, m4, m5⟩)
  have H1 : Hid (Byt w1 po P.length (xof P) ∧ (po = none → P.length = 0 ∧ pc = 0) ∧ Okb P ∧ P.length ≤ 140737488351232) := ⟨m4, m1, HP.out.2, by omega⟩
  have H2 : Hid (Byt w1 so ls S ∧ (so = none → ls = 0 ∧ cs = 0) ∧ P.length + ls ≤ 140737488355328) := ⟨HS.out.1.later m5, HS.out.2.1, by have := HS.out.2.2.1; omega⟩
  have htk : ∀ v w, Row w1.heap.size w v (P ++ bs S ls) → Calls Try.prog 9 #[v] w fun e w' => e = .returned (.tuple #[.int .u64 (n : Int), .int .i64 (P.length : Int), .int .i64 0]) ∧ w' = w := fun v w h => by
    have e := HP.out.1
    rw [e] at h ⊢
    exact take_back HS.out.2.2.2 h (okb_bs HS.out.1)
  have M : Hid (P.length ≤ pc ∧ pc ≤ maxLen ∧ Below W.heap.size W w1) := ⟨m2, m3, m5⟩
  clear hput m1 m2 m3 m4 m5
  go_upto_region 3 with (first | (at_builtin; refine wpList_one (W := w1) (s := .tmp 27) (x := .tmp 28) rfl rfl rfl rfl H1 ?_; intro v2 w2 hr2 hb2) | (at_builtin; refine wpList_two (W := w1) (s := .tmp 29) (x := .tmp 30) rfl rfl rfl rfl hr2 hb2 H2 ?_; intro v3 w3 hr3 hb3) | (go_at_call 9; refine (htk _ _ hr3).mono ?_; rintro e w3 ⟨rfl, rfl⟩))
  have hcut : ∀ k : Nat, k < P.length → Calls Try.prog 9 #[.slice po k pc] w3 fun e w' => e = .returned (.tuple #[.int .u64 0, .int .i64 0, .int .i64 5]) ∧ w' = w3 := fun k hk => by
    have e := HP.out.1
    have h1 := H1.out.1.later hb3
    have h2 := M.out.1
    have h3 := M.out.2.1
    rw [e] at hk h1 h2
    exact take_cut hk h1 h2 h3
  have HB : Hid (Below W.heap.size W w3) := M.out.2.2.trans (hb3.mono M.out.2.2.size)
  have hpc : (P.length : Int) ≤ (pc : Int) := by have := M.out.1; omega
  have hpl : (P.length : Int) ≤ 10 := by omega
  clear hr2 hb2 hr3 hb3 htk M H1 H2 hp10 hpos
  go_wp2_with (go_at_call 13; refine (hlen' _).mono ?_; rintro e w3 ⟨rfl, rfl⟩)
  clear hlen'
  go_loopg [57] P.length (fun g i wr => ∃ (k : Nat), k + g = P.length ∧ i = .int .i64 (k : Int) ∧ wr = w3)
  case atStart => exact ⟨0, by omega, rfl, rfl⟩
  case round =>
    obtain ⟨k, hk, rfl, hw⟩ := hrel
    obtain rfl := hw
    by_cases h : k < P.length
    · have h' : (k : Int) < (P.length : Int) := by omega
      have h'' : (k : Int) ≤ (pc : Int) := by omega
      have h10 : (k : Int) ≤ 10 := by omega
      have hc := hcut k h
      obtain ⟨GK, HG⟩ : ∃ g, Hid (g < gk ∧ k + 1 + g = P.length) := ⟨gk - 1, by omega, by omega⟩
      clear hk h hcut
      go_wp2_with (go_at_call 9; refine hc.mono ?_; rintro e wr ⟨rfl, rfl⟩)
      go_roundg GK
      case measure => exact HG.out.1
      case rel => exact ⟨k + 1, HG.out.2, by go_num, rfl⟩
    · have h' : (P.length : Int) ≤ (k : Int) := by omega
      have hL := length_any x wr
      clear hk h hcut
      by_cases hx : LenOk x
      · have e1 : lenB x = uv x.toNat := if_pos hx
        have e2 : lenF x = 0 := if_pos hx
        rw [e1, e2] at hL
        unfold LenOk at hx
        obtain ⟨m, rfl⟩ := Int.eq_ofNat_of_zero_le hx.1
        simp only [Int.toNat_natCast] at hL
        have hm : m ≤ 268435455 := by omega
        have q1 : (0 : Int) ≤ (m : Int) := by omega
        have q2 : (m : Int) ≤ 268435455 := by omega
        have hu4 : (uv m).length ≤ 4 := uv_len4 hm
        obtain ⟨U, hU⟩ : ∃ U, U = uv m := ⟨_, rfl⟩
        have HU : Hid (U = uv m ∧ Okb U ∧ m ≤ 268435455) := ⟨hU, hU ▸ okb_uv m, hm⟩
        rw [← hU] at hL hu4
        clear hU hm e1 e2 hx
        go_upto_region 15 with (go_at_call 22; refine hL.mono ?_; rintro e w4 ⟨uo, uc, rfl, m1, m2, m3, m4, m5⟩)
        have H1 : Hid (Byt w4 uo U.length (xof U) ∧ (uo = none → U.length = 0 ∧ uc = 0) ∧ Okb U ∧ U.length ≤ 140737488351232) := ⟨m4, m1, HU.out.2.1, by omega⟩
        have hB4 : Below W.heap.size W w4 := HB.out.trans (m5.mono HB.out.size)
        have H2 : Hid (Byt w4 so ls S ∧ (so = none → ls = 0 ∧ cs = 0) ∧ U.length + ls ≤ 140737488355328) := ⟨HS.out.1.later hB4, HS.out.2.1, by have := HS.out.2.2.1; omega⟩
        have htk : ∀ v w, Row w4.heap.size w v (U ++ bs S ls) → Calls Try.prog 20 #[v] w fun e w' => e = .returned (.tuple #[.int .i64 (m : Int), .int .i64 (U.length : Int), .int .i64 0]) ∧ w' = w := fun v w h => by
          have e := HU.out.1
          rw [e] at h ⊢
          exact tlen_back HU.out.2.2 h (okb_bs HS.out.1)
        have M : Hid (U.length ≤ uc ∧ Below W.heap.size W w4) := ⟨m2, hB4⟩
        clear hL m1 m2 m3 m4 m5 hB4
        go_upto_region 16 with (first | (at_builtin; refine wpList_one (W := w4) (s := .tmp 93) (x := .tmp 94) rfl rfl rfl rfl H1 ?_; intro v5 w5 hr5 hb5) | (at_builtin; refine wpList_two (W := w4) (s := .tmp 95) (x := .tmp 96) rfl rfl rfl rfl hr5 hb5 H2 ?_; intro v6 w6 hr6 hb6) | (go_at_call 20; refine (htk _ _ hr6).mono ?_; rintro e w6 ⟨rfl, rfl⟩))
        have hcut : ∀ k : Nat, k < U.length → Calls Try.prog 20 #[.slice uo k uc] w6 fun e w' => e = .returned (.tuple #[.int .i64 0, .int .i64 0, .int .i64 5]) ∧ w' = w6 := fun k hk => by
          have e := HU.out.1
          have h1 := H1.out.1.later hb6
          have h2 := M.out.1
          rw [e] at hk h1 h2
          exact tlen_cut HU.out.2.2 hk h1 h2
        have HB6 : Hid (Below W.heap.size W w6) := M.out.2.trans (hb6.mono M.out.2.size)
        have huc : (U.length : Int) ≤ (uc : Int) := by have := M.out.1; omega
        have hul : (U.length : Int) ≤ 4 := by omega
        clear hr5 hb5 hr6 hb6 htk M H1 H2 hu4
        go_wp2_with fail
        go_loopg [104] U.length (fun g i wr => ∃ (k : Nat), k + g = U.length ∧ i = .int .i64 (k : Int) ∧ wr = w6)
        case atStart => exact ⟨0, by omega, rfl, rfl⟩
        case round =>
          obtain ⟨j, hj, rfl, hw⟩ := hrel
          obtain rfl := hw
          by_cases h : j < U.length
          · have g' : (j : Int) < (U.length : Int) := by omega
            have g'' : (j : Int) ≤ (uc : Int) := by omega
            have g10 : (j : Int) ≤ 4 := by omega
            have hc := hcut j h
            obtain ⟨GK, HG⟩ : ∃ g, Hid (g < gk ∧ j + 1 + g = U.length) := ⟨gk - 1, by omega, by omega⟩
            clear hj h hcut
            go_wp2_with (go_at_call 20; refine hc.mono ?_; rintro e wr ⟨rfl, rfl⟩)
            go_roundg GK
            case measure => exact HG.out.1
            case rel => exact ⟨j + 1, HG.out.2, by go_num, rfl⟩
          · have g' : (U.length : Int) ≤ (j : Int) := by omega
            clear hj h hcut
            go_wp2_with (go_at_call 15; refine (awake_any _).mono ?_; rintro e w7 ⟨rfl, hb7⟩)
            go_ret
            exact ⟨rfl, HB6.out.trans (hb7.mono HB6.out.size)⟩
      · have e1 : lenB x = [] := if_neg hx
        have e2 : lenF x = 1 := if_neg hx
        rw [e1, e2] at hL
        unfold LenOk at hx
        have fin : ∀ w4 w5, Below wr.heap.size wr w4 → Below w4.heap.size w4 w5 → Below W.heap.size W w5 := fun w4 w5 h1 h2 => (HB.out.trans (h1.mono HB.out.size)).trans (h2.mono (HB.out.trans (h1.mono HB.out.size)).size)
        by_cases hz : x < 0
        · clear hx e1 e2
          go_wp2_with (first | (go_at_call 22; refine hL.mono ?_; rintro e w4 ⟨uo, uc, rfl, _, _, _, _, m5⟩) | (go_at_call 15; refine (awake_any _).mono ?_; rintro e w5 ⟨rfl, hb5⟩))
          go_ret
          exact ⟨rfl, fin _ _ m5 hb5⟩
        · have z1 : (268435455 : Int) < x := by omega
          have z2 : (0 : Int) ≤ x := by omega
          clear hx hz e1 e2
          go_wp2_with (first | (go_at_call 22; refine hL.mono ?_; rintro e w4 ⟨uo, uc, rfl, _, _, _, _, m5⟩) | (go_at_call 15; refine (awake_any _).mono ?_; rintro e w5 ⟨rfl, hb5⟩))
          go_ret
          exact ⟨rfl, fin _ _ m5 hb5⟩
end Go.Proofs.Ytjjmgfinapahcaa
