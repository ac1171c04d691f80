/- The law on rows of numbers and bytes. -/
import Derived.Test.YtjjmgfinapahcabRowsA
namespace Go.Proofs.Ytjjmgfinapahcab
open Go.RowKit
set_option linter.unusedVariables false

/-- What has been written of the first k. -/
def St (L : Nat → Nat) (sl : Nat) (LN : Nat → Nat) (S : Nat → Nat → Nat) (W w : World) (k : Nat) (ao : Option Addr) (len cap : Nat) : Prop :=
  Sl w ao len cap (encI (itemI L sl LN S) k) ∧ Below W.heap.size W w ∧ k ≤ 40 ∧ ∀ j, j < k → j < sl → LN j ≤ 500

set_option maxHeartbeats 2000000 in
set_option maxRecDepth 100000 in
theorem rows_any (lo so : Option Addr) (ll lc sl sc : Nat) (L : Nat → Nat) (A : Nat → Option Addr) (LN C : Nat → Nat) (S : Nat → Nat → Nat) (W : World) (hN : Nums W lo ll L) (hR : Rws W so sl A LN C S) :
    Calls Try.prog 3 #[.slice lo ll lc, .slice so sl sc] W fun e w' => e = .returned (.bool true) ∧ Below W.heap.size W w' := by
  have HN : Hid (Nums W lo ll L ∧ Rws W so sl A LN C S) := ⟨hN, hR⟩
  clear hN hR
  have fin : ∀ w1 w2, Below W.heap.size W w1 → Below w1.heap.size w1 w2 → Below W.heap.size W w2 := fun w1 w2 h1 h2 => h1.trans (h2.mono h1.size)
  go_enter Try.func3, Try.ntmps3
  go_wp2
  go_loopg [5, 18] ll (fun g b i wr => ∃ (k : Nat) (ao : Option Addr) (len cap : Nat), k + g = ll ∧ i = .int .i64 (k : Int) ∧ b = .slice ao len cap ∧ Hid (St L sl LN S W wr k ao len cap))
  case atStart => exact ⟨0, none, 0, 0, by omega, rfl, rfl, Sl.nil _, Below.refl _ _, by omega, fun j hj => absurd hj (by omega)⟩
  case round =>
    obtain ⟨k, ao, len, cap, hk, rfl, rfl, HS⟩ := hrel
    by_cases h : k < ll
    · obtain ⟨hLk, b1, off1, hlo, hcell⟩ := (HN.out.1.later HS.out.2.1) k h
      subst hlo
      have h' : (k : Int) < (ll : Int) := by omega
      have h40 : (k : Int) ≤ 40 := by have := HS.out.2.2.1; omega
      obtain ⟨GK, HG⟩ : ∃ g, Hid (g < gk ∧ k + 1 + g = ll) := ⟨gk - 1, by omega, by omega⟩
      obtain ⟨n, hn⟩ : ∃ n, n = L k := ⟨_, rfl⟩
      have HLk : Hid (n = L k ∧ n < 18446744073709551616) := ⟨hn, hn ▸ hLk⟩
      rw [← hn] at hcell
      clear hk h hn hLk
      by_cases h4 : k < 40
      · have h4' : (k : Int) < 40 := by omega
        have hp := put_sl (n := n) HS.out.1 (by have := HS.out.1.1; have := enc_len (L := L) (sl := sl) (LN := LN) (S := S) k (fun j hj => ⟨by have := HG.out.2; exact (HN.out.1 j (by omega)).1, fun hs => HS.out.2.2.2 j hj hs⟩); omega) HLk.out.2
        by_cases hs : k < sl
        · obtain ⟨⟨b2, off2, hso, hc2⟩, hby, hnil⟩ := (HN.out.2.later HS.out.2.1) k hs
          subst hso
          have hs' : (k : Int) < (sl : Int) := by omega
          obtain ⟨ls, hls⟩ : ∃ n, n = LN k := ⟨_, rfl⟩
          rw [← hls] at hc2 hby hnil
          by_cases h5 : ls ≤ 500
          · have h5' : (ls : Int) ≤ 500 := by omega
            have hlen : len ≤ 520 * k := by
              have h1 := HS.out.1.1
              have h2 := enc_len (L := L) (sl := sl) (LN := LN) (S := S) k (fun j hj => ⟨by have := HG.out.2; exact (HN.out.1 j (by omega)).1, fun hs => HS.out.2.2.2 j hj hs⟩)
              omega
            have HP : Hid (Byt wr (A k) ls (S k) ∧ (A k = none → ls = 0 ∧ C k = 0) ∧ ls = LN k ∧ len ≤ 520 * k ∧ k < 40 ∧ ls ≤ 500 ∧ k < sl) := ⟨hby, hnil, hls, hlen, h4, h5, hs⟩
            clear h4 hs h5 hby hnil hls hlen
            have hlen5 : ∀ (w5 : World) (ao5 : Option Addr) (len5 cap5 : Nat), Sl w5 ao5 len5 cap5 (encI (itemI L sl LN S) k ++ uv n) → len5 ≤ 140737488350000 := fun w5 ao5 len5 cap5 h => by
              have h1 := h.1
              have h2 := HS.out.1.1
              have h3 := uv_len64 HLk.out.2
              have h4 := HP.out.2.2.2.1
              have h5 := HP.out.2.2.2.2.1
              simp only [List.length_append] at h1
              omega
            obtain ⟨Ak, hAk⟩ : ∃ a, a = A k := ⟨_, rfl⟩
            obtain ⟨Ck, hCk⟩ : ∃ a, a = C k := ⟨_, rfl⟩
            rw [← hAk, ← hCk] at hc2
            have hpb : ∀ (w5 : World) (ao5 : Option Addr) (len5 cap5 : Nat), Sl w5 ao5 len5 cap5 (encI (itemI L sl LN S) k ++ uv n) → Below wr.heap.size wr w5 → Calls Try.prog 7 #[.slice ao5 len5 cap5, .slice Ak ls Ck] w5 fun e w' => ∃ ao' len' cap', e = .returned (.slice ao' len' cap') ∧ Sl w' ao' len' cap' (encI (itemI L sl LN S) k ++ uv n ++ uv ls ++ bs (S k) ls) ∧ Below w5.heap.size w5 w' := fun w5 ao5 len5 cap5 h hb => by
              rw [hAk, hCk]
              exact pb_sl h (HP.out.1.later hb) HP.out.2.1 (by have := hlen5 _ _ _ _ h; have := HP.out.2.2.2.2.2.1; omega)
            clear hlen5 hAk hCk
            go_upto_region 8 with (go_at_call 6; refine hp.mono ?_; rintro e w5 ⟨ao5, len5, cap5, rfl, hs5, hb5⟩)
            have hc5 := cell_later hb5 hc2
            have hpb5 := hpb _ _ _ _ hs5 hb5
            clear hp hpb hc2 hcell
            go_wp2_with (go_at_call 7; refine hpb5.mono ?_; rintro e w6 ⟨ao6, len6, cap6, rfl, hs6, hb6⟩)
            go_roundg GK
            case measure => exact HG.out.1
            case rel =>
              refine ⟨k + 1, ao6, len6, cap6, HG.out.2, by go_num, rfl, ?_, fin _ _ (fin _ _ HS.out.2.1 hb5) hb6, by have := HP.out.2.2.2.2.1; omega, fun j hj hjs => ?_⟩
              · have e : encI (itemI L sl LN S) (k + 1) = encI (itemI L sl LN S) k ++ uv n ++ uv ls ++ bs (S k) ls := by
                  rw [HLk.out.1, HP.out.2.2.1]
                  simp only [encI, itemI]
                  rw [if_pos HP.out.2.2.2.2.2.2]
                  simp
                rw [e]
                exact hs6
              · rcases Nat.lt_or_ge j k with g | g
                · exact HS.out.2.2.2 j g hjs
                · obtain rfl : j = k := by omega
                  have := HP.out
                  omega
          · have h5' : (500 : Int) < (ls : Int) := by omega
            clear h4 hs h5 hp hby hnil hls
            go_wp2_with (go_at_call 5; refine (awake_any _).mono ?_; rintro e w5 ⟨rfl, hb5⟩)
            go_ret
            exact ⟨rfl, fin _ _ HS.out.2.1 hb5⟩
        · have hs' : (sl : Int) ≤ (k : Int) := by omega
          clear h4 hs
          go_wp2_with (go_at_call 6; refine hp.mono ?_; rintro e w5 ⟨ao5, len5, cap5, rfl, hs5, hb5⟩)
          go_roundg GK
          case measure => exact HG.out.1
          case rel =>
            refine ⟨k + 1, ao5, len5, cap5, HG.out.2, by go_num, rfl, ?_, fin _ _ HS.out.2.1 hb5, by omega, fun j hj hjs => ?_⟩
            · have e : encI (itemI L sl LN S) (k + 1) = encI (itemI L sl LN S) k ++ uv n := by
                rw [HLk.out.1]
                simp only [encI, itemI]
                rw [if_neg (by omega)]
                simp
              rw [e]
              exact hs5
            · exact HS.out.2.2.2 j (by omega) hjs
      · have h4' : (40 : Int) ≤ (k : Int) := by omega
        clear h4
        go_wp2_with (go_at_call 5; refine (awake_any _).mono ?_; rintro e w5 ⟨rfl, hb5⟩)
        go_ret
        exact ⟨rfl, fin _ _ HS.out.2.1 hb5⟩
    · have h' : (ll : Int) ≤ (k : Int) := by omega
      have hkl : k = ll := by omega
      subst hkl
      have h40 : (k : Int) ≤ 40 := by have := HS.out.2.2.1; omega
      clear hk h h'
      go_wp2_with fail
      go_loopg [5, 56] k (fun g b i wr2 => ∃ (j : Nat) (ao2 : Option Addr) (len2 cap2 : Nat), j + g = k ∧ i = .int .i64 (j : Int) ∧ b = .slice ao2 len2 cap2 ∧ Hid (Sl wr2 ao2 len2 cap2 (restI (itemI L sl LN S) (k - j) j) ∧ Below W.heap.size W wr2 ∧ len2 ≤ 20800))
      case atStart =>
        refine ⟨0, ao, len, cap, by omega, rfl, rfl, ?_, HS.out.2.1, ?_⟩
        · rw [Nat.sub_zero, rest_all]
          exact HS.out.1
        · have h1 := HS.out.1.1
          have h2 := enc_len (L := L) (sl := sl) (LN := LN) (S := S) k (fun j hj => ⟨(HN.out.1 j (by omega)).1, fun hs => HS.out.2.2.2 j hj hs⟩)
          have h3 := HS.out.2.2.1
          omega
      case round =>
        obtain ⟨j, ao2, len2, cap2, hj, rfl, rfl, HT⟩ := hrel
        by_cases h : j < k
        · obtain ⟨hLj, b1, off1, hlo, hcell⟩ := (HN.out.1.later HT.out.2.1) j h
          subst hlo
          have g' : (j : Int) < (k : Int) := by omega
          have g40 : (j : Int) ≤ 40 := by omega
          obtain ⟨GK, HG⟩ : ∃ g, Hid (g < gk ∧ j + 1 + g = k) := ⟨gk - 1, by omega, by omega⟩
          obtain ⟨n, hn⟩ : ∃ n, n = L j := ⟨_, rfl⟩
          rw [← hn] at hcell hLj
          obtain ⟨T, hT⟩ : ∃ T, T = restI (itemI L sl LN S) (k - (j + 1)) (j + 1) := ⟨_, rfl⟩
          obtain ⟨Y, hY⟩ : ∃ Y : List Int, Y = if j < sl then uv (LN j) ++ bs (S j) (LN j) else [] := ⟨_, rfl⟩
          have hxs : restI (itemI L sl LN S) (k - j) j = uv n ++ (Y ++ T) := by
            rw [show k - j = (k - (j + 1)) + 1 by omega]
            simp only [restI, itemI]
            rw [← hT, ← hn, ← hY]
            simp
          have hsl := HT.out.1
          rw [hxs] at hsl
          have htk := take_sl hsl hLj
          obtain ⟨u, hu⟩ : ∃ u, u = (uv n).length := ⟨_, rfl⟩
          have hup : 0 < u := by rw [hu]; exact uv_pos n
          have hul : u ≤ len2 := by rw [hu, ← hsl.1]; simp
          rw [← hu] at htk
          obtain ⟨r, hr⟩ : ∃ r, len2 = u + r := ⟨len2 - u, by omega⟩
          obtain ⟨rc, hrc⟩ : ∃ rc, cap2 = u + rc := ⟨cap2 - u, by have := hsl.2.2.2.1; omega⟩
          subst hr hrc
          obtain ⟨b3, off3, b4, off4, hao, hif, hS3⟩ := sl_cut hsl hu.symm hup
          subst hao
          have hrl : r ≤ 20800 := by have := HT.out.2.2; omega
          have hrr : (r : Int) ≤ (rc : Int) := by have := hS3.2.2.2.1; omega
          have hu1 : (1 : Int) ≤ (u : Int) := by omega
          have hu10 : (u : Int) ≤ 10 := by have := uv_len64 hLj; omega
          have HT2 : Hid (Below W.heap.size W wr ∧ Sl wr (some ⟨b4, off4, none⟩) r rc (Y ++ T) ∧ T = restI (itemI L sl LN S) (k - (j + 1)) (j + 1) ∧ r ≤ 20800) := ⟨HT.out.2.1, hS3, hT, hrl⟩
          clear hup hul hsl hxs hu hn HT hLj hj hS3 hT hrl
          by_cases hs : j < sl
          · have hs' : (j : Int) < (sl : Int) := by omega
            have h500 : LN j ≤ 500 := HS.out.2.2.2 j h hs
            obtain ⟨ls, hls⟩ : ∃ n, n = LN j := ⟨_, rfl⟩
            obtain ⟨X, hX⟩ : ∃ X, X = S j := ⟨_, rfl⟩
            have hY1 : Y = uv ls ++ bs X ls := by rw [hY, if_pos hs, hls, hX]
            have hsl3 := HT2.out.2.1
            rw [hY1, List.append_assoc] at hsl3
            have htb := tb_sl hsl3 (by omega) (by have := HT2.out.2.2.2; omega)
            obtain ⟨u2, hu2⟩ : ∃ u, u = (uv ls).length + ls := ⟨_, rfl⟩
            rw [← hu2] at htb
            have hup2 : 0 < u2 := by have := uv_pos ls; omega
            have hul2 : u2 ≤ r := by rw [hu2, ← hsl3.1]; simp [bs_length]
            obtain ⟨r2, hr2⟩ : ∃ r2, r = u2 + r2 := ⟨r - u2, by omega⟩
            obtain ⟨rc2, hrc2⟩ : ∃ rc2, rc = u2 + rc2 := ⟨rc - u2, by omega⟩
            subst hr2 hrc2
            rw [← List.append_assoc] at hsl3
            have hcut : ∀ w6, Below wr.heap.size wr w6 → Sl w6 (some ⟨b4, off4, none⟩) (u2 + r2) (u2 + rc2) ((uv ls ++ bs X ls) ++ T) := fun w6 hb => hsl3.later hb
            obtain ⟨b5, off5, b6, off6, hao5, hif2, _⟩ := sl_cut hsl3 (by rw [hu2]; simp [bs_length]) hup2
            have hS6 : ∀ w6, Below wr.heap.size wr w6 → Sl w6 (some ⟨b6, off6, none⟩) r2 rc2 T := fun w6 hb => by
              obtain ⟨c5, o5, c6, o6, q1, q2, q3⟩ := sl_cut (hsl3.later hb) (by rw [hu2]; simp [bs_length]) hup2
              rw [hao5] at q1
              cases q1
              rw [hif2] at q2
              cases q2
              exact q3
            cases hao5
            rw [if_neg (by omega)] at hif
            cases hif
            have hrr2 : (r2 : Int) ≤ (rc2 : Int) := by omega
            have hu21 : (1 : Int) ≤ (u2 : Int) := by omega
            have hu22 : (u2 : Int) ≤ 20800 := by have := HT2.out.2.2.2; omega
            have hr20 : r2 ≤ 20800 := by have := HT2.out.2.2.2; omega
            have HT3 : Hid (∀ w6, Below wr.heap.size wr w6 → Sl w6 (some ⟨b6, off6, none⟩) r2 rc2 T) := hS6
            have HR : Hid (j < sl ∧ ls = LN j ∧ X = S j ∧ Rws wr so sl A LN C S ∧ r2 ≤ 20800) := ⟨hs, hls, hX, HN.out.2.later HT2.out.1, hr20⟩
            clear hcut hS6 hsl3 hup2 hul2 hu2 hY1 hY hs hls hX h500 hr20 h
            go_upto_region 19 with (go_at_call 8; refine htk.mono ?_; rintro e wr ⟨rfl, rfl⟩)
            go_upto_region 20 with (go_at_call 9; refine htb.mono ?_; rintro e w6 ⟨yo, yc, rfl, y1, y2, hb6⟩)
            obtain ⟨⟨b7, off7, hso, hc7⟩, hby7, hnil7⟩ := (HR.out.2.2.2.1.later hb6) j HR.out.1
            subst hso
            rw [← HR.out.2.1] at hc7 hby7 hnil7
            rw [← HR.out.2.2.1] at hby7
            have s1 : ∀ nq, (convert 24 9 (.slice yo ls yc)).run Try.prog (w6.drewN nq) = .ok (.string (strOfNums (bs (xof (bs X ls)) ls))) (w6.drewN nq) := fun nq => run_str (w := w6.drewN nq) (fun q hq => by obtain ⟨q1, b, off, q2, q3⟩ := y2 q hq; exact ⟨q1, b, off, q2, by simpa [go_sem] using q3⟩) y1
            have s2 : ∀ nq, (convert 24 9 (.slice (A j) ls (C j))).run Try.prog (w6.drewN nq) = .ok (.string (strOfNums (bs X ls))) (w6.drewN nq) := fun nq => run_str (w := w6.drewN nq) (fun q hq => by obtain ⟨q1, b, off, q2, q3⟩ := hby7 q hq; exact ⟨q1, b, off, q2, by simpa [go_sem] using q3⟩) hnil7
            have hstr : strOfNums (bs (xof (bs X ls)) ls) = strOfNums (bs X ls) := by have := bs_xof (okb_bs hby7); rw [bs_length] at this; rw [this]
            rw [hstr] at s1
            obtain ⟨Aj, hAj⟩ : ∃ a, a = A j := ⟨_, rfl⟩
            obtain ⟨Cj, hCj⟩ : ∃ a, a = C j := ⟨_, rfl⟩
            rw [← hAj, ← hCj] at hc7 s2
            generalize strOfNums (bs X ls) = str at s1 s2
            clear hstr hby7 hnil7 y1 y2 htk htb hcell hAj hCj
            go_quiet (fail)
            have hB6 : Below wr.heap.size wr (w6.drewN nq) := below_drewN hb6 nq
            have HF : Hid (Sl (w6.drewN nq) (some ⟨b6, off6, none⟩) r2 rc2 T ∧ Below W.heap.size W (w6.drewN nq)) := ⟨HT3.out _ hB6, fin _ _ HT2.out.1 hB6⟩
            clear s1 s2 hc7 hb6 hB6 HT3
            go_wp2_with fail
            go_roundg GK
            case measure => exact HG.out.1
            case rel =>
              refine ⟨j + 1, some ⟨b6, off6, none⟩, r2, rc2, HG.out.2, by go_num, rfl, ?_, HF.out.2, HR.out.2.2.2.2⟩
              have h1 := HF.out.1
              rw [HT2.out.2.2.1] at h1
              exact h1
          · have hs' : (sl : Int) ≤ (j : Int) := by omega
            have hY0 : Y = [] := by rw [hY, if_neg hs]
            clear hs hY
            go_wp2_with (go_at_call 8; refine htk.mono ?_; rintro e wr ⟨rfl, rfl⟩)
            go_roundg GK
            case measure => exact HG.out.1
            case rel =>
              refine ⟨j + 1, some ⟨b4, off4, none⟩, r, rc, HG.out.2, by go_num, rfl, ?_, HT2.out.1, HT2.out.2.2.2⟩
              have h1 := HT2.out.2.1
              rw [hY0, List.nil_append, HT2.out.2.2.1] at h1
              exact h1
        · have hjk : j = k := by omega
          subst hjk
          have hl0 : len2 = 0 := by
            have := HT.out.1.1
            rw [Nat.sub_self] at this
            simp [restI] at this
            omega
          subst hl0
          clear hj h
          go_wp2_with (go_at_call 5; refine (awake_any _).mono ?_; rintro e w5 ⟨rfl, hb5⟩)
          go_ret
          exact ⟨rfl, fin _ _ HT.out.2.1 hb5⟩
end Go.Proofs.Ytjjmgfinapahcab
