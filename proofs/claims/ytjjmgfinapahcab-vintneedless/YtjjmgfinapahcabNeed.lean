/- The law on needless bytes of 0. -/
import Derived.Test.YtjjmgfinapahcabBackA
namespace Go.Proofs.Ytjjmgfinapahcab
open Go.RowKit
set_option linter.unusedVariables false

/-- A number's bytes, the last one marked as if more followed, and a 0 behind. -/
theorem need_tail {m : Nat} {L U : List Int} {t : Nat} {c : Int} (hU : U = uv m) (ht : U.length = t + 1) (hc : c = U.getD t 0 + 128) (hL : L = U.set t c ++ [0]) :
    Okb L ∧ L.length = t + 2 ∧ IsEnd (xof L) (t + 2) (t + 1) ∧ val (xof L) (t + 1 + 1) = m ∧ ¬ good (xof L) (t + 1) := by
  have hok := okb_uv m
  rw [← hU] at hok
  obtain ⟨r1, r2, r3, r4⟩ := uv_read m (xof U) (by rw [hU]; exact begins_xof' (okb_uv m))
  rw [← hU, ht] at r1 r2 r3
  simp only [Nat.add_sub_cancel] at r2
  have hlen : L.length = t + 2 := by rw [hL]; simp [ht]
  have g : ∀ k, L.getD k 0 = if k < t then U.getD k 0 else if k = t then c else 0 := fun k => by
    rw [hL]
    simp only [List.getD_eq_getElem?_getD]
    rcases Nat.lt_or_ge k t with h | h
    · rw [List.getElem?_append_left (by simp; omega), List.getElem?_set_ne (by omega), if_pos h]
    · rcases Nat.eq_or_lt_of_le h with h' | h'
      · subst h'
        rw [List.getElem?_append_left (by simp; omega), List.getElem?_set_self (by omega)]
        simp
      · rw [List.getElem?_append_right (by simp; omega), if_neg (by omega), if_neg (by omega)]
        cases hq : ([0] : List Int)[k - (U.set t c).length]? with
        | none => rfl
        | some y =>
          have := List.mem_of_getElem? hq
          simp at this
          simp [this]
  have hx : ∀ k, k < t + 1 → 0 ≤ U.getD k 0 ∧ U.getD k 0 < 256 := fun k hk => by
    have := hok U[k] (List.getElem_mem (by omega))
    simpa [List.getD_eq_getElem?_getD, List.getElem?_eq_getElem (show k < U.length by omega)] using this
  have hxu : ∀ k, xof U k = (U.getD k 0).toNat := fun _ => rfl
  have hxl : ∀ k, xof L k = (L.getD k 0).toNat := fun _ => rfl
  have hU128 : U.getD t 0 < 128 := by have := hxu t; have := hx t (by omega); omega
  have hz1 : ∀ k, k < t → xof L k = xof U k := fun k hk => by rw [hxl, hxu, g, if_pos hk]
  have hz2 : xof L t = xof U t + 128 := by
    have := hx t (by omega)
    rw [hxl, hxu, g, if_neg (by omega), if_pos rfl, hc]
    omega
  have hz3 : xof L (t + 1) = 0 := by rw [hxl, g, if_neg (by omega), if_neg (by omega)]; rfl
  refine ⟨?_, hlen, ⟨by omega, fun j hj => ?_, fun _ => by omega⟩, ?_, fun h => h.1 ⟨by omega, hz3⟩⟩
  · rw [hL]
    intro y hy
    rcases List.mem_append.1 hy with h | h
    · rcases List.mem_or_eq_of_mem_set h with h | h
      · exact hok y h
      · have := hx t (by omega); omega
    · simp at h
      omega
  · rcases Nat.lt_or_ge j t with h | h
    · rw [hz1 j h]; exact r1 j (by omega)
    · obtain rfl : j = t := by omega
      omega
  · have e1 : val (xof L) (t + 1 + 1) = val (xof L) (t + 1) + xof L (t + 1) % 128 * 128 ^ (t + 1) := rfl
    rw [e1, hz3]
    have e2 : val (xof L) (t + 1) = val (xof U) (t + 1) := val_congr fun k hk => by
      rcases Nat.lt_or_ge k t with h | h
      · rw [hz1 k h]
      · obtain rfl : k = t := by omega
        omega
    rw [e2, val_eq_tv, r3]
    omega

set_option maxHeartbeats 1000000 in
set_option maxRecDepth 100000 in
theorem need_any (x : Int) (W : World) :
    Calls Try.prog 4 #[.int .i64 x] W fun e w' => e = .returned (.bool true) ∧ Below W.heap.size W w' := by
  obtain ⟨m, hm, hm3⟩ : ∃ m : Nat, (IntKind.u64.wrap x).tmod 2097152 = (m : Int) ∧ m < 2097152 := by
    have h0 : 0 ≤ IntKind.u64.wrap x := by rw [wrapU64]; omega
    refine ⟨((IntKind.u64.wrap x) % 2097152).toNat, ?_, by omega⟩
    rw [Int.tmod_eq_emod_of_nonneg h0]
    omega
  have hm64 : wrap64 (m : Int) = (m : Int) := by unfold wrap64; omega
  have hL := length_any (m : Int) W
  have hok : LenOk (m : Int) := by unfold LenOk; omega
  have e1 : lenB (m : Int) = uv m := by unfold lenB; rw [if_pos hok]; simp
  have e2 : lenF (m : Int) = 0 := if_pos hok
  rw [e1, e2] at hL
  have hu3 : (uv m).length ≤ 3 := uv_len_le 3 m (by decide) (by simpa using hm3)
  obtain ⟨t, ht⟩ : ∃ t, (uv m).length = t + 1 := ⟨(uv m).length - 1, by have := uv_pos m; omega⟩
  obtain ⟨U, hU⟩ : ∃ U, U = uv m := ⟨_, rfl⟩
  have HU : Hid (U = uv m ∧ Okb U ∧ m < 2097152) := ⟨hU, hU ▸ okb_uv m, hm3⟩
  rw [← hU] at hL hu3 ht
  clear hU hm3 e1 e2 hok
  have ht2 : t ≤ 2 := by omega
  go_enter Try.func4, Try.ntmps4
  go_upto_region 2 with fail
  first | rw [hm, hm64] | simp only [hm64]
  generalize IntKind.u64.wrap x = y
  clear hm hm64
  go_upto_region 5 with (go_at_call 10; refine hL.mono ?_; rintro e w1 ⟨po, pc, rfl, m1, m2, m3, m4, m5⟩)
  have H1 : Hid (Byt w1 po U.length (xof U) ∧ (po = none → U.length = 0 ∧ pc = 0) ∧ Okb U ∧ U.length ≤ 140737488351232) := ⟨m4, m1, HU.out.2.1, by omega⟩
  have M : Hid (Below W.heap.size W w1) := m5
  clear hL m1 m2 m3 m4 m5
  go_upto_region 6 with (at_builtin; refine wpList_one (W := w1) (s := .tmp 33) (x := .tmp 34) rfl rfl rfl (by rw [ht]; rfl) H1 ?_; intro v2 w2 hr2 hb2)
  obtain ⟨g, cap2, hv2⟩ : ∃ g cap2, v2 = .slice (some ⟨g, 0, none⟩) (t + 1) cap2 := by
    rcases hr2.2 with ⟨_, h0⟩ | ⟨g, cap, cur, h, _⟩
    · omega
    · exact ⟨g, cap, ht ▸ h⟩
  subst hv2
  have hr2' : w2.ownsRow w1.heap.size 5 1 (.slice (some ⟨g, 0, none⟩) (t + 1) cap2) (t + 1) (U.map (Value.int .u8)) := by have := hr2; unfold Row at this; rw [ht] at this; exact this
  obtain ⟨c0, hc0⟩ : ∃ c0 : Nat, c0 = xof U t := ⟨_, rfl⟩
  have hU0 : U.getD t 0 = (c0 : Int) ∧ c0 < 128 := by
    obtain ⟨_, r2, _⟩ := uv_read m (xof U) (by rw [HU.out.1]; exact begins_xof' (okb_uv m))
    rw [← HU.out.1, ht] at r2
    simp only [Nat.add_sub_cancel] at r2
    have h1 := HU.out.2.1 U[t] (List.getElem_mem (by omega))
    have h2 : U.getD t 0 = U[t] := by simp [List.getD_eq_getElem?_getD, List.getElem?_eq_getElem (show t < U.length by omega)]
    have h3 : xof U t = (U.getD t 0).toNat := rfl
    omega
  have hcell : w2.cell? ⟨g, t, none⟩ = some (.int .u8 (c0 : Int)) := by
    rw [hr2'.cellAt t (by omega)]
    have h2 : U[t]? = some (c0 : Int) := by
      have := hU0.1
      rw [List.getD_eq_getElem?_getD, List.getElem?_eq_getElem (show t < U.length by omega)] at this
      rw [List.getElem?_eq_getElem (show t < U.length by omega)]
      simpa using this
    simp [h2]
  have hfz : w2.frozen? ⟨g, t, none⟩ = false := hr2'.frozenAt t
  obtain ⟨c, hc⟩ : ∃ c : Nat, c = c0 + 128 := ⟨_, rfl⟩
  have hor : bits .or .u8 (c0 : Int) 128 = (c : Int) := by rw [or128 (by omega), hc]; congr 2; omega
  have HC : Hid (c = c0 + 128 ∧ U.getD t 0 = (c0 : Int) ∧ c0 < 128) := ⟨hc, hU0⟩
  obtain ⟨hst, hgr⟩ := hr2'.stored t (.int .u8 (c : Int))
  have hr3 : Row w1.heap.size (w2.setCell ⟨g, t, none⟩ (.int .u8 (c : Int))) (.slice (some ⟨g, 0, none⟩) (t + 1) cap2) (U.set t (c : Int)) := by
    unfold Row
    rw [List.map_set, List.length_set, ht]
    exact hst
  have hb3 : Below w1.heap.size w1 (w2.setCell ⟨g, t, none⟩ (.int .u8 (c : Int))) := hb2.trans (grown_below hr2 hgr hb2.size)
  have HR : Hid (Row w1.heap.size (w2.setCell ⟨g, t, none⟩ (.int .u8 (c : Int))) (.slice (some ⟨g, 0, none⟩) (t + 1) cap2) (U.set t (c : Int)) ∧ Below w1.heap.size w1 (w2.setCell ⟨g, t, none⟩ (.int .u8 (c : Int)))) := ⟨hr3, hb3⟩
  have hcap : (t : Int) + 1 ≤ (cap2 : Int) := by
    rcases hr2'.2 with ⟨h, _⟩ | ⟨g', cap, cur, h, _, _, h2, _⟩
    · cases h
    · simp at h; omega
  clear hr2 hr2' hb2 hst hgr hr3 hb3 hc hc0 hU0 H1
  go_upto_region 7 with fail
  generalize w2.setCell ⟨g, t, none⟩ (.int .u8 (c : Int)) = w3 at HR ⊢
  clear hcell hfz hor
  have htl : ∀ v w, Row w1.heap.size w v (U.set t (c : Int) ++ [0]) → ∃ ao cap, v = .slice ao (t + 2) cap ∧
      Calls Try.prog 11 #[.slice ao (t + 2) cap] w (fun e w' => e = .returned (.tuple #[.int .i64 (m : Int), .int .i64 ((t : Int) + 1 + 1), .int .i64 0]) ∧ w' = w) ∧
      Calls Try.prog 8 #[.slice ao (t + 2) cap] w (fun e w' => e = .returned (.tuple #[.int .u64 0, .int .i64 0, .int .i64 3]) ∧ w' = w) := fun v w h => by
    obtain ⟨k1, k2, k3, k4, k5⟩ := need_tail (L := U.set t (c : Int) ++ [0]) (c := (c : Int)) HU.out.1 ht (by have := HC.out; omega) rfl
    obtain ⟨ao, cap, hv, q1, q2, q3, q4⟩ := h.byt k1
    rw [k2] at hv q2 q4
    refine ⟨ao, cap, hv, ?_, ?_⟩
    · have h1 := tlen_any ao (t + 2) cap (t + 1) _ w q4 q2 (by rw [Nat.min_eq_left (by omega)]; exact k3)
      have e : tlenV (xof (U.set t (c : Int) ++ [0])) (t + 2) (t + 1) = .tuple #[.int .i64 (m : Int), .int .i64 ((t : Int) + 1 + 1), .int .i64 0] := by
        unfold tlenV
        rw [if_pos (by omega), k4]
        rfl
      rw [e] at h1
      exact h1
    · have h1 := take_any ao (t + 2) cap (t + 1) _ w q4 q2 q3 k3
      have e : takeV (xof (U.set t (c : Int) ++ [0])) (t + 2) (t + 1) = .tuple #[.int .u64 0, .int .i64 0, .int .i64 3] := by
        unfold takeV
        rw [if_pos (by omega), if_neg k5]
      rw [e] at h1
      exact h1
  have hsz : (U.set t (c : Int)).length + 1 ≤ 140737488355328 := by rw [List.length_set]; omega
  go_upto_region 8 with (at_builtin; refine wpList_app rfl (.tmp 44) (.tmp 45) rfl w1.heap.size _ (U.set t (c : Int)) rfl (HR.out.1.alloc _) (some ⟨w3.heap.size, 0, none⟩) 1 1 (fun _ => 0) rfl (fun e => by cases e) (byt_one w3 0 (by decide)) hsz (by have := HR.out.2.size; simp; omega) ?_; intro v4 w4 hr4 hg4 hm4)
  have HB : Hid (Below W.heap.size W w4) := by
    have h3 : Below w1.heap.size w1 (w3.alloc (.cells #[.int .u8 0] 5)) := HR.out.2.alloc HR.out.2.size _
    have h4 : Below w1.heap.size w1 w4 := h3.trans (grown_below (HR.out.1.alloc _) hg4 h3.size)
    exact M.out.trans (h4.mono M.out.size)
  obtain ⟨ao4, cap4, rfl, htk, htq⟩ := htl v4 w4 hr4
  clear htl hr4 hg4 hm4 hsz HR M
  go_wp2_with (first | (go_at_call 11; refine htk.mono ?_; rintro e w4 ⟨rfl, rfl⟩) | (go_at_call 8; refine htq.mono ?_; rintro e w4 ⟨rfl, rfl⟩) | (go_at_call 5; refine (awake_any _).mono ?_; rintro e w5 ⟨rfl, hb5⟩))
  go_ret
  exact ⟨rfl, HB.out.trans (hb5.mono HB.out.size)⟩
end Go.Proofs.Ytjjmgfinapahcab
