/- The law on levels: put together again they are the text. -/
import Derived.Test.YtlbbaniehkghdabDoorTmat
namespace Go.Proofs.YtlbbaniehkghdabDoor
open Go.RowKit
set_option linter.unusedVariables false

theorem mat_a : mat [97, 47, 43, 47, 99] [97, 47, 98, 47, 99] = true := by decide +kernel
theorem mat_b : mat [43] [36, 120] = false := by decide +kernel
theorem small_ok {s : ByteArray} (h : s.size ≤ 64) : s.size ≤ maxLen := by unfold maxLen; omega

theorem awake_any (w : World) : Calls Tryd.prog 6 #[] w fun e w' => e = .returned (.bool true) ∧ Below w.heap.size w w' := by
  have h1 := tmat_any ⟨#[97, 47, 43, 47, 99]⟩ ⟨#[97, 47, 98, 47, 99]⟩ w (small_ok (by decide)) (small_ok (by decide))
  have h2 := fun w => tmat_any ⟨#[43]⟩ ⟨#[36, 120]⟩ w (small_ok (by decide)) (small_ok (by decide))
  have e1 : mat (ByteArray.mk #[97, 47, 43, 47, 99]).data.toList (ByteArray.mk #[97, 47, 98, 47, 99]).data.toList = true := mat_a
  have e2 : mat (ByteArray.mk #[43]).data.toList (ByteArray.mk #[36, 120]).data.toList = false := mat_b
  rw [e1] at h1
  simp only [e2] at h2
  go_enter Tryd.func6, Tryd.ntmps6
  go_wp2_with fail
  refine h1.mono ?_
  rintro e w1 ⟨rfl, hb1⟩
  go_wp2_with fail
  refine (h2 w1).mono ?_
  rintro e w2 ⟨rfl, hb2⟩
  go_wp2_with fail
  go_ret
  exact ⟨rfl, hb1.trans (hb2.mono hb1.size)⟩

theorem jn_snoc : ∀ (l : List (List UInt8)) (x : List UInt8), l ≠ [] → jn (l ++ [x]) = jn l ++ 47 :: x
  | [], _, h => absurd rfl h
  | [y], x, _ => rfl
  | y :: z :: r, x, _ => by
    have := jn_snoc (z :: r) x (by simp)
    rw [List.cons_append, jn_cons y (by simp), this, jn_cons y (by simp), List.append_assoc]
    rfl
theorem jn_len : ∀ (l : List (List UInt8)), (∀ x ∈ l, x.length ≤ 64) → (jn l).length ≤ 65 * l.length
  | [], _ => by simp [jn]
  | [x], h => by have := h x (by simp); simp [jn]; omega
  | x :: y :: r, h => by
    have h1 := h x (by simp)
    have h2 := jn_len (y :: r) fun z hz => h z (by simp [hz])
    rw [jn_cons x (by simp), List.length_append, List.length_cons, List.length_cons]
    omega
theorem app_list (a b : ByteArray) : (a ++ b).data.toList = a.data.toList ++ b.data.toList := by simp
theorem jn_take : ∀ (l : List (List UInt8)) (k : Nat), (jn (l.take k)).length ≤ (jn l).length
  | l, 0 => by simp [jn]
  | [], k + 1 => by simp
  | [x], k + 1 => by simp [jn]
  | x :: y :: r, 1 => by simp [jn]
  | x :: y :: r, k + 2 => by
    have h := jn_take (y :: r) (k + 1)
    rw [List.take_succ_cons] at h ⊢
    rw [List.take_succ_cons, jn_cons x (by simp), jn_cons x (by simp)]
    simp only [List.length_append, List.length_cons]
    omega
theorem count_at (s : ByteArray) (k : Nat) (h : k < s.size) : (s.data.toList.take (k + 1)).count 47 = (s.data.toList.take k).count 47 + (if s[k] = 47 then 1 else 0) := by
  have h' : k < s.data.toList.length := by rw [len_data]; exact h
  have e : s.data.toList.take (k + 1) = s.data.toList.take k ++ [s[k]] := by
    rw [List.take_add_one, List.getElem?_eq_getElem h']
    rfl
  rw [e, List.count_append]
  congr 1
  by_cases q : s[k] = 47
  · simp [q]
  · simp [q]

set_option maxHeartbeats 2000000 in
set_option maxRecDepth 100000 in
theorem levels_any (s : ByteArray) (w : World) (hs : s.size ≤ 1099511627000) : Calls Tryd.prog 3 #[.string s] w fun e w' => e = .returned (.bool true) ∧ Below w.heap.size w w' := by
  have h1 := tlev_any s w hs
  have hs62 : s.size ≤ 2 ^ 62 := by omega
  have hlen := lv_le s.data.toList
  have hcnt := lv_length s.data.toList
  have hne := lv_ne s.data.toList
  have hct := List.count_le_length (a := (47 : UInt8)) (l := s.data.toList)
  rw [len_data] at hlen hct
  go_enter Tryd.func3, Tryd.ntmps3
  go_upto_region 2 with (go_at_call 5; refine h1.mono ?_; rintro e w3 ⟨v, ys, rfl, r3, e3, hb3⟩)
  have hxl : ys.length = (lv s.data.toList).length := by rw [← e3]; simp
  have hpos : 0 < ys.length := by
    rw [hxl]
    exact List.length_pos_iff.2 hne
  obtain ⟨g, cap, hv, hcap⟩ := r3.shape hpos
  subst hv
  obtain ⟨m, hm⟩ : ∃ m, ys.length = m + 1 := ⟨ys.length - 1, by omega⟩
  rw [hm] at r3 hcap hxl ⊢
  obtain ⟨L, hL⟩ : ∃ L, L = ys.map (fun x => x.data.toList) := ⟨_, rfl⟩
  obtain ⟨Y, hYe⟩ : ∃ Y : Nat → ByteArray, Y = fun k => ys.getD k ⟨#[]⟩ := ⟨_, rfl⟩
  have hcl : ∀ k, k < m + 1 → w3.cell? ⟨g, k, none⟩ = some (.string (Y k)) := fun k hk => by rw [hYe]; exact (r3.at hm k hk).1
  have hYL : ∀ k, k < m + 1 → L[k]? = some (Y k).data.toList := fun k hk => by
    rw [hL, hYe]
    simp [List.getElem?_eq_getElem (show k < ys.length by omega)]
  have hLl : L.length = m + 1 := by rw [hL, List.length_map, hm]
  have hm40 : m ≤ 1099511627000 := by omega
  have HL : Hid ((∀ k, k < m + 1 → w3.cell? ⟨g, k, none⟩ = some (.string (Y k))) ∧ (∀ k, k < m + 1 → L[k]? = some (Y k).data.toList) ∧ L.length = m + 1 ∧ L = lv s.data.toList ∧ (∀ x ∈ L, x.length ≤ s.size) ∧ Below w.heap.size w w3 ∧ m + 1 = s.data.toList.count 47 + 1) := ⟨hcl, hYL, hLl, hL.trans e3, by rw [hL, e3]; exact hlen, hb3, by omega⟩
  have hc0 : w3.cell? ⟨g, 0, none⟩ = some (.string (Y 0)) := hcl 0 (by omega)
  obtain ⟨rc, rfl⟩ : ∃ rc, cap = rc + 1 := ⟨cap - 1, by omega⟩
  have hmr : (m : Int) ≤ (rc : Int) := by omega
  have hz : (((m : Int) + 1) == 0) = false := by simp; omega
  have hzz : ¬ (m : Int) + 1 = 0 := by omega
  obtain ⟨b5, off5, hif, hb5⟩ : ∃ b5 off5, (if rc = 0 then some (⟨g, 0, none⟩ : Addr) else some ⟨g, 1, none⟩) = some ⟨b5, off5, none⟩ ∧ (0 < m → b5 = g ∧ off5 = 1) := by
    by_cases q : rc = 0
    · exact ⟨g, 0, by simp [q], fun h => by omega⟩
    · exact ⟨g, 1, by simp [q], fun _ => ⟨rfl, rfl⟩⟩
  have HS : Hid (s.size ≤ 1099511627000) := hs
  clear h1 r3 hm e3 hb3 hxl hpos hne hcnt hct hlen hcap hL hYe hcl hYL hLl hs
  go_wp2_with fail
  go_loopg [4, 16] s.size (fun g2 c i wr => ∃ (k : Nat) (t : Nat), k + g2 = s.size ∧ i = .int .i64 (k : Int) ∧ c = .int .i64 (t : Int) ∧ wr = w3 ∧ Hid (t = (s.data.toList.take k).count 47 + 1 ∧ t ≤ k + 1))
  case atStart => exact ⟨0, 1, by omega, rfl, rfl, rfl, by simp, by omega⟩
  case round =>
    obtain ⟨k, t, hk, rfl, rfl, hw, HK⟩ := hrel
    obtain rfl := hw
    by_cases h : k < s.size
    · have h' : (k : Int) < (s.size : Int) := by omega
      have ht62 : t ≤ 2 ^ 62 := by have := HK.out; have := HS.out; omega
      have hca := count_at s k h
      obtain ⟨GK, HG⟩ : ∃ g, Hid (g < gk ∧ k + 1 + g = s.size) := ⟨gk - 1, by omega, by omega⟩
      clear hk
      by_cases q : (s[k].toNat : Int) = 47
      · have b47 : ((s[k].toNat : Int) == 47) = true := by simp [q]
        rw [if_pos (show s[k] = 47 from u8_of (n := 47) (by decide) q)] at hca
        have HN : Hid (t + 1 = (s.data.toList.take (k + 1)).count 47 + 1 ∧ t + 1 ≤ k + 1 + 1) := ⟨by have := HK.out; omega, by have := HK.out; omega⟩
        clear hca
        go_wp2_with fail
        go_roundg GK
        case measure => exact HG.out.1
        case rel => exact ⟨k + 1, t + 1, HG.out.2, by go_num, by go_num, rfl, HN⟩
      · have b47 : ((s[k].toNat : Int) == 47) = false := by simp [q]
        rw [if_neg (fun e => q (by rw [e]; rfl))] at hca
        have HN : Hid (t = (s.data.toList.take (k + 1)).count 47 + 1 ∧ t ≤ k + 1 + 1) := ⟨by have := HK.out; omega, by have := HK.out; omega⟩
        clear hca
        go_wp2_with fail
        go_roundg GK
        case measure => exact HG.out.1
        case rel => exact ⟨k + 1, t, HG.out.2, by go_num, rfl, rfl, HN⟩
    · have h' : (s.size : Int) ≤ (k : Int) := by omega
      have htm : t = m + 1 := by
        have h1 := HK.out.1
        rw [List.take_of_length_le (by rw [len_data]; omega)] at h1
        have := HL.out.2.2.2.2.2.2
        omega
      have htI : (t : Int) = (m : Int) + 1 := by omega
      have e17 : decide (k < s.size) = false := by simp; omega
      rw [htI]
      clear hk h htm
      have hsz : ∀ (k : Nat) (u : ByteArray), u.data.toList = jn (L.take (k + 1)) → u.size ≤ s.size := fun k u h => by
        have h1 := jn_take L (k + 1)
        rw [← h, len_data, HL.out.2.2.2.1, jn_lv, len_data] at h1
        exact h1
      have hstart : (Y 0).data.toList = jn (L.take (0 + 1)) := by
        have h0 := HL.out.2.1 0 (by omega)
        cases e : L with
        | nil => rw [e] at h0; simp at h0
        | cons a r =>
          rw [e] at h0
          simp at h0
          simp [jn, h0]
      have HST : Hid ((Y 0).data.toList = jn (L.take (0 + 1))) := hstart
      clear hstart
      go_wp2_with fail
      try simp only [e17]
      go_loopg [6, 32] m (fun g2 wd i wr2 => ∃ (k : Nat) (u : ByteArray), k + g2 = m ∧ i = .int .i64 (k : Int) ∧ wd = .string u ∧ wr2 = wr ∧ Hid (u.data.toList = jn (L.take (k + 1))))
      case atStart => exact ⟨0, Y 0, by omega, rfl, rfl, rfl, HST⟩
      case round =>
        obtain ⟨k, u, hk, rfl, rfl, hw, HK⟩ := hrel
        obtain rfl := hw
        have hs5 := hsz k u HK.out
        by_cases h : k < m
        · have h' : (k : Int) < (m : Int) := by omega
          obtain ⟨rfl, rfl⟩ := hb5 (by omega)
          have hcell := HL.out.1 (k + 1) (by omega)
          have hYk := HL.out.2.1 (k + 1) (by omega)
          rw [show k + 1 = 1 + k by omega] at hcell
          obtain ⟨y, hy⟩ : ∃ y, y = Y (1 + k) := ⟨_, rfl⟩
          rw [← hy] at hcell
          have hyk : L[k + 1]? = some y.data.toList := by rw [hYk, hy, show k + 1 = 1 + k by omega]
          have hy64 : y.size ≤ s.size := by
            have := HL.out.2.2.2.2.1 _ (List.mem_of_getElem? hyk)
            rw [len_data] at this
            exact this
          obtain ⟨GK, HG⟩ : ∃ g, Hid (g < gk ∧ k + 1 + g = m) := ⟨gk - 1, by omega, by omega⟩
          have hadd1 : ∀ w, (Op.stringOp .add (ByteArray.mk #[47]) y).run Tryd.prog w = .ok (.string (ByteArray.mk #[47] ++ y)) w := fun w => run_string_add_sum (P := Tryd.prog) (w := w) _ _ (by have : (ByteArray.mk #[47]).size = 1 := rfl; have := HS.out; omega)
          have hcs : (ByteArray.mk #[47] ++ y).size = 1 + y.size := by rw [ByteArray.size_append]; rfl
          have hadd2 : ∀ w, (Op.stringOp .add u (ByteArray.mk #[47] ++ y)).run Tryd.prog w = .ok (.string (u ++ (ByteArray.mk #[47] ++ y))) w := fun w => run_string_add_sum (P := Tryd.prog) (w := w) _ _ (by have := HS.out; omega)
          obtain ⟨t, ht⟩ : ∃ t, t = u ++ (ByteArray.mk #[47] ++ y) := ⟨_, rfl⟩
          have HTt : Hid (t.data.toList = jn (L.take (k + 1 + 1))) := by
            show t.data.toList = jn (L.take (k + 1 + 1))
            have e1 : L.take (k + 1 + 1) = L.take (k + 1) ++ [y.data.toList] := by
              rw [List.take_add_one, hyk]
              rfl
            have hne2 : L.take (k + 1) ≠ [] := by
              intro e
              have := congrArg List.length e
              rw [List.length_take, HL.out.2.2.1] at this
              simp at this
            rw [e1, jn_snoc _ _ hne2, ← HK.out, ht, app_list, app_list]
            rfl
          clear hk h hYk hy hyk hcs
          go_wp2_with fail
          go_roundg GK
          case measure => exact HG.out.1
          case rel => exact ⟨k + 1, t, HG.out.2, by go_num, by rw [ht], rfl, HTt⟩
        · have h' : (m : Int) ≤ (k : Int) := by omega
          have hall : u.data.toList = s.data.toList := by
            have := HK.out
            rw [List.take_of_length_le (by rw [HL.out.2.2.1]; omega), HL.out.2.2.2.1, jn_lv] at this
            exact this
          have bus : (u.toList == s.toList) = true := by rw [tl_eq, tl_eq, hall]; simp
          clear hk h hall hs5
          go_wp2_with fail
          refine (awake_any _).mono ?_
          rintro e w6 ⟨rfl, hb6⟩
          go_wp2_with fail
          go_ret
          have B4 := HL.out.2.2.2.2.2.1
          exact ⟨rfl, B4.trans (hb6.mono B4.size)⟩
end Go.Proofs.YtlbbaniehkghdabDoor
