/- The law on texts, names, clients and levels. -/
import Derived.Test.YtlbbaniehkghdaaDoorLaws
namespace Go.Proofs.YtlbbaniehkghdaaDoor
open Go.RowKit
set_option linter.unusedVariables false

set_option maxHeartbeats 1000000 in
set_option maxRecDepth 100000 in
theorem same_any (ao1 ao2 : Option Addr) (n cap1 cap2 : Nat) (F G : Nat → ByteArray) (w : World) (hF : Strs w ao1 n F) (hG : Strs w ao2 n G) (he : ∀ k, k < n → (F k).data.toList = (G k).data.toList) (hn : n ≤ maxLen) :
    Calls Tryd.prog 15 #[.slice ao1 n cap1, .slice ao2 n cap2] w fun e w' => e = .returned (.bool true) ∧ ∃ m, w' = w.drewN m := by
  have H : Hid (Strs w ao1 n F ∧ Strs w ao2 n G ∧ ∀ k, k < n → (F k).data.toList = (G k).data.toList) := ⟨hF, hG, he⟩
  have hn63 : n ≤ 2 ^ 63 - 1 := by unfold maxLen at hn; omega
  clear hF hG he hn
  go_enter Tryd.func15, Tryd.ntmps15
  go_wp2_with fail
  go_loopg [13] n (fun g i wr => ∃ k m : Nat, k + g = n ∧ i = .int .i64 (k : Int) ∧ wr = w.drewN m)
  case atStart => exact ⟨0, 0, by omega, rfl, rfl⟩
  case round =>
    obtain ⟨k, m, hk, rfl, rfl⟩ := hrel
    by_cases h : k < n
    · have h' : (k : Int) < (n : Int) := by omega
      obtain ⟨b1, off1, hao1, hc1⟩ := H.out.1 k h
      obtain ⟨b2, off2, hao2, hc2⟩ := H.out.2.1 k h
      have hxy := H.out.2.2 k h
      subst hao1 hao2
      obtain ⟨x, hx⟩ : ∃ x, x = F k := ⟨_, rfl⟩
      obtain ⟨y, hy⟩ : ∃ y, y = G k := ⟨_, rfl⟩
      rw [← hx] at hc1 hxy
      rw [← hy] at hc2 hxy
      have bxy : (x.toList == y.toList) = true := by rw [tl_eq, tl_eq, hxy]; simp
      have bxy' : (x.toList != y.toList) = false := by unfold bne; rw [bxy]; rfl
      obtain ⟨GK, HG⟩ : ∃ g, Hid (g < gk ∧ k + 1 + g = n) := ⟨gk - 1, by omega, by omega⟩
      clear hk h hx hy hxy
      go_wp2_with fail
      go_quiet (fail)
      go_wp2_with fail
      go_roundg GK
      case measure => exact HG.out.1
      case rel => exact ⟨k + 1, _, HG.out.2, by go_num, rfl⟩
    · have h' : (n : Int) ≤ (k : Int) := by omega
      clear hk h
      go_wp2_with fail
      go_ret
      exact ⟨rfl, m, rfl⟩

theorem str_list (X : Nat → Nat) (len : Nat) : (strOfNums (bs X len)).data.toList = ul X len := by
  rw [strOfNums_data]
  simp [bs, ul]
theorem str_size (X : Nat → Nat) (len : Nat) : (strOfNums (bs X len)).size = len := by rw [strOfNums_size, bs_length]

theorem same_rows (B1 B2 : Nat) (w : World) (v1 v2 : Value) (xs ys : List ByteArray) (h1 : RowS B1 w v1 xs) (h2 : RowS B2 w v2 ys) (he : xs.map (fun x => x.data.toList) = ys.map (fun x => x.data.toList)) : Calls Tryd.prog 15 #[v1, v2] w fun e w' => e = .returned (.bool true) ∧ ∃ m, w' = w.drewN m := by
  obtain ⟨ao1, cap1, rfl, c1, c2, c3⟩ := h1.strs
  obtain ⟨ao2, cap2, rfl, d1, d2, d3⟩ := h2.strs
  have hl : xs.length = ys.length := by have := congrArg List.length he; simpa using this
  rw [← hl] at d3 ⊢
  refine same_any ao1 ao2 xs.length cap1 cap2 _ _ w c3 d3 (fun k hk => ?_) (by omega)
  have h3 : (xs.map (fun x => x.data.toList))[k]? = (ys.map (fun x => x.data.toList))[k]? := by rw [he]
  have hk' : k < ys.length := by omega
  simp [List.getElem?_eq_getElem hk, List.getElem?_eq_getElem hk'] at h3
  simp [List.getElem?_eq_getElem hk, List.getElem?_eq_getElem hk', h3]
theorem RowS.later {B : Nat} {w w' : World} {v : Value} {xs : List ByteArray} (h : RowS B w v xs) (hb : Below w.heap.size w w') : RowS B w' v xs := by
  refine ⟨h.1, ?_⟩
  rcases h.2 with q | ⟨g, cap, cur, h1, h2, h3, h4⟩
  · exact .inl q
  · refine .inr ⟨g, cap, cur, h1, h2, ?_, h4⟩
    have hg : g < w.heap.size := by
      rcases Nat.lt_or_ge g w.heap.size with q | q
      · exact q
      · simp [q] at h3
    rw [hb.block g hg]
    exact h3

set_option maxHeartbeats 1000000 in
set_option maxRecDepth 100000 in
theorem texts_any (ao : Option Addr) (len cap : Nat) (X : Nat → Nat) (w : World) (hb : Byt w ao len X) (hnil : ao = none → len = 0 ∧ cap = 0) (hl : len ≤ cap) (hc : cap ≤ maxLen) (h40 : len ≤ 1099511627000) :
    Calls Tryd.prog 3 #[.slice ao len cap] w fun e w' => e = .returned (.bool true) ∧ Below w.heap.size w w' := by
  have hs := run_str (cap := cap) hb hnil
  obtain ⟨s, hse⟩ : ∃ s, s = strOfNums (bs X len) := ⟨_, rfl⟩
  have hsz : s.size = len := by rw [hse]; exact str_size X len
  rw [← hse] at hs
  have h1 := fun w h => ttext_any ao len cap X w h hl hc
  have h2 := fun w h => rtext_any ao len cap X w h hl hc
  have hsm : s.size ≤ maxLen := by omega
  have h3 := fun w => tname_any s w hsm
  have h4 := fun w => rname_any s w hsm
  have h5 := fun w => tclient_any s w hsm
  have h6 := fun w => rclient_any s w hsm
  have h7 := fun w => tlev_any s w (by omega)
  have h8 := fun w => rlev_any s w (by omega)
  generalize text (ul X len) = T at h1 h2
  generalize nam s.data.toList = NM at h3 h4
  generalize cli s.data.toList = CL at h5 h6
  have HB : Hid (Byt w ao len X) := hb
  clear hb hnil hl hc h40 hse hsz hsm
  go_enter Tryd.func3, Tryd.ntmps3
  go_wp2_with fail
  refine (h1 w HB.out).mono ?_
  rintro e w ⟨rfl, rfl⟩
  go_wp2_with fail
  refine (h2 w HB.out).mono ?_
  rintro e w ⟨rfl, rfl⟩
  clear h1 h2 hs
  go_wp2_with fail
  refine (h3 w).mono ?_
  rintro e w1 ⟨rfl, hb1⟩
  go_wp2_with fail
  refine (h4 w1).mono ?_
  rintro e w2 ⟨rfl, hb2⟩
  go_wp2_with fail
  refine (h5 w2).mono ?_
  rintro e w3 ⟨rfl, hb3⟩
  go_wp2_with fail
  refine (h6 w3).mono ?_
  rintro e w4 ⟨rfl, hb4⟩
  clear h3 h4 h5 h6
  go_wp2_with fail
  refine (h7 w4).mono ?_
  rintro e w5 ⟨v5, xs, rfl, r5, e5, hb5⟩
  have H5 : Hid (RowS w4.heap.size w5 v5 xs ∧ xs.map (fun x => x.data.toList) = lv s.data.toList ∧ Below w4.heap.size w4 w5) := ⟨r5, e5, hb5⟩
  clear r5 e5 hb5
  go_wp2_with fail
  refine (h8 w5).mono ?_
  rintro e w6 ⟨v6, ys, rfl, r6, e6, hb6⟩
  have H6 : Hid (RowS w5.heap.size w6 v6 ys ∧ ys.map (fun x => x.data.toList) = lv s.data.toList ∧ Below w5.heap.size w5 w6) := ⟨r6, e6, hb6⟩
  clear r6 e6 hb6
  go_wp2_with fail
  refine (same_rows _ _ w6 v5 v6 xs ys (H5.out.1.later H6.out.2.2) H6.out.1 (H5.out.2.1.trans H6.out.2.1.symm)).mono ?_
  rintro e w7 ⟨rfl, m, rfl⟩
  go_wp2_with fail
  refine (awake_any _).mono ?_
  rintro e w8 ⟨rfl, hb8⟩
  go_wp2_with fail
  go_ret
  have B2 := hb1.trans (hb2.mono hb1.size)
  have B3 := B2.trans (hb3.mono B2.size)
  have B4 := B3.trans (hb4.mono B3.size)
  have B5 := B4.trans (H5.out.2.2.mono B4.size)
  have B6 := B5.trans (H6.out.2.2.mono B5.size)
  have B7 := below_drewN B6 m
  exact ⟨rfl, B7.trans (hb8.mono B7.size)⟩
end Go.Proofs.YtlbbaniehkghdaaDoor
