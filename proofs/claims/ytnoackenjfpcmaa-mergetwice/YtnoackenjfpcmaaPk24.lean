import Derived.Deep.Slices
import Derived.ProofKit
import Derived.OpenShut
import Derived.Test.YtnoackenjfpcmaaPk07
import Derived.Test.YtnoackenjfpcmaaPk11
import Derived.Test.YtnoackenjfpcmaaPk21
import Derived.Test.YtnoackenjfpcmaaPk22
import Derived.Test.YtnoackenjfpcmaaPk23
/- The laws of rows as one: what they share. -/
namespace Go.Proofs.Ytnoackenjfpcmaa
open Go.RowKit
set_option linter.unusedVariables false
set_option linter.unusedSimpArgs false

theorem srtR_mem : ∀ (i : Nat) (rs : List (List EntV)), ∀ l ∈ srtR i rs, ∀ e ∈ l, ∃ l0 ∈ rs, e ∈ l0
  | _, [], l, h, e, he => by cases h
  | i, l' :: rs, l, h, e, he => by
    unfold srtR at h
    rcases List.mem_cons.1 h with rfl | h
    · split at he
      · exact ⟨l', List.mem_cons_self .., srtL_mem he⟩
      · cases he
    · obtain ⟨l0, h1, h2⟩ := srtR_mem (i + 1) rs l h e he
      exact ⟨l0, List.mem_cons_of_mem _ h1, h2⟩
theorem sumR_le {rs : List (List EntV)} {c : Nat} (h : ∀ l ∈ rs, l.length ≤ c) : sumR rs ≤ rs.length * c := by
  induction rs with
  | nil => simp [sumR]
  | cons l r ih =>
    have h1 := ih fun l' hl => h l' (List.mem_cons_of_mem _ hl)
    have h2 := h l (List.mem_cons_self ..)
    unfold sumR at *
    rw [List.map_cons, List.sum_cons, List.length_cons, Nat.add_mul]
    omega
/-- What is light, brought in order. -/
theorem lit_srt {rs : List (List EntV)} (h : litW 0 0 rs = true) : Szr (srtR 0 rs) ∧ sumR (srtR 0 rs) ≤ 2100 ∧ (srtR 0 rs).length = rs.length ∧ rs.length ≤ 70 ∧ (∀ l ∈ srtR 0 rs, ordE l) := by
  obtain ⟨h1, h2, h3⟩ := litW_ok h
  have hl : rs.length ≤ 70 := by
    rcases h1 with rfl | h1
    · simp
    · omega
  have hs := sumR_le (srtR_small 0 rs)
  rw [srtR_len] at hs
  refine ⟨⟨by rw [srtR_len]; omega, fun l hl => by have := srtR_small 0 rs l hl; omega, fun l hl e he => ?_⟩, by omega, srtR_len 0 rs, hl, srtR_ord 0 rs⟩
  obtain ⟨l0, q1, q2⟩ := srtR_mem 0 rs l hl e he
  have := (h3 l0 q1).2 e q2
  omega
/-- What is light may be merged or not, but is small. -/
theorem lit_szr {rs : List (List EntV)} (h : litW 0 0 rs = true) : Szr rs := by
  obtain ⟨h1, h2, h3⟩ := litW_ok h
  have hl : rs.length ≤ 70 := by
    rcases h1 with rfl | h1
    · simp
    · omega
  refine ⟨by omega, fun l hl => by have := (h3 l hl).1; omega, fun l hl e he => ?_⟩
  have := (h3 l hl).2 e he
  omega
theorem mrC_ok {rs : List (List EntV)} (h : ∀ l ∈ rs, ordE l) (h1 : rs.length ≤ 64) (h2 : sumR rs ≤ 40000) : mrC rs = 0 := by
  unfold mrC
  rw [if_pos (ord_all h), if_neg (by omega)]
theorem mrV_ok {rs : List (List EntV)} (h : mrC rs = 0) : mrV rs = mrgE rs := by unfold mrV; rw [if_pos h]
theorem sumR_drop : ∀ (rs : List (List EntV)) (k : Nat), sumR (rs.drop k) ≤ sumR rs
  | [], k => by simp [sumR]
  | l :: rs, 0 => by simp
  | l :: rs, k + 1 => by
    have := sumR_drop rs k
    rw [List.drop_succ_cons]
    have e : sumR (l :: rs) = l.length + sumR rs := by unfold sumR; simp
    omega
theorem Szr.sub {rs rs' : List (List EntV)} (h : Szr rs) (h1 : rs'.length ≤ rs.length) (h2 : ∀ l ∈ rs', l ∈ rs) : Szr rs' :=
  ⟨Nat.le_trans h1 h.len, fun l hl => h.row l (h2 l hl), fun l hl => h.ent l (h2 l hl)⟩
theorem mrgE_small {rs : List (List EntV)} (h : Szr rs) : ∀ e ∈ mrgE rs, e.key.length ≤ 1000000 ∧ e.val.length ≤ 1000000 := fun e he => by
  have := (mrgE_perm rs).mem_iff.1 he
  obtain ⟨l, h1, h2⟩ := List.mem_flatten.1 this
  exact h.ent l h1 e h2
theorem elem22 : Try.prog.elem 22 = 27 := by kernel_rfl
theorem under22 : Try.prog.underlying 22 = some (.slice (Try.prog.elem 22)) := by rw [elem22]; exact Try.underlying22
theorem run_headW (w : World) (ao : Option Addr) (len cap j : Nat) (h2 : j ≤ cap) : (Instr.slice 22 (.slice ao len cap) none (some (.int .i64 (j : Int))) none).run Try.prog w = .ok (.slice (cutS ao cap 0 1) j cap) w := by
  rw [run_slice_h (P := Try.prog) (w := w) 22 ao len cap under22 .i64 (j : Int) (by omega) (by omega), elem22, Try.sizeOf27]
  simp only [Result.andThen, Int.toNat_natCast]
  rw [sliced_cutS _ _ _ _ _ (by omega)]
  rfl
theorem run_fromW (w : World) (ao : Option Addr) (len cap i : Nat) (h1 : i ≤ len) (h2 : len ≤ cap) : (Instr.slice 22 (.slice ao len cap) (some (.int .i64 (i : Int))) none none).run Try.prog w = .ok (.slice (cutS ao cap i 1) (len - i) (cap - i)) w := by
  rw [run_slice_l (P := Try.prog) (w := w) 22 ao len cap under22 .i64 (i : Int) (by omega) (by omega), elem22, Try.sizeOf27]
  simp only [Result.andThen, Int.toNat_natCast]
  rw [sliced_cutS _ _ _ _ _ (by omega)]
theorem ErRow.head {w : World} {ao : Option Addr} {n cap : Nat} {rs : List (List EntV)} (h : ErRow w ao n cap rs) (j : Nat) (hj : j ≤ n) : ErRow w (cutS ao cap 0 1) j cap (rs.take j) := by
  have hl := h.len
  refine ⟨⟨by rw [List.length_take]; omega, by omega, hl.2.2⟩, fun e => ?_, fun k l hk => ?_⟩
  · have : ao = none := by
      unfold cutS at e
      by_cases q : cap - 0 = 0
      · rw [if_pos q] at e; exact e
      · rw [if_neg q] at e; simpa using e
    have := h.nil this
    omega
  · rw [List.getElem?_take] at hk
    split at hk
    · obtain ⟨b, off, la, lc, rfl, c0, hr⟩ := h.at' k l hk
      refine ⟨b, off, la, lc, ?_, c0, hr⟩
      unfold cutS
      rw [if_neg (by omega)]
      simp [Addr.add_lit]
    · cases hk
theorem ErRow.from {w : World} {ao : Option Addr} {n cap : Nat} {rs : List (List EntV)} (h : ErRow w ao n cap rs) (i : Nat) (hi : i ≤ n) : ErRow w (cutS ao cap i 1) (n - i) (cap - i) (rs.drop i) := by
  have hl := h.len
  refine ⟨⟨by rw [List.length_drop]; omega, by omega, by omega⟩, fun e => ?_, fun k l hk => ?_⟩
  · have : ao = none := by
      unfold cutS at e
      by_cases q : cap - i = 0
      · rw [if_pos q] at e; exact e
      · rw [if_neg q] at e; simpa using e
    have := h.nil this
    omega
  · rw [List.getElem?_drop] at hk
    have hkl := (List.getElem?_eq_some_iff.1 hk).1
    obtain ⟨b, off, la, lc, rfl, c0, hr⟩ := h.at' (i + k) l hk
    refine ⟨b, off + i, la, lc, ?_, by rw [Nat.add_assoc]; exact c0, hr⟩
    unfold cutS
    rw [if_neg (by omega)]
    simp [Addr.add_lit]
/-- Three rows in a row of one's own. -/
theorem er_three {w : World} {a1 a2 a3 : Option Addr} {c1 c2 c3 : Nat} {A B C : List EntV} (h1 : RS entE w a1 A.length c1 A) (h2 : RS entE w a2 B.length c2 B) (h3 : RS entE w a3 C.length c3 C) :
    ErRow (w.alloc (.cells #[.slice a1 A.length c1, .slice a2 B.length c2, .slice a3 C.length c3] 27)) (some ⟨w.heap.size, 0, none⟩) 3 3 [A, B, C] := by
  have hb : Below w.heap.size w (w.alloc (.cells #[.slice a1 A.length c1, .slice a2 B.length c2, .slice a3 C.length c3] 27)) := (Below.refl _ _).alloc (Nat.le_refl _) _
  have hn := heap_alloc_new w (.cells #[.slice a1 A.length c1, .slice a2 B.length c2, .slice a3 C.length c3] 27)
  refine ⟨⟨rfl, Nat.le_refl _, by unfold maxLen; omega⟩, (fun q => by cases q), fun k l hl => ?_⟩
  match k, hl with
  | 0, hl =>
    obtain rfl : A = l := by simpa using hl
    exact ⟨_, 0, _, _, rfl, by rw [cell_of hn]; rfl, h1.later hb⟩
  | 1, hl =>
    obtain rfl : B = l := by simpa using hl
    exact ⟨_, 0, _, _, rfl, by rw [cell_of hn]; rfl, h2.later hb⟩
  | 2, hl =>
    obtain rfl : C = l := by simpa using hl
    exact ⟨_, 0, _, _, rfl, by rw [cell_of hn]; rfl, h3.later hb⟩
  | k + 3, hl => simp at hl
theorem merge_any {w : World} {ao : Option Addr} {n cap : Nat} {rs : List (List EntV)} (h : ErRow w ao n cap rs) (hz : Szr rs) :
    Calls Try.prog 12 #[.slice ao n cap] w fun r w' => ∃ a c, r = .returned (.tuple #[.slice a (mrV rs).length c, .int .i64 (mrC rs : Nat)]) ∧ RS entE w' a (mrV rs).length c (mrV rs) ∧ Below w.heap.size w w' := by
  refine (merge_t h hz).mono ?_
  rintro r w' ⟨v, rfl, hr, hb⟩
  obtain ⟨a, c, rfl, hrs⟩ := hr.rs
  exact ⟨a, c, rfl, hrs, hb⟩
theorem merge_ok {w : World} {ao : Option Addr} {n cap : Nat} {rs : List (List EntV)} (h : ErRow w ao n cap rs) (hz : Szr rs) (h0 : mrC rs = 0) :
    Calls Try.prog 12 #[.slice ao n cap] w fun r w' => ∃ a c, r = .returned (.tuple #[.slice a (mrgE rs).length c, .int .i64 0]) ∧ RS entE w' a (mrgE rs).length c (mrgE rs) ∧ Below w.heap.size w w' := by
  have := merge_any h hz
  rw [h0, mrV_ok h0] at this
  exact this
/-- Entries in order, none twice, where no two neighbours are alike. -/
theorem ord_near {l : List EntV} (hw : l.Pairwise fun x y => ahead x y ≤ 0) (h : ∀ j (hj : j + 1 < l.length), ¬ (l[j].key = l[j + 1].key ∧ l[j].seq = l[j + 1].seq)) : ordE l :=
  ord_chain fun j hj => by
    have h1 := List.pairwise_iff_getElem.1 hw j (j + 1) (by omega) hj (by omega)
    have h2 := h j hj
    have h3 : ahead l[j] l[j + 1] ≠ 0 := fun e => h2 (ahead_zero.1 e)
    omega
end Go.Proofs.Ytnoackenjfpcmaa

/- The law MergeTwice. -/
namespace Go.Proofs.Ytnoackenjfpcmaa
open Go.RowKit
set_option linter.unusedVariables false
set_option linter.unusedSimpArgs false

theorem cut_m (x : Int) (n : Nat) (hn : n ≤ 2 ^ 60) : ∃ m : Nat, m ≤ n ∧ (IntKind.u64.wrap x).tmod ((n : Int) + 1) = (m : Int) ∧ wrap64 (m : Int) = (m : Int) := by
  have hu : 0 ≤ IntKind.u64.wrap x := by
    simp only [IntKind.wrap, IntKind.bits, IntKind.signed]
    simp
    omega
  have e : (IntKind.u64.wrap x).tmod ((n : Int) + 1) = IntKind.u64.wrap x % ((n : Int) + 1) := Int.tmod_eq_emod_of_nonneg hu
  have h1 : 0 ≤ IntKind.u64.wrap x % ((n : Int) + 1) := Int.emod_nonneg _ (by omega)
  have h2 : IntKind.u64.wrap x % ((n : Int) + 1) < (n : Int) + 1 := Int.emod_lt_of_pos _ (by omega)
  refine ⟨(IntKind.u64.wrap x % ((n : Int) + 1)).toNat, by omega, by rw [e]; omega, ?_⟩
  generalize IntKind.u64.wrap x % ((n : Int) + 1) = z at h1 h2
  unfold wrap64
  omega
set_option maxHeartbeats 8000000 in
set_option maxRecDepth 100000 in
theorem mgtwice_any {w : World} {ao : Option Addr} {n cap : Nat} {rs : List (List EntV)} (h : ErRow w ao n cap rs) (x : Int) :
    Calls Try.prog 8 #[.slice ao n cap, .int .i64 x] w fun e w' => e = .returned (.bool true) ∧ Below w.heap.size w w' := by
  have H0 := hidM h
  have hli := light16_t h
  by_cases hl : litW 0 0 rs = true
  · rw [hl] at hli
    by_cases h20 : 20 < n
    · have h20' : (20 : Int) < (n : Int) := by omega
      clear h hl h20
      go_enter Try.func8, Try.ntmps8
      go_wp2_with (first | (go_at_call 9; refine hli.mono ?_; rintro e w1 ⟨rfl, hb1⟩) | (go_at_call 10; refine (awake16_t _).mono ?_; rintro e w2 ⟨rfl, hb2⟩))
      exact bodyPost_ret (v := .bool true) (by simp [results, Try.results8, go_sem]) rfl ⟨rfl, hb1.trans (hb2.mono hb1.size)⟩
    · have h20' : ¬ (20 : Int) < (n : Int) := by omega
      obtain ⟨hz, hsum, hlen, -, hord⟩ := lit_srt hl
      have hn : rs.length = n := h.len.1
      have hn62 : n ≤ 2 ^ 60 := by omega
      clear h hl
      go_enter Try.func8, Try.ntmps8
      go_upto_region 5 with (first | (go_at_call 9; refine hli.mono ?_; rintro e w1 ⟨rfl, hb1⟩) | (go_at_call 11; refine (sorted16_t (H0.out.later hb1) (by omega)).mono ?_; rintro e w2 ⟨a2, c2, rfl, hr2, hb2⟩))
      have hcut := cut_m x n hn62
      obtain ⟨m, hmn, hm1, hm2⟩ := hcut
      rw [hm1, hm2]
      have HB2 : Hid (Below w.heap.size w w2) := hb1.trans (hb2.mono hb1.size)
      obtain ⟨SR, hSR⟩ : ∃ S, S = srtR 0 rs := ⟨_, rfl⟩
      rw [← hSR] at hr2 hz hsum hlen hord
      have hSn : SR.length = n := by omega
      have hz1 : Szr (SR.take m) := hz.sub (by rw [List.length_take]; omega) (fun l hl => List.mem_of_mem_take hl)
      have hz2 : Szr (SR.drop m) := hz.sub (by rw [List.length_drop]; omega) (fun l hl => List.mem_of_mem_drop hl)
      have ho1 : ∀ l ∈ SR.take m, ordE l := fun l hl => hord l (List.mem_of_mem_take hl)
      have ho2 : ∀ l ∈ SR.drop m, ordE l := fun l hl => hord l (List.mem_of_mem_drop hl)
      have hc0 := mrC_ok hord (by omega) (by omega)
      have hc1 := mrC_ok ho1 (by rw [List.length_take]; omega) (by have := sumR_take SR m; omega)
      have hc2 := mrC_ok ho2 (by rw [List.length_drop]; omega) (by have := sumR_drop SR m; omega)
      have HM1 := merge_ok hr2 hz hc0
      have HM2 : Hid (∀ wx, Below w2.heap.size w2 wx → Calls Try.prog 12 #[.slice (cutS a2 c2 0 1) m c2] wx fun r w' => ∃ a c, r = .returned (.tuple #[.slice a (mrgE (SR.take m)).length c, .int .i64 0]) ∧ RS entE w' a (mrgE (SR.take m)).length c (mrgE (SR.take m)) ∧ Below wx.heap.size wx w') := fun wx hb => merge_ok ((hr2.head m hmn).later hb) hz1 hc1
      have HM3 : Hid (∀ wx, Below w2.heap.size w2 wx → Calls Try.prog 12 #[.slice (cutS a2 c2 m 1) (n - m) (c2 - m)] wx fun r w' => ∃ a c, r = .returned (.tuple #[.slice a (mrgE (SR.drop m)).length c, .int .i64 0]) ∧ RS entE w' a (mrgE (SR.drop m)).length c (mrgE (SR.drop m)) ∧ Below wx.heap.size wx w') := fun wx hb => merge_ok ((hr2.from m hmn).later hb) hz2 hc2
      have hl0 : (mrgE SR).length ≤ 2100 := by rw [mrgE_len]; exact hsum
      have hl1 : (mrgE (SR.take m)).length ≤ 2100 := by rw [mrgE_len]; exact Nat.le_trans (sumR_take SR m) hsum
      have hl2 : (mrgE (SR.drop m)).length ≤ 2100 := by rw [mrgE_len]; exact Nat.le_trans (sumR_drop SR m) hsum
      have hz3 : Szr [mrgE (SR.take m), [], mrgE (SR.drop m)] := by
        refine ⟨by simp, fun l hl => ?_, fun l hl => ?_⟩
        · simp only [List.mem_cons, List.not_mem_nil, or_false] at hl
          rcases hl with rfl | rfl | rfl
          · omega
          · simp
          · omega
        · simp only [List.mem_cons, List.not_mem_nil, or_false] at hl
          rcases hl with rfl | rfl | rfl
          · exact mrgE_small hz1
          · intro e he; cases he
          · exact mrgE_small hz2
      have HFIN : Hid (ordE (mrgE SR) → mrC [mrgE (SR.take m), [], mrgE (SR.drop m)] = 0 ∧ mrV [mrgE (SR.take m), [], mrgE (SR.drop m)] = mrgE SR) := fun ho => by
        have ht := mrg_twice ho1 ho2 (by rw [List.take_append_drop]; exact ho)
        rw [List.take_append_drop] at ht
        have hc : mrC [mrgE (SR.take m), [], mrgE (SR.drop m)] = 0 := by
          refine mrC_ok (fun l hl => ?_) (by simp) (by unfold sumR; simp; omega)
          simp only [List.mem_cons, List.not_mem_nil, or_false] at hl
          rcases hl with rfl | rfl | rfl
          · exact ht.1
          · exact List.Pairwise.nil
          · exact ht.2.1
        exact ⟨hc, by rw [mrV_ok hc]; exact ht.2.2⟩
      have HWK : Hid ((mrgE SR).Pairwise fun x y => ahead x y ≤ 0) := mrgE_wk hord
      generalize mrgE (SR.take m) = A at HM2 hz3 HFIN hl1
      generalize mrgE (SR.drop m) = B at HM3 hz3 HFIN hl2
      generalize mrgE SR = A0 at HM1 HFIN hl0 HWK
      have HM4 : Hid (∀ wx a3 c3 a4 c4, RS entE wx a3 A.length c3 A → RS entE wx a4 B.length c4 B → Calls Try.prog 12 #[.slice (some ⟨wx.heap.size, 0, none⟩) 3 3] (wx.alloc (.cells #[.slice a3 A.length c3, .slice none 0 0, .slice a4 B.length c4] 27)) fun r w' => ∃ a c, r = .returned (.tuple #[.slice a (mrV [A, [], B]).length c, .int .i64 (mrC [A, [], B] : Nat)]) ∧ RS entE w' a (mrV [A, [], B]).length c (mrV [A, [], B]) ∧ Below wx.heap.size wx w') := fun wx a3 c3 a4 c4 h3 h4 => by
        refine (merge_any (er_three h3 (RS.nil wx) h4) hz3).mono ?_
        rintro r w' ⟨a, c, e, hr, hb⟩
        have hb0 : Below wx.heap.size wx (wx.alloc (.cells #[.slice a3 A.length c3, .slice none 0 0, .slice a4 B.length c4] 27)) := (Below.refl _ _).alloc (Nat.le_refl _) _
        exact ⟨a, c, e, hr, hb0.trans (hb.mono hb0.size)⟩
      have hcut1 := fun w => run_headW w a2 n c2 m (by have := hr2.len; omega)
      have hcut2 := fun w => run_fromW w a2 n c2 m hmn hr2.len.2.1
      generalize cutS a2 c2 0 1 = b1 at HM2 hcut1
      generalize cutS a2 c2 m 1 = b2 at HM3 hcut2
      generalize n - m = nm at HM3 hcut2
      generalize c2 - m = cm at HM3 hcut2
      obtain ⟨C4, hC4⟩ : ∃ c, c = mrC [A, [], B] := ⟨_, rfl⟩
      obtain ⟨V4, hV4⟩ : ∃ v, v = mrV [A, [], B] := ⟨_, rfl⟩
      rw [← hC4, ← hV4] at HM4 HFIN
      obtain ⟨LA, hLA⟩ : ∃ l, l = A.length := ⟨_, rfl⟩
      obtain ⟨LB, hLB⟩ : ∃ l, l = B.length := ⟨_, rfl⟩
      obtain ⟨LV, hLV⟩ : ∃ l, l = V4.length := ⟨_, rfl⟩
      obtain ⟨L0, hL0⟩ : ∃ l, l = A0.length := ⟨_, rfl⟩
      rw [← hLA] at HM2
      rw [← hLB] at HM3
      rw [← hLA, ← hLB, ← hLV] at HM4
      rw [← hL0] at HM1 hl0
      have HLL := hidM (And.intro hLV hL0)
      have hm62 : m ≤ 2 ^ 60 := by omega
      have hl062 : L0 ≤ 2 ^ 60 := by omega
      clear hm1 hm2 hSR hz hz1 hz2 hz3 ho1 ho2 hc0 hc1 hc2 hl1 hl2 hl0 hord hsum hlen hSn hC4 hV4 hLA hLB hLV hL0 hn h20 h20' hli hb1 hb2 hr2 hmn
      go_wp2_with (first | (go_at_call 12; refine HM1.mono ?_; rintro r w3 ⟨a3, c3, rfl, hr3, hb3⟩; have H3 := hidM (And.intro hr3 hb3); clear hr3 hb3 HM1) | (go_at_call 12; refine (HM2.out _ H3.out.2).mono ?_; rintro r w4 ⟨a4, c4, rfl, hr4, hb4⟩; have H4 := hidM (And.intro hr4 (H3.out.2.trans (hb4.mono H3.out.2.size))); have H34 := hidM hb4; clear hr4 hb4 HM2) | (go_at_call 12; refine (HM3.out _ H4.out.2).mono ?_; rintro r w5 ⟨a5, c5, rfl, hr5, hb5⟩; have H5 := hidM (And.intro hr5 (H4.out.2.trans (hb5.mono H4.out.2.size))); have H45 := hidM hb5; clear hr5 hb5 HM3) | (go_at_call 12; refine (HM4.out w5 a4 c4 a5 c5 (H4.out.1.later H45.out) H5.out.1).mono ?_; rintro r w6 ⟨a6, c6, rfl, hr6, hb6⟩; have H6 := hidM (And.intro hr6 (H5.out.2.trans (hb6.mono H5.out.2.size))); have H36 := hidM ((H34.out.trans (H45.out.mono H34.out.size)).trans (hb6.mono (H34.out.trans (H45.out.mono H34.out.size)).size)); clear hr6 hb6 HM4))
      have HB6 : Hid (Below w.heap.size w w6) := HB2.out.trans (H6.out.2.mono HB2.out.size)
      go_loopg [14] L0 (fun g s14 wr => ∃ k : Nat, (k + g = L0 ∨ (k = 0 ∧ g = L0)) ∧ s14 = .int .i64 ((k + 1 : Nat) : Int) ∧ Hid (Below w6.heap.size w6 wr) ∧ Hid (∀ j (h : j + 1 < A0.length), j < k → ¬ (A0[j].key = A0[j + 1].key ∧ A0[j].seq = A0[j + 1].seq)))
      case atStart => exact ⟨0, .inr ⟨rfl, rfl⟩, rfl, Below.refl _ _, fun j _ h => absurd h (by omega)⟩
      case round =>
        obtain ⟨k, hk, rfl, HK, HC⟩ := hrel
        have HBR : Hid (Below w.heap.size w wr) := HB6.out.trans (HK.out.mono HB6.out.size)
        by_cases hkl : k + 1 < L0
        · have hkl' : (k : Int) + 1 < (L0 : Int) := by omega
          have hx1 : k < A0.length := by have := HLL.out.2; omega
          have hx2 : k + 1 < A0.length := by have := HLL.out.2; omega
          have hb36 : Below w3.heap.size w3 wr := H36.out.trans (HK.out.mono H36.out.size)
          obtain ⟨b, off, ka, kc, va, vc, hab, d0, d1, d2, d3, d4, s1, s2, i1, i2⟩ := RS.ent (H3.out.1.later hb36) (List.getElem?_eq_getElem hx1)
          obtain ⟨b', off', kb, kd, vb, vd, hab', e0, e1, e2, e3, e4, t1, t2, j1, j2⟩ := RS.ent (H3.out.1.later hb36) (List.getElem?_eq_getElem hx2)
          rw [hab] at hab'
          simp only [Option.some.injEq, Addr.mk.injEq, and_true] at hab'
          obtain ⟨rfl, rfl⟩ := hab'
          subst hab
          have g1 := fun j => str_l (s1.drewN j)
          have g2 := fun j => str_l (t1.drewN j)
          have heq := str_eq s1.2.1 t1.2.1
          have HN : Hid (¬ (A0[k].key = A0[k + 1].key ∧ A0[k].seq = A0[k + 1].seq) → ∀ j (h : j + 1 < A0.length), j < k + 1 → ¬ (A0[j].key = A0[j + 1].key ∧ A0[j].seq = A0[j + 1].seq)) := fun q j hj hjk => if e : j = k then by subst e; exact q else HC.out j hj (by omega)
          generalize A0[k] = o at d0 d1 d2 d3 d4 g1 heq HN
          generalize A0[k + 1] = o' at e0 e1 e2 e3 e4 g2 heq HN
          have hk62 : k ≤ 2 ^ 60 := by omega
          have hwa : IntKind.i64.wrap ((k : Int) + 1 - 1) = (k : Int) := by rw [IntKind.wrap_i64]; omega
          have hwb : wrap64 ((k : Int) + 1 - 1) = (k : Int) := by unfold wrap64; omega
          have hkl0 : (k : Int) < (L0 : Int) := by omega
          obtain ⟨GK, HG⟩ : ∃ g, Hid (g < gk ∧ k + 1 + g = L0) := ⟨L0 - (k + 1), by omega, by omega⟩
          clear s1 s2 i1 i2 t1 t2 j1 j2 hk d2 d3 d4 e2 e3 e4 hkl hx1 hx2 hb36
          by_cases q1 : o.key = o'.key
          · have he : ((strOfNums o.key).toList == (strOfNums o'.key).toList) = true := by rw [heq]; simpa using q1
            by_cases q2 : o.seq = o'.seq
            · have hs : (o.seq == o'.seq) = true := by simpa using q2
              generalize strOfNums o.key = S1 at g1 he
              generalize strOfNums o'.key = S2 at g2 he
              clear heq HN
              generalize o.key.length = kl at d0 g1
              generalize o'.key.length = kl2 at e0 g2
              generalize o.seq = sq at d1 hs
              generalize o'.seq = sq2 at e1 hs
              go_wp2_with fail
              go_quiet (fail)
              have HBQ := hidM (below_drewN HBR.out nq)
              go_wp2_with (go_at_call 10; refine (awake16_t _).mono ?_; rintro e w8 ⟨rfl, hb8⟩)
              exact bodyPost_ret (v := .bool true) (by simp [results, Try.results8, go_sem]) rfl ⟨rfl, HBQ.out.trans (hb8.mono HBQ.out.size)⟩
            · have hs : (o.seq == o'.seq) = false := by simpa using q2
              have HN2 := hidM (HN.out fun z => q2 z.2)
              generalize strOfNums o.key = S1 at g1 he
              generalize strOfNums o'.key = S2 at g2 he
              clear heq HN q1 q2
              generalize o.key.length = kl at d0 g1
              generalize o'.key.length = kl2 at e0 g2
              generalize o.seq = sq at d1 hs
              generalize o'.seq = sq2 at e1 hs
              go_wp2_with fail
              go_quiet (fail)
              go_wp2_with fail
              go_roundg GK
              case measure => exact HG.out.1
              case rel => exact ⟨k + 1, .inl HG.out.2, by go_num, below_drewN HK.out _, HN2.out⟩
          · have he : ((strOfNums o.key).toList == (strOfNums o'.key).toList) = false := by rw [heq]; simpa using q1
            have HN2 := hidM (HN.out fun z => q1 z.1)
            generalize strOfNums o.key = S1 at g1 he
            generalize strOfNums o'.key = S2 at g2 he
            clear heq HN q1
            generalize o.key.length = kl at d0 g1
            generalize o'.key.length = kl2 at e0 g2
            generalize o.seq = sq at d1
            generalize o'.seq = sq2 at e1
            go_wp2_with fail
            go_quiet (fail)
            go_wp2_with fail
            go_roundg GK
            case measure => exact HG.out.1
            case rel => exact ⟨k + 1, .inl HG.out.2, by go_num, below_drewN HK.out _, HN2.out⟩
        · have hkl' : ¬ (k : Int) + 1 < (L0 : Int) := by omega
          have ho : ordE A0 := ord_near HWK.out fun j hj => HC.out j hj (by have := HLL.out.2; omega)
          obtain ⟨hc4, hv4⟩ := HFIN.out ho
          have hb36 : Below w3.heap.size w3 wr := H36.out.trans (HK.out.mono H36.out.size)
          have h6 := H6.out.1.later HK.out
          have h3 := H3.out.1.later hb36
          rw [hv4] at h6 HLL
          have hLe : LV = L0 := by rw [HLL.out.1, HLL.out.2]
          have hse := rsameE_eq h6 (hLe ▸ h3)
          subst hLe
          subst hc4
          clear hk hkl ho hv4 h6 h3 hb36
          go_wp2_with (first | (go_at_call 14; refine hse.mono ?_; rintro e w7 ⟨rfl, hb7⟩) | (go_at_call 10; refine (awake16_t _).mono ?_; rintro e w8 ⟨rfl, hb8⟩))
          have h7 := HBR.out.trans (hb7.mono HBR.out.size)
          exact bodyPost_ret (v := .bool true) (by simp [results, Try.results8, go_sem]) rfl ⟨rfl, h7.trans (hb8.mono h7.size)⟩
  · have hl' : litW 0 0 rs = false := by simpa using hl
    rw [hl'] at hli
    clear h hl hl'
    go_enter Try.func8, Try.ntmps8
    go_wp2_with (first | (go_at_call 9; refine hli.mono ?_; rintro e w1 ⟨rfl, hb1⟩) | (go_at_call 10; refine (awake16_t _).mono ?_; rintro e w2 ⟨rfl, hb2⟩))
    exact bodyPost_ret (v := .bool true) (by simp [results, Try.results8, go_sem]) rfl ⟨rfl, hb1.trans (hb2.mono hb1.size)⟩
end Go.Proofs.Ytnoackenjfpcmaa

/- How a row of entries that came in is opened. -/
namespace Go.Proofs.Ytnoackenjfpcmaa
open Go.ChangeShapes Go.WideShapes Go.ChangeAt Go.RowKit Go.Deep
set_option linter.unusedVariables false
set_option linter.unusedSimpArgs false

/-- Elements that lie side by side, told one by one. -/
theorem lay_of {α : Type} {E : El α} {w : World} {b off : Nat} : ∀ (len : Nat), (∀ k, k < len → ∃ x vs, E.M w vs x ∧ ∀ (j : Nat) (v : Value), vs[j]? = some v → w.cell? ⟨b, off + (k * E.size + j), none⟩ = some v) →
    ∃ xs us, xs.length = len ∧ Lay E w us xs ∧ ∀ (j : Nat) (u : Value), us[j]? = some u → w.cell? ⟨b, off + j, none⟩ = some u
  | 0, _ => ⟨[], [], rfl, rfl, fun j u hu => by simp at hu⟩
  | n + 1, h => by
    obtain ⟨xs, us, h1, h2, h3⟩ := lay_of n (fun k hk => h k (by omega))
    obtain ⟨x, vs, g1, g2⟩ := h n (by omega)
    have hl := h2.len
    rw [h1] at hl
    refine ⟨xs ++ [x], us ++ vs, by simp [h1], h2.app ⟨vs, [], by simp, g1, rfl⟩, fun j u hu => ?_⟩
    by_cases q : j < us.length
    · rw [List.getElem?_append_left q] at hu
      exact h3 j u hu
    · rw [List.getElem?_append_right (by omega)] at hu
      have := g2 _ u hu
      rw [show n * E.size + (j - us.length) = j by omega] at this
      exact this
section
variable {H : Type} {enc : TypeId × Value → H} {W : World} {spare : Nat → Bool} {held : Bool} {base : Nat}
theorem cells2 : Try.prog.cellsOf 2 = 1 := by kernel_rfl
theorem cells4 : Try.prog.cellsOf 4 = 1 := by kernel_rfl
theorem cellsEntry : Try.prog.cellsOf 35 = 5 := by kernel_rfl
/-- A slice of bytes, as a cell. -/
theorem cell_bytes {fuel : Nat} {cs : List Value} {x : DataW H × List MemPlace} (hf : DataW.trod enc Try.prog W base spare held fuel 33 cs = some x) :
    ∃ (ao : Option Addr) (xs : List Int) (cap : Nat), cs = [.slice ao xs.length cap] ∧ Sl W ao xs.length cap xs := by
  rcases open_slice1 Try.underlying33 cells5 hf with ⟨hcs, _⟩ | ⟨a, len, cap, m, n, V, D, Pl, hcs, hb, hl, hm, hmm, _, hc⟩
  · exact ⟨none, [], 0, hcs, Sl.nil W⟩
  · have hlm : len ≤ m := by rw [hmm]; split <;> omega
    have hB : Byt W (some a) len (fun k => (intOf (V k)).toNat) := fun k hk => by
      obtain ⟨c0, t0⟩ := hc k (by omega)
      obtain ⟨z, e0, _, wf⟩ := DataW.trod_int Try.underlying5 t0
      simp at e0
      have hr := wf_u8 wf
      obtain ⟨b, off, spot⟩ := a
      have hspot : spot = none := by
        have h0 := (hc 0 (by omega)).1
        simpa [Addr.add] using World.cell?_spot h0
      subst hspot
      rw [Addr.add_lit, e0] at c0
      simp only [e0, intOf]
      refine ⟨by omega, b, off, rfl, ?_⟩
      rw [c0]
      congr 2
      omega
    have hS := sl_bs (fun e => by cases e) hl hm hB
    have hlen := bs_length (fun k => (intOf (V k)).toNat) len
    refine ⟨some a, bs (fun k => (intOf (V k)).toNat) len, cap, by rw [hlen]; exact hcs, by rw [hlen]; exact hS⟩
theorem list5 {α : Type} (l : List α) (h : l.length = 5) : ∃ a b c d e, l = [a, b, c, d, e] := by
  match l, h with
  | [a, b, c, d, e], _ => exact ⟨a, b, c, d, e, rfl⟩
/-- An entry: its five cells. -/
theorem open_ent {fuel : Nat} {cs : List Value} {x : DataW H × List MemPlace} (hf : DataW.trod enc Try.prog W base spare held fuel 35 cs = some x) : ∃ o : EntV, EntM W cs o := by
  obtain ⟨xs, n, _, _, hl, hxl, hc⟩ := DataW.trod_struct Try.underlying35 hf
  rw [cellsEntry] at hl
  obtain ⟨a, b, c, d, e, rfl⟩ := list5 cs hl
  have g0 : DataW.trod enc Try.prog W base spare held n 33 (([a, b, c, d, e].drop 0).take (Try.prog.cellsOf 33)) = xs[0]? := hc 0 _ rfl
  rw [cells33, List.getElem?_eq_getElem (show 0 < xs.length by rw [hxl]; decide)] at g0
  have g1 : DataW.trod enc Try.prog W base spare held n 2 (([a, b, c, d, e].drop 1).take (Try.prog.cellsOf 2)) = xs[1]? := hc 1 _ rfl
  rw [cells2, List.getElem?_eq_getElem (show 1 < xs.length by rw [hxl]; decide)] at g1
  have g2 : DataW.trod enc Try.prog W base spare held n 4 (([a, b, c, d, e].drop 2).take (Try.prog.cellsOf 4)) = xs[2]? := hc 2 _ rfl
  rw [cells4, List.getElem?_eq_getElem (show 2 < xs.length by rw [hxl]; decide)] at g2
  have g3 : DataW.trod enc Try.prog W base spare held n 2 (([a, b, c, d, e].drop 3).take (Try.prog.cellsOf 2)) = xs[3]? := hc 3 _ rfl
  rw [cells2, List.getElem?_eq_getElem (show 3 < xs.length by rw [hxl]; decide)] at g3
  have g4 : DataW.trod enc Try.prog W base spare held n 33 (([a, b, c, d, e].drop 4).take (Try.prog.cellsOf 33)) = xs[4]? := hc 4 _ rfl
  rw [cells33, List.getElem?_eq_getElem (show 4 < xs.length by rw [hxl]; decide)] at g4
  obtain ⟨ka, key, kc, e0, k1⟩ := cell_bytes g0
  obtain ⟨seq, e1, _, w1⟩ := DataW.trod_int Try.underlying2 g1
  obtain ⟨gone, e2, _⟩ := DataW.trod_bool Try.underlying4 g2
  obtain ⟨till, e3, _, w3⟩ := DataW.trod_int Try.underlying2 g3
  obtain ⟨va, vl, vc, e4, k2⟩ := cell_bytes g4
  have h0 : [a] = [Value.slice ka key.length kc] := e0
  have h1 : [b] = [Value.int .i64 seq] := e1
  have h2 : [c] = [Value.bool gone] := e2
  have h3 : [d] = [Value.int .i64 till] := e3
  have h4 : [e] = [Value.slice va vl.length vc] := e4
  simp only [List.cons.injEq, and_true] at h0 h1 h2 h3 h4
  subst h0 h1 h2 h3 h4
  exact ⟨⟨key, seq, gone, till, vl⟩, ka, kc, va, vc, rfl, k1, k2, wf_i64 w1, wf_i64 w3⟩
set_option maxRecDepth 100000 in
/-- A slice of entries, as a cell. -/
theorem cell_ents {fuel : Nat} {cs : List Value} {x : DataW H × List MemPlace} (hf : DataW.trod enc Try.prog W base spare held fuel 27 cs = some x) :
    ∃ (ao : Option Addr) (len cap : Nat) (os : List EntV), cs = [.slice ao len cap] ∧ RS entE W ao len cap os := by
  rcases open_slice Try.underlying27 hf with ⟨hcs, _⟩ | ⟨a, len, cap, m, n, D, Pl, hcs, hb, hl, hm, hmm, _, hc⟩
  · exact ⟨none, 0, 0, [], hcs, RS.nil W⟩
  · have hlm : len ≤ m := by rw [hmm]; split <;> omega
    rw [cellsEntry] at hc
    by_cases h0 : len = 0
    · subst h0
      exact ⟨some a, 0, cap, [], hcs, [], rfl, (fun e => by cases e), hl, hm, rfl, fun j u hu => by simp at hu⟩
    obtain ⟨b, off, spot⟩ := a
    have hspot : spot = none := by
      obtain ⟨cs0, h10, h20⟩ := hc 0 (by omega)
      obtain ⟨_, hl40, hcell0⟩ := World.cells?_some h10
      have h0 := hcell0 0 (by decide)
      rw [List.getElem?_eq_getElem (by omega)] at h0
      simpa [Addr.add] using World.cell?_spot h0
    subst hspot
    obtain ⟨os, us, q1, q2, q3⟩ := lay_of (E := entE) (w := W) (b := b) (off := off) len (fun k hk => by
      obtain ⟨cs', h1, h2⟩ := hc k (by omega)
      obtain ⟨_, hl4, hcell⟩ := World.cells?_some h1
      obtain ⟨o, ho⟩ := open_ent h2
      refine ⟨o, cs', ho, fun j v hj => ?_⟩
      have hj4 : j < 5 := by
        have := (List.getElem?_eq_some_iff.1 hj).1
        omega
      have := hcell j hj4
      rw [Addr.add_lit, Addr.add_lit] at this
      show W.cell? ⟨b, off + (k * 5 + j), none⟩ = some v
      rw [← Nat.add_assoc, this]
      exact hj)
    exact ⟨some ⟨b, off, none⟩, len, cap, os, hcs, us, q1, (fun e => by cases e), hl, hm, q2, fun j u hu => ⟨b, off, rfl, q3 j u hu⟩⟩
set_option maxRecDepth 100000 in
/-- A row of entries that came in. -/
theorem open27 {v : Value} {d : DataW H} {ps : List MemPlace} (hv : Value.okWide Try.prog W .any base 27 v) (h : DataW.Trod enc Try.prog W 0 (fun _ => true) true 27 v d ps) :
    ∃ (ao : Option Addr) (len cap : Nat) (os : List EntV), v = .slice ao len cap ∧ RS entE W ao len cap os := by
  obtain ⟨a, len, cap, rfl⟩ := okWide_slice Try.underlying27 hv
  obtain ⟨fuel, hf⟩ := h
  obtain ⟨ao, len', cap', os, e, hr⟩ := cell_ents hf
  have e' : [Value.slice a len cap] = [Value.slice ao len' cap'] := e
  simp only [List.cons.injEq, and_true] at e'
  exact ⟨ao, len', cap', os, e', hr⟩
end
end Go.Proofs.Ytnoackenjfpcmaa
