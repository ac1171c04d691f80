/- Records as long as may be, and longer. -/
import Derived.Test.YtbinabegiikcaaaPlaw
import Derived.Deep.OwnRows
namespace Go.Proofs.Ytbinabegiikcaaa
open Go.RowKit
set_option linter.unusedVariables false
set_option linter.unusedSimpArgs false

theorem okb_zeros (n : Nat) : Okb (List.replicate n 0) := fun x hx => by
  have := List.eq_of_mem_replicate hx
  omega
theorem sl_zeros (w : World) (n : Nat) (hn : n ≤ 1099511627776) : Sl (w.alloc (.cells (madeCells #[.int .u8 0] n) 5)) (some ⟨w.heap.size, 0, none⟩) n n (List.replicate n 0) := by
  refine ⟨by simp, okb_zeros n, (fun e => by cases e), Nat.le_refl _, by unfold maxLen; omega, fun k hk => ?_⟩
  have e : (w.alloc (.cells (madeCells #[.int .u8 0] n) 5)).heap[w.heap.size]? = some (.cells (madeCells #[.int .u8 0] n) 5 (0, 0)) := heap_alloc_new w _
  have ex : xof (List.replicate n (0 : Int)) k = 0 := by simp [xof, List.getElem?_replicate, hk]
  refine ⟨by rw [ex]; decide, w.heap.size, 0, rfl, ?_⟩
  rw [ex, Nat.zero_add]
  unfold World.cell?
  rw [e]
  simp only [madeCells]
  simp [hk, Nat.mod_one]

theorem slv_nil (w : World) : SlV w (.slice none 0 0) [] := ⟨none, 0, rfl, Sl.nil w⟩
/-- A record framed alone, by the program and by the document. -/
theorem both_put (D : PF) {w : World} {so : Option Addr} {ls cs : Nat} {rs : List Int} (hs : Sl w so ls cs rs) (hl : ls ≤ 1099511627776) : ∃ (L : List Int) (er : Nat), Okb L ∧
    (Calls Try.prog 8 #[.slice none 0 0, .slice so ls cs] w fun e w' => ∃ v, e = .returned (.tuple #[v, .int .i64 (er : Int)]) ∧ SlV w' v L ∧ Below w.heap.size w w') ∧
    (∀ w1, Below w.heap.size w w1 → Calls Try.prog 9 #[.slice none 0 0, .slice so ls cs] w1 fun e w' => ∃ v, e = .returned (.tuple #[v, .int .i64 (er : Int)]) ∧ SlV w' v L ∧ Below w1.heap.size w1 w') := by
  by_cases h : ls ≤ 1048576
  · refine ⟨fr rs, 0, okb_fr hs.2.1, D.put (Sl.nil w) hs h (by omega), fun w1 hb => ?_⟩
    refine (rframe_any (Row.nil w1.heap.size w1) (Nat.le_refl _) (hs.later hb) h (by simp)).mono ?_
    rintro e w' ⟨v, rfl, hr, hb'⟩
    rw [List.nil_append] at hr
    exact ⟨v, rfl, SlV.ofRow hr (okb_fr hs.2.1), hb'⟩
  · refine ⟨[], 2, (fun x hx => by cases hx), ?_, fun w1 hb => ?_⟩
    · refine (D.long (Sl.nil w) hs (by omega) (by omega)).mono ?_
      rintro e w' ⟨rfl, hb⟩
      exact ⟨_, rfl, slv_nil _, hb⟩
    · refine (rframe_long (w := w1) (v := .slice none 0 0) (so := so) (cs := cs) (by omega) (by omega)).mono ?_
      rintro e w' ⟨rfl, rfl⟩
      exact ⟨_, rfl, slv_nil _, Below.refl _ _⟩
theorem row4 (w : World) : Row w.heap.size (w.alloc (.cells #[.int .u8 1, .int .u8 2, .int .u8 3, .int .u8 4] 5)) (.slice (some ⟨w.heap.size, 0, none⟩) 4 4) [1, 2, 3, 4] :=
  ⟨rfl, .inr ⟨w.heap.size, 4, _, rfl, Nat.le_refl _, heap_alloc_new w _, Nat.le_refl _, by decide, rfl, rfl⟩⟩
theorem okb4 : Okb [1, 2, 3, 4] := fun x hx => by simp at hx; omega

set_option maxHeartbeats 2000000 in
set_option maxRecDepth 100000 in
theorem long_any (D : PF) (n : Int) (told : Nat) (w : World) (ht : Hid (told < 18446744073709551616)) :
    Calls Try.prog 5 #[.int .i64 n, .int .u64 (told : Int)] w fun e w' => e = .returned (.bool true) ∧ Below w.heap.size w w' := by
  have a1 : -3 < n.tmod 3 ∧ n.tmod 3 < 3 := ⟨by have := Int.lt_tmod_of_pos n (b := 3) (by decide); omega, Int.tmod_lt_of_pos n (by decide)⟩
  generalize hs : n.tmod 3 = u at a1
  obtain ⟨T, hT⟩ := Int.eq_ofNat_of_zero_le (show 0 ≤ (u + 3).tmod 3 from Int.tmod_nonneg _ (by omega))
  have hTl : T < 3 := by have := Int.tmod_lt_of_pos (u + 3) (b := 3) (by decide); omega
  obtain ⟨S, hS⟩ : ∃ S : Nat, (T : Int) + 1048576 - 1 = (S : Int) := ⟨T + 1048575, by omega⟩
  have hSl : 1048575 ≤ S ∧ S ≤ 1048577 := by omega
  have hmk := run_make_row' (P := Try.prog) 22 5 (.int .u8 0) 1 Try.underlying22 Try.info5 rfl .i64 .i64 S (by omega) (by omega)
  have hb0 : Below w.heap.size w (w.alloc (.cells (madeCells #[.int .u8 0] S) 5)) := (Below.refl _ _).alloc (Nat.le_refl _) _
  obtain ⟨L, er, hokL, hP, hF⟩ := both_put D (sl_zeros w S (by omega)) (by omega)
  have HK : Hid (Okb L ∧ Below w.heap.size w (w.alloc (.cells (madeCells #[.int .u8 0] S) 5))) := ⟨hokL, hb0⟩
  have hLq : Okb ([1, 2, 3, 4] ++ uv told) := okb4.app (okb_uv _)
  have huv := uv_len64 ht.out
  obtain ⟨Q, hQ⟩ : ∃ Q, Q = [1, 2, 3, 4] ++ uv told := ⟨_, rfl⟩
  have hQl : Q.length ≤ 14 := by rw [hQ]; simp; omega
  have HQ : Hid (Q = [1, 2, 3, 4] ++ uv told ∧ Okb Q ∧ Q.length ≤ 14 ∧ (uv told).length ≤ 10) := ⟨hQ, by rw [hQ]; exact hLq, hQl, huv⟩
  have hT1 : ∀ {w1 : World} {a : Option Addr} {c : Nat}, Sl w1 a Q.length c Q → _ := fun {w1 a c} h => D.take h (by omega)
  have hT2 : ∀ {w1 : World} {a : Option Addr} {c : Nat}, Sl w1 a Q.length c Q → _ := fun {w1 a c} h => rtf_any h (by omega)
  unfold Tk at hT2
  obtain ⟨t, htf⟩ : ∃ t, t = tf Q := ⟨_, rfl⟩
  simp only [← htf] at hT1 hT2
  obtain ⟨te, tr, tu⟩ := t
  simp only at hT1 hT2
  clear hSl hokL hb0 hLq hQ hQl huv htf
  go_enter Try.func5, Try.ntmps5
  go_wp2_with fail
  refine hP.mono ?_
  rintro e w1 ⟨v1, rfl, ⟨a1', c1, rfl, hs1⟩, hb1⟩
  go_wp2_with fail
  refine (hF w1 hb1).mono ?_
  rintro e w2 ⟨v2, rfl, ⟨a2, c2, rfl, hs2⟩, hb2⟩
  have B2 := hb1.trans (hb2.mono hb1.size)
  have H2 : Hid (Sl w2 a1' L.length c1 L ∧ Sl w2 a2 L.length c2 L ∧ Below w.heap.size w w2) := ⟨hs1.later hb2, hs2, HK.out.2.trans (B2.mono HK.out.2.size)⟩
  obtain ⟨w3, hw3⟩ : ∃ w3, w3 = w2.alloc (.cells #[.int .u8 1, .int .u8 2, .int .u8 3, .int .u8 4] 5) := ⟨_, rfl⟩
  have hB3 : Below w2.heap.size w2 w3 := by rw [hw3]; exact (Below.refl _ _).alloc (Nat.le_refl _) _
  have hr3 : Row w2.heap.size w3 (.slice (some ⟨w2.heap.size, 0, none⟩) 4 4) [1, 2, 3, 4] := by rw [hw3]; exact row4 w2
  have hpu := rput_any w3.heap.size (.slice none 0 0) [] told w3 (Row.nil _ _) (Nat.le_refl _) (by have := HQ.out.2.2.2; simp; omega) ht.out
  have H3 : Hid (Below w2.heap.size w2 w3 ∧ Row w2.heap.size w3 (.slice (some ⟨w2.heap.size, 0, none⟩) 4 4) [1, 2, 3, 4]) := ⟨hB3, hr3⟩
  clear hP hF hs1 hb1 hs2 hb2 B2 hB3 hr3
  go_wp2_with fail
  rw [← hw3]
  refine hpu.mono ?_
  rintro e w4 ⟨v4, rfl, hr4, hg4, hm4⟩
  rw [List.nil_append] at hr4
  have hb4 : Below w3.heap.size w3 w4 := grown_below (Row.nil _ _) hg4 (Nat.le_refl _)
  obtain ⟨a4, c4, rfl, hs4⟩ := SlV.ofRow hr4 (okb_uv told)
  have H4 : Hid (Sl w4 a4 (uv told).length c4 (uv told) ∧ Row w2.heap.size w4 (.slice (some ⟨w2.heap.size, 0, none⟩) 4 4) [1, 2, 3, 4] ∧ Below w2.heap.size w2 w4) := ⟨hs4, H3.out.2.later hb4, H3.out.1.trans (hb4.mono H3.out.1.size)⟩
  obtain ⟨k4, hk4⟩ : ∃ k4, k4 = (uv told).length := ⟨_, rfl⟩
  rw [← hk4]
  clear hpu hr4 hg4 hm4 hb4 hs4 hw3
  go_wp2_with (at_builtin; refine wpList_app rfl _ _ rfl w2.heap.size _ [1, 2, 3, 4] (by simp [Act.eval]) H4.out.2.1 a4 k4 c4 (xof (uv told)) (by simp [Act.eval, hk4]) (by rw [hk4]; exact H4.out.1.2.2.1) (by rw [hk4]; exact H4.out.1.2.2.2.2.2) (by have := HQ.out.2.2.2; simp; omega) H4.out.2.2.size ?_; intro v5 w5 hr5 hg5 hm5)
  rw [hk4, bs_xof (okb_uv told), ← HQ.out.1] at hr5
  have hb5 : Below w2.heap.size w2 w5 := H4.out.2.2.trans (grown_below H4.out.2.1 hg5 H4.out.2.2.size)
  obtain ⟨a5, c5, rfl, hs5⟩ := SlV.ofRow hr5 HQ.out.2.1
  refine (hT1 hs5).mono ?_
  rintro e w6 ⟨v6, rfl, hv6, hb6⟩
  go_wp2_with fail
  refine (hT2 (hs5.later hb6)).mono ?_
  rintro e w7 ⟨⟨v7, rfl, hr7⟩, hb7⟩
  have hb57 := hb6.trans (hb7.mono hb6.size)
  have hx := str_l ((H2.out.1.later hb5).later hb57)
  have hy := str_l ((H2.out.2.1.later hb5).later hb57)
  have B7 := (H2.out.2.2.trans (hb5.mono H2.out.2.2.size))
  have HB7 : Hid (Below w.heap.size w w7) := B7.trans (hb57.mono B7.size)
  have heq : ((strOfNums L).toList == (strOfNums L).toList) = true := by simp
  have t1 : ((tu : Int) == (tu : Int)) = true := by simp
  have t2 : ((te : Int) == (te : Int)) = true := by simp
  have t3 : ((er : Int) == (er : Int)) = true := by simp
  have haw := awake6_any D w7
  generalize strOfNums L = SS at hx hy heq
  generalize L.length = nn at hx hy ⊢
  clear hT1 hT2 hr5 hg5 hm5 hb5 hs5 hb6 hb7 hr7 hv6 hb57 B7 H2 H3 H4
  go_wp2_with (go_at_call 10; refine haw.mono ?_; rintro e w8 ⟨rfl, hb8⟩)
  exact bodyPost_ret (v := .bool true) (by simp [results, Try.results5, go_sem]) rfl ⟨rfl, HB7.out.trans (hb8.mono HB7.out.size)⟩
end Go.Proofs.Ytbinabegiikcaaa
