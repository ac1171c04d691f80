/- The laws on frames, of any frame that keeps the document's calls. -/
import Derived.Test.YtbinabegiikcaaaPsm
import Derived.Lib.SlBytesConst
namespace Go.Proofs.Ytbinabegiikcaaa
open Go.RowKit
set_option linter.unusedVariables false
set_option linter.unusedSimpArgs false

theorem row_empty (w : World) : Row w.heap.size (w.alloc (.cells #[] 5)) (.slice (some ⟨w.heap.size, 0, none⟩) 0 0) [] :=
  ⟨rfl, .inr ⟨w.heap.size, 0, #[], rfl, Nat.le_refl _, heap_alloc_new w _, Nat.le_refl _, Nat.zero_le _, rfl, rfl⟩⟩
theorem okb_a : Okb [97] := fun x hx => by simp at hx; subst hx; omega
theorem uv1 : uv 1 = [1] := uv_lt (by decide)
theorem fr_a : (fr [97]).length = 6 := by rw [fr_len]; simp [uv1]
theorem scan_a : scan (fr [97]) = ([[97]], 6) := by
  have h := scan_fr (r := [97]) (t := []) okb_a (fun x hx => by cases hx) (by simp)
  rw [List.append_nil, fr_a] at h
  rw [h, scan_nil]
  rfl
theorem sl_a (w : World) : Sl (w.alloc (.cells #[.int .u8 97] 5 (1, 2))) (some ⟨w.heap.size, 0, none⟩) 1 1 [97] := by
  refine ⟨rfl, okb_a, (fun e => by cases e), Nat.le_refl _, by decide, fun k hk => ?_⟩
  obtain rfl : k = 0 := by omega
  refine ⟨by decide, w.heap.size, 0, rfl, ?_⟩
  have e : (w.alloc (.cells #[.int .u8 97] 5 (1, 2))).heap[w.heap.size]? = some (.cells #[.int .u8 97] 5 (1, 2)) := heap_alloc_new w _
  unfold World.cell?
  rw [e]
  rfl

set_option maxHeartbeats 1000000 in
set_option maxRecDepth 100000 in
theorem awake6_any (D : PF) (w : World) : Calls Try.prog 10 #[] w fun e w' => e = .returned (.bool true) ∧ Below w.heap.size w w' := by
  have hp := D.put (Sl.nil (w.alloc (.cells #[.int .u8 97] 5 (1, 2)))) (sl_a w) (by decide) (by decide)
  rw [List.nil_append] at hp
  have hscn := fun (w1 : World) (a : Option Addr) (c : Nat) (h : Sl w1 a (fr [97]).length c (fr [97])) => D.scan h (by rw [fr_a]; decide)
  simp only [scan_a] at hscn
  have hcv := fun (w : World) a l c => Lib.run_convert_bytes_const (P := Try.prog) w 22 5 a l c Try.underlying22 Try.underlying5
  have hb0 : Below w.heap.size w (w.alloc (.cells #[.int .u8 97] 5 (1, 2))) := (Below.refl _ _).alloc (Nat.le_refl _) _
  go_enter Try.func10, Try.ntmps10
  go_wp2_with fail
  refine hp.mono ?_
  rintro e w1 ⟨v1, rfl, ⟨a1, c1, rfl, hs1⟩, hb1⟩
  have hs2 := hscn w1 a1 c1 hs1
  clear hp hscn
  go_wp2_with fail
  refine hs2.mono ?_
  rintro e w2 ⟨v2, rfl, ⟨a2, c2, rfl, hr2⟩, hb2⟩
  obtain ⟨b, off, a, c, rfl, hc, hsl⟩ := hr2.2.2.2.2 0 [97] rfl
  rw [Nat.add_zero] at hc
  have hst := str_l hsl
  have hlen : (([[97]] : List (List Int)).length) = 1 := rfl
  have hlen2 : ([97] : List Int).length = 1 := rfl
  rw [hlen]
  rw [hlen2] at hc hst
  have h97 : strOfNums [97] = ⟨#[97]⟩ := rfl
  rw [h97] at hst
  go_wp2_with fail
  go_ret
  have B1 := hb0.trans (hb1.mono hb0.size)
  exact ⟨rfl, B1.trans (hb2.mono B1.size)⟩

set_option maxHeartbeats 1000000 in
set_option maxRecDepth 100000 in
theorem puts_any (D : PF) {w : World} {ao so : Option Addr} {len cap ls cs : Nat} {xs rs : List Int} (hb : Sl w ao len cap xs) (hs : Sl w so ls cs rs) (h20 : len ≤ 140737488351232 ∧ ls ≤ 140737488351232) :
    Calls Try.prog 3 #[.slice ao len cap, .slice so ls cs] w fun e w' => e = .returned (.bool true) ∧ Below w.heap.size w w' := by
  have HB : Hid (Sl w ao len cap xs ∧ Sl w so ls cs rs ∧ len ≤ 140737488351232 ∧ ls ≤ 140737488351232) := ⟨hb, hs, h20⟩
  by_cases hle : ls ≤ 1048576
  · have hp := D.put hb hs hle (by omega)
    have HL : Hid (ls ≤ 1048576) := hle
    obtain ⟨L, hL⟩ : ∃ L, L = xs ++ fr rs := ⟨_, rfl⟩
    rw [← hL] at hp
    have HLL : Hid (L = xs ++ fr rs) := hL
    clear hb hs h20 hle hL
    go_enter Try.func3, Try.ntmps3
    go_wp2_with fail
    refine hp.mono ?_
    rintro e w1 ⟨v1, rfl, ⟨a1, c1, rfl, hs1⟩, hb1⟩
    clear hp
    have H1 : Hid (Sl w1 a1 L.length c1 L ∧ Below w.heap.size w w1) := ⟨hs1, hb1⟩
    clear hs1 hb1
    have hB1 : Below w1.heap.size w1 (w1.alloc (.cells #[] 5)) := (Below.refl _ _).alloc (Nat.le_refl _) _
    go_wp2_with (at_builtin; refine wpList_app rfl _ _ rfl w1.heap.size _ [] (by simp [Act.eval]) (row_empty w1) ao len cap (xof xs) (by simp [Act.eval]) HB.out.1.2.2.1 ((HB.out.1.later H1.out.2).later hB1).2.2.2.2.2 (by have := HB.out.2.2; simp; omega) hB1.size ?_; intro v2 w2 hr2 hg2 hm2)
    have hb2 : Below w1.heap.size w1 w2 := hB1.trans (grown_below (row_empty w1) hg2 hB1.size)
    rw [List.nil_append, ← HB.out.1.1, bs_xof HB.out.1.2.1] at hr2
    have hf := rframe_any hr2 hb2.size ((HB.out.2.1.later H1.out.2).later hb2) HL.out (by have := HB.out.2.2; have := HB.out.1.1; omega)
    refine hf.mono ?_
    rintro e w3 ⟨v3, rfl, hr3, hb3⟩
    rw [← HLL.out] at hr3
    have hok : Okb L := by rw [HLL.out]; exact HB.out.1.2.1.app (okb_fr HB.out.2.1.2.1)
    obtain ⟨a3, c3, rfl, hs3⟩ := SlV.ofRow hr3 hok
    have hb13 := hb2.trans hb3
    have hx := str_l (H1.out.1.later hb13)
    have hy := str_l hs3
    have HQ : Hid (Below w.heap.size w w3) := H1.out.2.trans (hb13.mono H1.out.2.size)
    have heq : ((strOfNums L).toList == (strOfNums L).toList) = true := by simp
    have haw := awake6_any D w3
    generalize strOfNums L = S at hx hy heq
    generalize L.length = n at hx hy ⊢
    clear hf hr3 hb3 hs3 hb13 hr2 hb2 hg2 hm2 hok H1 hB1
    go_wp2_with (go_at_call 10; refine haw.mono ?_; rintro e w4 ⟨rfl, hb4⟩)
    exact bodyPost_ret (v := .bool true) (by simp [results, Try.results3, go_sem]) rfl ⟨rfl, HQ.out.trans (hb4.mono HQ.out.size)⟩
  · have hp := D.long hb hs (by omega) (by omega)
    have HL : Hid (1048576 < ls ∧ ls ≤ 2 ^ 62) := ⟨by omega, by omega⟩
    clear hb hs h20 hle
    go_enter Try.func3, Try.ntmps3
    go_wp2_with fail
    refine hp.mono ?_
    rintro e w1 ⟨rfl, hb1⟩
    clear hp
    have H1 : Hid (Below w.heap.size w w1) := hb1
    clear hb1
    have hB1 : Below w1.heap.size w1 (w1.alloc (.cells #[] 5)) := (Below.refl _ _).alloc (Nat.le_refl _) _
    go_wp2_with (at_builtin; refine wpList_app rfl _ _ rfl w1.heap.size _ [] (by simp [Act.eval]) (row_empty w1) ao len cap (xof xs) (by simp [Act.eval]) HB.out.1.2.2.1 ((HB.out.1.later H1.out).later hB1).2.2.2.2.2 (by have := HB.out.2.2; simp; omega) hB1.size ?_; intro v2 w2 hr2 hg2 hm2)
    have hb2 : Below w1.heap.size w1 w2 := hB1.trans (grown_below (row_empty w1) hg2 hB1.size)
    have hf := rframe_long (w := w2) (v := v2) (so := so) (cs := cs) HL.out.1 HL.out.2
    refine hf.mono ?_
    rintro e w3 ⟨rfl, hw⟩
    obtain rfl := hw.symm
    have hx := str_l (Sl.nil w2)
    have HQ : Hid (Below w.heap.size w w2) := H1.out.trans (hb2.mono H1.out.size)
    have haw := awake6_any D w2
    have heq : ((strOfNums []).toList == (strOfNums []).toList) = true := by simp
    generalize strOfNums [] = S at hx heq
    clear hf hr2 hb2 hg2 hm2 H1 hB1
    go_wp2_with (go_at_call 10; refine haw.mono ?_; rintro e w4 ⟨rfl, hb4⟩)
    exact bodyPost_ret (v := .bool true) (by simp [results, Try.results3, go_sem]) rfl ⟨rfl, HQ.out.trans (hb4.mono HQ.out.size)⟩

set_option maxHeartbeats 1000000 in
set_option maxRecDepth 100000 in
theorem takes_any (D : PF) {w : World} {ao : Option Addr} {len cap : Nat} {xs : List Int} (hb : Sl w ao len cap xs) (h20 : len ≤ 1099511627000) :
    Calls Try.prog 4 #[.slice ao len cap] w fun e w' => e = .returned (.bool true) ∧ Below w.heap.size w w' := by
  have h1 := D.take hb h20
  have h2 := fun w1 (h : Below w.heap.size w w1) => rtf_any (hb.later h) (by omega)
  have h3 := fun w1 (h : Below w.heap.size w w1) => D.scan (hb.later h) h20
  have h4 := fun w1 (h : Below w.heap.size w w1) => rscan_any (hb.later h) h20
  have hokr := tf_okb hb.2.1
  clear hb h20
  unfold Tk at h2
  obtain ⟨t, ht⟩ : ∃ t, t = tf xs := ⟨_, rfl⟩
  obtain ⟨s, hs⟩ : ∃ s, s = scan xs := ⟨_, rfl⟩
  rw [← ht] at h1 hokr
  simp only [← ht, ← hs] at h2 h3 h4
  obtain ⟨te, tr, tu⟩ := t
  obtain ⟨sr, su⟩ := s
  simp only at h1 h2 h3 h4 hokr
  clear ht hs
  go_enter Try.func4, Try.ntmps4
  go_wp2_with fail
  refine h1.mono ?_
  rintro e w1 ⟨v1, rfl, ⟨a1, c1, rfl, hs1⟩, hb1⟩
  go_wp2_with fail
  refine (h2 w1 hb1).mono ?_
  rintro e w2 ⟨⟨v2, rfl, hr2⟩, hb2⟩
  obtain ⟨a2, c2, rfl, hs2⟩ := SlV.ofRow hr2 hokr
  have B2 := hb1.trans (hb2.mono hb1.size)
  go_wp2_with fail
  refine (h3 w2 B2).mono ?_
  rintro e w3 ⟨v3, rfl, ⟨a3, c3, rfl, hr3⟩, hb3⟩
  have B3 := B2.trans (hb3.mono B2.size)
  go_wp2_with fail
  refine (h4 w3 B3).mono ?_
  rintro e w4 ⟨v4, rfl, hr4, hb4⟩
  obtain ⟨a4, c4, rfl, hr4'⟩ := RBV.ofRow hr4
  have B4 := B3.trans (hb4.mono B3.size)
  have hx := str_l (((hs1.later hb2).later hb3).later hb4)
  have hy := str_l ((hs2.later hb3).later hb4)
  have hsm := same_any (hr3.later hb4) hr4'
  have heq : ((strOfNums tr).toList == (strOfNums tr).toList) = true := by simp
  have e1 : decide (sr = sr) = true := by simp
  rw [e1] at hsm
  have HQ : Hid (Below w.heap.size w w4) := B4
  generalize strOfNums tr = S at hx hy heq
  generalize tr.length = n at hx hy ⊢
  generalize sr.length = m at hsm ⊢
  have t1 : ((tu : Int) == (tu : Int)) = true := by simp
  have t2 : ((te : Int) == (te : Int)) = true := by simp
  have t3 : ((su : Int) == (su : Int)) = true := by simp
  clear h1 h2 h3 h4 hr2 hs1 hs2 hr3 hr4 hr4' hb1 hb2 hb3 hb4 B2 B3 B4 e1 hokr
  go_wp2_with fail
  refine hsm.mono ?_
  rintro e w5 ⟨rfl, hb5⟩
  go_wp2_with fail
  refine (awake6_any D w5).mono ?_
  rintro e w6 ⟨rfl, hb6⟩
  go_wp2_with fail
  go_ret
  have B5 := HQ.out.trans (hb5.mono HQ.out.size)
  exact ⟨rfl, B5.trans (hb6.mono B5.size)⟩
end Go.Proofs.Ytbinabegiikcaaa
