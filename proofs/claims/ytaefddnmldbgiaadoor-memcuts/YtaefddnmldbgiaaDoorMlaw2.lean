/- The laws on what a mem gets, and on a mem that there isn't, of any mem. -/
import Derived.Test.YtaefddnmldbgiaaDoorMlaw
namespace Go.Proofs.YtaefddnmldbgiaaDoor
open Go.RowKit
set_option linter.unusedVariables false
set_option linter.unusedSimpArgs false

set_option maxHeartbeats 4000000 in
set_option maxRecDepth 100000 in
theorem gets_any (D : PM) {w : World} {ao fa : Option Addr} {len cap fl fc : Nat} {l : List EntV} {key : List Int} {s : Int} (hG : D.G w) (h : RS entE w ao len cap l) (hf : Sl w fa fl fc key) (hs : In64 s) :
    Calls Tryd.prog 4 #[.slice ao len cap, .slice fa fl fc, .int .i64 s] w fun r w' => r = .returned (.bool true) ∧ Below w.heap.size w w' := by
  have HGD : Hid (∀ wx, Below w.heap.size w wx → D.G wx) := fun wx hb => D.gk hG hb
  have hfl := filled_any D hG h
  clear hG
  have HF : Hid (Sl w fa fl fc key ∧ In64 s) := ⟨hf, hs⟩
  clear h hf hs
  go_enter Tryd.func4, Tryd.ntmps4
  go_wp2_with fail
  refine hfl.mono ?_
  rintro e w1 ⟨p, v, rfl, F, L, r1, o1, k1, n1, row1, own1, hF, bel⟩
  obtain ⟨ra, rc, hv, hrs⟩ := row1.s.rs
  subst hv
  have hg1 := D.get r1 o1 k1 (by omega) (HF.out.1.later bel) HF.out.2
  have HG2 : Hid (∀ wx, Below w1.heap.size w1 wx → Calls Tryd.prog 17 #[.slice ra L.length rc, .slice fa fl fc, .int .i64 s] wx fun r w' => Below wx.heap.size wx w' ∧ ((getE L key s = none ∧ r = .returned (.tuple #[ent0, .bool false])) ∨ ∃ x ka kc va vc, getE L key s = some x ∧ r = .returned (.tuple #[entA ka kc va vc x, .bool true]) ∧ EntM w' [.slice ka x.key.length kc, .int .i64 x.seq, .bool x.gone, .int .i64 x.till, .slice va x.val.length vc] x)) := fun wx hb => rgetE_any (hrs.later hb) ((HF.out.1.later bel).later hb) (by omega)
  have HB := hid bel
  generalize L.length = n at HG2 ⊢
  generalize getE L key s = g at hg1 HG2
  clear hfl r1 o1 k1 n1 row1 own1 hF bel hrs
  go_wp2_with fail
  refine hg1.mono ?_
  rintro e w2 ⟨hgot, c2⟩
  clear hg1
  cases g with
  | none =>
    rcases hgot with ⟨_, rfl⟩ | ⟨x, _, _, _, _, q, _⟩
    · obtain ⟨W3, hW3⟩ : ∃ W, W = w2.alloc (.cells #[.slice none 0 0, .int .i64 0, .bool false, .int .i64 0, .slice none 0 0] 28) := ⟨_, rfl⟩
      have b3 : Below w2.heap.size w2 W3 := by rw [hW3]; exact (Below.refl _ _).alloc (Nat.le_refl _) _
      have HBX : Hid (∀ wx, Below W3.heap.size W3 wx → _) := fun wx hb => box_cells w2 (.slice none 0 0) (.int .i64 0) (.bool false) (.int .i64 0) (.slice none 0 0) 28 (wx := wx) (by rw [← hW3]; exact hb)
      have c3 := c2.trans (b3.mono c2.size)
      have HW3 := hid hW3
      clear hW3 b3
      unfold ent0
      go_upto_region 5 with fail
      rw [← HW3.out]
      go_wp2_with fail
      refine (HG2.out _ c3).mono ?_
      rintro e w4 ⟨b4, ⟨_, rfl⟩ | ⟨x, _, _, _, _, q, _⟩⟩
      · obtain ⟨W5, hW5⟩ : ∃ W, W = w4.alloc (.cells #[.slice none 0 0, .int .i64 0, .bool false, .int .i64 0, .slice none 0 0] 28) := ⟨_, rfl⟩
        have b5 : Below w4.heap.size w4 W5 := by rw [hW5]; exact (Below.refl _ _).alloc (Nat.le_refl _) _
        have c4 := c3.trans (b4.mono c3.size)
        have c5 := c4.trans (b5.mono c4.size)
        obtain ⟨x0, x1, x2, x3, x4⟩ := HBX.out _ (b4.trans (b5.mono b4.size))
        obtain ⟨y0, y1, y2, y3, y4⟩ := box_cells w4 (.slice none 0 0) (.int .i64 0) (.bool false) (.int .i64 0) (.slice none 0 0) 28 (wx := W5) (by rw [← hW5]; exact Below.refl _ _)
        have hsm := rsameE1_eq (w := W5) (key := []) (vl := []) (seq := 0) (till := 0) (gone := false) (Sl.nil _) (Sl.nil _) (Sl.nil _) (Sl.nil _)
        have HW5 := hid hW5
        clear hW5 b5
        unfold ent0
        go_upto_region 6 with fail
        rw [← HW5.out]
        go_wp2_with fail
        refine hsm.mono ?_
        rintro e w6 ⟨rfl, b6⟩
        have c6 := c5.trans (b6.mono c5.size)
        clear hsm x0 x1 x2 x3 x4 y0 y1 y2 y3 y4
        go_wp2_with fail
        refine (awake9_any D w6 (HGD.out _ (HB.out.trans (c6.mono HB.out.size)))).mono ?_
        rintro e w7 ⟨rfl, b7⟩
        have c7 := c6.trans (b7.mono c6.size)
        go_wp2_with fail
        exact bodyPost_ret (v := .bool true) (by simp [results, Tryd.results4, go_sem]) rfl ⟨rfl, HB.out.trans (c7.mono HB.out.size)⟩
      · cases q
    · cases q
  | some x =>
    rcases hgot with ⟨q, _⟩ | ⟨x', ka, kc, va, vc, q, rfl, hem, _⟩
    · cases q
    · obtain rfl : x = x' := by simpa using q
      obtain ⟨_, _, _, _, ev, t1, t2, _⟩ := hem
      unfold entL at ev
      simp only [List.cons.injEq, Value.slice.injEq, and_true, true_and] at ev
      obtain ⟨⟨rfl, rfl⟩, ⟨rfl, rfl⟩⟩ := ev
      obtain ⟨W3, hW3⟩ : ∃ W, W = w2.alloc (.cells #[.slice ka x.key.length kc, .int .i64 x.seq, .bool x.gone, .int .i64 x.till, .slice va x.val.length vc] 28) := ⟨_, rfl⟩
      have b3 : Below w2.heap.size w2 W3 := by rw [hW3]; exact (Below.refl _ _).alloc (Nat.le_refl _) _
      have HBX : Hid (∀ wx, Below W3.heap.size W3 wx → _) := fun wx hb => box_cells w2 (.slice ka x.key.length kc) (.int .i64 x.seq) (.bool x.gone) (.int .i64 x.till) (.slice va x.val.length vc) 28 (wx := wx) (by rw [← hW3]; exact hb)
      have c3 := c2.trans (b3.mono c2.size)
      have HT : Hid (Sl W3 ka x.key.length kc x.key ∧ Sl W3 va x.val.length vc x.val) := ⟨t1.later b3, t2.later b3⟩
      have HW3 := hid hW3
      clear hW3 b3 t1 t2
      unfold entA
      go_upto_region 5 with fail
      rw [← HW3.out]
      go_wp2_with fail
      refine (HG2.out _ c3).mono ?_
      rintro e w4 ⟨b4, ⟨q, _⟩ | ⟨x', ka', kc', va', vc', q, rfl, hem'⟩⟩
      · cases q
      · obtain rfl : x = x' := by simpa using q
        obtain ⟨_, _, _, _, ev, t1, t2, _⟩ := hem'
        simp only [List.cons.injEq, Value.slice.injEq, and_true, true_and] at ev
        obtain ⟨⟨rfl, rfl⟩, ⟨rfl, rfl⟩⟩ := ev
        obtain ⟨W5, hW5⟩ : ∃ W, W = w4.alloc (.cells #[.slice ka' x.key.length kc', .int .i64 x.seq, .bool x.gone, .int .i64 x.till, .slice va' x.val.length vc'] 28) := ⟨_, rfl⟩
        have b5 : Below w4.heap.size w4 W5 := by rw [hW5]; exact (Below.refl _ _).alloc (Nat.le_refl _) _
        have c4 := c3.trans (b4.mono c3.size)
        have c5 := c4.trans (b5.mono c4.size)
        have b45 := b4.trans (b5.mono b4.size)
        obtain ⟨x0, x1, x2, x3, x4⟩ := HBX.out _ b45
        obtain ⟨y0, y1, y2, y3, y4⟩ := box_cells w4 (.slice ka' x.key.length kc') (.int .i64 x.seq) (.bool x.gone) (.int .i64 x.till) (.slice va' x.val.length vc') 28 (wx := W5) (by rw [← hW5]; exact Below.refl _ _)
        have hsm := rsameE1_eq (w := W5) (seq := x.seq) (till := x.till) (gone := x.gone) (HT.out.1.later b45) (HT.out.2.later b45) (t1.later b5) (t2.later b5)
        have HW5 := hid hW5
        clear hW5 b5 t1 t2 b45
        unfold entA
        go_upto_region 6 with fail
        rw [← HW5.out]
        go_wp2_with fail
        refine hsm.mono ?_
        rintro e w6 ⟨rfl, b6⟩
        have c6 := c5.trans (b6.mono c5.size)
        clear hsm x0 x1 x2 x3 x4 y0 y1 y2 y3 y4
        go_wp2_with fail
        refine (awake9_any D w6 (HGD.out _ (HB.out.trans (c6.mono HB.out.size)))).mono ?_
        rintro e w7 ⟨rfl, b7⟩
        have c7 := c6.trans (b7.mono c6.size)
        go_wp2_with fail
        exact bodyPost_ret (v := .bool true) (by simp [results, Tryd.results4, go_sem]) rfl ⟨rfl, HB.out.trans (c7.mono HB.out.size)⟩

/-- What is asked of a mem that there isn't. -/
structure PMN : Prop where
  add : ∀ {w ka kc va vc e}, EntM w (entL ka kc va vc e) e → Calls Tryd.prog 23 #[.pointer none, entA ka kc va vc e] w fun r w' => r = .returned (.int .i64 1) ∧ Below w.heap.size w w'
  len : ∀ {w : World}, Calls Tryd.prog 11 #[.pointer none] w fun r w' => r = .returned (.int .i64 0) ∧ Below w.heap.size w w'
  weight : ∀ {w : World}, Calls Tryd.prog 12 #[.pointer none] w fun r w' => r = .returned (.int .i64 0) ∧ Below w.heap.size w w'
  get : ∀ {w ka kl kc key s}, Sl w ka kl kc key → In64 s → Calls Tryd.prog 16 #[.pointer none, .slice ka kl kc, .int .i64 s] w fun r w' => r = .returned (.tuple #[ent0, .bool false]) ∧ Below w.heap.size w w'
  list : ∀ {w fa fl fc fr ta tl tc ub}, Sl w fa fl fc fr → Sl w ta tl tc ub → Calls Tryd.prog 19 #[.pointer none, .slice fa fl fc, .slice ta tl tc] w fun r w' => (∃ a c, r = .returned (.slice a 0 c)) ∧ Below w.heap.size w w'
  all : ∀ {w : World}, Calls Tryd.prog 14 #[.pointer none] w fun r w' => (∃ a c, r = .returned (.slice a 0 c)) ∧ Below w.heap.size w w'
  latest : ∀ {w fa fl fc fr ta tl tc ub s}, Sl w fa fl fc fr → Sl w ta tl tc ub → In64 s → Calls Tryd.prog 21 #[.pointer none, .slice fa fl fc, .slice ta tl tc, .int .i64 s] w fun r w' => (∃ a c, r = .returned (.slice a 0 c)) ∧ Below w.heap.size w w'
set_option maxHeartbeats 4000000 in
set_option maxRecDepth 100000 in
theorem nil9_any (D : PM) (N : PMN) {w : World} {fa : Option Addr} {fl fc : Nat} {key : List Int} {s : Int} (hG : D.G w) (hf : Sl w fa fl fc key) (hs : In64 s) :
    Calls Tryd.prog 6 #[.slice fa fl fc, .int .i64 s] w fun r w' => r = .returned (.bool true) ∧ Below w.heap.size w w' := by
  have HGD : Hid (∀ wx, Below w.heap.size w wx → D.G wx) := fun wx hb => D.gk hG hb
  clear hG
  have hg := N.get hf hs
  have HF : Hid (Sl w fa fl fc key ∧ In64 s) := ⟨hf, hs⟩
  have hcv := fun (w : World) a l c => Lib.run_convert_bytes_const (P := Tryd.prog) w 26 5 a l c Tryd.underlying26 Tryd.underlying5
  clear hf hs
  go_enter Tryd.func6, Tryd.ntmps6
  go_wp2_with fail
  refine hg.mono ?_
  rintro e w2 ⟨rfl, c2⟩
  clear hg
  obtain ⟨W3, hW3⟩ : ∃ W, W = w2.alloc (.cells #[.slice none 0 0, .int .i64 0, .bool false, .int .i64 0, .slice none 0 0] 28) := ⟨_, rfl⟩
  have b3 : Below w2.heap.size w2 W3 := by rw [hW3]; exact (Below.refl _ _).alloc (Nat.le_refl _) _
  have HBX : Hid (∀ wx, Below W3.heap.size W3 wx → _) := fun wx hb => box_cells w2 (.slice none 0 0) (.int .i64 0) (.bool false) (.int .i64 0) (.slice none 0 0) 28 (wx := wx) (by rw [← hW3]; exact hb)
  have c3 := c2.trans (b3.mono c2.size)
  have HW3 := hid hW3
  clear hW3 b3
  unfold ent0
  go_upto_region 3 with fail
  rw [← HW3.out]
  obtain ⟨W4, hW4⟩ : ∃ W, W = W3.alloc (.cells #[.int .u8 97] 5 (1, 2)) := ⟨_, rfl⟩
  have b4 : Below W3.heap.size W3 W4 := by rw [hW4]; exact (Below.refl _ _).alloc (Nat.le_refl _) _
  have hsk : Sl W4 (some ⟨W3.heap.size, 0, none⟩) 1 1 [97] := by rw [hW4]; exact sl_byte W3 97 (by decide)
  have ha := N.add (w := W4) (ka := some ⟨W3.heap.size, 0, none⟩) (kc := 1) (va := none) (vc := 0) (e := ⟨[97], 1, false, 0, []⟩) ⟨_, _, _, _, rfl, hsk, Sl.nil _, in64_of (by decide) (by decide), in64_of (by decide) (by decide)⟩
  unfold entA at ha
  simp only [List.length_cons, List.length_nil, Nat.zero_add] at ha
  rw [hW4] at ha
  have HW4 := hid hW4
  have c4 := c3.trans (b4.mono c3.size)
  clear hsk hW4
  go_wp2_with fail
  refine ha.mono ?_
  rintro e w5 ⟨rfl, b5⟩
  rw [← HW4.out] at b5
  have c5 := c4.trans (b5.mono c4.size)
  have d5 := b4.trans (b5.mono b4.size)
  clear ha
  go_wp2_with fail
  refine N.len.mono ?_
  rintro e w6 ⟨rfl, b6⟩
  have c6 := c5.trans (b6.mono c5.size)
  have d6 := d5.trans (b6.mono d5.size)
  go_wp2_with fail
  refine N.weight.mono ?_
  rintro e w7 ⟨rfl, b7⟩
  have c7 := c6.trans (b7.mono c6.size)
  have d7 := d6.trans (b7.mono d6.size)
  obtain ⟨x0, x1, x2, x3, x4⟩ := HBX.out _ d7
  have hsm := rsameE1_eq (w := w7) (key := []) (vl := []) (seq := 0) (till := 0) (gone := false) (Sl.nil _) (Sl.nil _) (Sl.nil _) (Sl.nil _)
  go_wp2_with fail
  refine hsm.mono ?_
  rintro e w8 ⟨rfl, b8⟩
  have c8 := c7.trans (b8.mono c7.size)
  clear hsm x0 x1 x2 x3 x4
  go_wp2_with fail
  refine N.all.mono ?_
  rintro e w9 ⟨⟨a9, k9, rfl⟩, b9⟩
  have c9 := c8.trans (b9.mono c8.size)
  go_wp2_with fail
  refine (N.list (HF.out.1.later c9) (Sl.nil _)).mono ?_
  rintro e w10 ⟨⟨a10, k10, rfl⟩, b10⟩
  have c10 := c9.trans (b10.mono c9.size)
  go_wp2_with fail
  refine (N.latest (Sl.nil _) (Sl.nil _) HF.out.2).mono ?_
  rintro e w11 ⟨⟨a11, k11, rfl⟩, b11⟩
  have c11 := c10.trans (b11.mono c10.size)
  go_wp2_with fail
  refine (awake9_any D w11 (HGD.out _ c11)).mono ?_
  rintro e w12 ⟨rfl, b12⟩
  have c12 := c11.trans (b12.mono c11.size)
  go_wp2_with fail
  exact bodyPost_ret (v := .bool true) (by simp [results, Tryd.results6, go_sem]) rfl ⟨rfl, c12⟩
end Go.Proofs.YtaefddnmldbgiaaDoor
