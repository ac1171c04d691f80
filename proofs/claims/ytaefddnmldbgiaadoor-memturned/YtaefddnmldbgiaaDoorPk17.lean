import Derived.Test.YtaefddnmldbgiaaDoorPk08
import Derived.Test.YtaefddnmldbgiaaDoorPk14
/- The laws on what a mem gets, and on a mem that there isn't, of any mem. -/
namespace Go.Proofs.YtaefddnmldbgiaaDoor
open Go.RowKit
set_option linter.unusedVariables false
set_option linter.unusedSimpArgs false

set_option maxHeartbeats 4000000 in
set_option maxRecDepth 100000 in
theorem gets_any (D : PM) {w : World} {ao fa : Option Addr} {len cap fl fc : Nat} {l : List EntV} {key : List Int} {s : Int} (hG : D.G w) (h : RS entE w ao len cap l) (hf : Sl w fa fl fc key) (hs : In64 s) :
    Calls Tryd.prog 4 #[.slice ao len cap, .slice fa fl fc, .int .i64 s] w fun r w' => r = .returned (.bool true) ∧ Below w.heap.size w w' := by
  have HGD : Hid (∀ wx, Below w.heap.size w wx → D.G wx) := fun wx hb => D.gk hG hb
  have hfl := filled_any D hG h
  clear hG
  have HF : Hid (Sl w fa fl fc key ∧ In64 s) := ⟨hf, hs⟩
  clear h hf hs
  go_enter Tryd.func4, Tryd.ntmps4
  go_wp2_with fail
  refine hfl.mono ?_
  rintro e w1 ⟨p, v, rfl, F, L, r1, o1, k1, n1, row1, own1, hF, bel⟩
  obtain ⟨ra, rc, hv, hrs⟩ := row1.s.rs
  subst hv
  have hg1 := D.get r1 o1 k1 (by omega) (HF.out.1.later bel) HF.out.2
  have HG2 : Hid (∀ wx, Below w1.heap.size w1 wx → Calls Tryd.prog 17 #[.slice ra L.length rc, .slice fa fl fc, .int .i64 s] wx fun r w' => Below wx.heap.size wx w' ∧ ((getE L key s = none ∧ r = .returned (.tuple #[ent0, .bool false])) ∨ ∃ x ka kc va vc, getE L key s = some x ∧ r = .returned (.tuple #[entA ka kc va vc x, .bool true]) ∧ EntM w' [.slice ka x.key.length kc, .int .i64 x.seq, .bool x.gone, .int .i64 x.till, .slice va x.val.length vc] x)) := fun wx hb => rgetE_any (hrs.later hb) ((HF.out.1.later bel).later hb) (by omega)
  have HB := hid bel
  generalize L.length = n at HG2 ⊢
  generalize getE L key s = g at hg1 HG2
  clear hfl r1 o1 k1 n1 row1 own1 hF bel hrs
  go_wp2_with fail
  refine hg1.mono ?_
  rintro e w2 ⟨hgot, c2⟩
  clear hg1
  cases g with
  | none =>
    rcases hgot with ⟨_, rfl⟩ | ⟨x, _, _, _, _, q, _⟩
    · obtain ⟨W3, hW3⟩ : ∃ W, W = w2.alloc (.cells #[.slice none 0 0, .int .i64 0, .bool false, .int .i64 0, .slice none 0 0] 28) := ⟨_, rfl⟩
      have b3 : Below w2.heap.size w2 W3 := by rw [hW3]; exact (Below.refl _ _).alloc (Nat.le_refl _) _
      have HBX : Hid (∀ wx, Below W3.heap.size W3 wx → _) := fun wx hb => box_cells w2 (.slice none 0 0) (.int .i64 0) (.bool false) (.int .i64 0) (.slice none 0 0) 28 (wx := wx) (by rw [← hW3]; exact hb)
      have c3 := c2.trans (b3.mono c2.size)
      have HW3 := hid hW3
      clear hW3 b3
      unfold ent0
      go_upto_region 5 with fail
      rw [← HW3.out]
      go_wp2_with fail
      refine (HG2.out _ c3).mono ?_
      rintro e w4 ⟨b4, ⟨_, rfl⟩ | ⟨x, _, _, _, _, q, _⟩⟩
      · obtain ⟨W5, hW5⟩ : ∃ W, W = w4.alloc (.cells #[.slice none 0 0, .int .i64 0, .bool false, .int .i64 0, .slice none 0 0] 28) := ⟨_, rfl⟩
        have b5 : Below w4.heap.size w4 W5 := by rw [hW5]; exact (Below.refl _ _).alloc (Nat.le_refl _) _
        have c4 := c3.trans (b4.mono c3.size)
        have c5 := c4.trans (b5.mono c4.size)
        obtain ⟨x0, x1, x2, x3, x4⟩ := HBX.out _ (b4.trans (b5.mono b4.size))
        obtain ⟨y0, y1, y2, y3, y4⟩ := box_cells w4 (.slice none 0 0) (.int .i64 0) (.bool false) (.int .i64 0) (.slice none 0 0) 28 (wx := W5) (by rw [← hW5]; exact Below.refl _ _)
        have hsm := rsameE1_eq (w := W5) (key := []) (vl := []) (seq := 0) (till := 0) (gone := false) (Sl.nil _) (Sl.nil _) (Sl.nil _) (Sl.nil _)
        have HW5 := hid hW5
        clear hW5 b5
        unfold ent0
        go_upto_region 6 with fail
        rw [← HW5.out]
        go_wp2_with fail
        refine hsm.mono ?_
        rintro e w6 ⟨rfl, b6⟩
        have c6 := c5.trans (b6.mono c5.size)
        clear hsm x0 x1 x2 x3 x4 y0 y1 y2 y3 y4
        go_wp2_with fail
        refine (awake9_any D w6 (HGD.out _ (HB.out.trans (c6.mono HB.out.size)))).mono ?_
        rintro e w7 ⟨rfl, b7⟩
        have c7 := c6.trans (b7.mono c6.size)
        go_wp2_with fail
        exact bodyPost_ret (v := .bool true) (by simp [results, Tryd.results4, go_sem]) rfl ⟨rfl, HB.out.trans (c7.mono HB.out.size)⟩
      · cases q
    · cases q
  | some x =>
    rcases hgot with ⟨q, _⟩ | ⟨x', ka, kc, va, vc, q, rfl, hem, _⟩
    · cases q
    · obtain rfl : x = x' := by simpa using q
      obtain ⟨_, _, _, _, ev, t1, t2, _⟩ := hem
      unfold entL at ev
      simp only [List.cons.injEq, Value.slice.injEq, and_true, true_and] at ev
      obtain ⟨⟨rfl, rfl⟩, ⟨rfl, rfl⟩⟩ := ev
      obtain ⟨W3, hW3⟩ : ∃ W, W = w2.alloc (.cells #[.slice ka x.key.length kc, .int .i64 x.seq, .bool x.gone, .int .i64 x.till, .slice va x.val.length vc] 28) := ⟨_, rfl⟩
      have b3 : Below w2.heap.size w2 W3 := by rw [hW3]; exact (Below.refl _ _).alloc (Nat.le_refl _) _
      have HBX : Hid (∀ wx, Below W3.heap.size W3 wx → _) := fun wx hb => box_cells w2 (.slice ka x.key.length kc) (.int .i64 x.seq) (.bool x.gone) (.int .i64 x.till) (.slice va x.val.length vc) 28 (wx := wx) (by rw [← hW3]; exact hb)
      have c3 := c2.trans (b3.mono c2.size)
      have HT : Hid (Sl W3 ka x.key.length kc x.key ∧ Sl W3 va x.val.length vc x.val) := ⟨t1.later b3, t2.later b3⟩
      have HW3 := hid hW3
      clear hW3 b3 t1 t2
      unfold entA
      go_upto_region 5 with fail
      rw [← HW3.out]
      go_wp2_with fail
      refine (HG2.out _ c3).mono ?_
      rintro e w4 ⟨b4, ⟨q, _⟩ | ⟨x', ka', kc', va', vc', q, rfl, hem'⟩⟩
      · cases q
      · obtain rfl : x = x' := by simpa using q
        obtain ⟨_, _, _, _, ev, t1, t2, _⟩ := hem'
        simp only [List.cons.injEq, Value.slice.injEq, and_true, true_and] at ev
        obtain ⟨⟨rfl, rfl⟩, ⟨rfl, rfl⟩⟩ := ev
        obtain ⟨W5, hW5⟩ : ∃ W, W = w4.alloc (.cells #[.slice ka' x.key.length kc', .int .i64 x.seq, .bool x.gone, .int .i64 x.till, .slice va' x.val.length vc'] 28) := ⟨_, rfl⟩
        have b5 : Below w4.heap.size w4 W5 := by rw [hW5]; exact (Below.refl _ _).alloc (Nat.le_refl _) _
        have c4 := c3.trans (b4.mono c3.size)
        have c5 := c4.trans (b5.mono c4.size)
        have b45 := b4.trans (b5.mono b4.size)
        obtain ⟨x0, x1, x2, x3, x4⟩ := HBX.out _ b45
        obtain ⟨y0, y1, y2, y3, y4⟩ := box_cells w4 (.slice ka' x.key.length kc') (.int .i64 x.seq) (.bool x.gone) (.int .i64 x.till) (.slice va' x.val.length vc') 28 (wx := W5) (by rw [← hW5]; exact Below.refl _ _)
        have hsm := rsameE1_eq (w := W5) (seq := x.seq) (till := x.till) (gone := x.gone) (HT.out.1.later b45) (HT.out.2.later b45) (t1.later b5) (t2.later b5)
        have HW5 := hid hW5
        clear hW5 b5 t1 t2 b45
        unfold entA
        go_upto_region 6 with fail
        rw [← HW5.out]
        go_wp2_with fail
        refine hsm.mono ?_
        rintro e w6 ⟨rfl, b6⟩
        have c6 := c5.trans (b6.mono c5.size)
        clear hsm x0 x1 x2 x3 x4 y0 y1 y2 y3 y4
        go_wp2_with fail
        refine (awake9_any D w6 (HGD.out _ (HB.out.trans (c6.mono HB.out.size)))).mono ?_
        rintro e w7 ⟨rfl, b7⟩
        have c7 := c6.trans (b7.mono c6.size)
        go_wp2_with fail
        exact bodyPost_ret (v := .bool true) (by simp [results, Tryd.results4, go_sem]) rfl ⟨rfl, HB.out.trans (c7.mono HB.out.size)⟩

/-- What is asked of a mem that there isn't. -/
structure PMN : Prop where
  add : ∀ {w ka kc va vc e}, EntM w (entL ka kc va vc e) e → Calls Tryd.prog 23 #[.pointer none, entA ka kc va vc e] w fun r w' => r = .returned (.int .i64 1) ∧ Below w.heap.size w w'
  len : ∀ {w : World}, Calls Tryd.prog 11 #[.pointer none] w fun r w' => r = .returned (.int .i64 0) ∧ Below w.heap.size w w'
  weight : ∀ {w : World}, Calls Tryd.prog 12 #[.pointer none] w fun r w' => r = .returned (.int .i64 0) ∧ Below w.heap.size w w'
  get : ∀ {w ka kl kc key s}, Sl w ka kl kc key → In64 s → Calls Tryd.prog 16 #[.pointer none, .slice ka kl kc, .int .i64 s] w fun r w' => r = .returned (.tuple #[ent0, .bool false]) ∧ Below w.heap.size w w'
  list : ∀ {w fa fl fc fr ta tl tc ub}, Sl w fa fl fc fr → Sl w ta tl tc ub → Calls Tryd.prog 19 #[.pointer none, .slice fa fl fc, .slice ta tl tc] w fun r w' => (∃ a c, r = .returned (.slice a 0 c)) ∧ Below w.heap.size w w'
  all : ∀ {w : World}, Calls Tryd.prog 14 #[.pointer none] w fun r w' => (∃ a c, r = .returned (.slice a 0 c)) ∧ Below w.heap.size w w'
  latest : ∀ {w fa fl fc fr ta tl tc ub s}, Sl w fa fl fc fr → Sl w ta tl tc ub → In64 s → Calls Tryd.prog 21 #[.pointer none, .slice fa fl fc, .slice ta tl tc, .int .i64 s] w fun r w' => (∃ a c, r = .returned (.slice a 0 c)) ∧ Below w.heap.size w w'
set_option maxHeartbeats 4000000 in
set_option maxRecDepth 100000 in
theorem nil9_any (D : PM) (N : PMN) {w : World} {fa : Option Addr} {fl fc : Nat} {key : List Int} {s : Int} (hG : D.G w) (hf : Sl w fa fl fc key) (hs : In64 s) :
    Calls Tryd.prog 6 #[.slice fa fl fc, .int .i64 s] w fun r w' => r = .returned (.bool true) ∧ Below w.heap.size w w' := by
  have HGD : Hid (∀ wx, Below w.heap.size w wx → D.G wx) := fun wx hb => D.gk hG hb
  clear hG
  have hg := N.get hf hs
  have HF : Hid (Sl w fa fl fc key ∧ In64 s) := ⟨hf, hs⟩
  have hcv := fun (w : World) a l c => Lib.run_convert_bytes_const (P := Tryd.prog) w 26 5 a l c Tryd.underlying26 Tryd.underlying5
  clear hf hs
  go_enter Tryd.func6, Tryd.ntmps6
  go_wp2_with fail
  refine hg.mono ?_
  rintro e w2 ⟨rfl, c2⟩
  clear hg
  obtain ⟨W3, hW3⟩ : ∃ W, W = w2.alloc (.cells #[.slice none 0 0, .int .i64 0, .bool false, .int .i64 0, .slice none 0 0] 28) := ⟨_, rfl⟩
  have b3 : Below w2.heap.size w2 W3 := by rw [hW3]; exact (Below.refl _ _).alloc (Nat.le_refl _) _
  have HBX : Hid (∀ wx, Below W3.heap.size W3 wx → _) := fun wx hb => box_cells w2 (.slice none 0 0) (.int .i64 0) (.bool false) (.int .i64 0) (.slice none 0 0) 28 (wx := wx) (by rw [← hW3]; exact hb)
  have c3 := c2.trans (b3.mono c2.size)
  have HW3 := hid hW3
  clear hW3 b3
  unfold ent0
  go_upto_region 3 with fail
  rw [← HW3.out]
  obtain ⟨W4, hW4⟩ : ∃ W, W = W3.alloc (.cells #[.int .u8 97] 5 (1, 2)) := ⟨_, rfl⟩
  have b4 : Below W3.heap.size W3 W4 := by rw [hW4]; exact (Below.refl _ _).alloc (Nat.le_refl _) _
  have hsk : Sl W4 (some ⟨W3.heap.size, 0, none⟩) 1 1 [97] := by rw [hW4]; exact sl_byte W3 97 (by decide)
  have ha := N.add (w := W4) (ka := some ⟨W3.heap.size, 0, none⟩) (kc := 1) (va := none) (vc := 0) (e := ⟨[97], 1, false, 0, []⟩) ⟨_, _, _, _, rfl, hsk, Sl.nil _, in64_of (by decide) (by decide), in64_of (by decide) (by decide)⟩
  unfold entA at ha
  simp only [List.length_cons, List.length_nil, Nat.zero_add] at ha
  rw [hW4] at ha
  have HW4 := hid hW4
  have c4 := c3.trans (b4.mono c3.size)
  clear hsk hW4
  go_wp2_with fail
  refine ha.mono ?_
  rintro e w5 ⟨rfl, b5⟩
  rw [← HW4.out] at b5
  have c5 := c4.trans (b5.mono c4.size)
  have d5 := b4.trans (b5.mono b4.size)
  clear ha
  go_wp2_with fail
  refine N.len.mono ?_
  rintro e w6 ⟨rfl, b6⟩
  have c6 := c5.trans (b6.mono c5.size)
  have d6 := d5.trans (b6.mono d5.size)
  go_wp2_with fail
  refine N.weight.mono ?_
  rintro e w7 ⟨rfl, b7⟩
  have c7 := c6.trans (b7.mono c6.size)
  have d7 := d6.trans (b7.mono d6.size)
  obtain ⟨x0, x1, x2, x3, x4⟩ := HBX.out _ d7
  have hsm := rsameE1_eq (w := w7) (key := []) (vl := []) (seq := 0) (till := 0) (gone := false) (Sl.nil _) (Sl.nil _) (Sl.nil _) (Sl.nil _)
  go_wp2_with fail
  refine hsm.mono ?_
  rintro e w8 ⟨rfl, b8⟩
  have c8 := c7.trans (b8.mono c7.size)
  clear hsm x0 x1 x2 x3 x4
  go_wp2_with fail
  refine N.all.mono ?_
  rintro e w9 ⟨⟨a9, k9, rfl⟩, b9⟩
  have c9 := c8.trans (b9.mono c8.size)
  go_wp2_with fail
  refine (N.list (HF.out.1.later c9) (Sl.nil _)).mono ?_
  rintro e w10 ⟨⟨a10, k10, rfl⟩, b10⟩
  have c10 := c9.trans (b10.mono c9.size)
  go_wp2_with fail
  refine (N.latest (Sl.nil _) (Sl.nil _) HF.out.2).mono ?_
  rintro e w11 ⟨⟨a11, k11, rfl⟩, b11⟩
  have c11 := c10.trans (b11.mono c10.size)
  go_wp2_with fail
  refine (awake9_any D w11 (HGD.out _ c11)).mono ?_
  rintro e w12 ⟨rfl, b12⟩
  have c12 := c11.trans (b12.mono c11.size)
  go_wp2_with fail
  exact bodyPost_ret (v := .bool true) (by simp [results, Tryd.results6, go_sem]) rfl ⟨rfl, c12⟩
end Go.Proofs.YtaefddnmldbgiaaDoor

/- What follows of entries in order: cuts, what is got, in which order they come. -/
namespace Go.Proofs.YtaefddnmldbgiaaDoor
set_option linter.unusedVariables false
set_option linter.unusedSimpArgs false

theorem ahead_key {a b : EntV} (h : ahead a b < 0) : cmp a.key b.key ≤ 0 := by
  unfold ahead at h
  by_cases q : cmp a.key b.key = 0
  · omega
  · rw [if_pos q] at h; omega
theorem cmp_le_trans {a b c : List Int} (h1 : cmp a b ≤ 0) (h2 : cmp b c < 0) : cmp a c < 0 := by
  by_cases q : cmp a b = 0
  · rw [cmp_zero.1 q]; exact h2
  · exact cmp_trans (by omega) h2
theorem inE_ahead {key : List Int} (hk : key.length ≠ 0) (e : EntV) : inE [] key e = decide (cmp e.key key < 0) := by
  unfold inE
  have := cmp_nil e.key
  simp [this, hk]
theorem inE_behind (key : List Int) (e : EntV) : inE key [] e = decide (0 ≤ cmp e.key key) := by
  unfold inE
  simp
/-- What lies ahead of a key and what lies from it on are all. -/
theorem cut_all {key : List Int} (hk : key.length ≠ 0) : ∀ {L : List EntV}, ordE L → listE L [] key ++ listE L key [] = L
  | [], _ => rfl
  | x :: r, ho => by
    obtain ⟨h1, h2⟩ := List.pairwise_cons.1 ho
    by_cases q : cmp x.key key < 0
    · have ih := cut_all hk h2
      have e1 : listE (x :: r) [] key = x :: listE r [] key := by
        unfold listE
        rw [List.filter_cons_of_pos (by rw [inE_ahead hk]; simpa using q)]
      have e2 : listE (x :: r) key [] = listE r key [] := by
        unfold listE
        rw [List.filter_cons_of_neg (by rw [inE_behind]; simp; omega)]
      rw [e1, e2, List.cons_append, ih]
    · have hall : ∀ y ∈ x :: r, ¬ cmp y.key key < 0 := fun y hy hlt => by
        rcases List.mem_cons.1 hy with e | e
        · subst e; exact q hlt
        · exact q (cmp_le_trans (ahead_key (h1 y e)) hlt)
      have e1 : listE (x :: r) [] key = [] := by
        unfold listE
        refine List.filter_eq_nil_iff.2 fun y hy => ?_
        rw [inE_ahead hk]
        simpa using hall y hy
      have e2 : listE (x :: r) key [] = x :: r := by
        unfold listE
        refine List.filter_eq_self.2 fun y hy => ?_
        rw [inE_behind]
        have := hall y hy
        simp
        omega
      rw [e1, e2, List.nil_append]
/-- Get is the first of a key's that is not newer. -/
theorem get_behind (L : List EntV) (key : List Int) (s : Int) : getE (listE L key []) key s = getE L key s := by
  unfold getE listE
  rw [List.find?_filter]
  congr 1
  funext e
  rw [inE_behind]
  by_cases q : cmp e.key key = 0
  · simp [q]
  · simp [q]
/-- Each is got at its own number. -/
theorem get_own : ∀ {L : List EntV}, ordE L → ∀ {e : EntV}, e ∈ L → getE L e.key e.seq = some e
  | x :: r, ho, e, he => by
    obtain ⟨h1, h2⟩ := List.pairwise_cons.1 ho
    rcases List.mem_cons.1 he with q | q
    · subst q
      unfold getE
      rw [List.find?_cons_of_pos (by simp [cmp_refl])]
    · have hx := h1 e q
      have hn : ¬ (cmp x.key e.key = 0 ∧ x.seq ≤ e.seq) := fun ⟨p1, p2⟩ => by
        unfold ahead at hx
        rw [if_neg (by omega)] at hx
        rw [if_neg (by omega)] at hx
        split at hx <;> omega
      unfold getE
      rw [List.find?_cons_of_neg (by simpa using hn)]
      exact get_own h2 q
/-- Entries added one behind the other. -/
def addAll (xs : List EntV) (L : List EntV) : List EntV := xs.foldl (fun L e => (addE L e).2) L
theorem addAll_ord : ∀ (xs : List EntV) {L : List EntV}, ordE L → ordE (addAll xs L)
  | [], _, h => h
  | x :: r, L, h => addAll_ord r (addE_ord h x)
theorem addAll_ok : ∀ (xs : List EntV) {L : List EntV}, okE L → okE (addAll xs L)
  | [], _, h => h
  | x :: r, L, h => addAll_ok r (addE_ok h x)
theorem addAll_len : ∀ (xs L : List EntV), (addAll xs L).length ≤ L.length + xs.length
  | [], L => Nat.le_refl _
  | x :: r, L => by
    have h1 := addAll_len r (addE L x).2
    have h2 := addE_len L x
    show (addAll r (addE L x).2).length ≤ _
    rw [List.length_cons]
    omega
theorem addAll_app (xs ys L : List EntV) : addAll (xs ++ ys) L = addAll ys (addAll xs L) := List.foldl_append
/-- No two alike. -/
def unlike (xs : List EntV) : Prop := xs.Pairwise fun a b => ¬ (a.key = b.key ∧ a.seq = b.seq)
theorem addAll_perm : ∀ (xs L : List EntV), unlike xs → (∀ a ∈ L, ∀ b ∈ xs, ¬ (a.key = b.key ∧ a.seq = b.seq)) → (addAll xs L).Perm (xs.filter mayE ++ L)
  | [], L, _, _ => List.Perm.refl _
  | x :: r, L, hu, hd => by
    obtain ⟨h1, h2⟩ := List.pairwise_cons.1 hu
    show (addAll r (addE L x).2).Perm _
    cases hm : mayE x with
    | false =>
      rw [List.filter_cons_of_neg (by simp [hm])]
      have e : (addE L x).2 = L := by unfold addE; rw [if_pos hm]
      rw [e]
      exact addAll_perm r L h2 fun a ha b hb => hd a ha b (List.mem_cons_of_mem _ hb)
    | true =>
      rw [List.filter_cons_of_pos (by simp [hm])]
      have hh : hasE L x = false := by
        rw [Bool.eq_false_iff]
        intro hh
        obtain ⟨a, ha, hz⟩ := List.any_eq_true.1 hh
        exact hd a ha x (List.mem_cons_self ..) (ahead_zero.1 (by simpa using hz))
      have e : (addE L x).2 = putE L x := by unfold addE; rw [if_neg (by rw [hm]; decide), if_neg (by rw [hh]; decide)]
      rw [e]
      have ih := addAll_perm r (putE L x) h2 fun a ha b hb => by
        rcases List.mem_cons.1 ((putE_perm L x).mem_iff.1 ha) with q | q
        · subst q; exact h1 b hb
        · exact hd a q b (List.mem_cons_of_mem _ hb)
      refine ih.trans ?_
      refine ((List.Perm.refl _).append (putE_perm L x)).trans ?_
      exact List.perm_middle
/-- Rows in order that hold the same are the same. -/
theorem ord_eq : ∀ {a b : List EntV}, ordE a → ordE b → a.Perm b → a = b
  | [], b, _, _, hp => by rw [hp.nil_eq]
  | x :: r, [], _, _, hp => by
    have := hp.length_eq
    simp at this
  | x :: r, y :: q, ha, hb, hp => by
    obtain ⟨h1, h2⟩ := List.pairwise_cons.1 ha
    obtain ⟨g1, g2⟩ := List.pairwise_cons.1 hb
    have hxy : x = y := by
      rcases List.mem_cons.1 (hp.mem_iff.1 (List.mem_cons_self ..)) with e | e
      · exact e
      · rcases List.mem_cons.1 (hp.mem_iff.2 (List.mem_cons_self ..)) with e' | e'
        · exact e'.symm
        · have k1 := g1 x e
          have k2 := h1 y e'
          have k3 := ahead_neg x y
          omega
    subst hxy
    rw [ord_eq h2 g2 (List.perm_cons x |>.1 hp)]
/-- In which order they come makes no difference. -/
theorem addAll_turned {xs : List EntV} (hu : unlike xs) : addAll xs.reverse [] = addAll xs [] := by
  have ho : ordE ([] : List EntV) := List.Pairwise.nil
  have hr : unlike xs.reverse := by
    unfold unlike
    rw [List.pairwise_reverse]
    refine List.Pairwise.imp (fun h => ?_) hu
    rintro ⟨h1, h2⟩
    exact h ⟨h1.symm, h2.symm⟩
  have p1 := addAll_perm xs [] hu (fun a ha => by cases ha)
  have p2 := addAll_perm xs.reverse [] hr (fun a ha => by cases ha)
  refine ord_eq (addAll_ord _ ho) (addAll_ord _ ho) ?_
  refine p2.trans (List.Perm.trans ?_ p1.symm)
  exact ((List.reverse_perm xs).filter _).append (List.Perm.refl _)
end Go.Proofs.YtaefddnmldbgiaaDoor

/- The law on what lies ahead of a key and behind it, of any mem. -/
namespace Go.Proofs.YtaefddnmldbgiaaDoor
open Go.RowKit
set_option linter.unusedVariables false
set_option linter.unusedSimpArgs false

/-- A mem that is being filled. -/
def AddS (D : PM) (w : World) (p n : Nat) (wx : World) (L : List EntV) : Prop :=
  ∃ F, D.R wx p L F ∧ ordE L ∧ okE L ∧ L.length ≤ n ∧ (∀ k, F k → w.heap.size ≤ k) ∧ Below w.heap.size w wx
theorem AddS.later {D : PM} {w : World} {p n : Nat} {wx wy : World} {L : List EntV} (h : AddS D w p n wx L) (hb : Below wx.heap.size wx wy) : AddS D w p n wy L := by
  obtain ⟨F, a1, a2, a3, a4, a5, a6⟩ := h
  exact ⟨F, PM.later a1 hb, a2, a3, a4, a5, a6.trans (hb.mono a6.size)⟩
/-- One more. -/
theorem AddS.add {D : PM} {w : World} {p n : Nat} {wx : World} {L : List EntV} (h : AddS D w p n wx L) (hn : n ≤ 90) {ka kc va vc : _} {o : EntV} (hem : EntM w (entL ka kc va vc o) o) (h1 : o.key.length ≤ 3000) (h2 : o.val.length ≤ 3000) :
    Calls Tryd.prog 23 #[pm p, entA ka kc va vc o] wx fun r w' => r = .returned (.int .i64 ((addE L o).1 : Nat)) ∧ AddS D w p (n + 1) w' (addE L o).2 := by
  obtain ⟨F, a1, a2, a3, a4, a5, a6⟩ := h
  refine (D.add a1 a2 a3 (by omega) (El.later (E := entE) hem a6) (fun u hu b hr hb' => by have := entE.lt hem u hu b hr; have := a5 b hb'; omega) h1 h2).mono fun r w' ⟨he, F', r6, k6, f6⟩ => ⟨he, F', r6, addE_ord a2 o, addE_ok a3 o, by have := addE_len L o; omega, (fun j hj => ?_), a6.trans (k6.below a6.size a5)⟩
  rcases f6 j hj with q | q
  · exact a5 j q
  · have := a6.size; omega
theorem wpList_appSw {α : Type} (E : El α) {t : TypeId} {z : Value} {bytes : Nat} (ht : Tryd.prog.underlying t = some (.slice E.ty)) (hinfo : (Tryd.prog.info? E.ty).map (fun i => (i.zero, i.size, i.bytes)) = some (some z, E.size, bytes)) (hz1 : z.cells.size = E.size) (hp : 0 < E.size)
    {w : World} {ops : Array Oper} {rest : List Oper} {o : Oper} {a : Act} {Q : Exit → Act → World → Prop} (hw : Region.wanted o (yielded ops a.tmps) = true) (s x : Operand)
    (ho : o.op = .call { callee := .builtin .append, args := #[s, x], argTypes := #[t, t] }) {B : Nat} {v : Value} {xs ys : List α} (hs : a.eval s = v) (hrow : RowS E B w v xs) {ao : Option Addr} {m c : Nat} {us : List Value} (hx : a.eval x = .slice ao m c)
    (hr : RSu E w ao m c us ys) (hsep : ∀ u ∈ us, ∀ b, Refs u b → v.ownBlock ≠ some b) (h63 : xs.length + m ≤ 140737488355328) (hb : (xs.length + m) * bytes ≤ 140737488355328) (hbase : B ≤ w.heap.size)
    (h : ∀ v' w', RowS E B w' v' (xs ++ ys) → w.grownBy w' v.ownBlock → wpList Tryd.prog ops Q rest (a.put o.dst v') w') : wpList Tryd.prog ops Q (o :: rest) a w :=
  wpList_step fun K hK => by
    rw [if_pos hw]
    obtain ⟨v', w', hr, h2, h3, h4⟩ := run_appS E t z bytes ht hinfo hz1 hp o.type hrow hr hsep h63 hb hbase
    unfold Oper.wp execOp
    simp only [ho, resolve, invoke, builtin, Sem.run_bind, Sem.run_pure, Result.andThen_ok, List.map_toArray, List.map_cons, List.map_nil, hs, hx, hr]
    exact hK _ _ (h v' w' h2 h3)
theorem getE_keep {l : List EntV} {key : List Int} {s : Int} {k : Nat} {x : EntV} (h : getE (l.take k) key s = some x) : getE (l.take (k + 1)) key s = some x := by
  unfold getE at h ⊢
  rw [List.take_add_one, List.find?_append, h]
  rfl
/-- What was wanted, in its box. -/
def WantS (q : Nat) (g : Option EntV) (wr : World) : Prop :=
  (g = none ∧ wr.heap[q]? = some (.cells #[.slice none 0 0, .int .i64 0, .bool false, .int .i64 0, .slice none 0 0] 28 (0, 0))) ∨ ∃ x ka kc va vc, g = some x ∧ wr.heap[q]? = some (.cells #[.slice ka x.key.length kc, .int .i64 x.seq, .bool x.gone, .int .i64 x.till, .slice va x.val.length vc] 28 (0, 0)) ∧ EntM wr (entL ka kc va vc x) x

theorem WantS.later {q : Nat} {g : Option EntV} {wr wx : World} (h : WantS q g wr) (hb : Below wr.heap.size wr wx) : WantS q g wx := by
  rcases h with ⟨h1, h2⟩ | ⟨x, ka, kc, va, vc, h1, h2, h3⟩
  · exact .inl ⟨h1, (hb.block q (Array.getElem?_eq_some_iff.1 h2).1).trans h2⟩
  · exact .inr ⟨x, ka, kc, va, vc, h1, (hb.block q (Array.getElem?_eq_some_iff.1 h2).1).trans h2, El.later (E := entE) h3 hb⟩

set_option maxHeartbeats 4000000 in
set_option maxRecDepth 100000 in
theorem cuts_any (D : PM) (LL : PML D) {w : World} {ao fa : Option Addr} {len cap fl fc : Nat} {l : List EntV} {key : List Int} {s : Int} (hG : D.G w) (h : RS entE w ao len cap l) (hf : Sl w fa fl fc key) (hs : In64 s) :
    Calls Tryd.prog 8 #[.slice ao len cap, .slice fa fl fc, .int .i64 s] w fun r w' => r = .returned (.bool true) ∧ Below w.heap.size w w' := by
  have HGD : Hid (∀ wx, Below w.heap.size w wx → D.G wx) := fun wx hb => D.gk hG hb
  have HS : Hid (RS entE w ao len cap l ∧ Sl w fa fl fc key ∧ In64 s) := ⟨h, hf, hs⟩
  have hln : l.length = len := h.len.1
  have hl63 : len ≤ 2 ^ 63 - 1 := by have := h.len.2; unfold maxLen at this; omega
  have hnew := D.new hG
  clear hG
  clear h hf hs
  go_enter Tryd.func8, Tryd.ntmps8
  go_wp2_with fail
  refine hnew.mono ?_
  rintro e w1 ⟨p, F0, rfl, r0, hF0, b0⟩
  have H0 : Hid (AddS D w p 0 w1 []) := ⟨F0, r0, ord_nil, ok_nil, Nat.le_refl _, hF0, b0⟩
  clear hnew r0 hF0 b0
  go_upto_block 0 with fail
  go_cut [8] from 17 to 39 (fun _ wx => ∃ L, Hid (AddS D w p 60 wx L))
  case first =>
    go_wp2_with fail
    go_loopg [8] len (fun g i wr => ∃ k : Nat, k + g = len ∧ i = .int .i64 (k : Int) ∧ ∃ L, Hid (k ≤ 60 ∧ AddS D w p k wr L))
    case atStart => exact ⟨0, by omega, rfl, [], Nat.zero_le _, H0⟩
    case round =>
      obtain ⟨k, hk, rfl, L, HK⟩ := hrel
      by_cases hkl : k < len
      · have hkl' : (k : Int) < (len : Int) := by omega
        by_cases h60 : k < 60
        · have h60' : (k : Int) < 60 := by omega
          have hkx : k < l.length := by omega
          have bel : Below w.heap.size w wr := by obtain ⟨_, _, _, _, _, _, q⟩ := HK.out.2; exact q
          obtain ⟨b, off, ka, kc, va, vc, rfl, e0, e1, e2, e3, e4, sk, sv, i1, i2⟩ := RS.ent HS.out.1 (List.getElem?_eq_getElem hkx)
          have d0 := cell_later bel e0
          have d1 := cell_later bel e1
          have d2 := cell_later bel e2
          have d3 := cell_later bel e3
          have d4 := cell_later bel e4
          generalize l[k] = o at e0 e1 e2 e3 e4 d0 d1 d2 d3 d4 sk sv i1 i2
          have HEM : Hid (EntM w (entL ka kc va vc o) o) := ⟨ka, kc, va, vc, rfl, sk, sv, i1, i2⟩
          have hlg := light9_any (w := wr) (ka := ka) (kc := kc) (va := va) (vc := vc) (e := o)
          have HC : Hid (∀ wx, Below wr.heap.size wr wx → wx.cell? ⟨b, off + k * 5, none⟩ = some (.slice ka o.key.length kc) ∧ wx.cell? ⟨b, off + k * 5 + 1, none⟩ = some (.int .i64 o.seq) ∧ wx.cell? ⟨b, off + k * 5 + 2, none⟩ = some (.bool o.gone) ∧ wx.cell? ⟨b, off + k * 5 + 3, none⟩ = some (.int .i64 o.till) ∧ wx.cell? ⟨b, off + k * 5 + 4, none⟩ = some (.slice va o.val.length vc)) := fun wx hb => ⟨cell_later hb d0, cell_later hb d1, cell_later hb d2, cell_later hb d3, cell_later hb d4⟩
          have HBW : Hid (Below w.heap.size w wr) := bel
          have hk62 : k ≤ 2 ^ 61 := by omega
          obtain ⟨GK, HG⟩ : ∃ g, Hid (g < gk ∧ k + 1 + g = len) := ⟨gk - 1, by omega, by omega⟩
          unfold entA at hlg
          clear e0 e1 e2 e3 e4 sk sv i1 i2 bel hk
          go_wp2_with fail
          refine hlg.mono ?_
          rintro e w2 ⟨rfl, b2⟩
          clear hlg d0 d1 d2 d3 d4
          by_cases hlt : o.key.length ≤ 3000 ∧ o.val.length ≤ 3000
          · have hlt' : decide (o.key.length ≤ 3000 ∧ o.val.length ≤ 3000) = true := by simpa using hlt
            rw [hlt']
            obtain ⟨d0, d1, d2, d3, d4⟩ := HC.out _ b2
            have hadd := (HK.out.2.later b2).add (by omega) HEM.out hlt.1 hlt.2
            unfold entA at hadd
            have HK1 : Hid (k + 1 ≤ 60) := by show _ ≤ _; omega
            clear hlt hlt'
            go_wp2_with fail
            refine hadd.mono ?_
            rintro e w3 ⟨rfl, hst⟩
            have HST := hid hst
            clear hadd hst d0 d1 d2 d3 d4
            go_wp2_with fail
            go_roundg GK
            case measure => exact HG.out.1
            case rel => exact ⟨k + 1, HG.out.2, by go_num, _, HK1.out, HST.out⟩
          · have hlt' : decide (o.key.length ≤ 3000 ∧ o.val.length ≤ 3000) = false := by rw [decide_eq_false_iff_not]; exact hlt
            rw [hlt']
            clear hlt hlt'
            go_wp2_with fail
            have c2 := HBW.out.trans (b2.mono HBW.out.size)
            refine (awake9_any D w2 (HGD.out _ c2)).mono ?_
            rintro e w3 ⟨rfl, b3⟩
            have c3 := c2.trans (b3.mono c2.size)
            go_wp2_with fail
            exact bodyPost_ret (v := .bool true) (by simp [results, Tryd.results8, go_sem]) rfl ⟨rfl, c3⟩
        · have h60' : (60 : Int) ≤ (k : Int) := by omega
          have HF : Hid (AddS D w p 60 wr L) := by obtain ⟨F, a1, a2, a3, a4, a5⟩ := HK.out.2; exact ⟨F, a1, a2, a3, by have := HK.out.1; omega, a5⟩
          clear hk h60
          go_wp2_with fail
          go_meet
          exact ⟨L, HF⟩
      · have hkl' : (len : Int) ≤ (k : Int) := by omega
        have HF : Hid (AddS D w p 60 wr L) := by obtain ⟨F, a1, a2, a3, a4, a5⟩ := HK.out.2; exact ⟨F, a1, a2, a3, by have := HK.out.1; omega, a5⟩
        clear hk hkl
        go_wp2_with fail
        go_meet
        exact ⟨L, HF⟩
  case rest =>
    obtain ⟨L, HK⟩ := hcut
    obtain ⟨F, r1, o1, ok1, n1, hF, bel⟩ := HK.out
    have hl := LL.list r1 o1 ok1 (by omega) (HS.out.2.1.later bel) (Sl.nil wc)
    have HB := hid bel
    have HR : Hid (D.R wc p L F ∧ ordE L ∧ okE L ∧ L.length ≤ 100) := ⟨r1, o1, ok1, by omega⟩
    have HGB : Hid (getE (listE L key []) key s = getE L key s) := get_behind L key s
    have HBL : Hid ((listE L key []).length ≤ 60) := by have := listE_len L key []; show _ ≤ _; omega
    clear r1 o1 ok1 n1 hF bel HK
    go_wp2_with fail
    refine hl.mono ?_
    rintro e w2 ⟨v2, rfl, row2, c2⟩
    obtain ⟨a2, q2, hv2, rs2⟩ := row2.s.rs
    subst hv2
    have hfl := HS.out.2.1.1
    have hfl63 : fl ≤ 2 ^ 63 - 1 := by have := HS.out.2.1.2.2.2.1; have := HS.out.2.1.2.2.2.2.1; unfold maxLen at this; omega
    have HRS := hid rs2
    have HC2 := hid c2
    have HROW2 := hid row2
    clear hl row2 rs2 c2
    by_cases hfz : fl = 0
    · have hfz2 : decide ((0 : Int) < (fl : Int)) = false := by simp; omega
      have hfz3 : decide (0 < fl) = false := by simp; omega
      clear hfz
      go_upto_region 11 with fail
      clear hfz2 hfz3
      obtain ⟨wq, hwq⟩ : ∃ x, x = w2 := ⟨_, rfl⟩
      have HQ : Hid (Below w2.heap.size w2 wq) := by rw [hwq]; exact Below.refl _ _
      rw [← hwq]
      clear hwq
      have HQW : Hid (∀ wx, Below wq.heap.size wq wx → Below w2.heap.size w2 wx) := fun wx hb => HQ.out.trans (hb.mono HQ.out.size)
      have HQC : Hid (∀ wx, Below wq.heap.size wq wx → Below wc.heap.size wc wx) := fun wx hb => HC2.out.trans ((HQW.out _ hb).mono HC2.out.size)
      have HQ0 : Hid (∀ wx, Below wq.heap.size wq wx → Below w.heap.size w wx) := fun wx hb => HB.out.trans ((HQC.out _ hb).mono HB.out.size)
      obtain ⟨W0, hW0⟩ : ∃ W, W = wq.alloc (.cells #[.slice none 0 0, .int .i64 0, .bool false, .int .i64 0, .slice none 0 0] 28) := ⟨_, rfl⟩
      have H1 : Hid (WantS wq.heap.size none W0 ∧ Below wq.heap.size wq W0) := by
        rw [hW0]
        exact ⟨.inl ⟨rfl, heap_alloc_new wq _⟩, (Below.refl _ _).alloc (Nat.le_refl _) _⟩
      have HW0 := hid hW0
      obtain ⟨B, hBB⟩ : ∃ B, B = listE L key [] := ⟨_, rfl⟩
      rw [← hBB] at HRS HGB HBL ⊢
      obtain ⟨n, hn⟩ : ∃ n, n = B.length := ⟨_, rfl⟩
      rw [← hn] at HRS HBL ⊢
      have HN : Hid (n = B.length) := hn
      have hn62 : n ≤ 2 ^ 61 := by have := HBL.out; omega
      clear hW0 hBB hn HROW2
      go_upto_region 12 with fail
      rw [← HW0.out]
      go_wp2_with fail
      go_loopg [11, 13, 60] n (fun g h _ i wr => ∃ k : Nat, k + g = n ∧ i = .int .i64 (k : Int) ∧ h = .bool (getE (B.take k) key s).isSome ∧ Hid (WantS wq.heap.size (getE (B.take k) key s) wr ∧ Below wq.heap.size wq wr))
      case atStart => exact ⟨0, by omega, rfl, rfl, H1⟩
      case round =>
        obtain ⟨k, hk, rfl, rfl, HK⟩ := hrel
        by_cases hkl : k < n
        · have hkl' : (k : Int) < (n : Int) := by omega
          have hkx : k < B.length := by have := HN.out; omega
          have bw := HQW.out _ HK.out.2
          have hnx := fun h => getE_take (l := B) (key := key) (seq := s) (k := k) h hkx
          obtain ⟨b, off, ka, kc, va, vc, rfl, e0, e1, e2, e3, e4, sk, sv, i1, i2⟩ := RS.ent HRS.out (List.getElem?_eq_getElem hkx)
          have d0 := cell_later bw e0
          have d1 := cell_later bw e1
          have d2 := cell_later bw e2
          have d3 := cell_later bw e3
          have d4 := cell_later bw e4
          generalize B[k] = o at e0 e1 e2 e3 e4 d0 d1 d2 d3 d4 sk sv i1 i2 hnx
          have HEM : Hid (∀ wx, Below w2.heap.size w2 wx → EntM wx (entL ka kc va vc o) o) := fun wx hb => ⟨ka, kc, va, vc, rfl, sk.later hb, sv.later hb, i1, i2⟩
          obtain ⟨W1, hW1⟩ : ∃ W1, W1 = wr.alloc (.cells #[.slice ka o.key.length kc, .int .i64 o.seq, .bool o.gone, .int .i64 o.till, .slice va o.val.length vc] 28) := ⟨_, rfl⟩
          have b1 : Below wr.heap.size wr W1 := by rw [hW1]; exact (Below.refl _ _).alloc (Nat.le_refl _) _
          have HBX := hid (box_cells wr (.slice ka o.key.length kc) (.int .i64 o.seq) (.bool o.gone) (.int .i64 o.till) (.slice va o.val.length vc) 28 (wx := W1) (by rw [← hW1]; exact Below.refl _ _))
          have HB1 : Hid (Below wq.heap.size wq W1) := HK.out.2.trans (b1.mono HK.out.2.size)
          have HWS := hid (HK.out.1.later b1)
          have hk62 : k ≤ 2 ^ 61 := by omega
          obtain ⟨GK, HG⟩ : ∃ g, Hid (g < gk ∧ k + 1 + g = n) := ⟨gk - 1, by omega, by omega⟩
          have hst1 := str_l ((sk.later bw).later b1)
          have hst2 := str_l ((HS.out.2.1.later HB.out).later (HQC.out _ HB1.out))
          have heq := str_eq sk.2.1 HS.out.2.1.2.1
          have hcz := @cmp_zero o.key key
          have HW1 := hid hW1
          generalize strOfNums o.key = S1 at hst1 heq
          generalize strOfNums key = S2 at hst2 heq
          have HKP : Hid (∀ x, getE (B.take k) key s = some x → getE (B.take (k + 1)) key s = some x) := fun x hx => getE_keep hx
          clear e0 e1 e2 e3 e4 sk sv i1 i2 bw b1 hW1 hk
          cases hg : getE (B.take k) key s with
          | some x =>
            rw [hg] at HWS
            have HE := hid (HKP.out x hg)
            simp only [Option.isSome_some]
            clear hnx hg HK hst1 hst2 heq hcz
            go_upto_region 15 with fail
            rw [← HW1.out]
            go_wp2_with fail
            go_roundg GK
            case measure => exact HG.out.1
            case rel => exact ⟨k + 1, HG.out.2, by go_num, by rw [HE.out]; rfl, by rw [HE.out]; exact ⟨HWS.out, HB1.out⟩⟩
          | none =>
            rw [hg] at HWS
            have HE := hid (hnx hg)
            simp only [Option.isSome_none]
            clear hnx hg HK
            go_upto_region 15 with fail
            rw [← HW1.out]
            obtain ⟨y0, y1, y2, y3, y4⟩ := HBX.out
            by_cases q1 : o.key = key
            · have heq' : (S1.toList == S2.toList) = true := by rw [heq]; simpa using q1
              by_cases q2 : o.seq ≤ s
              · have q2' : decide (o.seq ≤ s) = true := by simpa using q2
                have HE2 : Hid (getE (B.take (k + 1)) key s = some o) := by show _ = _; rw [HE.out, if_pos ⟨hcz.2 q1, q2⟩]
                obtain ⟨hz1, hz⟩ | ⟨_, _, _, _, _, hz, _⟩ := HWS.out
                · have z0 : W1.cell? ⟨wq.heap.size, 0, none⟩ = some (.slice none 0 0) := by rw [cell_of hz]; rfl
                  have z1 : W1.cell? ⟨wq.heap.size, 1, none⟩ = some (.int .i64 0) := by rw [cell_of hz]; rfl
                  have z2 : W1.cell? ⟨wq.heap.size, 2, none⟩ = some (.bool false) := by rw [cell_of hz]; rfl
                  have z3 : W1.cell? ⟨wq.heap.size, 3, none⟩ = some (.int .i64 0) := by rw [cell_of hz]; rfl
                  have z4 : W1.cell? ⟨wq.heap.size, 4, none⟩ = some (.slice none 0 0) := by rw [cell_of hz]; rfl
                  have f0 := frozen_of hz 0
                  have f1 := frozen_of hz 1
                  have f2 := frozen_of hz 2
                  have f3 := frozen_of hz 3
                  have f4 := frozen_of hz 4
                  have HBF := hid (below_set5 HB1.out (.slice ka o.key.length kc) (.int .i64 o.seq) (.bool o.gone) (.int .i64 o.till) (.slice va o.val.length vc))
                  have HHF := hid (heap_set (heap_set (heap_set (heap_set (heap_set hz 0 (.slice ka o.key.length kc)) 1 (.int .i64 o.seq)) 2 (.bool o.gone)) 3 (.int .i64 o.till)) 4 (.slice va o.val.length vc))
                  clear q1 q2 heq hcz HE hz hz1 HWS
                  go_wp2_with fail
                  go_roundg GK
                  case measure => exact HG.out.1
                  case rel => exact ⟨k + 1, HG.out.2, by go_num, by rw [HE2.out]; rfl, by rw [HE2.out]; exact ⟨.inr ⟨o, ka, kc, va, vc, rfl, HHF.out, HEM.out _ (HQW.out _ HBF.out)⟩, HBF.out⟩⟩
                · cases hz
              · have q2' : decide (o.seq ≤ s) = false := by simpa using q2
                have HE2 : Hid (getE (B.take (k + 1)) key s = none) := by show _ = _; rw [HE.out, if_neg (fun h => q2 h.2)]
                clear q1 q2 heq hcz HE
                go_wp2_with fail
                go_roundg GK
                case measure => exact HG.out.1
                case rel => exact ⟨k + 1, HG.out.2, by go_num, by rw [HE2.out]; rfl, by rw [HE2.out]; exact ⟨HWS.out, HB1.out⟩⟩
            · have heq' : (S1.toList == S2.toList) = false := by rw [heq]; simpa using q1
              have HE2 : Hid (getE (B.take (k + 1)) key s = none) := by show _ = _; rw [HE.out, if_neg (fun h => q1 (hcz.1 h.1))]
              clear q1 heq hcz HE
              go_wp2_with fail
              go_roundg GK
              case measure => exact HG.out.1
              case rel => exact ⟨k + 1, HG.out.2, by go_num, by rw [HE2.out]; rfl, by rw [HE2.out]; exact ⟨HWS.out, HB1.out⟩⟩
        · have hkl' : (n : Int) ≤ (k : Int) := by omega
          have hBk : B.take k = B := List.take_of_length_le (by have := HN.out; omega)
          rw [hBk, HGB.out] at HK ⊢
          have hgt := D.get (PM.later HR.out.1 (HQC.out _ HK.out.2)) HR.out.2.1 HR.out.2.2.1 HR.out.2.2.2 ((HS.out.2.1.later HB.out).later (HQC.out _ HK.out.2)) HS.out.2.2
          have HWR := hid HK.out.1
          have HBR := hid (HQ0.out _ HK.out.2)
          have HQLT : Hid (wq.heap.size < wr.heap.size) := by
            rcases HK.out.1 with ⟨_, hz⟩ | ⟨_, _, _, _, _, _, hz, _⟩ <;> exact (Array.getElem?_eq_some_iff.1 hz).1
          generalize getE L key s = g at hgt HWR ⊢
          clear hk hkl hBk HK HGB
          go_wp2_with fail
          refine hgt.mono ?_
          rintro e w6 ⟨hgot, b6⟩
          clear hgt
          cases g with
          | none =>
            rcases hgot with ⟨_, rfl⟩ | ⟨_, _, _, _, _, hq, _⟩
            · rcases HWR.out with ⟨_, hz⟩ | ⟨_, _, _, _, _, hq, _⟩
              · obtain ⟨W7, hW7⟩ : ∃ W, W = w6.alloc (.cells #[.slice none 0 0, .int .i64 0, .bool false, .int .i64 0, .slice none 0 0] 28) := ⟨_, rfl⟩
                have b7 : Below w6.heap.size w6 W7 := by rw [hW7]; exact (Below.refl _ _).alloc (Nat.le_refl _) _
                have b67 := b6.trans (b7.mono b6.size)
                have hz7 := (b67.block _ HQLT.out).trans hz
                obtain ⟨y0, y1, y2, y3, y4⟩ := box_cells w6 (.slice none 0 0) (.int .i64 0) (.bool false) (.int .i64 0) (.slice none 0 0) 28 (wx := W7) (by rw [← hW7]; exact Below.refl _ _)
                have x0 : W7.cell? ⟨wq.heap.size, 0, none⟩ = some (.slice none 0 0) := by rw [cell_of hz7]; rfl
                have x1 : W7.cell? ⟨wq.heap.size, 1, none⟩ = some (.int .i64 0) := by rw [cell_of hz7]; rfl
                have x2 : W7.cell? ⟨wq.heap.size, 2, none⟩ = some (.bool false) := by rw [cell_of hz7]; rfl
                have x3 : W7.cell? ⟨wq.heap.size, 3, none⟩ = some (.int .i64 0) := by rw [cell_of hz7]; rfl
                have x4 : W7.cell? ⟨wq.heap.size, 4, none⟩ = some (.slice none 0 0) := by rw [cell_of hz7]; rfl
                have hsm := rsameE1_eq (w := W7) (key := []) (vl := []) (seq := 0) (till := 0) (gone := false) (Sl.nil _) (Sl.nil _) (Sl.nil _) (Sl.nil _)
                have HBW := hid (HBR.out.trans (b67.mono HBR.out.size))
                have HW7 := hid hW7
                clear hW7 b7 b67 hz7 hz
                unfold ent0
                simp only [Option.isSome_none]
                go_upto_region 19 with fail
                rw [← HW7.out]
                go_wp2_with fail
                refine hsm.mono ?_
                rintro e w8 ⟨rfl, b8⟩
                have c8 := HBW.out.trans (b8.mono HBW.out.size)
                clear hsm x0 x1 x2 x3 x4 y0 y1 y2 y3 y4
                go_wp2_with fail
                refine (awake9_any D w8 (HGD.out _ c8)).mono ?_
                rintro e w9 ⟨rfl, b9⟩
                have c9 := c8.trans (b9.mono c8.size)
                go_wp2_with fail
                exact bodyPost_ret (v := .bool true) (by simp [results, Tryd.results8, go_sem]) rfl ⟨rfl, c9⟩
              · cases hq
            · cases hq
          | some x =>
            rcases hgot with ⟨hq, _⟩ | ⟨x', ka, kc, va, vc, hq, rfl, hem, _⟩
            · cases hq
            · obtain rfl : x = x' := by simpa using hq
              rcases HWR.out with ⟨hq, _⟩ | ⟨x', ka', kc', va', vc', hq, hz, hem'⟩
              · cases hq
              · obtain rfl : x = x' := by simpa using hq
                obtain ⟨_, _, _, _, ev, t1, t2, _⟩ := hem
                unfold entL at ev
                simp only [List.cons.injEq, Value.slice.injEq, and_true, true_and] at ev
                obtain ⟨⟨rfl, rfl⟩, ⟨rfl, rfl⟩⟩ := ev
                obtain ⟨_, _, _, _, ev, u1, u2, _⟩ := hem'
                unfold entL at ev
                simp only [List.cons.injEq, Value.slice.injEq, and_true, true_and] at ev
                obtain ⟨⟨rfl, rfl⟩, ⟨rfl, rfl⟩⟩ := ev
                obtain ⟨W7, hW7⟩ : ∃ W, W = w6.alloc (.cells #[.slice ka x.key.length kc, .int .i64 x.seq, .bool x.gone, .int .i64 x.till, .slice va x.val.length vc] 28) := ⟨_, rfl⟩
                have b7 : Below w6.heap.size w6 W7 := by rw [hW7]; exact (Below.refl _ _).alloc (Nat.le_refl _) _
                have b67 := b6.trans (b7.mono b6.size)
                have hz7 := (b67.block _ HQLT.out).trans hz
                obtain ⟨y0, y1, y2, y3, y4⟩ := box_cells w6 (.slice ka x.key.length kc) (.int .i64 x.seq) (.bool x.gone) (.int .i64 x.till) (.slice va x.val.length vc) 28 (wx := W7) (by rw [← hW7]; exact Below.refl _ _)
                have x0 : W7.cell? ⟨wq.heap.size, 0, none⟩ = some (.slice ka' x.key.length kc') := by rw [cell_of hz7]; rfl
                have x1 : W7.cell? ⟨wq.heap.size, 1, none⟩ = some (.int .i64 x.seq) := by rw [cell_of hz7]; rfl
                have x2 : W7.cell? ⟨wq.heap.size, 2, none⟩ = some (.bool x.gone) := by rw [cell_of hz7]; rfl
                have x3 : W7.cell? ⟨wq.heap.size, 3, none⟩ = some (.int .i64 x.till) := by rw [cell_of hz7]; rfl
                have x4 : W7.cell? ⟨wq.heap.size, 4, none⟩ = some (.slice va' x.val.length vc') := by rw [cell_of hz7]; rfl
                have hsm := rsameE1_eq (w := W7) (seq := x.seq) (till := x.till) (gone := x.gone) (t1.later b7) (t2.later b7) (u1.later b67) (u2.later b67)
                have HBW := hid (HBR.out.trans (b67.mono HBR.out.size))
                have HW7 := hid hW7
                clear hW7 b7 b67 hz7 hz t1 t2 u1 u2
                unfold entA
                simp only [Option.isSome_some]
                go_upto_region 19 with fail
                rw [← HW7.out]
                go_wp2_with fail
                refine hsm.mono ?_
                rintro e w8 ⟨rfl, b8⟩
                have c8 := HBW.out.trans (b8.mono HBW.out.size)
                clear hsm x0 x1 x2 x3 x4 y0 y1 y2 y3 y4
                go_wp2_with fail
                refine (awake9_any D w8 (HGD.out _ c8)).mono ?_
                rintro e w9 ⟨rfl, b9⟩
                have c9 := c8.trans (b9.mono c8.size)
                go_wp2_with fail
                exact bodyPost_ret (v := .bool true) (by simp [results, Tryd.results8, go_sem]) rfl ⟨rfl, c9⟩
    · have hfz' : (0 : Int) < (fl : Int) := by omega
      have HFZ := hid hfz
      clear hfz
      have hl3 := LL.list (PM.later HR.out.1 HC2.out) HR.out.2.1 HR.out.2.2.1 HR.out.2.2.2 (Sl.nil w2) ((HS.out.2.1.later HB.out).later HC2.out)
      go_wp2_with fail
      refine hl3.mono ?_
      rintro e w3 ⟨v3, rfl, row3, b3⟩
      clear hl3
      obtain ⟨us, hru0⟩ := HRS.out
      have hru := hru0.later b3
      have hsep : ∀ u ∈ us, ∀ b, Refs u b → v3.ownBlock ≠ some b := fun u hu b hr e => by
        have h1 := hru0.2.2.2.2.1.lt u hu b hr
        have h2 := (row3.own_lt e).1
        omega
      have hca := cut_all (key := key) (by have := HFZ.out; omega) HR.out.2.1
      have HLL : Hid ((listE L [] key).length ≤ 100 ∧ (listE L key []).length ≤ 60) := ⟨by have := listE_len L [] key; have := HR.out.2.2.2; omega, HBL.out⟩
      have HROW3 := hid row3.s
      have HSEP := hid hsep
      have HRU := hid hru
      have HCA := hid hca
      have HSZ3 := hid b3.size
      clear hru0 hru hsep hca row3
      obtain ⟨a3, n3, k3, hv3⟩ : ∃ a n k, v3 = .slice a n k := by
        obtain ⟨a, c, e, _⟩ := HROW3.out.rs
        exact ⟨a, _, c, e⟩
      subst hv3
      go_wp2_with (at_builtin; refine wpList_appSw entE (t := 22) (z := .agg #[.slice none 0 0, .int .i64 0, .bool false, .int .i64 0, .slice none 0 0]) (bytes := 72) (B := w2.heap.size) Tryd.underlying22 entE_info rfl (by decide) rfl (.tmp 49) (.tmp 50) rfl rfl HROW3.out rfl HRU.out HSEP.out (by have := HLL.out; omega) (by have := HLL.out; omega) HSZ3.out ?_; intro v4 w4 r4 g4)
      have b4 := b3.trans (HROW3.out.below g4 HSZ3.out)
      rw [HCA.out] at r4
      have ball : Below wc.heap.size wc w4 := HC2.out.trans (b4.mono HC2.out.size)
      have hal := LL.all (PM.later HR.out.1 ball) HR.out.2.1 HR.out.2.2.1 HR.out.2.2.2
      obtain ⟨a4, k4, hv4, rs4⟩ := r4.rs
      subst hv4
      refine hal.mono ?_
      rintro e w5 ⟨v5, rfl, row5, b5⟩
      obtain ⟨a5, k5, hv5, rs5⟩ := row5.s.rs
      subst hv5
      have hsm := rsameE_eq (rs4.later b5) rs5
      go_wp2_with fail
      refine hsm.mono ?_
      rintro e wq ⟨rfl, b6⟩
      have b45 := b4.trans (b5.mono b4.size)
      have HQ : Hid (Below w2.heap.size w2 wq) := b45.trans (b6.mono b45.size)
      clear hsm hal b3 b4 b5 b6 b45 ball r4 g4 rs4 rs5 row5 HROW3 HSEP HRU HCA HSZ3 HLL
      have HQW : Hid (∀ wx, Below wq.heap.size wq wx → Below w2.heap.size w2 wx) := fun wx hb => HQ.out.trans (hb.mono HQ.out.size)
      have HQC : Hid (∀ wx, Below wq.heap.size wq wx → Below wc.heap.size wc wx) := fun wx hb => HC2.out.trans ((HQW.out _ hb).mono HC2.out.size)
      have HQ0 : Hid (∀ wx, Below wq.heap.size wq wx → Below w.heap.size w wx) := fun wx hb => HB.out.trans ((HQC.out _ hb).mono HB.out.size)
      obtain ⟨W0, hW0⟩ : ∃ W, W = wq.alloc (.cells #[.slice none 0 0, .int .i64 0, .bool false, .int .i64 0, .slice none 0 0] 28) := ⟨_, rfl⟩
      have H1 : Hid (WantS wq.heap.size none W0 ∧ Below wq.heap.size wq W0) := by
        rw [hW0]
        exact ⟨.inl ⟨rfl, heap_alloc_new wq _⟩, (Below.refl _ _).alloc (Nat.le_refl _) _⟩
      have HW0 := hid hW0
      obtain ⟨B, hBB⟩ : ∃ B, B = listE L key [] := ⟨_, rfl⟩
      rw [← hBB] at HRS HGB HBL ⊢
      obtain ⟨n, hn⟩ : ∃ n, n = B.length := ⟨_, rfl⟩
      rw [← hn] at HRS HBL ⊢
      have HN : Hid (n = B.length) := hn
      have hn62 : n ≤ 2 ^ 61 := by have := HBL.out; omega
      clear hW0 hBB hn HROW2
      go_upto_region 12 with fail
      rw [← HW0.out]
      go_wp2_with fail
      go_loopg [11, 13, 60] n (fun g h _ i wr => ∃ k : Nat, k + g = n ∧ i = .int .i64 (k : Int) ∧ h = .bool (getE (B.take k) key s).isSome ∧ Hid (WantS wq.heap.size (getE (B.take k) key s) wr ∧ Below wq.heap.size wq wr))
      case atStart => exact ⟨0, by omega, rfl, rfl, H1⟩
      case round =>
        obtain ⟨k, hk, rfl, rfl, HK⟩ := hrel
        by_cases hkl : k < n
        · have hkl' : (k : Int) < (n : Int) := by omega
          have hkx : k < B.length := by have := HN.out; omega
          have bw := HQW.out _ HK.out.2
          have hnx := fun h => getE_take (l := B) (key := key) (seq := s) (k := k) h hkx
          obtain ⟨b, off, ka, kc, va, vc, rfl, e0, e1, e2, e3, e4, sk, sv, i1, i2⟩ := RS.ent HRS.out (List.getElem?_eq_getElem hkx)
          have d0 := cell_later bw e0
          have d1 := cell_later bw e1
          have d2 := cell_later bw e2
          have d3 := cell_later bw e3
          have d4 := cell_later bw e4
          generalize B[k] = o at e0 e1 e2 e3 e4 d0 d1 d2 d3 d4 sk sv i1 i2 hnx
          have HEM : Hid (∀ wx, Below w2.heap.size w2 wx → EntM wx (entL ka kc va vc o) o) := fun wx hb => ⟨ka, kc, va, vc, rfl, sk.later hb, sv.later hb, i1, i2⟩
          obtain ⟨W1, hW1⟩ : ∃ W1, W1 = wr.alloc (.cells #[.slice ka o.key.length kc, .int .i64 o.seq, .bool o.gone, .int .i64 o.till, .slice va o.val.length vc] 28) := ⟨_, rfl⟩
          have b1 : Below wr.heap.size wr W1 := by rw [hW1]; exact (Below.refl _ _).alloc (Nat.le_refl _) _
          have HBX := hid (box_cells wr (.slice ka o.key.length kc) (.int .i64 o.seq) (.bool o.gone) (.int .i64 o.till) (.slice va o.val.length vc) 28 (wx := W1) (by rw [← hW1]; exact Below.refl _ _))
          have HB1 : Hid (Below wq.heap.size wq W1) := HK.out.2.trans (b1.mono HK.out.2.size)
          have HWS := hid (HK.out.1.later b1)
          have hk62 : k ≤ 2 ^ 61 := by omega
          obtain ⟨GK, HG⟩ : ∃ g, Hid (g < gk ∧ k + 1 + g = n) := ⟨gk - 1, by omega, by omega⟩
          have hst1 := str_l ((sk.later bw).later b1)
          have hst2 := str_l ((HS.out.2.1.later HB.out).later (HQC.out _ HB1.out))
          have heq := str_eq sk.2.1 HS.out.2.1.2.1
          have hcz := @cmp_zero o.key key
          have HW1 := hid hW1
          generalize strOfNums o.key = S1 at hst1 heq
          generalize strOfNums key = S2 at hst2 heq
          have HKP : Hid (∀ x, getE (B.take k) key s = some x → getE (B.take (k + 1)) key s = some x) := fun x hx => getE_keep hx
          clear e0 e1 e2 e3 e4 sk sv i1 i2 bw b1 hW1 hk
          cases hg : getE (B.take k) key s with
          | some x =>
            rw [hg] at HWS
            have HE := hid (HKP.out x hg)
            simp only [Option.isSome_some]
            clear hnx hg HK hst1 hst2 heq hcz
            go_upto_region 15 with fail
            rw [← HW1.out]
            go_wp2_with fail
            go_roundg GK
            case measure => exact HG.out.1
            case rel => exact ⟨k + 1, HG.out.2, by go_num, by rw [HE.out]; rfl, by rw [HE.out]; exact ⟨HWS.out, HB1.out⟩⟩
          | none =>
            rw [hg] at HWS
            have HE := hid (hnx hg)
            simp only [Option.isSome_none]
            clear hnx hg HK
            go_upto_region 15 with fail
            rw [← HW1.out]
            obtain ⟨y0, y1, y2, y3, y4⟩ := HBX.out
            by_cases q1 : o.key = key
            · have heq' : (S1.toList == S2.toList) = true := by rw [heq]; simpa using q1
              by_cases q2 : o.seq ≤ s
              · have q2' : decide (o.seq ≤ s) = true := by simpa using q2
                have HE2 : Hid (getE (B.take (k + 1)) key s = some o) := by show _ = _; rw [HE.out, if_pos ⟨hcz.2 q1, q2⟩]
                obtain ⟨hz1, hz⟩ | ⟨_, _, _, _, _, hz, _⟩ := HWS.out
                · have z0 : W1.cell? ⟨wq.heap.size, 0, none⟩ = some (.slice none 0 0) := by rw [cell_of hz]; rfl
                  have z1 : W1.cell? ⟨wq.heap.size, 1, none⟩ = some (.int .i64 0) := by rw [cell_of hz]; rfl
                  have z2 : W1.cell? ⟨wq.heap.size, 2, none⟩ = some (.bool false) := by rw [cell_of hz]; rfl
                  have z3 : W1.cell? ⟨wq.heap.size, 3, none⟩ = some (.int .i64 0) := by rw [cell_of hz]; rfl
                  have z4 : W1.cell? ⟨wq.heap.size, 4, none⟩ = some (.slice none 0 0) := by rw [cell_of hz]; rfl
                  have f0 := frozen_of hz 0
                  have f1 := frozen_of hz 1
                  have f2 := frozen_of hz 2
                  have f3 := frozen_of hz 3
                  have f4 := frozen_of hz 4
                  have HBF := hid (below_set5 HB1.out (.slice ka o.key.length kc) (.int .i64 o.seq) (.bool o.gone) (.int .i64 o.till) (.slice va o.val.length vc))
                  have HHF := hid (heap_set (heap_set (heap_set (heap_set (heap_set hz 0 (.slice ka o.key.length kc)) 1 (.int .i64 o.seq)) 2 (.bool o.gone)) 3 (.int .i64 o.till)) 4 (.slice va o.val.length vc))
                  clear q1 q2 heq hcz HE hz hz1 HWS
                  go_wp2_with fail
                  go_roundg GK
                  case measure => exact HG.out.1
                  case rel => exact ⟨k + 1, HG.out.2, by go_num, by rw [HE2.out]; rfl, by rw [HE2.out]; exact ⟨.inr ⟨o, ka, kc, va, vc, rfl, HHF.out, HEM.out _ (HQW.out _ HBF.out)⟩, HBF.out⟩⟩
                · cases hz
              · have q2' : decide (o.seq ≤ s) = false := by simpa using q2
                have HE2 : Hid (getE (B.take (k + 1)) key s = none) := by show _ = _; rw [HE.out, if_neg (fun h => q2 h.2)]
                clear q1 q2 heq hcz HE
                go_wp2_with fail
                go_roundg GK
                case measure => exact HG.out.1
                case rel => exact ⟨k + 1, HG.out.2, by go_num, by rw [HE2.out]; rfl, by rw [HE2.out]; exact ⟨HWS.out, HB1.out⟩⟩
            · have heq' : (S1.toList == S2.toList) = false := by rw [heq]; simpa using q1
              have HE2 : Hid (getE (B.take (k + 1)) key s = none) := by show _ = _; rw [HE.out, if_neg (fun h => q1 (hcz.1 h.1))]
              clear q1 heq hcz HE
              go_wp2_with fail
              go_roundg GK
              case measure => exact HG.out.1
              case rel => exact ⟨k + 1, HG.out.2, by go_num, by rw [HE2.out]; rfl, by rw [HE2.out]; exact ⟨HWS.out, HB1.out⟩⟩
        · have hkl' : (n : Int) ≤ (k : Int) := by omega
          have hBk : B.take k = B := List.take_of_length_le (by have := HN.out; omega)
          rw [hBk, HGB.out] at HK ⊢
          have hgt := D.get (PM.later HR.out.1 (HQC.out _ HK.out.2)) HR.out.2.1 HR.out.2.2.1 HR.out.2.2.2 ((HS.out.2.1.later HB.out).later (HQC.out _ HK.out.2)) HS.out.2.2
          have HWR := hid HK.out.1
          have HBR := hid (HQ0.out _ HK.out.2)
          have HQLT : Hid (wq.heap.size < wr.heap.size) := by
            rcases HK.out.1 with ⟨_, hz⟩ | ⟨_, _, _, _, _, _, hz, _⟩ <;> exact (Array.getElem?_eq_some_iff.1 hz).1
          generalize getE L key s = g at hgt HWR ⊢
          clear hk hkl hBk HK HGB
          go_wp2_with fail
          refine hgt.mono ?_
          rintro e w6 ⟨hgot, b6⟩
          clear hgt
          cases g with
          | none =>
            rcases hgot with ⟨_, rfl⟩ | ⟨_, _, _, _, _, hq, _⟩
            · rcases HWR.out with ⟨_, hz⟩ | ⟨_, _, _, _, _, hq, _⟩
              · obtain ⟨W7, hW7⟩ : ∃ W, W = w6.alloc (.cells #[.slice none 0 0, .int .i64 0, .bool false, .int .i64 0, .slice none 0 0] 28) := ⟨_, rfl⟩
                have b7 : Below w6.heap.size w6 W7 := by rw [hW7]; exact (Below.refl _ _).alloc (Nat.le_refl _) _
                have b67 := b6.trans (b7.mono b6.size)
                have hz7 := (b67.block _ HQLT.out).trans hz
                obtain ⟨y0, y1, y2, y3, y4⟩ := box_cells w6 (.slice none 0 0) (.int .i64 0) (.bool false) (.int .i64 0) (.slice none 0 0) 28 (wx := W7) (by rw [← hW7]; exact Below.refl _ _)
                have x0 : W7.cell? ⟨wq.heap.size, 0, none⟩ = some (.slice none 0 0) := by rw [cell_of hz7]; rfl
                have x1 : W7.cell? ⟨wq.heap.size, 1, none⟩ = some (.int .i64 0) := by rw [cell_of hz7]; rfl
                have x2 : W7.cell? ⟨wq.heap.size, 2, none⟩ = some (.bool false) := by rw [cell_of hz7]; rfl
                have x3 : W7.cell? ⟨wq.heap.size, 3, none⟩ = some (.int .i64 0) := by rw [cell_of hz7]; rfl
                have x4 : W7.cell? ⟨wq.heap.size, 4, none⟩ = some (.slice none 0 0) := by rw [cell_of hz7]; rfl
                have hsm := rsameE1_eq (w := W7) (key := []) (vl := []) (seq := 0) (till := 0) (gone := false) (Sl.nil _) (Sl.nil _) (Sl.nil _) (Sl.nil _)
                have HBW := hid (HBR.out.trans (b67.mono HBR.out.size))
                have HW7 := hid hW7
                clear hW7 b7 b67 hz7 hz
                unfold ent0
                simp only [Option.isSome_none]
                go_upto_region 19 with fail
                rw [← HW7.out]
                go_wp2_with fail
                refine hsm.mono ?_
                rintro e w8 ⟨rfl, b8⟩
                have c8 := HBW.out.trans (b8.mono HBW.out.size)
                clear hsm x0 x1 x2 x3 x4 y0 y1 y2 y3 y4
                go_wp2_with fail
                refine (awake9_any D w8 (HGD.out _ c8)).mono ?_
                rintro e w9 ⟨rfl, b9⟩
                have c9 := c8.trans (b9.mono c8.size)
                go_wp2_with fail
                exact bodyPost_ret (v := .bool true) (by simp [results, Tryd.results8, go_sem]) rfl ⟨rfl, c9⟩
              · cases hq
            · cases hq
          | some x =>
            rcases hgot with ⟨hq, _⟩ | ⟨x', ka, kc, va, vc, hq, rfl, hem, _⟩
            · cases hq
            · obtain rfl : x = x' := by simpa using hq
              rcases HWR.out with ⟨hq, _⟩ | ⟨x', ka', kc', va', vc', hq, hz, hem'⟩
              · cases hq
              · obtain rfl : x = x' := by simpa using hq
                obtain ⟨_, _, _, _, ev, t1, t2, _⟩ := hem
                unfold entL at ev
                simp only [List.cons.injEq, Value.slice.injEq, and_true, true_and] at ev
                obtain ⟨⟨rfl, rfl⟩, ⟨rfl, rfl⟩⟩ := ev
                obtain ⟨_, _, _, _, ev, u1, u2, _⟩ := hem'
                unfold entL at ev
                simp only [List.cons.injEq, Value.slice.injEq, and_true, true_and] at ev
                obtain ⟨⟨rfl, rfl⟩, ⟨rfl, rfl⟩⟩ := ev
                obtain ⟨W7, hW7⟩ : ∃ W, W = w6.alloc (.cells #[.slice ka x.key.length kc, .int .i64 x.seq, .bool x.gone, .int .i64 x.till, .slice va x.val.length vc] 28) := ⟨_, rfl⟩
                have b7 : Below w6.heap.size w6 W7 := by rw [hW7]; exact (Below.refl _ _).alloc (Nat.le_refl _) _
                have b67 := b6.trans (b7.mono b6.size)
                have hz7 := (b67.block _ HQLT.out).trans hz
                obtain ⟨y0, y1, y2, y3, y4⟩ := box_cells w6 (.slice ka x.key.length kc) (.int .i64 x.seq) (.bool x.gone) (.int .i64 x.till) (.slice va x.val.length vc) 28 (wx := W7) (by rw [← hW7]; exact Below.refl _ _)
                have x0 : W7.cell? ⟨wq.heap.size, 0, none⟩ = some (.slice ka' x.key.length kc') := by rw [cell_of hz7]; rfl
                have x1 : W7.cell? ⟨wq.heap.size, 1, none⟩ = some (.int .i64 x.seq) := by rw [cell_of hz7]; rfl
                have x2 : W7.cell? ⟨wq.heap.size, 2, none⟩ = some (.bool x.gone) := by rw [cell_of hz7]; rfl
                have x3 : W7.cell? ⟨wq.heap.size, 3, none⟩ = some (.int .i64 x.till) := by rw [cell_of hz7]; rfl
                have x4 : W7.cell? ⟨wq.heap.size, 4, none⟩ = some (.slice va' x.val.length vc') := by rw [cell_of hz7]; rfl
                have hsm := rsameE1_eq (w := W7) (seq := x.seq) (till := x.till) (gone := x.gone) (t1.later b7) (t2.later b7) (u1.later b67) (u2.later b67)
                have HBW := hid (HBR.out.trans (b67.mono HBR.out.size))
                have HW7 := hid hW7
                clear hW7 b7 b67 hz7 hz t1 t2 u1 u2
                unfold entA
                simp only [Option.isSome_some]
                go_upto_region 19 with fail
                rw [← HW7.out]
                go_wp2_with fail
                refine hsm.mono ?_
                rintro e w8 ⟨rfl, b8⟩
                have c8 := HBW.out.trans (b8.mono HBW.out.size)
                clear hsm x0 x1 x2 x3 x4 y0 y1 y2 y3 y4
                go_wp2_with fail
                refine (awake9_any D w8 (HGD.out _ c8)).mono ?_
                rintro e w9 ⟨rfl, b9⟩
                have c9 := c8.trans (b9.mono c8.size)
                go_wp2_with fail
                exact bodyPost_ret (v := .bool true) (by simp [results, Tryd.results8, go_sem]) rfl ⟨rfl, c9⟩
end Go.Proofs.YtaefddnmldbgiaaDoor
