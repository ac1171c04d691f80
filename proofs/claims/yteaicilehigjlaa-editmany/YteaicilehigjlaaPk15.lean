import Derived.Test.YteaicilehigjlaaPk10
import Derived.Test.YteaicilehigjlaaPk11
import Derived.Test.YteaicilehigjlaaPk14
/- What the landed edit takes from bytes: a number, a key, a line. -/
namespace Go.Proofs.Yteaicilehigjlaa
open Go.RowKit
set_option linter.unusedVariables false
set_option linter.unusedSimpArgs false

set_option maxHeartbeats 1000000 in
set_option maxRecDepth 100000 in
theorem etnum_any {w : World} {ao : Option Addr} {len cap : Nat} {d : List Int} (h : Sl w ao len cap d) (most : Nat) (hm : most ≤ 2 ^ 62) :
    Calls Try.prog 30 #[.slice ao len cap, .int .i64 (most : Int)] w fun e w' => ∃ v, e = .returned (.tuple #[.int .i64 ((rdN most (d, 0)).1 : Nat), v, .int .i64 ((rdN most (d, 0)).2.2 : Nat)]) ∧ Rests ao len cap d v (rst (rdN most (d, 0)).2) ∧ Below w.heap.size w w' := by
  have ht := tk_l h
  have hlt := tk_lt d
  have hln := h.1
  have hcap := h.2.2.2.1
  have hcm : cap ≤ 2 ^ 63 - 1 := by have := h.2.2.2.2.1; unfold maxLen at this; omega
  unfold rdN rst
  simp only [ne_eq, not_true_eq_false, if_false]
  by_cases q : (tk d).1 = 0
  · have hus := tk_used q
    rw [if_neg (not_not_intro q)]
    rw [q] at ht
    by_cases q2 : most < (tk d).2.1
    · rw [if_pos q2]
      simp only [show (3 : Nat) ≠ 0 by decide, not_false_eq_true, if_true]
      generalize (tk d).2.1 = n at ht hlt q2
      generalize (tk d).2.2 = sz at ht
      have c1 : (most : Int) < (n : Int) := by omega
      have hm64 : most ≤ 2 ^ 63 - 1 := by omega
      clear h q hlt hln hcap hcm q2
      go_enter Try.func30, Try.ntmps30
      go_wp2_with (go_at_call 42; refine ht.mono ?_; rintro e w' ⟨rfl, hw⟩; obtain rfl := hw.symm)
      exact bodyPost_ret (v := .tuple #[.int .i64 0, .slice none 0 0, .int .i64 3]) (by simp [results, Try.results30, go_sem]) rfl ⟨_, rfl, Rests.nil _ _ _ _, Below.refl _ _⟩
    · rw [if_neg q2]
      simp only [not_true_eq_false, if_false]
      have hf := h.from (tk d).2.2 (by omega)
      have hcf := fun w => run_from w ao len cap (tk d).2.2 (by omega) hcap
      generalize (tk d).2.1 = n at ht hlt q2
      generalize (tk d).2.2 = sz at ht hf hcf hus
      have c1 : (n : Int) ≤ (most : Int) := by omega
      have hm64 : most ≤ 2 ^ 63 - 1 := by omega
      have hn63 : n ≤ 2 ^ 63 - 1 := by omega
      have hsz : sz ≤ 2 ^ 63 - 1 := by omega
      have hF : Hid (Rests ao len cap d (.slice (cutA ao cap sz) (len - sz) (cap - sz)) (d.drop sz)) := Rests.from sz (by omega) hln
      clear h q hlt hln hcap hcm q2 hus hf
      go_enter Try.func30, Try.ntmps30
      go_wp2_with (go_at_call 42; refine ht.mono ?_; rintro e w' ⟨rfl, hw⟩; obtain rfl := hw.symm)
      go_quiet (fail)
      go_wp2_with fail
      exact bodyPost_ret (v := .tuple #[.int .i64 (n : Nat), .slice (cutA ao cap sz) (len - sz) (cap - sz), .int .i64 0]) (by simp [results, Try.results30, go_sem]) rfl ⟨_, rfl, hF.out, below_drewN (Below.refl _ _) _⟩
  · rw [if_pos q]
    simp only [q, not_false_eq_true, if_true]
    generalize (tk d).2.1 = n at ht
    generalize (tk d).2.2 = sz at ht
    generalize (tk d).1 = er at ht q
    have hne : ((er : Int) != 0) = true := by simp; omega
    clear h q hlt hln hcap hcm
    go_enter Try.func30, Try.ntmps30
    go_wp2_with (go_at_call 42; refine ht.mono ?_; rintro e w' ⟨rfl, hw⟩; obtain rfl := hw.symm)
    exact bodyPost_ret (v := .tuple #[.int .i64 0, .slice none 0 0, .int .i64 (er : Nat)]) (by simp [results, Try.results30, go_sem]) rfl ⟨_, rfl, Rests.nil _ _ _ _, Below.refl _ _⟩

set_option maxHeartbeats 1000000 in
set_option maxRecDepth 100000 in
theorem etkey_any {w : World} {ao : Option Addr} {len cap : Nat} {d : List Int} (h : Sl w ao len cap d) (hl : len ≤ 175921860444160) :
    Calls Try.prog 50 #[.slice ao len cap] w fun e w' => ∃ v r, e = .returned (.tuple #[v, r, .int .i64 ((rdB 512 (d, 0)).2.2 : Nat)]) ∧ Row w.heap.size w' v (rdB 512 (d, 0)).1 ∧ Rests ao len cap d r (rst (rdB 512 (d, 0)).2) ∧ Below w.heap.size w w' := by
  have ht := tb_l h hl 512 (by decide)
  have hln := h.1
  have hcap := h.2.2.2.1
  have hcm : cap ≤ 2 ^ 63 - 1 := by have := h.2.2.2.2.1; unfold maxLen at this; omega
  unfold rdB rst
  simp only [ne_eq, not_true_eq_false, if_false]
  by_cases q : (tb d 512).1 = 0
  · have hus := tb_used q
    rw [if_neg (not_not_intro q)]
    simp only [not_true_eq_false, if_false]
    rw [q] at ht
    have hf := h.from (tb d 512).2.2 (by omega)
    have hcf := fun w => run_from w ao len cap (tb d 512).2.2 (by omega) hcap
    generalize (tb d 512).2.2 = sz at ht hf hcf hus
    generalize (tb d 512).2.1 = s at ht
    have hsz : sz ≤ 2 ^ 63 - 1 := by omega
    skip
    have hF : Hid (Rests ao len cap d (.slice (cutA ao cap sz) (len - sz) (cap - sz)) (d.drop sz)) := Rests.from sz (by omega) hln
    clear h q hln hcap hcm hus hf hl
    go_enter Try.func50, Try.ntmps50
    go_wp2_with (go_at_call 51; refine ht.mono ?_; rintro e w' ⟨v, rfl, r1, b1⟩)
    go_quiet (fail)
    go_wp2_with fail
    exact bodyPost_ret (v := .tuple #[v, .slice (cutA ao cap sz) (len - sz) (cap - sz), .int .i64 0]) (by simp [results, Try.results50, go_sem]) rfl ⟨_, _, rfl, r1.later (below_drewN (Below.refl _ _) _), hF.out, below_drewN b1 _⟩
  · rw [if_pos q]
    simp only [q, not_false_eq_true, if_true]
    generalize (tb d 512).2.1 = n at ht
    generalize (tb d 512).2.2 = sz at ht
    generalize (tb d 512).1 = er at ht q
    have hne : ((er : Int) != 0) = true := by simp; omega
    clear h q hln hcap hcm hl
    go_enter Try.func50, Try.ntmps50
    go_wp2_with (go_at_call 51; refine ht.mono ?_; rintro e w' ⟨v, rfl, r1, b1⟩)
    exact bodyPost_ret (v := .tuple #[.slice none 0 0, .slice none 0 0, .int .i64 (er : Nat)]) (by simp [results, Try.results50, go_sem]) rfl ⟨_, _, rfl, Row.nil _ _, Rests.nil _ _ _ _, b1⟩

/-- Where the walk stands: the answer's place, the line under way. -/
structure TL (w wx : World) (C : Array Value) : Prop where
  bR : wx.heap[w.heap.size]? = some (.cells #[.int .i64 0, .int .i64 0, .int .i64 0, .slice none 0 0, .slice none 0 0] 24 (0, 0))
  bo : wx.heap[w.heap.size + 1]? = some (.cells C 24 (0, 0))
  bel : Below w.heap.size w wx
theorem TL.later {w wx wy : World} {C : Array Value} (h : TL w wx C) (hb : Below wx.heap.size wx wy) : TL w wy C :=
  ⟨(hb.block _ (Array.getElem?_eq_some_iff.1 h.bR).1).trans h.bR, (hb.block _ (Array.getElem?_eq_some_iff.1 h.bo).1).trans h.bo, h.bel.trans (hb.mono h.bel.size)⟩
theorem TL.set {w wx : World} {C : Array Value} (h : TL w wx C) (k : Nat) (u : Value) : TL w (wx.setCell ⟨w.heap.size + 1, k, none⟩ u) (C.setIfInBounds k u) := by
  have hg := grown_set wx (w.heap.size + 1) k u
  refine ⟨?_, heap_set h.bo k u, Below.grown h.bel hg h.bel.size fun k e => ?_⟩
  · rw [hg.block _ (Array.getElem?_eq_some_iff.1 h.bR).1 (fun e => by simp only [Option.some.injEq] at e; omega)]; exact h.bR
  · simp only [Option.some.injEq] at e
    omega
theorem TL.facts {w wx : World} {c0 c1 c2 c3 c4 : Value} (h : TL w wx #[c0, c1, c2, c3, c4]) :
    (wx.cell? ⟨w.heap.size + 1, 0, none⟩ = some c0 ∧ wx.cell? ⟨w.heap.size + 1, 1, none⟩ = some c1 ∧ wx.cell? ⟨w.heap.size + 1, 2, none⟩ = some c2 ∧ wx.cell? ⟨w.heap.size + 1, 3, none⟩ = some c3 ∧ wx.cell? ⟨w.heap.size + 1, 4, none⟩ = some c4) ∧
    wx.frozen? ⟨w.heap.size + 1, 0, none⟩ = false ∧ wx.frozen? ⟨w.heap.size + 1, 1, none⟩ = false ∧ wx.frozen? ⟨w.heap.size + 1, 2, none⟩ = false ∧ wx.frozen? ⟨w.heap.size + 1, 3, none⟩ = false ∧ wx.frozen? ⟨w.heap.size + 1, 4, none⟩ = false :=
  ⟨⟨by rw [cell_of h.bo]; rfl, by rw [cell_of h.bo]; rfl, by rw [cell_of h.bo]; rfl, by rw [cell_of h.bo]; rfl, by rw [cell_of h.bo]; rfl⟩, frozen_of h.bo 0, frozen_of h.bo 1, frozen_of h.bo 2, frozen_of h.bo 3, frozen_of h.bo 4⟩
theorem TL.res {w wx : World} {C : Array Value} (h : TL w wx C) :
    (wx.cell? ⟨w.heap.size, 0, none⟩ = some (.int .i64 0) ∧ wx.cell? ⟨w.heap.size, 1, none⟩ = some (.int .i64 0) ∧ wx.cell? ⟨w.heap.size, 2, none⟩ = some (.int .i64 0) ∧ wx.cell? ⟨w.heap.size, 3, none⟩ = some (.slice none 0 0) ∧ wx.cell? ⟨w.heap.size, 4, none⟩ = some (.slice none 0 0)) ∧
    wx.frozen? ⟨w.heap.size, 0, none⟩ = false ∧ wx.frozen? ⟨w.heap.size, 1, none⟩ = false ∧ wx.frozen? ⟨w.heap.size, 2, none⟩ = false ∧ wx.frozen? ⟨w.heap.size, 3, none⟩ = false ∧ wx.frozen? ⟨w.heap.size, 4, none⟩ = false :=
  ⟨⟨by rw [cell_of h.bR]; rfl, by rw [cell_of h.bR]; rfl, by rw [cell_of h.bR]; rfl, by rw [cell_of h.bR]; rfl, by rw [cell_of h.bR]; rfl⟩, frozen_of h.bR 0, frozen_of h.bR 1, frozen_of h.bR 2, frozen_of h.bR 3, frozen_of h.bR 4⟩
/-- Five cells of a block are laid. -/
def lay5 (p : Nat) (wx : World) (x0 x1 x2 x3 x4 : Value) : World := ((((wx.setCell ⟨p, 0, none⟩ x0).setCell ⟨p, 1, none⟩ x1).setCell ⟨p, 2, none⟩ x2).setCell ⟨p, 3, none⟩ x3).setCell ⟨p, 4, none⟩ x4
theorem lay5_grown (p : Nat) (wx : World) (x0 x1 x2 x3 x4 : Value) : wx.grownBy (lay5 p wx x0 x1 x2 x3 x4) (some p) :=
  grown_trans (grown_trans (grown_trans (grown_trans (grown_set _ _ _ _) (grown_set _ _ _ _)) (grown_set _ _ _ _)) (grown_set _ _ _ _)) (grown_set _ _ _ _)
theorem lay5_heap {p : Nat} {wx : World} {c0 c1 c2 c3 c4 : Value} {t : TypeId} (h : wx.heap[p]? = some (.cells #[c0, c1, c2, c3, c4] t (0, 0))) (x0 x1 x2 x3 x4 : Value) : (lay5 p wx x0 x1 x2 x3 x4).heap[p]? = some (.cells #[x0, x1, x2, x3, x4] t (0, 0)) := heap_set (heap_set (heap_set (heap_set (heap_set h 0 x0) 1 x1) 2 x2) 3 x3) 4 x4
theorem lay5_cells {p : Nat} {wx : World} {c0 c1 c2 c3 c4 : Value} {t : TypeId} (h : wx.heap[p]? = some (.cells #[c0, c1, c2, c3, c4] t (0, 0))) (x0 x1 x2 x3 x4 : Value) :
    (lay5 p wx x0 x1 x2 x3 x4).cell? ⟨p, 0, none⟩ = some x0 ∧ (lay5 p wx x0 x1 x2 x3 x4).cell? ⟨p, 1, none⟩ = some x1 ∧ (lay5 p wx x0 x1 x2 x3 x4).cell? ⟨p, 2, none⟩ = some x2 ∧ (lay5 p wx x0 x1 x2 x3 x4).cell? ⟨p, 3, none⟩ = some x3 ∧ (lay5 p wx x0 x1 x2 x3 x4).cell? ⟨p, 4, none⟩ = some x4 := by
  have hb := lay5_heap h x0 x1 x2 x3 x4
  exact ⟨by rw [cell_of hb]; rfl, by rw [cell_of hb]; rfl, by rw [cell_of hb]; rfl, by rw [cell_of hb]; rfl, by rw [cell_of hb]; rfl⟩
theorem TL.fin {w wx : World} {C : Array Value} (h : TL w wx C) (x0 x1 x2 x3 x4 : Value) :
    ((lay5 w.heap.size wx x0 x1 x2 x3 x4).cell? ⟨w.heap.size, 0, none⟩ = some x0 ∧ (lay5 w.heap.size wx x0 x1 x2 x3 x4).cell? ⟨w.heap.size, 1, none⟩ = some x1 ∧ (lay5 w.heap.size wx x0 x1 x2 x3 x4).cell? ⟨w.heap.size, 2, none⟩ = some x2 ∧ (lay5 w.heap.size wx x0 x1 x2 x3 x4).cell? ⟨w.heap.size, 3, none⟩ = some x3 ∧ (lay5 w.heap.size wx x0 x1 x2 x3 x4).cell? ⟨w.heap.size, 4, none⟩ = some x4) ∧ Below w.heap.size w (lay5 w.heap.size wx x0 x1 x2 x3 x4) :=
  ⟨lay5_cells h.bR x0 x1 x2 x3 x4, Below.grown h.bel (lay5_grown _ wx x0 x1 x2 x3 x4) h.bel.size fun k e => by simp only [Option.some.injEq] at e; omega⟩
theorem tl_begin (w : World) : TL w ((w.alloc (.cells #[.int .i64 0, .int .i64 0, .int .i64 0, .slice none 0 0, .slice none 0 0] 24)).alloc (.cells #[.int .i64 0, .int .i64 0, .int .i64 0, .slice none 0 0, .slice none 0 0] 24)) #[.int .i64 0, .int .i64 0, .int .i64 0, .slice none 0 0, .slice none 0 0] := by
  have b1 : Below w.heap.size w (w.alloc (.cells #[.int .i64 0, .int .i64 0, .int .i64 0, .slice none 0 0, .slice none 0 0] 24)) := (Below.refl _ _).alloc (Nat.le_refl _) _
  have hs : (w.alloc (.cells #[.int .i64 0, .int .i64 0, .int .i64 0, .slice none 0 0, .slice none 0 0] 24)).heap.size = w.heap.size + 1 := by simp
  have b2 := (Below.refl _ (w.alloc (.cells #[.int .i64 0, .int .i64 0, .int .i64 0, .slice none 0 0, .slice none 0 0] 24))).alloc (Nat.le_refl _) (.cells #[.int .i64 0, .int .i64 0, .int .i64 0, .slice none 0 0, .slice none 0 0] 24)
  refine ⟨?_, ?_, b1.trans (b2.mono (by omega))⟩
  · rw [b2.block w.heap.size (by omega)]; exact heap_alloc_new w _
  · rw [← hs]; exact heap_alloc_new _ _
theorem Sb.laterE {ob : Nat} {w w' : World} {a : Option Addr} {c : Nat} {xs : List Int} (h : Sb ob w a c xs) (hb : Below w.heap.size w w') : Sb ob w' a c xs := ⟨h.1.later hb, h.2⟩
theorem rdB_okE {most : Nat} {d key : List Int} {st : Rd} (h : rdB most (d, 0) = (key, st)) (hd : Okb d) : Okb key := by
  have e : (rdB most (d, 0)).1 = key := by rw [h]
  rw [← e]
  unfold rdB
  simp only [ne_eq, not_true_eq_false, if_false]
  split
  · exact fun x hx => by cases hx
  · exact tb_okb hd
theorem rd_lenN {most n : Nat} {d l : List Int} {e N : Nat} (h : rdN most (d, 0) = (n, l, e)) (hd : d.length ≤ N) : l.length ≤ N := by
  have := rdN_len most (d, 0)
  rw [h] at this
  exact Nat.le_trans this hd
theorem rd_lenB {most : Nat} {d l x : List Int} {e N : Nat} (h : rdB most (d, 0) = (x, l, e)) (hd : d.length ≤ N) : l.length ≤ N := by
  have := rdB_len most (d, 0)
  rw [h] at this
  exact Nat.le_trans this hd
theorem rd_leN {most n : Nat} {d l : List Int} {e : Nat} (h : rdN most (d, 0) = (n, l, e)) : n ≤ most := by
  have := rdN_le (most := most) (s := (d, 0))
  rw [h] at this
  exact this
/-- A line, taken; none where something is wrong. -/
def noLn : LnV := ⟨0, 0, 0, [], []⟩
def tkLn (d : List Int) : LnV := if (deLn (d, 0)).2.2 ≠ 0 then noLn else (deLn (d, 0)).1

set_option maxHeartbeats 8000000 in
set_option maxRecDepth 100000 in
theorem etln_any {w : World} {ao : Option Addr} {len cap : Nat} {d : List Int} (h : Sl w ao len cap d) (hl : len ≤ 175921860444160) :
    Calls Try.prog 43 #[.slice ao len cap] w fun e w' => ∃ la lc ma mc r, e = .returned (.tuple #[.agg #[.int .i64 (tkLn d).num, .int .i64 (tkLn d).lvl, .int .i64 (tkLn d).size, .slice la (tkLn d).least.length lc, .slice ma (tkLn d).most.length mc], r, .int .i64 ((deLn (d, 0)).2.2 : Nat)]) ∧
      Sb (w.heap.size + 1) w' la lc (tkLn d).least ∧ Sb (w.heap.size + 1) w' ma mc (tkLn d).most ∧ (In64 (tkLn d).num ∧ In64 (tkLn d).lvl ∧ In64 (tkLn d).size) ∧ Rests ao len cap d r (rst (deLn (d, 0)).2) ∧ Below w.heap.size w w' := by
  have hlen0 := h.1
  subst hlen0
  have HT0 : Hid (TL w _ _) := tl_begin w
  have HS0 : Hid (Sl w ao d.length cap d ∧ d.length ≤ 175921860444160) := ⟨h, hl⟩
  obtain ⟨W0, hW⟩ : ∃ W, W = ((w.alloc (.cells #[.int .i64 0, .int .i64 0, .int .i64 0, .slice none 0 0, .slice none 0 0] 24)).alloc (.cells #[.int .i64 0, .int .i64 0, .int .i64 0, .slice none 0 0, .slice none 0 0] 24)) := ⟨_, rfl⟩
  rw [← hW] at HT0
  have HW : Hid (W0 = ((w.alloc (.cells #[.int .i64 0, .int .i64 0, .int .i64 0, .slice none 0 0, .slice none 0 0] 24)).alloc (.cells #[.int .i64 0, .int .i64 0, .int .i64 0, .slice none 0 0, .slice none 0 0] 24))) := hW
  obtain ⟨E, hE⟩ : ∃ E, E = (deLn (d, 0)).2.2 := ⟨_, rfl⟩
  rw [← hE]
  have HE : Hid (E = (deLn (d, 0)).2.2) := hE
  have X0 : Hid (Rests ao d.length cap d (.slice ao d.length cap) d) := fun wx hx => ⟨ao, cap, rfl, hx⟩
  have hc1 := etnum_any (h.later HT0.out.bel) 1099511627776 (by decide)
  obtain ⟨⟨num, l1, e1⟩, hF⟩ : ∃ x, rdN 1099511627776 (d, 0) = x := ⟨_, rfl⟩
  rw [hF] at hc1
  have H1 : Hid (rdN 1099511627776 (d, 0) = (num, l1, e1)) := hF
  simp only at hc1
  have hq1 : num ≤ 2 ^ 61 := by have := rd_leN hF; omega
  clear h hl hE hF hW
  go_enter Try.func43, Try.ntmps43
  go_wp2_with fail
  refine wp_scope_jumps 0 (fun a' w' => (E ≠ 0 ∧ ∃ C, TL w w' C) ∧ ∃ (u0 u1 u3 u4 u5 u6 u7 u9 u10 u11 u12 u13 u14 u15 u16 u17 u18 u19 u20 u21 u22 u23 u24 u25 u26 u27 u28 u29 u30 u31 u32 u33 u34 u35 u36 u37 u38 u39 u40 u41 u42 u43 u44 u45 u46 u47 u48 u49 u50 u51 u52 u53 u54 u55 u56 u57 u58 : Value), a' = { tmps := #[u0, u1, .pointer (some ⟨w.heap.size, 0, none⟩), u3, u4, u5, u6, u7, .int .i64 (E : Nat), u9, u10, u11, u12, u13, u14, u15, u16, u17, u18, u19, u20, u21, u22, u23, u24, u25, u26, u27, u28, u29, u30, u31, u32, u33, u34, u35, u36, u37, u38, u39, u40, u41, u42, u43, u44, u45, u46, u47, u48, u49, u50, u51, u52, u53, u54, u55, u56, u57, u58], defers := [] }) (fun _ _ => 0) rfl ?_ ?_
  · go_upto_region 5 with fail
    rw [← HW.out]
    by_cases q1 : e1 = 0
    · subst q1
      rw [show rst (l1, 0) = l1 from rfl] at hc1
      have HL1 : Hid (l1.length ≤ 175921860444160) := rd_lenN H1.out HS0.out.2
      obtain ⟨⟨lvl, l2, e2⟩, hF⟩ : ∃ x, rdN 3 (l1, 0) = x := ⟨_, rfl⟩
      have H2 : Hid (rdN 3 (l1, 0) = (lvl, l2, e2)) := hF
      have hq2 : lvl ≤ 2 ^ 61 := by have := rd_leN hF; omega
      clear hF
      go_upto_region 7 with (go_at_call 30; refine hc1.mono ?_; rintro e w1 ⟨r1, rfl, S1, b1⟩; obtain ⟨a1, c1, rfl, _⟩ := S1 _ (X0.out w HS0.out.1).sl; have T1 := HT0.out.later b1; obtain ⟨⟨y0, y1, y2, y3, y4⟩, f0, f1, f2, f3, f4⟩ := T1.facts)
      have T1s : TL w (w1.setCell ⟨w.heap.size + 1, 0, none⟩ (.int .i64 (num : Nat))) #[.int .i64 (num : Nat), .int .i64 0, .int .i64 0, .slice none 0 0, .slice none 0 0] := T1.set 0 (.int .i64 (num : Nat))
      have X1 : Hid (Rests ao d.length cap d (.slice a1 l1.length c1) l1) := X0.out.trans S1
      obtain ⟨W1, hW1⟩ : ∃ W, W = w1.setCell ⟨w.heap.size + 1, 0, none⟩ (.int .i64 (num : Nat)) := ⟨_, rfl⟩
      rw [← hW1] at T1s  ⊢
      have HT1 : Hid (TL w W1 #[.int .i64 (num : Nat), .int .i64 0, .int .i64 0, .slice none 0 0, .slice none 0 0]) := T1s
      have hc2 := etnum_any ((X1.out w HS0.out.1).sl.later HT1.out.bel) 3 (by decide)
      rw [H2.out] at hc2
      simp only at hc2
      clear T1 T1s   hc1 S1 b1 hW1 y0 y1 y2 y3 y4 f0 f1 f2 f3 f4
      by_cases q2 : e2 = 0
      · subst q2
        rw [show rst (l2, 0) = l2 from rfl] at hc2
        have HL2 : Hid (l2.length ≤ 175921860444160) := rd_lenN H2.out HL1.out
        obtain ⟨⟨size, l3, e3⟩, hF⟩ : ∃ x, rdN 4194304 (l2, 0) = x := ⟨_, rfl⟩
        have H3 : Hid (rdN 4194304 (l2, 0) = (size, l3, e3)) := hF
        have hq3 : size ≤ 2 ^ 61 := by have := rd_leN hF; omega
        clear hF
        go_upto_region 10 with (go_at_call 30; refine hc2.mono ?_; rintro e w2 ⟨r2, rfl, S2, b2⟩; obtain ⟨a2, c2, rfl, _⟩ := S2 _ (X1.out w HS0.out.1).sl; have T2 := HT1.out.later b2; obtain ⟨⟨y0, y1, y2, y3, y4⟩, f0, f1, f2, f3, f4⟩ := T2.facts)
        have T2s : TL w (w2.setCell ⟨w.heap.size + 1, 1, none⟩ (.int .i64 (lvl : Nat))) #[.int .i64 (num : Nat), .int .i64 (lvl : Nat), .int .i64 0, .slice none 0 0, .slice none 0 0] := T2.set 1 (.int .i64 (lvl : Nat))
        have X2 : Hid (Rests ao d.length cap d (.slice a2 l2.length c2) l2) := X1.out.trans S2
        obtain ⟨W2, hW2⟩ : ∃ W, W = w2.setCell ⟨w.heap.size + 1, 1, none⟩ (.int .i64 (lvl : Nat)) := ⟨_, rfl⟩
        rw [← hW2] at T2s  ⊢
        have HT2 : Hid (TL w W2 #[.int .i64 (num : Nat), .int .i64 (lvl : Nat), .int .i64 0, .slice none 0 0, .slice none 0 0]) := T2s
        have hc3 := etnum_any ((X2.out w HS0.out.1).sl.later HT2.out.bel) 4194304 (by decide)
        rw [H3.out] at hc3
        simp only at hc3
        clear T2 T2s   hc2 S2 b2 hW2 y0 y1 y2 y3 y4 f0 f1 f2 f3 f4
        by_cases q3 : e3 = 0
        · subst q3
          rw [show rst (l3, 0) = l3 from rfl] at hc3
          have HL3 : Hid (l3.length ≤ 175921860444160) := rd_lenN H3.out HL2.out
          obtain ⟨⟨least, l4, e4⟩, hF⟩ : ∃ x, rdB 512 (l3, 0) = x := ⟨_, rfl⟩
          have H4 : Hid (rdB 512 (l3, 0) = (least, l4, e4)) := hF
          clear hF
          go_upto_region 12 with (go_at_call 30; refine hc3.mono ?_; rintro e w3 ⟨r3, rfl, S3, b3⟩; obtain ⟨a3, c3, rfl, _⟩ := S3 _ (X2.out w HS0.out.1).sl; have T3 := HT2.out.later b3; obtain ⟨⟨y0, y1, y2, y3, y4⟩, f0, f1, f2, f3, f4⟩ := T3.facts)
          have T3s : TL w (w3.setCell ⟨w.heap.size + 1, 2, none⟩ (.int .i64 (size : Nat))) #[.int .i64 (num : Nat), .int .i64 (lvl : Nat), .int .i64 (size : Nat), .slice none 0 0, .slice none 0 0] := T3.set 2 (.int .i64 (size : Nat))
          have X3 : Hid (Rests ao d.length cap d (.slice a3 l3.length c3) l3) := X2.out.trans S3
          obtain ⟨W3, hW3⟩ : ∃ W, W = w3.setCell ⟨w.heap.size + 1, 2, none⟩ (.int .i64 (size : Nat)) := ⟨_, rfl⟩
          rw [← hW3] at T3s  ⊢
          have HT3 : Hid (TL w W3 #[.int .i64 (num : Nat), .int .i64 (lvl : Nat), .int .i64 (size : Nat), .slice none 0 0, .slice none 0 0]) := T3s
          have hc4 := etkey_any ((X3.out w HS0.out.1).sl.later HT3.out.bel) HL3.out
          rw [H4.out] at hc4
          simp only at hc4
          have HR4 : Hid (Okb least ∧ w.heap.size + 1 < W3.heap.size) := ⟨rdB_okE H4.out (X3.out w HS0.out.1).sl.2.1, (Array.getElem?_eq_some_iff.1 HT3.out.bo).1⟩
          clear T3 T3s   hc3 S3 b3 hW3 y0 y1 y2 y3 y4 f0 f1 f2 f3 f4
          by_cases q4 : e4 = 0
          · subst q4
            rw [show rst (l4, 0) = l4 from rfl] at hc4
            have HL4 : Hid (l4.length ≤ 175921860444160) := rd_lenB H4.out HL3.out
            obtain ⟨⟨most, l5, e5⟩, hF⟩ : ∃ x, rdB 512 (l4, 0) = x := ⟨_, rfl⟩
            have H5 : Hid (rdB 512 (l4, 0) = (most, l5, e5)) := hF
            clear hF
            go_upto_region 14 with (go_at_call 50; refine hc4.mono ?_; rintro e w4 ⟨v4, r4, rfl, R4, S4, b4⟩; obtain ⟨a4k, c4k, rfl, K4⟩ := sb_row R4 HR4.out.2 HR4.out.1; obtain ⟨a4, c4, rfl, _⟩ := S4 _ (X3.out w HS0.out.1).sl; have T4 := HT3.out.later b4; obtain ⟨⟨y0, y1, y2, y3, y4⟩, f0, f1, f2, f3, f4⟩ := T4.facts)
            have T4s : TL w (w4.setCell ⟨w.heap.size + 1, 3, none⟩ (.slice a4k least.length c4k)) #[.int .i64 (num : Nat), .int .i64 (lvl : Nat), .int .i64 (size : Nat), .slice a4k least.length c4k, .slice none 0 0] := T4.set 3 (.slice a4k least.length c4k)
            have X4 : Hid (Rests ao d.length cap d (.slice a4 l4.length c4) l4) := X3.out.trans S4
            have K4_4 := K4.grown (grown_set w4 (w.heap.size + 1) 3 (.slice a4k least.length c4k)) (Nat.le_refl _)
            obtain ⟨W4, hW4⟩ : ∃ W, W = w4.setCell ⟨w.heap.size + 1, 3, none⟩ (.slice a4k least.length c4k) := ⟨_, rfl⟩
            rw [← hW4] at T4s K4_4 ⊢
            have HT4 : Hid (TL w W4 #[.int .i64 (num : Nat), .int .i64 (lvl : Nat), .int .i64 (size : Nat), .slice a4k least.length c4k, .slice none 0 0]) := T4s
            have HK4 := hidE K4_4
            have hc5 := etkey_any ((X4.out w HS0.out.1).sl.later HT4.out.bel) HL4.out
            rw [H5.out] at hc5
            simp only at hc5
            have HR5 : Hid (Okb most ∧ w.heap.size + 1 < W4.heap.size) := ⟨rdB_okE H5.out (X4.out w HS0.out.1).sl.2.1, (Array.getElem?_eq_some_iff.1 HT4.out.bo).1⟩
            clear T4 T4s K4_4 K4 R4 hc4 S4 b4 hW4 y0 y1 y2 y3 y4 f0 f1 f2 f3 f4
            by_cases q5 : e5 = 0
            · subst q5
              rw [show rst (l5, 0) = l5 from rfl] at hc5
              have HEE : Hid (deLn (d, 0) = (⟨(num : Int), (lvl : Int), (size : Int), least, most⟩, (l5, 0))) := by
                show _ = _
                unfold deLn
                simp only [H1.out, H2.out, H3.out, H4.out, H5.out]
              obtain rfl : E = 0 := by rw [HE.out, HEE.out]
              clear HE
              go_wp2_with (go_at_call 50; refine hc5.mono ?_; rintro e w5 ⟨v5, r5, rfl, R5, S5, b5⟩; obtain ⟨a5k, c5k, rfl, K5⟩ := sb_row R5 HR5.out.2 HR5.out.1; obtain ⟨a5, c5, rfl, _⟩ := S5 _ (X4.out w HS0.out.1).sl; have T5 := HT4.out.later b5; obtain ⟨⟨y0, y1, y2, y3, y4⟩, f0, f1, f2, f3, f4⟩ := T5.facts; have T6 : TL w (w5.setCell ⟨w.heap.size + 1, 4, none⟩ (.slice a5k most.length c5k)) #[.int .i64 (num : Nat), .int .i64 (lvl : Nat), .int .i64 (size : Nat), .slice a4k least.length c4k, .slice a5k most.length c5k] := T5.set 4 (.slice a5k most.length c5k); obtain ⟨⟨x0, x1, x2, x3, x4⟩, g0, g1, g2, g3, g4⟩ := T6.facts; obtain ⟨⟨z0, z1, z2, z3, z4⟩, h0, h1, h2, h3, h4⟩ := T6.res)
              obtain ⟨⟨o0, o1, o2, o3, o4⟩, ob⟩ := T6.fin (.int .i64 (num : Nat)) (.int .i64 (lvl : Nat)) (.int .i64 (size : Nat)) (.slice a4k least.length c4k) (.slice a5k most.length c5k)
              have K6 := ((HK4.out.laterE b5).grown (grown_set w5 (w.heap.size + 1) 4 (.slice a5k most.length c5k)) (Nat.le_refl _)).grown (lay5_grown w.heap.size _ (.int .i64 (num : Nat)) (.int .i64 (lvl : Nat)) (.int .i64 (size : Nat)) (.slice a4k least.length c4k) (.slice a5k most.length c5k)) (by omega)
              have K7 := (K5.grown (grown_set w5 (w.heap.size + 1) 4 (.slice a5k most.length c5k)) (Nat.le_refl _)).grown (lay5_grown w.heap.size _ (.int .i64 (num : Nat)) (.int .i64 (lvl : Nat)) (.int .i64 (size : Nat)) (.slice a4k least.length c4k) (.slice a5k most.length c5k)) (by omega)
              have HO := hidE ob
              have HK6 := hidE K6
              have HK7 := hidE K7
              unfold lay5 at o0 o1 o2 o3 o4 HO HK6 HK7
              simp only [Exit.jump]
              refine bodyPost_ret (v := .tuple #[.agg #[.int .i64 (num : Nat), .int .i64 (lvl : Nat), .int .i64 (size : Nat), .slice a4k least.length c4k, .slice a5k most.length c5k], .slice a5 l5.length c5, .int .i64 0]) (by simp [results, Try.results43, go_sem, o0, o1, o2, o3, o4]) rfl ?_
              have e1 : tkLn d = ⟨(num : Int), (lvl : Int), (size : Int), least, most⟩ := by unfold tkLn; rw [HEE.out]; simp
              have e2 : rst (deLn (d, 0)).2 = rst (l5, 0) := by rw [HEE.out]
              rw [e1, e2]
              exact ⟨_, _, _, _, _, rfl, HK6.out, HK7.out, ⟨⟨by show _ ≤ (num : Int); omega, by show (num : Int) ≤ _; omega⟩, ⟨by show _ ≤ (lvl : Int); omega, by show (lvl : Int) ≤ _; omega⟩, ⟨by show _ ≤ (size : Int); omega, by show (size : Int) ≤ _; omega⟩⟩, X4.out.trans S5, HO.out⟩
            · have hne : ((e5 : Int) != 0) = true := by simp; omega
              have HEN : Hid (E ≠ 0 ∧ E = e5) := by
                have : E = e5 := by
                  rw [HE.out]
                  unfold deLn
                  simp only [H1.out, H2.out, H3.out, H4.out, H5.out]
                exact ⟨by omega, this⟩
              obtain rfl : E = e5 := HEN.out.2
              clear q5
              go_wp2_with (go_at_call 50; refine hc5.mono ?_; rintro e w5 ⟨v5, r5, rfl, R5, S5, b5⟩; obtain ⟨a5k, c5k, rfl, K5⟩ := sb_row R5 HR5.out.2 HR5.out.1; have T5 := HT4.out.later b5; obtain ⟨⟨y0, y1, y2, y3, y4⟩, f0, f1, f2, f3, f4⟩ := T5.facts)
              go_step3
              exact ⟨rfl, ⟨HEN.out.1, _, T5.set 4 (.slice a5k most.length c5k)⟩, _, _, _, _, _, _, _, _, _, _, _, _, _, _, _, _, _, _, _, _, _, _, _, _, _, _, _, _, _, _, _, _, _, _, _, _, _, _, _, _, _, _, _, _, _, _, _, _, _, _, _, _, _, _, _, _, _, rfl⟩
          · have hne : ((e4 : Int) != 0) = true := by simp; omega
            have HEN : Hid (E ≠ 0 ∧ E = e4) := by
              have : E = e4 := by
                rw [HE.out]
                unfold deLn
                simp only [H1.out, H2.out, H3.out, H4.out]
                try rw [rdB_err (s := (l4, e4)) q4]
                try simp only
              exact ⟨by omega, this⟩
            obtain rfl : E = e4 := HEN.out.2
            clear q4
            go_wp2_with (go_at_call 50; refine hc4.mono ?_; rintro e w4 ⟨v4, r4, rfl, R4, S4, b4⟩; obtain ⟨a4k, c4k, rfl, K4⟩ := sb_row R4 HR4.out.2 HR4.out.1; have T4 := HT3.out.later b4; obtain ⟨⟨y0, y1, y2, y3, y4⟩, f0, f1, f2, f3, f4⟩ := T4.facts)
            go_step3
            exact ⟨rfl, ⟨HEN.out.1, _, T4.set 3 (.slice a4k least.length c4k)⟩, _, _, _, _, _, _, _, _, _, _, _, _, _, _, _, _, _, _, _, _, _, _, _, _, _, _, _, _, _, _, _, _, _, _, _, _, _, _, _, _, _, _, _, _, _, _, _, _, _, _, _, _, _, _, _, _, _, rfl⟩
        · have hne : ((e3 : Int) != 0) = true := by simp; omega
          have HEN : Hid (E ≠ 0 ∧ E = e3) := by
            have : E = e3 := by
              rw [HE.out]
              unfold deLn
              simp only [H1.out, H2.out, H3.out]
              try rw [rdB_err (s := (l3, e3)) q3]
              try simp only
              try rw [rdB_err (s := (l3, e3)) q3]
              try simp only
            exact ⟨by omega, this⟩
          obtain rfl : E = e3 := HEN.out.2
          clear q3
          go_wp2_with (go_at_call 30; refine hc3.mono ?_; rintro e w3 ⟨r3, rfl, S3, b3⟩; have T3 := HT2.out.later b3; obtain ⟨⟨y0, y1, y2, y3, y4⟩, f0, f1, f2, f3, f4⟩ := T3.facts)
          go_step3
          exact ⟨rfl, ⟨HEN.out.1, _, T3.set 2 (.int .i64 (size : Nat))⟩, _, _, _, _, _, _, _, _, _, _, _, _, _, _, _, _, _, _, _, _, _, _, _, _, _, _, _, _, _, _, _, _, _, _, _, _, _, _, _, _, _, _, _, _, _, _, _, _, _, _, _, _, _, _, _, _, _, rfl⟩
      · have hne : ((e2 : Int) != 0) = true := by simp; omega
        have HEN : Hid (E ≠ 0 ∧ E = e2) := by
          have : E = e2 := by
            rw [HE.out]
            unfold deLn
            simp only [H1.out, H2.out]
            try rw [rdN_err (s := (l2, e2)) q2]
            try simp only
            try rw [rdB_err (s := (l2, e2)) q2]
            try simp only
            try rw [rdB_err (s := (l2, e2)) q2]
            try simp only
          exact ⟨by omega, this⟩
        obtain rfl : E = e2 := HEN.out.2
        clear q2
        go_wp2_with (go_at_call 30; refine hc2.mono ?_; rintro e w2 ⟨r2, rfl, S2, b2⟩; have T2 := HT1.out.later b2; obtain ⟨⟨y0, y1, y2, y3, y4⟩, f0, f1, f2, f3, f4⟩ := T2.facts)
        go_step3
        exact ⟨rfl, ⟨HEN.out.1, _, T2⟩, _, _, _, _, _, _, _, _, _, _, _, _, _, _, _, _, _, _, _, _, _, _, _, _, _, _, _, _, _, _, _, _, _, _, _, _, _, _, _, _, _, _, _, _, _, _, _, _, _, _, _, _, _, _, _, _, _, rfl⟩
    · have hne : ((e1 : Int) != 0) = true := by simp; omega
      have HEN : Hid (E ≠ 0 ∧ E = e1) := by
        have : E = e1 := by
          rw [HE.out]
          unfold deLn
          simp only [H1.out]
          try rw [rdN_err (s := (l1, e1)) q1]
          try simp only
          try rw [rdN_err (s := (l1, e1)) q1]
          try simp only
          try rw [rdB_err (s := (l1, e1)) q1]
          try simp only
          try rw [rdB_err (s := (l1, e1)) q1]
          try simp only
        exact ⟨by omega, this⟩
      obtain rfl : E = e1 := HEN.out.2
      clear q1
      go_wp2_with (go_at_call 30; refine hc1.mono ?_; rintro e w1 ⟨r1, rfl, S1, b1⟩; have T1 := HT0.out.later b1; obtain ⟨⟨y0, y1, y2, y3, y4⟩, f0, f1, f2, f3, f4⟩ := T1.facts)
      go_step3
      exact ⟨rfl, ⟨HEN.out.1, _, T1.set 0 (.int .i64 (num : Nat))⟩, _, _, _, _, _, _, _, _, _, _, _, _, _, _, _, _, _, _, _, _, _, _, _, _, _, _, _, _, _, _, _, _, _, _, _, _, _, _, _, _, _, _, _, _, _, _, _, _, _, _, _, _, _, _, _, _, _, rfl⟩
  · rintro a' w' ⟨⟨hne, C, T⟩, u0, u1, u3, u4, u5, u6, u7, u9, u10, u11, u12, u13, u14, u15, u16, u17, u18, u19, u20, u21, u22, u23, u24, u25, u26, u27, u28, u29, u30, u31, u32, u33, u34, u35, u36, u37, u38, u39, u40, u41, u42, u43, u44, u45, u46, u47, u48, u49, u50, u51, u52, u53, u54, u55, u56, u57, u58, rfl⟩
    have HT : Hid (TL w w' C ∧ E ≠ 0) := ⟨T, hne⟩
    obtain ⟨⟨y0, y1, y2, y3, y4⟩, f0, f1, f2, f3, f4⟩ := T.res
    obtain ⟨⟨o0, o1, o2, o3, o4⟩, ob⟩ := T.fin (.int .i64 0) (.int .i64 0) (.int .i64 0) (.slice none 0 0) (.slice none 0 0)
    unfold lay5 at o0 o1 o2 o3 o4 ob
    have HO := hidE ob
    clear T hne ob
    go_wp2_with fail
    simp only [Exit.jump]
    refine bodyPost_ret (v := .tuple #[.agg #[.int .i64 0, .int .i64 0, .int .i64 0, .slice none 0 0, .slice none 0 0], .slice none 0 0, .int .i64 (E : Nat)]) (by simp [results, Try.results43, go_sem, o0, o1, o2, o3, o4]) rfl ?_
    have e1 : tkLn d = noLn := by unfold tkLn; rw [if_pos (by rw [← HE.out]; exact HT.out.2)]
    have e2 : rst (deLn (d, 0)).2 = [] := by unfold rst; rw [if_pos (by rw [← HE.out]; exact HT.out.2)]
    rw [e1, e2]
    exact ⟨none, 0, none, 0, .slice none 0 0, rfl, Sb.nil _ _, Sb.nil _ _, ⟨in64_0, in64_0, in64_0⟩, Rests.nil _ _ _ _, HO.out⟩
end Go.Proofs.Yteaicilehigjlaa

/- What the landed edit takes from bytes: its lines, its numbers. -/
namespace Go.Proofs.Yteaicilehigjlaa
open Go.RowKit
set_option linter.unusedVariables false
set_option linter.unusedSimpArgs false

theorem deLns_step {n : Nat} {st : Rd} {T : List LnV × Rd} {acc : List LnV} (h : T = (acc ++ (deLns (n + 1) st).1, (deLns (n + 1) st).2)) :
    ((deLn st).2.2 ≠ 0 → T = (acc ++ [(deLn st).1], (deLn st).2)) ∧ ((deLn st).2.2 = 0 → T = (acc ++ [(deLn st).1] ++ (deLns n (deLn st).2).1, (deLns n (deLn st).2).2)) := by
  rw [deLns] at h
  constructor
  · intro q
    rw [if_pos q] at h
    exact h
  · intro q
    rw [if_neg (by rw [q]; simp)] at h
    rw [h, List.append_assoc]
    rfl
theorem deNs_step {n : Nat} {st : Rd} {T : List Int × Rd} {acc : List Int} (h : T = (acc ++ (deNs (n + 1) st).1, (deNs (n + 1) st).2)) :
    ((rdN 1099511627776 st).2.2 ≠ 0 → T = (acc ++ [((rdN 1099511627776 st).1 : Int)], (rdN 1099511627776 st).2)) ∧ ((rdN 1099511627776 st).2.2 = 0 → T = (acc ++ [((rdN 1099511627776 st).1 : Int)] ++ (deNs n (rdN 1099511627776 st).2).1, (deNs n (rdN 1099511627776 st).2).2)) := by
  rw [deNs] at h
  constructor
  · intro q
    rw [if_pos q] at h
    exact h
  · intro q
    rw [if_neg (by rw [q]; simp)] at h
    rw [h, List.append_assoc]
    rfl
theorem deLn_len (s : Rd) : (deLn s).2.1.length ≤ s.1.length := by
  have h1 := rdN_len 1099511627776 s
  have h2 := rdN_len 3 (rdN 1099511627776 s).2
  have h3 := rdN_len 4194304 (rdN 3 (rdN 1099511627776 s).2).2
  have h4 := rdB_len 512 (rdN 4194304 (rdN 3 (rdN 1099511627776 s).2).2).2
  have h5 := rdB_len 512 (rdB 512 (rdN 4194304 (rdN 3 (rdN 1099511627776 s).2).2).2).2
  unfold deLn
  simp only
  omega
theorem rdN_zero {most n : Nat} {s : Rd} {l : List Int} {E : Nat} (h : rdN most s = (n, (l, E))) (hE : E ≠ 0) : n = 0 := by
  unfold rdN at h
  split at h
  · simp only [Prod.mk.injEq] at h; exact h.1.symm
  · split at h
    · simp only [Prod.mk.injEq] at h; exact h.1.symm
    · split at h
      · simp only [Prod.mk.injEq] at h; exact h.1.symm
      · simp only [Prod.mk.injEq] at h; exact absurd h.2.2.symm hE
/-- The lines, and the numbers, that stand ahead. -/
def daS (d : List Int) : List LnV × Rd := deLns (rdN 200 (d, 0)).1 (rdN 200 (d, 0)).2
def drS (d : List Int) : List Int × Rd := deNs (rdN 200 (d, 0)).1 (rdN 200 (d, 0)).2
def daV (d : List Int) : List LnV := if (daS d).2.2 ≠ 0 then [] else (daS d).1
def drV (d : List Int) : List Int := if (drS d).2.2 ≠ 0 then [] else (drS d).1
theorem daS_e {d : List Int} {n : Nat} {l : List Int} {E : Nat} (h : rdN 200 (d, 0) = (n, (l, E))) (hE : E ≠ 0) : daS d = ([], (l, E)) := by
  have := rdN_zero h hE
  subst this
  unfold daS
  rw [h]
  rfl
theorem drS_e {d : List Int} {n : Nat} {l : List Int} {E : Nat} (h : rdN 200 (d, 0) = (n, (l, E))) (hE : E ≠ 0) : drS d = ([], (l, E)) := by
  have := rdN_zero h hE
  subst this
  unfold drS
  rw [h]
  rfl
/-- Where the walk stands: the line under way, the lines. -/
structure TA (w wx : World) (v : Value) (acc : List LnV) : Prop where
  bo : ∃ c0 c1 c2 c3 c4, wx.heap[w.heap.size]? = some (.cells #[c0, c1, c2, c3, c4] 24 (0, 0))
  row : RowF lnE (w.heap.size + 1) (fun b => w.heap.size + 1 ≤ b) wx v acc
  bel : Below w.heap.size w wx
theorem TA.sz {w wx : World} {v : Value} {acc : List LnV} (h : TA w wx v acc) : w.heap.size + 1 ≤ wx.heap.size := by
  obtain ⟨c0, c1, c2, c3, c4, e⟩ := h.bo
  have := (Array.getElem?_eq_some_iff.1 e).1
  omega
theorem TA.later {w wx wy : World} {v : Value} {acc : List LnV} (h : TA w wx v acc) (hb : Below wx.heap.size wx wy) : TA w wy v acc := by
  obtain ⟨c0, c1, c2, c3, c4, e⟩ := h.bo
  exact ⟨⟨c0, c1, c2, c3, c4, (hb.block _ (Array.getElem?_eq_some_iff.1 e).1).trans e⟩, h.row.later hb, h.bel.trans (hb.mono h.bel.size)⟩
theorem TA.facts {w wx : World} {v : Value} {acc : List LnV} (h : TA w wx v acc) : ∃ c0 c1 c2 c3 c4,
    (wx.cell? ⟨w.heap.size, 0, none⟩ = some c0 ∧ wx.cell? ⟨w.heap.size, 1, none⟩ = some c1 ∧ wx.cell? ⟨w.heap.size, 2, none⟩ = some c2 ∧ wx.cell? ⟨w.heap.size, 3, none⟩ = some c3 ∧ wx.cell? ⟨w.heap.size, 4, none⟩ = some c4) ∧
    wx.frozen? ⟨w.heap.size, 0, none⟩ = false ∧ wx.frozen? ⟨w.heap.size, 1, none⟩ = false ∧ wx.frozen? ⟨w.heap.size, 2, none⟩ = false ∧ wx.frozen? ⟨w.heap.size, 3, none⟩ = false ∧ wx.frozen? ⟨w.heap.size, 4, none⟩ = false := by
  obtain ⟨c0, c1, c2, c3, c4, e⟩ := h.bo
  exact ⟨c0, c1, c2, c3, c4, ⟨by rw [cell_of e]; rfl, by rw [cell_of e]; rfl, by rw [cell_of e]; rfl, by rw [cell_of e]; rfl, by rw [cell_of e]; rfl⟩, frozen_of e 0, frozen_of e 1, frozen_of e 2, frozen_of e 3, frozen_of e 4⟩
theorem TA.lay {w wx : World} {v : Value} {acc : List LnV} (h : TA w wx v acc) (x0 x1 x2 x3 x4 : Value) :
    TA w (lay5 w.heap.size wx x0 x1 x2 x3 x4) v acc ∧ (lay5 w.heap.size wx x0 x1 x2 x3 x4).cell? ⟨w.heap.size, 0, none⟩ = some x0 ∧ (lay5 w.heap.size wx x0 x1 x2 x3 x4).cell? ⟨w.heap.size, 1, none⟩ = some x1 ∧ (lay5 w.heap.size wx x0 x1 x2 x3 x4).cell? ⟨w.heap.size, 2, none⟩ = some x2 ∧ (lay5 w.heap.size wx x0 x1 x2 x3 x4).cell? ⟨w.heap.size, 3, none⟩ = some x3 ∧ (lay5 w.heap.size wx x0 x1 x2 x3 x4).cell? ⟨w.heap.size, 4, none⟩ = some x4 := by
  obtain ⟨c0, c1, c2, c3, c4, e⟩ := h.bo
  have hg := lay5_grown w.heap.size wx x0 x1 x2 x3 x4
  refine ⟨⟨⟨x0, x1, x2, x3, x4, lay5_heap e x0 x1 x2 x3 x4⟩, h.row.grown hg (fun b e e' => ?_) (fun b e e' => ?_), Below.grown h.bel hg h.bel.size fun k e => ?_⟩, lay5_cells e x0 x1 x2 x3 x4⟩
  · have := (h.row.own_lt e).1
    simp only [Option.some.injEq] at e'
    omega
  · simp only [Option.some.injEq] at e'
    omega
  · simp only [Option.some.injEq] at e
    omega
theorem TA.done {w wx wy : World} {v v' : Value} {acc acc' : List LnV} (h : TA w wx v acc) (hg : wx.grownBy wy v.ownBlock) (hr : RowF lnE (w.heap.size + 1) (fun b => w.heap.size + 1 ≤ b) wy v' acc') : TA w wy v' acc' := by
  obtain ⟨c0, c1, c2, c3, c4, e⟩ := h.bo
  refine ⟨⟨c0, c1, c2, c3, c4, ?_⟩, hr, Below.grown h.bel hg h.bel.size fun k e => by have := (h.row.own_lt e).1; omega⟩
  rw [hg.block _ (Array.getElem?_eq_some_iff.1 e).1 (fun z => by have := (h.row.own_lt z.symm).1; omega)]
  exact e
theorem TA.ready {w wr wx : World} {v : Value} {acc : List LnV} {la ma : Option Addr} {lc mc : Nat} {o : LnV} (h : TA w wx v acc) (hr : w.heap.size + 1 ≤ wr.heap.size) (hown : ∀ b, v.ownBlock = some b → b < wr.heap.size) (hk : Sb (wr.heap.size + 1) wx la lc o.least) (hv : Sb (wr.heap.size + 1) wx ma mc o.most) (ht : In64 o.num ∧ In64 o.lvl ∧ In64 o.size) :
    RSu lnE (wx.alloc (.cells #[.int .i64 o.num, .int .i64 o.lvl, .int .i64 o.size, .slice la o.least.length lc, .slice ma o.most.length mc] 24)) (some ⟨wx.heap.size, 0, none⟩) 1 1 [.int .i64 o.num, .int .i64 o.lvl, .int .i64 o.size, .slice la o.least.length lc, .slice ma o.most.length mc] [o] ∧
    (∀ u ∈ [Value.int .i64 o.num, .int .i64 o.lvl, .int .i64 o.size, .slice la o.least.length lc, .slice ma o.most.length mc], ∀ b, Refs u b → v.ownBlock ≠ some b) ∧
    (∀ u ∈ [Value.int .i64 o.num, .int .i64 o.lvl, .int .i64 o.size, .slice la o.least.length lc, .slice ma o.most.length mc], ∀ b, Refs u b → w.heap.size + 1 ≤ b) ∧
    TA w (wx.alloc (.cells #[.int .i64 o.num, .int .i64 o.lvl, .int .i64 o.size, .slice la o.least.length lc, .slice ma o.most.length mc] 24)) v acc := by
  have hM : lnE.M wx [.int .i64 o.num, .int .i64 o.lvl, .int .i64 o.size, .slice la o.least.length lc, .slice ma o.most.length mc] o := ⟨la, lc, ma, mc, rfl, hk.1, hv.1, ht.1, ht.2.1, ht.2.2⟩
  have hgt : ∀ u ∈ [Value.int .i64 o.num, .int .i64 o.lvl, .int .i64 o.size, .slice la o.least.length lc, .slice ma o.most.length mc], ∀ b, Refs u b → wr.heap.size + 1 < b := fun u hu b hr => by
    simp only [List.mem_cons, List.not_mem_nil, or_false] at hu
    rcases hu with rfl | rfl | rfl | rfl | rfl
    · exact (refs_int hr).elim
    · exact (refs_int hr).elim
    · exact (refs_int hr).elim
    · exact hk.2 b hr
    · exact hv.2 b hr
  refine ⟨rs_one hM, fun u hu b hr e => ?_, fun u hu b hr => ?_, h.later ((Below.refl _ _).alloc (Nat.le_refl _) _)⟩
  · have := hgt u hu b hr
    have := hown b e
    omega
  · have := hgt u hu b hr
    omega
set_option maxHeartbeats 8000000 in
set_option maxRecDepth 100000 in
theorem etad_any {w : World} {ao : Option Addr} {len cap : Nat} {d : List Int} (h : Sl w ao len cap d) (hl : len ≤ 175921860444160) :
    Calls Try.prog 31 #[.slice ao len cap] w fun e w' => ∃ v r, e = .returned (.tuple #[v, r, .int .i64 ((daS d).2.2 : Nat)]) ∧ RowF lnE (w.heap.size + 1) (fun b => w.heap.size + 1 ≤ b) w' v (daV d) ∧ Rests ao len cap d r (rst (daS d).2) ∧ Below w.heap.size w w' := by
  have hlen0 := h.1
  subst hlen0
  obtain ⟨W0, hW⟩ : ∃ W, W = w.alloc (.cells #[.int .i64 0, .int .i64 0, .int .i64 0, .slice none 0 0, .slice none 0 0] 24) := ⟨_, rfl⟩
  have bW : Below w.heap.size w W0 := by rw [hW]; exact (Below.refl _ _).alloc (Nat.le_refl _) _
  have HT0 : Hid (TA w W0 (.slice none 0 0) []) := ⟨⟨_, _, _, _, _, by rw [hW]; exact heap_alloc_new w _⟩, RowF.nil _ _ _, bW⟩
  have HS0 : Hid (Sl w ao d.length cap d ∧ d.length ≤ 175921860444160) := ⟨h, hl⟩
  have HW : Hid (W0 = w.alloc (.cells #[.int .i64 0, .int .i64 0, .int .i64 0, .slice none 0 0, .slice none 0 0] 24)) := hW
  obtain ⟨E, hE⟩ : ∃ E, E = (daS d).2.2 := ⟨_, rfl⟩
  rw [← hE]
  have HE : Hid (E = (daS d).2.2) := hE
  have hB := etnum_any (h.later bW) 200 (by decide)
  obtain ⟨⟨n2, l2, e2⟩, hF⟩ : ∃ x, rdN 200 (d, 0) = x := ⟨_, rfl⟩
  rw [hF] at hB
  have HF : Hid (rdN 200 (d, 0) = (n2, l2, e2)) := hF
  have HN2 : Hid (n2 ≤ 200 ∧ l2.length ≤ d.length) := ⟨rd_leN hF, rd_lenN hF (Nat.le_refl _)⟩
  have hn2 : n2 ≤ 2 ^ 61 := by have := HN2.out; omega
  simp only at hB
  clear h hl hE hF hW bW
  go_enter Try.func31, Try.ntmps31
  go_wp2_with fail
  refine wp_scope_jumps 0 (fun a' w' => (E ≠ 0 ∧ Below w.heap.size w w') ∧ ∃ (u0 u1 u2 u3 u4 u5 u6 u7 u8 u10 u11 u12 u13 u14 u15 u16 u17 u18 u19 u20 u21 u22 u23 u24 u25 u26 u27 u28 u29 u30 u31 u32 u33 u34 u35 u36 : Value), a' = { tmps := #[u0, u1, u2, u3, u4, u5, u6, u7, u8, .int .i64 (E : Nat), u10, u11, u12, u13, u14, u15, u16, u17, u18, u19, u20, u21, u22, u23, u24, u25, u26, u27, u28, u29, u30, u31, u32, u33, u34, u35, u36], defers := [] }) (fun _ _ => 0) rfl ?_ ?_
  · go_upto_region 3 with fail
    rw [← HW.out]
    by_cases q2 : e2 = 0
    · subst q2
      rw [show rst (l2, 0) = l2 from rfl] at hB
      go_upto_region 5 with (go_at_call 30; refine hB.mono ?_; rintro e w2 ⟨r2, rfl, s2, b2⟩; obtain ⟨a2, c2, rfl, K2⟩ := s2 _ HS0.out.1)
      have H0 : Hid (TA w w2 (.slice none 0 0) [] ∧ Rests ao d.length cap d (.slice a2 l2.length c2) l2 ∧ daS d = ([] ++ (deLns n2 (l2, 0)).1, (deLns n2 (l2, 0)).2) ∧ l2.length ≤ d.length) := ⟨HT0.out.later b2, s2, by unfold daS; rw [HF.out]; rfl, HN2.out.2⟩
      clear b2 s2 hB K2 HT0
      go_wp2_with fail
      go_loopg [5, 8, 9, 19] n2 (fun g v r _ i wr => ∃ (k : Nat) (acc : List LnV) (l : List Int) (a : Option Addr) (c : Nat), k + g = n2 ∧ i = .int .i64 (k : Int) ∧ r = .slice a l.length c ∧ Hid (TA w wr v acc ∧ Rests ao d.length cap d (.slice a l.length c) l ∧ daS d = (acc ++ (deLns g (l, 0)).1, (deLns g (l, 0)).2) ∧ acc.length = k ∧ l.length ≤ d.length))
      case atStart => exact ⟨0, [], l2, a2, c2, by omega, rfl, rfl, H0.out.1, H0.out.2.1, H0.out.2.2.1, rfl, H0.out.2.2.2⟩
      case round =>
        obtain ⟨k, acc, l, a, c, hk, rfl, rfl, HK⟩ := hrel
        by_cases hkl : k < n2
        · have hkl' : (k : Int) < (n2 : Int) := by omega
          obtain ⟨g, rfl⟩ : ∃ g, gk = g + 1 := ⟨gk - 1, by omega⟩
          have hop := etln_any ((HK.out.2.1 w HS0.out.1).sl.later HK.out.1.bel) (by have := HK.out.2.2.2.2; have := HS0.out.2; omega)
          obtain ⟨⟨o0, st⟩, hO⟩ : ∃ x, deLn (l, 0) = x := ⟨_, rfl⟩
          have hst := deLns_step HK.out.2.2.1
          obtain ⟨l', er⟩ := st
          rw [hO] at hop hst
          simp only at hop hst
          obtain ⟨o, ho⟩ : ∃ o, o = tkLn l := ⟨_, rfl⟩
          rw [← ho] at hop
          have HO : Hid (deLn (l, 0) = (o0, l', er) ∧ o = tkLn l) := ⟨hO, ho⟩
          have HST := hidE hst
          obtain ⟨v1, v2, v3, hv, hvn⟩ := HK.out.1.row.slice'
          subst hv
          have HAL : Hid (k + 1 + g = n2 ∧ acc.length = k ∧ n2 ≤ 200) := ⟨by omega, HK.out.2.2.2.1, HN2.out.1⟩
          have hk62 : k ≤ 2 ^ 61 := by have := HN2.out; omega
          obtain ⟨num, lvl, size, least, most⟩ := o
          simp only at hop
          clear hst hO ho hk hvn H0
          by_cases q : er = 0
          · subst q
            have HN : Hid (o0 = ⟨num, lvl, size, least, most⟩) := by show _ = _; rw [HO.out.2]; unfold tkLn; rw [HO.out.1]; simp
            rw [show rst (l', 0) = l' from rfl] at hop
            go_upto_region 9 with (go_at_call 43; refine hop.mono ?_; rintro e w3 ⟨la, lc, ma, mc, r3, rfl, S1, S2, I1, s3, b3⟩; obtain ⟨a3, c3, rfl, _⟩ := s3 _ (HK.out.2.1 w HS0.out.1).sl; have T3 := HK.out.1.later b3; obtain ⟨p0, p1, p2, p3, p4, ⟨z0, z1, z2, z3, z4⟩, f0, f1, f2, f3, f4⟩ := T3.facts)
            obtain ⟨T4, t0, t1, t2, t3, t4⟩ := T3.lay (.int .i64 num) (.int .i64 lvl) (.int .i64 size) (.slice la least.length lc) (.slice ma most.length mc)
            have hsz := HK.out.1.sz
            have S3 := S1.grown (lay5_grown w.heap.size w3 (.int .i64 num) (.int .i64 lvl) (.int .i64 size) (.slice la least.length lc) (.slice ma most.length mc)) (by omega)
            have S4 := S2.grown (lay5_grown w.heap.size w3 (.int .i64 num) (.int .i64 lvl) (.int .i64 size) (.slice la least.length lc) (.slice ma most.length mc)) (by omega)
            obtain ⟨W4, hW4⟩ : ∃ W4, W4 = lay5 w.heap.size w3 (.int .i64 num) (.int .i64 lvl) (.int .i64 size) (.slice la least.length lc) (.slice ma most.length mc) := ⟨_, rfl⟩
            rw [← hW4] at T4 t0 t1 t2 t3 t4 S3 S4
            unfold lay5 at hW4
            rw [← hW4]
            obtain ⟨R1, R2, R3, R4⟩ := TA.ready (o := ⟨num, lvl, size, least, most⟩) T4 hsz (fun b e => (HK.out.1.row.own_lt e).2) S3 S4 I1
            have HR := hidE (And.intro R1 (And.intro R2 (And.intro R3 R4)))
            have HST2 : Hid (Rests ao d.length cap d (.slice a3 l'.length c3) l' ∧ daS d = (acc ++ [o0] ++ (deLns g (l', 0)).1, (deLns g (l', 0)).2) ∧ l'.length ≤ d.length) := by
              refine ⟨HK.out.2.1.trans s3, HST.out.2 (by first | exact trivial | rfl), ?_⟩
              have h1 := deLn_len (l, 0)
              rw [HO.out.1] at h1
              have := HK.out.2.2.2.2
              simp only at h1
              omega
            clear R1 R2 R3 R4 T3 T4 S1 S2 S3 S4 hW4 hop b3 s3 z0 z1 z2 z3 z4 f0 f1 f2 f3 f4 hsz
            go_wp2_with (at_builtin; refine wpList_appF lnE (t := 27) (z := (.agg #[.int .i64 0, .int .i64 0, .int .i64 0, .slice none 0 0, .slice none 0 0])) (bytes := 72) Try.underlying27 lnE_info rfl (by decide) rfl (.tmp 29) (.tmp 31) rfl rfl HR.out.2.2.2.row rfl HR.out.1 HR.out.2.1 HR.out.2.2.1 (by have := HAL.out; omega) (by have := HAL.out; omega) HR.out.2.2.2.sz ?_; intro v9 w9 r9 g9 m9; have H10 := hidE (HR.out.2.2.2.done g9 r9); clear r9 g9 m9)
            go_roundg g
            case measure => omega
            case rel => exact ⟨k + 1, _, l', a3, c3, HAL.out.1, by go_num, rfl, H10.out, HST2.out.1, by rw [HST2.out.2.1, HN.out], by have := HAL.out; simp; omega, HST2.out.2.2⟩
          · have hne : ((er : Int) != 0) = true := by simp; omega
            have HEE : Hid (E = er) := by show _ = _; rw [HE.out, HST.out.1 q]
            obtain rfl : E = er := HEE.out
            have HQ : Hid (E ≠ 0) := q
            clear q
            go_wp2_with (go_at_call 43; refine hop.mono ?_; rintro e w3 ⟨la, lc, ma, mc, r3, rfl, S1, S2, I1, s3, b3⟩; have T3 := HK.out.1.later b3; obtain ⟨p0, p1, p2, p3, p4, ⟨z0, z1, z2, z3, z4⟩, f0, f1, f2, f3, f4⟩ := T3.facts)
            go_step3
            exact ⟨rfl, ⟨HQ.out, (T3.lay (.int .i64 num) (.int .i64 lvl) (.int .i64 size) (.slice la least.length lc) (.slice ma most.length mc)).1.bel⟩, _, _, _, _, _, _, _, _, _, _, _, _, _, _, _, _, _, _, _, _, _, _, _, _, _, _, _, _, _, _, _, _, _, _, _, _, rfl⟩
        · have hkl' : (n2 : Int) ≤ (k : Int) := by omega
          obtain rfl : gk = 0 := by omega
          have HR : Hid (daS d = (acc, (l, 0))) := by show _ = _; rw [HK.out.2.2.1]; simp [deLns]
          have HT : Hid (TA w wr u5 acc ∧ Rests ao d.length cap d (.slice a l.length c) l) := ⟨HK.out.1, HK.out.2.1⟩
          have HEE : Hid (E = 0 ∧ daV d = acc ∧ rst (daS d).2 = l) := by
            refine ⟨by rw [HE.out, HR.out], by unfold daV; rw [HR.out]; simp, by rw [HR.out]; rfl⟩
          obtain rfl : E = 0 := HEE.out.1
          clear hk HK hkl H0
          go_wp2_with fail
          simp only [Exit.jump]
          exact bodyPost_ret (v := .tuple #[u5, .slice a l.length c, .int .i64 0]) (by simp [results, Try.results31, go_sem]) rfl ⟨u5, .slice a l.length c, rfl, by rw [HEE.out.2.1]; exact HT.out.1.row, by rw [HEE.out.2.2]; exact HT.out.2, HT.out.1.bel⟩
    · have hne : ((e2 : Int) != 0) = true := by simp; omega
      have HEE : Hid (E = e2) := by show _ = _; rw [HE.out, daS_e HF.out q2]
      obtain rfl : E = e2 := HEE.out
      have HQ : Hid (E ≠ 0) := q2
      clear q2
      go_wp2_with (go_at_call 30; refine hB.mono ?_; rintro e w2 ⟨r2, rfl, s2, b2⟩)
      go_step3
      exact ⟨rfl, ⟨HQ.out, HT0.out.bel.trans (b2.mono HT0.out.bel.size)⟩, _, _, _, _, _, _, _, _, _, _, _, _, _, _, _, _, _, _, _, _, _, _, _, _, _, _, _, _, _, _, _, _, _, _, _, _, rfl⟩
  · rintro a' w' ⟨⟨hne, hb⟩, u0, u1, u2, u3, u4, u5, u6, u7, u8, u10, u11, u12, u13, u14, u15, u16, u17, u18, u19, u20, u21, u22, u23, u24, u25, u26, u27, u28, u29, u30, u31, u32, u33, u34, u35, u36, rfl⟩
    have HT : Hid (E ≠ 0 ∧ Below w.heap.size w w') := ⟨hne, hb⟩
    have HEE : Hid (daV d = [] ∧ rst (daS d).2 = []) := ⟨by unfold daV; rw [if_pos (by rw [← HE.out]; exact hne)], by unfold rst; rw [if_pos (by rw [← HE.out]; exact hne)]⟩
    clear hne hb
    go_wp2_with fail
    simp only [Exit.jump]
    exact bodyPost_ret (v := .tuple #[.slice none 0 0, .slice none 0 0, .int .i64 (E : Nat)]) (by simp [results, Try.results31, go_sem]) rfl ⟨.slice none 0 0, .slice none 0 0, rfl, by rw [HEE.out.1]; exact RowF.nil _ _ _, by rw [HEE.out.2]; exact Rests.nil _ _ _ _, HT.out.2⟩
set_option maxHeartbeats 8000000 in
set_option maxRecDepth 100000 in
theorem etrm_any {w : World} {ao : Option Addr} {len cap : Nat} {d : List Int} (h : Sl w ao len cap d) (hl : len ≤ 175921860444160) :
    Calls Try.prog 32 #[.slice ao len cap] w fun e w' => ∃ v r, e = .returned (.tuple #[v, r, .int .i64 ((drS d).2.2 : Nat)]) ∧ RowS i64E w.heap.size w' v (drV d) ∧ Rests ao len cap d r (rst (drS d).2) ∧ Below w.heap.size w w' := by
  have hlen0 := h.1
  subst hlen0
  have HS0 : Hid (Sl w ao d.length cap d ∧ d.length ≤ 175921860444160) := ⟨h, hl⟩
  obtain ⟨E, hE⟩ : ∃ E, E = (drS d).2.2 := ⟨_, rfl⟩
  rw [← hE]
  have HE : Hid (E = (drS d).2.2) := hE
  have hB := etnum_any h 200 (by decide)
  obtain ⟨⟨n2, l2, e2⟩, hF⟩ : ∃ x, rdN 200 (d, 0) = x := ⟨_, rfl⟩
  rw [hF] at hB
  have HF : Hid (rdN 200 (d, 0) = (n2, l2, e2)) := hF
  have HN2 : Hid (n2 ≤ 200 ∧ l2.length ≤ d.length) := ⟨rd_leN hF, rd_lenN hF (Nat.le_refl _)⟩
  have hn2 : n2 ≤ 2 ^ 61 := by have := HN2.out; omega
  simp only at hB
  clear h hl hE hF
  go_enter Try.func32, Try.ntmps32
  go_wp2_with fail
  refine wp_scope_jumps 0 (fun a' w' => (E ≠ 0 ∧ Below w.heap.size w w') ∧ ∃ (u0 u1 u2 u3 u4 u5 u6 u7 u8 u10 u11 u12 u13 u14 u15 u16 u17 u18 u19 u20 u21 u22 u23 u24 u25 u26 u27 u28 u29 u30 u31 u32 u33 u34 u35 u36 : Value), a' = { tmps := #[u0, u1, u2, u3, u4, u5, u6, u7, u8, .int .i64 (E : Nat), u10, u11, u12, u13, u14, u15, u16, u17, u18, u19, u20, u21, u22, u23, u24, u25, u26, u27, u28, u29, u30, u31, u32, u33, u34, u35, u36], defers := [] }) (fun _ _ => 0) rfl ?_ ?_
  · go_upto_region 3 with fail
    by_cases q2 : e2 = 0
    · subst q2
      rw [show rst (l2, 0) = l2 from rfl] at hB
      go_upto_region 5 with (go_at_call 30; refine hB.mono ?_; rintro e w2 ⟨r2, rfl, s2, b2⟩; obtain ⟨a2, c2, rfl, K2⟩ := s2 _ HS0.out.1)
      have H0 : Hid ((RowS i64E w.heap.size w2 (.slice none 0 0) [] ∧ Below w.heap.size w w2) ∧ Rests ao d.length cap d (.slice a2 l2.length c2) l2 ∧ drS d = ([] ++ (deNs n2 (l2, 0)).1, (deNs n2 (l2, 0)).2) ∧ l2.length ≤ d.length) := ⟨⟨RowS.nil _ _, b2⟩, s2, by unfold drS; rw [HF.out]; rfl, HN2.out.2⟩
      clear b2 s2 hB K2
      go_wp2_with fail
      go_loopg [5, 6, 8, 9, 19] n2 (fun g v _ r _ i wr => ∃ (k : Nat) (acc : List Int) (l : List Int) (a : Option Addr) (c : Nat), k + g = n2 ∧ i = .int .i64 (k : Int) ∧ r = .slice a l.length c ∧ Hid ((RowS i64E w.heap.size wr v acc ∧ Below w.heap.size w wr) ∧ Rests ao d.length cap d (.slice a l.length c) l ∧ drS d = (acc ++ (deNs g (l, 0)).1, (deNs g (l, 0)).2) ∧ acc.length = k ∧ l.length ≤ d.length))
      case atStart => exact ⟨0, [], l2, a2, c2, by omega, rfl, rfl, H0.out.1, H0.out.2.1, H0.out.2.2.1, rfl, H0.out.2.2.2⟩
      case round =>
        obtain ⟨k, acc, l, a, c, hk, rfl, rfl, HK⟩ := hrel
        by_cases hkl : k < n2
        · have hkl' : (k : Int) < (n2 : Int) := by omega
          obtain ⟨g, rfl⟩ : ∃ g, gk = g + 1 := ⟨gk - 1, by omega⟩
          have hop := etnum_any ((HK.out.2.1 w HS0.out.1).sl.later HK.out.1.2) 1099511627776 (by decide)
          obtain ⟨⟨x, st⟩, hO⟩ : ∃ x, rdN 1099511627776 (l, 0) = x := ⟨_, rfl⟩
          have hst := deNs_step HK.out.2.2.1
          obtain ⟨l', er⟩ := st
          rw [hO] at hop hst
          simp only at hop hst
          have HO : Hid (rdN 1099511627776 (l, 0) = (x, l', er) ∧ x ≤ 1099511627776) := ⟨hO, rd_leN hO⟩
          have hx62 : x ≤ 2 ^ 61 := by have := HO.out.2; omega
          have HST := hidE hst
          have HAL : Hid (k + 1 + g = n2 ∧ acc.length = k ∧ n2 ≤ 200) := ⟨by omega, HK.out.2.2.2.1, HN2.out.1⟩
          have hk62 : k ≤ 2 ^ 61 := by have := HN2.out; omega
          clear hst hO hk H0
          by_cases q : er = 0
          · subst q
            rw [show rst (l', 0) = l' from rfl] at hop
            go_wp2_with (first | (go_at_call 30; refine hop.mono ?_; rintro e w3 ⟨r3, rfl, s3, b3⟩; obtain ⟨a3, c3, rfl, _⟩ := s3 _ (HK.out.2.1 w HS0.out.1).sl; have HST2 : Hid (Rests ao d.length cap d (.slice a3 l'.length c3) l' ∧ drS d = (acc ++ [(x : Int)] ++ (deNs g (l', 0)).1, (deNs g (l', 0)).2) ∧ l'.length ≤ d.length) := ⟨HK.out.2.1.trans s3, HST.out.2 (by first | exact trivial | rfl), rd_lenN HO.out.1 HK.out.2.2.2.2⟩; have hb3 : Below w3.heap.size w3 (w3.alloc (.cells #[.int .i64 (x : Int)] 2)) := (Below.refl _ _).alloc (Nat.le_refl _) _; have HR := hidE (And.intro ((HK.out.1.1.later b3).later hb3) (And.intro ((HK.out.1.2.trans (b3.mono HK.out.1.2.size)).trans (hb3.mono (Nat.le_trans HK.out.1.2.size b3.size))) (rs_one (E := i64E) (w := w3) (vs := [.int .i64 (x : Int)]) (x := (x : Int)) ⟨rfl, ⟨by omega, by omega⟩⟩))); clear s3 b3 hb3) | (at_builtin; refine wpList_appS i64E (t := 28) (z := .int .i64 0) (bytes := 8) Try.underlying28 i64E_info rfl (by decide) rfl (.tmp 29) (.tmp 31) rfl rfl HR.out.1 rfl HR.out.2.2 (fun u hu b hr => by rw [List.mem_singleton.1 hu] at hr; exact (refs_int hr).elim) (by have := HAL.out; omega) (by have := HAL.out; omega) HR.out.2.1.size ?_; intro v9 w9 r9 g9 m9; have H10 := hidE (And.intro r9 (HR.out.2.1.trans (HR.out.1.below g9 HR.out.2.1.size))); clear r9 g9 m9))
            go_roundg g
            case measure => omega
            case rel => exact ⟨k + 1, _, l', a3, c3, HAL.out.1, by go_num, rfl, H10.out, HST2.out.1, HST2.out.2.1, by have := HAL.out; simp; omega, HST2.out.2.2⟩
          · have hne : ((er : Int) != 0) = true := by simp; omega
            have HEE : Hid (E = er) := by show _ = _; rw [HE.out, HST.out.1 q]
            obtain rfl : E = er := HEE.out
            have HQ : Hid (E ≠ 0) := q
            clear q
            go_wp2_with (go_at_call 30; refine hop.mono ?_; rintro e w3 ⟨r3, rfl, s3, b3⟩)
            go_step3
            exact ⟨rfl, ⟨HQ.out, HK.out.1.2.trans (b3.mono HK.out.1.2.size)⟩, _, _, _, _, _, _, _, _, _, _, _, _, _, _, _, _, _, _, _, _, _, _, _, _, _, _, _, _, _, _, _, _, _, _, _, _, rfl⟩
        · have hkl' : (n2 : Int) ≤ (k : Int) := by omega
          obtain rfl : gk = 0 := by omega
          have HR : Hid (drS d = (acc, (l, 0))) := by show _ = _; rw [HK.out.2.2.1]; simp [deNs]
          have HT := hidE (And.intro HK.out.1 HK.out.2.1)
          have HEE : Hid (E = 0 ∧ drV d = acc ∧ rst (drS d).2 = l) := by
            refine ⟨by rw [HE.out, HR.out], by unfold drV; rw [HR.out]; simp, by rw [HR.out]; rfl⟩
          obtain rfl : E = 0 := HEE.out.1
          clear hk HK hkl H0
          go_wp2_with fail
          simp only [Exit.jump]
          exact bodyPost_ret (v := .tuple #[u5, .slice a l.length c, .int .i64 0]) (by simp [results, Try.results32, go_sem]) rfl ⟨u5, .slice a l.length c, rfl, by rw [HEE.out.2.1]; exact HT.out.1.1, by rw [HEE.out.2.2]; exact HT.out.2, HT.out.1.2⟩
    · have hne : ((e2 : Int) != 0) = true := by simp; omega
      have HEE : Hid (E = e2) := by show _ = _; rw [HE.out, drS_e HF.out q2]
      obtain rfl : E = e2 := HEE.out
      have HQ : Hid (E ≠ 0) := q2
      clear q2
      go_wp2_with (go_at_call 30; refine hB.mono ?_; rintro e w2 ⟨r2, rfl, s2, b2⟩)
      go_step3
      exact ⟨rfl, ⟨HQ.out, b2⟩, _, _, _, _, _, _, _, _, _, _, _, _, _, _, _, _, _, _, _, _, _, _, _, _, _, _, _, _, _, _, _, _, _, _, _, _, rfl⟩
  · rintro a' w' ⟨⟨hne, hb⟩, u0, u1, u2, u3, u4, u5, u6, u7, u8, u10, u11, u12, u13, u14, u15, u16, u17, u18, u19, u20, u21, u22, u23, u24, u25, u26, u27, u28, u29, u30, u31, u32, u33, u34, u35, u36, rfl⟩
    have HT : Hid (E ≠ 0 ∧ Below w.heap.size w w') := ⟨hne, hb⟩
    have HEE : Hid (drV d = [] ∧ rst (drS d).2 = []) := ⟨by unfold drV; rw [if_pos (by rw [← HE.out]; exact hne)], by unfold rst; rw [if_pos (by rw [← HE.out]; exact hne)]⟩
    clear hne hb
    go_wp2_with fail
    simp only [Exit.jump]
    exact bodyPost_ret (v := .tuple #[.slice none 0 0, .slice none 0 0, .int .i64 (E : Nat)]) (by simp [results, Try.results32, go_sem]) rfl ⟨.slice none 0 0, .slice none 0 0, rfl, by rw [HEE.out.1]; exact RowS.nil _ _, by rw [HEE.out.2]; exact Rests.nil _ _ _ _, HT.out.2⟩
end Go.Proofs.Yteaicilehigjlaa

/- What the landed edit's Decode answers. -/
namespace Go.Proofs.Yteaicilehigjlaa
open Go.RowKit
set_option linter.unusedVariables false
set_option linter.unusedSimpArgs false

theorem edE_7 {d : List Int} {l : List Int} {E : Nat} (h : (e7S d).2 = (l, E)) (hE : E ≠ 0) : edE d = E := by
  unfold edE
  generalize e7S d = x at h ⊢
  rw [h, rdE_err (s := (l, E)) hE, if_neg hE]
theorem edE_5 {d : List Int} {l : List Int} {E : Nat} (h : (e5S d).2 = (l, E)) (hE : E ≠ 0) : edE d = E := by
  refine edE_7 (l := l) ?_ hE
  have h6 : e6S d = (0, (l, E)) := by unfold e6S; rw [h]; exact rdN_err (s := (l, E)) hE
  unfold e7S
  rw [h6]
  rfl
theorem edE_4 {d : List Int} {l : List Int} {E : Nat} (h : (e3S d).2 = (l, E)) (hE : E ≠ 0) : edE d = E := by
  refine edE_5 (l := l) ?_ hE
  have h4 : e4S d = (0, (l, E)) := by unfold e4S; rw [h]; exact rdN_err (s := (l, E)) hE
  unfold e5S
  rw [h4]
  rfl
theorem edE_2 {d : List Int} {l : List Int} {E : Nat} (h : (e2S d).2 = (l, E)) (hE : E ≠ 0) : edE d = E := by
  refine edE_4 (l := l) ?_ hE
  unfold e3S
  rw [h, rdN_err (s := (l, E)) hE]
theorem edE_1 {d : List Int} {l : List Int} {E : Nat} (h : (e1S d).2 = (l, E)) (hE : E ≠ 0) : edE d = E := by
  refine edE_2 (l := l) ?_ hE
  unfold e2S
  rw [h, rdN_err (s := (l, E)) hE]
theorem edE_rest {d : List Int} {l : List Int} (h : (e7S d).2 = (l, 0)) (hl : 0 < l.length) : edE d = 3 := by
  unfold edE
  generalize e7S d = x at h ⊢
  have e : rdE (l, 0) = (l, 3) := by unfold rdE; rw [if_pos ⟨rfl, hl⟩]
  rw [h, e]
  rfl
theorem edE_may {d : List Int} (h : (e7S d).2 = ([], 0)) : edE d = if mayEd (edR d) = true then 0 else 3 := by
  unfold edE
  rw [h]
  simp [rdE]
theorem deEd_of {d : List Int} {E : Nat} (h : edE d = E) (hE : E ≠ 0) : deEd d = (noEd, E) := by unfold deEd; rw [if_pos (by rw [h]; exact hE), h]
theorem deEd_ok {d : List Int} (h : edE d = 0) : deEd d = (edR d, 0) := by unfold deEd; rw [if_neg (by rw [h]; simp)]
theorem lay_i64 {w : World} : ∀ {us : List Value} {xs : List Int}, Lay i64E w us xs → ∀ u ∈ us, ∀ b, Refs u b → False
  | us, [], h, u, hu, b, hr => by rw [show us = [] from h] at hu; cases hu
  | us, x :: xs, h, u, hu, b, hr => by
    obtain ⟨vs, us', rfl, h1, h2⟩ := h
    rcases List.mem_append.1 hu with q | q
    · obtain ⟨rfl, -⟩ : vs = [.int .i64 x] ∧ In64 x := h1
      rw [List.mem_singleton.1 q] at hr
      exact refs_int hr
    · exact lay_i64 h2 u q b hr
theorem RowS.sl {α : Type} {E : El α} {B : Nat} {w : World} {v : Value} {xs : List α} (h : RowS E B w v xs) : ∃ a c, v = .slice a xs.length c ∧ RS E w a xs.length c xs := h.rs
theorem deLns_len : ∀ (n : Nat) (s : Rd), (deLns n s).2.1.length ≤ s.1.length
  | 0, s => Nat.le_refl _
  | n + 1, s => by
    have h1 := deLn_len s
    have h2 := deLns_len n (deLn s).2
    rw [deLns]
    split
    · exact h1
    · exact Nat.le_trans h2 h1
theorem deNs_len : ∀ (n : Nat) (s : Rd), (deNs n s).2.1.length ≤ s.1.length
  | 0, s => Nat.le_refl _
  | n + 1, s => by
    have h1 := rdN_len 1099511627776 s
    have h2 := deNs_len n (rdN 1099511627776 s).2
    rw [deNs]
    split
    · exact h1
    · exact Nat.le_trans h2 h1
theorem daS_len (d : List Int) : (daS d).2.1.length ≤ d.length := Nat.le_trans (deLns_len _ _) (rdN_len 200 (d, 0))
theorem drS_len (d : List Int) : (drS d).2.1.length ≤ d.length := Nat.le_trans (deNs_len _ _) (rdN_len 200 (d, 0))
/-- Where the walk stands: the answer's place, the edit under way. -/
structure TQ (w wx : World) (C : Array Value) : Prop where
  bR : wx.heap[w.heap.size]? = some (.cells #[.int .i64 0, .int .i64 0, .int .i64 0, .slice none 0 0, .slice none 0 0] 30 (0, 0))
  bo : wx.heap[w.heap.size + 1]? = some (.cells C 30 (0, 0))
  bel : Below w.heap.size w wx
theorem TQ.later {w wx wy : World} {C : Array Value} (h : TQ w wx C) (hb : Below wx.heap.size wx wy) : TQ w wy C :=
  ⟨(hb.block _ (Array.getElem?_eq_some_iff.1 h.bR).1).trans h.bR, (hb.block _ (Array.getElem?_eq_some_iff.1 h.bo).1).trans h.bo, h.bel.trans (hb.mono h.bel.size)⟩
theorem TQ.set {w wx : World} {C : Array Value} (h : TQ w wx C) (k : Nat) (u : Value) : TQ w (wx.setCell ⟨w.heap.size + 1, k, none⟩ u) (C.setIfInBounds k u) := by
  have hg := grown_set wx (w.heap.size + 1) k u
  refine ⟨?_, heap_set h.bo k u, Below.grown h.bel hg h.bel.size fun k e => ?_⟩
  · rw [hg.block _ (Array.getElem?_eq_some_iff.1 h.bR).1 (fun e => by simp only [Option.some.injEq] at e; omega)]; exact h.bR
  · simp only [Option.some.injEq] at e
    omega
theorem TQ.facts {w wx : World} {c0 c1 c2 c3 c4 : Value} (h : TQ w wx #[c0, c1, c2, c3, c4]) :
    (wx.cell? ⟨w.heap.size + 1, 0, none⟩ = some c0 ∧ wx.cell? ⟨w.heap.size + 1, 1, none⟩ = some c1 ∧ wx.cell? ⟨w.heap.size + 1, 2, none⟩ = some c2 ∧ wx.cell? ⟨w.heap.size + 1, 3, none⟩ = some c3 ∧ wx.cell? ⟨w.heap.size + 1, 4, none⟩ = some c4) ∧
    wx.frozen? ⟨w.heap.size + 1, 0, none⟩ = false ∧ wx.frozen? ⟨w.heap.size + 1, 1, none⟩ = false ∧ wx.frozen? ⟨w.heap.size + 1, 2, none⟩ = false ∧ wx.frozen? ⟨w.heap.size + 1, 3, none⟩ = false ∧ wx.frozen? ⟨w.heap.size + 1, 4, none⟩ = false :=
  ⟨⟨by rw [cell_of h.bo]; rfl, by rw [cell_of h.bo]; rfl, by rw [cell_of h.bo]; rfl, by rw [cell_of h.bo]; rfl, by rw [cell_of h.bo]; rfl⟩, frozen_of h.bo 0, frozen_of h.bo 1, frozen_of h.bo 2, frozen_of h.bo 3, frozen_of h.bo 4⟩
theorem TQ.res {w wx : World} {C : Array Value} (h : TQ w wx C) :
    (wx.cell? ⟨w.heap.size, 0, none⟩ = some (.int .i64 0) ∧ wx.cell? ⟨w.heap.size, 1, none⟩ = some (.int .i64 0) ∧ wx.cell? ⟨w.heap.size, 2, none⟩ = some (.int .i64 0) ∧ wx.cell? ⟨w.heap.size, 3, none⟩ = some (.slice none 0 0) ∧ wx.cell? ⟨w.heap.size, 4, none⟩ = some (.slice none 0 0)) ∧
    wx.frozen? ⟨w.heap.size, 0, none⟩ = false ∧ wx.frozen? ⟨w.heap.size, 1, none⟩ = false ∧ wx.frozen? ⟨w.heap.size, 2, none⟩ = false ∧ wx.frozen? ⟨w.heap.size, 3, none⟩ = false ∧ wx.frozen? ⟨w.heap.size, 4, none⟩ = false :=
  ⟨⟨by rw [cell_of h.bR]; rfl, by rw [cell_of h.bR]; rfl, by rw [cell_of h.bR]; rfl, by rw [cell_of h.bR]; rfl, by rw [cell_of h.bR]; rfl⟩, frozen_of h.bR 0, frozen_of h.bR 1, frozen_of h.bR 2, frozen_of h.bR 3, frozen_of h.bR 4⟩
theorem TQ.fin {w wx : World} {C : Array Value} (h : TQ w wx C) (x0 x1 x2 x3 x4 : Value) :
    ((lay5 w.heap.size wx x0 x1 x2 x3 x4).cell? ⟨w.heap.size, 0, none⟩ = some x0 ∧ (lay5 w.heap.size wx x0 x1 x2 x3 x4).cell? ⟨w.heap.size, 1, none⟩ = some x1 ∧ (lay5 w.heap.size wx x0 x1 x2 x3 x4).cell? ⟨w.heap.size, 2, none⟩ = some x2 ∧ (lay5 w.heap.size wx x0 x1 x2 x3 x4).cell? ⟨w.heap.size, 3, none⟩ = some x3 ∧ (lay5 w.heap.size wx x0 x1 x2 x3 x4).cell? ⟨w.heap.size, 4, none⟩ = some x4) ∧ Below w.heap.size w (lay5 w.heap.size wx x0 x1 x2 x3 x4) :=
  ⟨lay5_cells h.bR x0 x1 x2 x3 x4, Below.grown h.bel (lay5_grown _ wx x0 x1 x2 x3 x4) h.bel.size fun k e => by simp only [Option.some.injEq] at e; omega⟩
theorem tq_begin (w : World) : TQ w ((w.alloc (.cells #[.int .i64 0, .int .i64 0, .int .i64 0, .slice none 0 0, .slice none 0 0] 30)).alloc (.cells #[.int .i64 0, .int .i64 0, .int .i64 0, .slice none 0 0, .slice none 0 0] 30)) #[.int .i64 0, .int .i64 0, .int .i64 0, .slice none 0 0, .slice none 0 0] := by
  have b1 : Below w.heap.size w (w.alloc (.cells #[.int .i64 0, .int .i64 0, .int .i64 0, .slice none 0 0, .slice none 0 0] 30)) := (Below.refl _ _).alloc (Nat.le_refl _) _
  have hs : (w.alloc (.cells #[.int .i64 0, .int .i64 0, .int .i64 0, .slice none 0 0, .slice none 0 0] 30)).heap.size = w.heap.size + 1 := by simp
  have b2 := (Below.refl _ (w.alloc (.cells #[.int .i64 0, .int .i64 0, .int .i64 0, .slice none 0 0, .slice none 0 0] 30))).alloc (Nat.le_refl _) (.cells #[.int .i64 0, .int .i64 0, .int .i64 0, .slice none 0 0, .slice none 0 0] 30)
  refine ⟨?_, ?_, b1.trans (b2.mono (by omega))⟩
  · rw [b2.block w.heap.size (by omega)]; exact heap_alloc_new w _
  · rw [← hs]; exact heap_alloc_new _ _
set_option maxHeartbeats 8000000 in
set_option maxRecDepth 100000 in
theorem edec_any {w : World} {ao : Option Addr} {len cap : Nat} {d : List Int} (h : Sl w ao len cap d) (hl : len ≤ 175921860444160) :
    Calls Try.prog 16 #[.slice ao len cap] w fun e w' => ∃ aa ac ra rc, e = .returned (.tuple #[edV (deEd d).1 aa ac ra rc, .int .i64 ((deEd d).2 : Nat)]) ∧ EdM w' (deEd d).1 aa ac ra rc ∧ Below w.heap.size w w' := by
  have hlen0 := h.1
  subst hlen0
  have HT0 : Hid (TQ w _ _) := tq_begin w
  have HS0 : Hid (Sl w ao d.length cap d ∧ d.length ≤ 175921860444160) := ⟨h, hl⟩
  obtain ⟨W0, hW⟩ : ∃ W, W = ((w.alloc (.cells #[.int .i64 0, .int .i64 0, .int .i64 0, .slice none 0 0, .slice none 0 0] 30)).alloc (.cells #[.int .i64 0, .int .i64 0, .int .i64 0, .slice none 0 0, .slice none 0 0] 30)) := ⟨_, rfl⟩
  rw [← hW] at HT0
  have HW : Hid (W0 = ((w.alloc (.cells #[.int .i64 0, .int .i64 0, .int .i64 0, .slice none 0 0, .slice none 0 0] 30)).alloc (.cells #[.int .i64 0, .int .i64 0, .int .i64 0, .slice none 0 0, .slice none 0 0] 30))) := hW
  obtain ⟨E, hE⟩ : ∃ E, E = (deEd d).2 := ⟨_, rfl⟩
  rw [← hE]
  have HE : Hid (E = (deEd d).2) := hE
  have X0 : Hid (Rests ao d.length cap d (.slice ao d.length cap) d) := fun wx hx => ⟨ao, cap, rfl, hx⟩
  have hc1 := etnum_any (h.later HT0.out.bel) 4611686018427387904 (by decide)
  obtain ⟨⟨log, l1, e1⟩, hF⟩ : ∃ x, rdN 4611686018427387904 (d, 0) = x := ⟨_, rfl⟩
  rw [hF] at hc1
  have H1 : Hid (rdN 4611686018427387904 (d, 0) = (log, l1, e1)) := hF
  have G1 : Hid (e1S d = (log, l1, e1)) := hF
  simp only at hc1
  have hq1 : log ≤ 2 ^ 63 - 1 := by have := rd_leN hF; omega
  clear h hl hE hF hW
  go_enter Try.func16, Try.ntmps16
  go_wp2_with fail
  refine wp_scope_jumps 0 (fun a' w' => (E ≠ 0 ∧ ∃ C, TQ w w' C) ∧ ∃ (u0 u1 u3 u4 u5 u7 u8 u9 u10 u11 u12 u13 u14 u15 u16 u17 u18 u19 u20 u21 u22 u23 u24 u25 u26 u27 u28 u29 u30 u31 u32 u33 u34 u35 u36 u37 u38 u39 u40 u41 u42 u43 u44 u45 u46 u47 u48 u49 u50 u51 u52 u53 u54 u55 u56 u57 u58 u59 u60 u61 u62 : Value), a' = { tmps := #[u0, u1, .pointer (some ⟨w.heap.size, 0, none⟩), u3, u4, u5, .int .i64 (E : Nat), u7, u8, u9, u10, u11, u12, u13, u14, u15, u16, u17, u18, u19, u20, u21, u22, u23, u24, u25, u26, u27, u28, u29, u30, u31, u32, u33, u34, u35, u36, u37, u38, u39, u40, u41, u42, u43, u44, u45, u46, u47, u48, u49, u50, u51, u52, u53, u54, u55, u56, u57, u58, u59, u60, u61, u62], defers := [] }) (fun _ _ => 0) rfl ?_ ?_
  · go_upto_region 4 with fail
    rw [← HW.out]
    by_cases q1 : e1 = 0
    · subst q1
      rw [show rst (l1, 0) = l1 from rfl] at hc1
      have HL1 : Hid (l1.length ≤ 175921860444160) := rd_lenN H1.out HS0.out.2
      obtain ⟨⟨next, l2, e2⟩, hF⟩ : ∃ x, rdN 4611686018427387904 (l1, 0) = x := ⟨_, rfl⟩
      have H2 : Hid (rdN 4611686018427387904 (l1, 0) = (next, l2, e2)) := hF
      have G2 : Hid (e2S d = (next, l2, e2)) := by show _ = _; unfold e2S; rw [G1.out]; exact hF
      have hq2 : next ≤ 2 ^ 63 - 1 := by have := rd_leN hF; omega
      clear hF
      go_upto_region 6 with (go_at_call 30; refine hc1.mono ?_; rintro e w1 ⟨r1, rfl, S1, b1⟩; obtain ⟨a1, c1, rfl, _⟩ := S1 _ (X0.out w HS0.out.1).sl; have T1 := HT0.out.later b1; obtain ⟨⟨y0, y1, y2, y3, y4⟩, f0, f1, f2, f3, f4⟩ := T1.facts)
      have T1s : TQ w (w1.setCell ⟨w.heap.size + 1, 0, none⟩ (.int .i64 (log : Nat))) #[.int .i64 (log : Nat), .int .i64 0, .int .i64 0, .slice none 0 0, .slice none 0 0] := T1.set 0 (.int .i64 (log : Nat))
      have X1 : Hid (Rests ao d.length cap d (.slice a1 l1.length c1) l1) := X0.out.trans S1
      obtain ⟨W1, hW1⟩ : ∃ W, W = w1.setCell ⟨w.heap.size + 1, 0, none⟩ (.int .i64 (log : Nat)) := ⟨_, rfl⟩
      rw [← hW1] at T1s ⊢
      have HT1 : Hid (TQ w W1 #[.int .i64 (log : Nat), .int .i64 0, .int .i64 0, .slice none 0 0, .slice none 0 0]) := T1s
      have hc2 := etnum_any ((X1.out w HS0.out.1).sl.later HT1.out.bel) 4611686018427387904 (by decide)
      rw [H2.out] at hc2
      simp only at hc2
      clear T1 T1s hc1 S1 b1 hW1 y0 y1 y2 y3 y4 f0 f1 f2 f3 f4
      by_cases q2 : e2 = 0
      · subst q2
        rw [show rst (l2, 0) = l2 from rfl] at hc2
        have HL2 : Hid (l2.length ≤ 175921860444160) := rd_lenN H2.out HL1.out
        obtain ⟨⟨seq, l3, e3⟩, hF⟩ : ∃ x, rdN 4611686018427387904 (l2, 0) = x := ⟨_, rfl⟩
        have H3 : Hid (rdN 4611686018427387904 (l2, 0) = (seq, l3, e3)) := hF
        have G3 : Hid (e3S d = (seq, l3, e3)) := by show _ = _; unfold e3S; rw [G2.out]; exact hF
        have hq3 : seq ≤ 2 ^ 63 - 1 := by have := rd_leN hF; omega
        clear hF
        go_upto_region 8 with (go_at_call 30; refine hc2.mono ?_; rintro e w2 ⟨r2, rfl, S2, b2⟩; obtain ⟨a2, c2, rfl, _⟩ := S2 _ (X1.out w HS0.out.1).sl; have T2 := HT1.out.later b2; obtain ⟨⟨y0, y1, y2, y3, y4⟩, f0, f1, f2, f3, f4⟩ := T2.facts)
        have T2s : TQ w (w2.setCell ⟨w.heap.size + 1, 1, none⟩ (.int .i64 (next : Nat))) #[.int .i64 (log : Nat), .int .i64 (next : Nat), .int .i64 0, .slice none 0 0, .slice none 0 0] := T2.set 1 (.int .i64 (next : Nat))
        have X2 : Hid (Rests ao d.length cap d (.slice a2 l2.length c2) l2) := X1.out.trans S2
        obtain ⟨W2, hW2⟩ : ∃ W, W = w2.setCell ⟨w.heap.size + 1, 1, none⟩ (.int .i64 (next : Nat)) := ⟨_, rfl⟩
        rw [← hW2] at T2s ⊢
        have HT2 : Hid (TQ w W2 #[.int .i64 (log : Nat), .int .i64 (next : Nat), .int .i64 0, .slice none 0 0, .slice none 0 0]) := T2s
        have hc3 := etnum_any ((X2.out w HS0.out.1).sl.later HT2.out.bel) 4611686018427387904 (by decide)
        rw [H3.out] at hc3
        simp only at hc3
        clear T2 T2s hc2 S2 b2 hW2 y0 y1 y2 y3 y4 f0 f1 f2 f3 f4
        by_cases q3 : e3 = 0
        · subst q3
          rw [show rst (l3, 0) = l3 from rfl] at hc3
          have HL3 : Hid (l3.length ≤ 175921860444160) := rd_lenN H3.out HL2.out
          obtain ⟨⟨ads, l4, e4⟩, hF⟩ : ∃ x, daS l3 = x := ⟨_, rfl⟩
          have H4 : Hid (daS l3 = (ads, l4, e4)) := hF
          have G4 : Hid (e5S d = (ads, l4, e4)) := by show _ = _; unfold e5S e4S; rw [G3.out]; exact hF
          obtain ⟨add, hadd⟩ : ∃ x, x = daV l3 := ⟨_, rfl⟩
          have HADD := hidE hadd
          clear hF
          go_upto_region 10 with (go_at_call 30; refine hc3.mono ?_; rintro e w3 ⟨r3, rfl, S3, b3⟩; obtain ⟨a3, c3, rfl, _⟩ := S3 _ (X2.out w HS0.out.1).sl; have T3 := HT2.out.later b3; obtain ⟨⟨y0, y1, y2, y3, y4⟩, f0, f1, f2, f3, f4⟩ := T3.facts)
          have T3s : TQ w (w3.setCell ⟨w.heap.size + 1, 2, none⟩ (.int .i64 (seq : Nat))) #[.int .i64 (log : Nat), .int .i64 (next : Nat), .int .i64 (seq : Nat), .slice none 0 0, .slice none 0 0] := T3.set 2 (.int .i64 (seq : Nat))
          have X3 : Hid (Rests ao d.length cap d (.slice a3 l3.length c3) l3) := X2.out.trans S3
          obtain ⟨W3, hW3⟩ : ∃ W, W = w3.setCell ⟨w.heap.size + 1, 2, none⟩ (.int .i64 (seq : Nat)) := ⟨_, rfl⟩
          rw [← hW3] at T3s ⊢
          have HT3 : Hid (TQ w W3 #[.int .i64 (log : Nat), .int .i64 (next : Nat), .int .i64 (seq : Nat), .slice none 0 0, .slice none 0 0]) := T3s
          have hc4 := etad_any ((X3.out w HS0.out.1).sl.later HT3.out.bel) HL3.out
          rw [← hadd] at hc4
          rw [H4.out] at hc4
          simp only at hc4
          clear T3 T3s hc3 S3 b3 hW3 y0 y1 y2 y3 y4 f0 f1 f2 f3 f4 hadd
          by_cases q4 : e4 = 0
          · subst q4
            rw [show rst (l4, 0) = l4 from rfl] at hc4
            have HL4 : Hid (l4.length ≤ 175921860444160) := by have := daS_len l3; rw [H4.out] at this; exact Nat.le_trans this HL3.out
            obtain ⟨⟨rms, l5, e5⟩, hF⟩ : ∃ x, drS l4 = x := ⟨_, rfl⟩
            have H5 : Hid (drS l4 = (rms, l5, e5)) := hF
            have G5 : Hid (e7S d = (rms, l5, e5)) := by show _ = _; unfold e7S e6S; rw [G4.out]; exact hF
            obtain ⟨rem, hrem⟩ : ∃ x, x = drV l4 := ⟨_, rfl⟩
            have HREM := hidE hrem
            clear hF
            go_upto_region 12 with (go_at_call 31; refine hc4.mono ?_; rintro e w4 ⟨v4, r4, rfl, R4, S4, b4⟩; obtain ⟨a4k, c4k, rfl, _⟩ := R4.slice; obtain ⟨a4, c4, rfl, _⟩ := S4 _ (X3.out w HS0.out.1).sl; have T4 := HT3.out.later b4; obtain ⟨⟨y0, y1, y2, y3, y4⟩, f0, f1, f2, f3, f4⟩ := T4.facts)
            have T4s : TQ w (w4.setCell ⟨w.heap.size + 1, 3, none⟩ (.slice a4k add.length c4k)) #[.int .i64 (log : Nat), .int .i64 (next : Nat), .int .i64 (seq : Nat), .slice a4k add.length c4k, .slice none 0 0] := T4.set 3 (.slice a4k add.length c4k)
            have X4 : Hid (Rests ao d.length cap d (.slice a4 l4.length c4) l4) := X3.out.trans S4
            have hsz3 := (Array.getElem?_eq_some_iff.1 HT3.out.bo).1
            have RA := R4.grown (grown_set w4 (w.heap.size + 1) 3 (.slice a4k add.length c4k)) (fun b e e2 => by have := (R4.own_lt e).1; simp only [Option.some.injEq] at e2; omega) (fun b e e2 => by simp only [Option.some.injEq] at e2; omega)
            obtain ⟨W4, hW4⟩ : ∃ W, W = w4.setCell ⟨w.heap.size + 1, 3, none⟩ (.slice a4k add.length c4k) := ⟨_, rfl⟩
            rw [← hW4] at T4s RA ⊢
            have HT4 : Hid (TQ w W4 #[.int .i64 (log : Nat), .int .i64 (next : Nat), .int .i64 (seq : Nat), .slice a4k add.length c4k, .slice none 0 0]) := T4s
            have HRA : Hid (RowF lnE (w.heap.size + 2) (fun b => w.heap.size + 2 ≤ b) W4 (.slice a4k add.length c4k) add) := by
              obtain ⟨us, g1, g2, g3, g4⟩ := RA
              refine ⟨us, ⟨g1.1, ?_⟩, g2, g3, fun u hu b hr => by have := g4 u hu b hr; omega⟩
              rcases g1.2 with p | ⟨gg, cap9, cur, p1, p2, p3⟩
              · exact .inl p
              · exact .inr ⟨gg, cap9, cur, p1, by omega, p3⟩
            have hc5 := etrm_any ((X4.out w HS0.out.1).sl.later HT4.out.bel) HL4.out
            rw [← hrem] at hc5
            rw [H5.out] at hc5
            simp only at hc5
            clear T4 T4s RA R4 hsz3 hc4 S4 b4 hW4 y0 y1 y2 y3 y4 f0 f1 f2 f3 f4 hrem
            by_cases q5 : e5 = 0
            · subst q5
              rw [show rst (l5, 0) = l5 from rfl] at hc5
              go_upto_region 14 with (go_at_call 32; refine hc5.mono ?_; rintro e w5 ⟨v5, r5, rfl, R5, S5, b5⟩; obtain ⟨a5k, c5k, rfl, _⟩ := R5.sl; obtain ⟨a5, c5, rfl, _⟩ := S5 _ (X4.out w HS0.out.1).sl; have T5 := HT4.out.later b5; obtain ⟨⟨y0, y1, y2, y3, y4⟩, f0, f1, f2, f3, f4⟩ := T5.facts)
              have T5s : TQ w (w5.setCell ⟨w.heap.size + 1, 4, none⟩ (.slice a5k rem.length c5k)) #[.int .i64 (log : Nat), .int .i64 (next : Nat), .int .i64 (seq : Nat), .slice a4k add.length c4k, .slice a5k rem.length c5k] := T5.set 4 (.slice a5k rem.length c5k)
              have hsz3 := (Array.getElem?_eq_some_iff.1 HT4.out.bo).1
              have RR : RowS i64E W4.heap.size (w5.setCell ⟨w.heap.size + 1, 4, none⟩ (.slice a5k rem.length c5k)) (.slice a5k rem.length c5k) rem := R5.grown (grown_set w5 (w.heap.size + 1) 4 (.slice a5k rem.length c5k)) (fun b e e2 => by have := (R5.own_lt e).1; simp only [Option.some.injEq] at e2; omega) (fun us hus u hu b hr => (lay_i64 hus u hu b hr).elim)
              have RA5 := (HRA.out.later b5).grown (grown_set w5 (w.heap.size + 1) 4 (.slice a5k rem.length c5k)) (fun b e e2 => by have := (HRA.out.own_lt e).1; simp only [Option.some.injEq] at e2; omega) (fun b e e2 => by simp only [Option.some.injEq] at e2; omega)
              obtain ⟨W5, hW5⟩ : ∃ W, W = w5.setCell ⟨w.heap.size + 1, 4, none⟩ (.slice a5k rem.length c5k) := ⟨_, rfl⟩
              rw [← hW5] at T5s RR RA5 ⊢
              have HT5 : Hid (TQ w W5 #[.int .i64 (log : Nat), .int .i64 (next : Nat), .int .i64 (seq : Nat), .slice a4k add.length c4k, .slice a5k rem.length c5k]) := T5s
              have HAD2 : Hid (ads = add ∧ rms = rem) := by
                refine ⟨?_, ?_⟩
                · rw [HADD.out]; unfold daV; rw [H4.out]; simp
                · rw [HREM.out]; unfold drV; rw [H5.out]; simp
              have HR : Hid (edR d = ⟨(log : Int), (next : Int), (seq : Int), add, rem⟩) := by show _ = _; unfold edR; rw [G1.out, G2.out, G3.out, G4.out, G5.out, HAD2.out.1, HAD2.out.2]
              obtain ⟨a8, c8, e8, s8⟩ := RA5.slice
              simp only [Value.slice.injEq, true_and] at e8
              obtain ⟨rfl, rfl⟩ := e8
              obtain ⟨a9, c9, e9, s9⟩ := RR.sl
              simp only [Value.slice.injEq, true_and] at e9
              obtain ⟨rfl, rfl⟩ := e9
              have HM : Hid (EdM W5 ⟨(log : Int), (next : Int), (seq : Int), add, rem⟩ a4k c4k a5k c5k) := ⟨⟨by show _ ≤ (log : Int); omega, by show (log : Int) ≤ _; omega⟩, ⟨by show _ ≤ (next : Int); omega, by show (next : Int) ≤ _; omega⟩, ⟨by show _ ≤ (seq : Int); omega, by show (seq : Int) ≤ _; omega⟩, s8, s9⟩
              have hl5 : l5.length ≤ 2 ^ 61 := by have := drS_len l4; rw [H5.out] at this; have h9 : l5.length ≤ l4.length := this; have := HL4.out; omega
              have HRW := hidE (And.intro RA5 RR)
              have hmay := emay_any HM.out
              obtain ⟨m, hm⟩ : ∃ m, m = mayEd ⟨(log : Int), (next : Int), (seq : Int), add, rem⟩ := ⟨_, rfl⟩
              rw [← hm] at hmay
              have HMM := hidE hm
              unfold edV at hmay
              simp only at hmay
              clear T5 T5s R5 RR RA5 hsz3 hc5 S5 b5 hW5 y0 y1 y2 y3 y4 f0 f1 f2 f3 f4 s8 s9 hm
              generalize hn5 : l5.length = n5 at hl5 ⊢
              have HN5 := hidE hn5
              clear hn5
              by_cases q6 : 0 < n5
              · have q6' : (0 : Int) < (n5 : Int) := by omega
                have HEE : Hid (deEd d = (noEd, 3)) := deEd_of (edE_rest (by rw [G5.out]) (by rw [HN5.out]; exact q6)) (by decide)
                obtain rfl : E = 3 := by rw [HE.out, HEE.out]
                obtain ⟨n6, rfl⟩ : ∃ n, n5 = n + 1 := ⟨n5 - 1, by omega⟩
                clear q6 q6'
                go_wp2_with fail
                go_step3
                exact ⟨rfl, ⟨by decide, _, HT5.out⟩, _, _, _, _, _, _, _, _, _, _, _, _, _, _, _, _, _, _, _, _, _, _, _, _, _, _, _, _, _, _, _, _, _, _, _, _, _, _, _, _, _, _, _, _, _, _, _, _, _, _, _, _, _, _, _, _, _, _, _, _, _, rfl⟩
              · have q6' : (n5 : Int) ≤ 0 := by omega
                have hl0 : l5 = [] := List.eq_nil_of_length_eq_zero (by rw [HN5.out]; omega)
                have HDE : Hid (edE d = if m = true then 0 else 3) := by show _ = _; rw [edE_may (by rw [G5.out, hl0]), HR.out, ← HMM.out]
                obtain ⟨⟨y0, y1, y2, y3, y4⟩, f0, f1, f2, f3, f4⟩ := HT5.out.facts
                obtain rfl : n5 = 0 := by omega
                clear q6 q6' hl0
                cases m
                · have HEE : Hid (deEd d = (noEd, 3)) := deEd_of (HDE.out.trans rfl) (by decide)
                  obtain rfl : E = 3 := by rw [HE.out, HEE.out]
                  go_wp2_with (go_at_call 14; refine hmay.mono ?_; rintro e w6 ⟨rfl, b6⟩)
                  go_step3
                  exact ⟨rfl, ⟨by decide, _, HT5.out.later b6⟩, _, _, _, _, _, _, _, _, _, _, _, _, _, _, _, _, _, _, _, _, _, _, _, _, _, _, _, _, _, _, _, _, _, _, _, _, _, _, _, _, _, _, _, _, _, _, _, _, _, _, _, _, _, _, _, _, _, _, _, _, _, rfl⟩
                · have HEE : Hid (deEd d = (edR d, 0)) := deEd_ok (HDE.out.trans rfl)
                  obtain rfl : E = 0 := by rw [HE.out, HEE.out]
                  go_wp2_with (go_at_call 14; refine hmay.mono ?_; rintro e w6 ⟨rfl, b6⟩; have T6 := HT5.out.later b6; obtain ⟨⟨x0, x1, x2, x3, x4⟩, g0, g1, g2, g3, g4⟩ := T6.facts; obtain ⟨⟨z0, z1, z2, z3, z4⟩, h0, h1, h2, h3, h4⟩ := T6.res)
                  obtain ⟨⟨o0, o1, o2, o3, o4⟩, ob⟩ := T6.fin (.int .i64 (log : Nat)) (.int .i64 (next : Nat)) (.int .i64 (seq : Nat)) (.slice a4k add.length c4k) (.slice a5k rem.length c5k)
                  have gl := lay5_grown w.heap.size w6 (.int .i64 (log : Nat)) (.int .i64 (next : Nat)) (.int .i64 (seq : Nat)) (.slice a4k add.length c4k) (.slice a5k rem.length c5k)
                  have hsz4 := HT4.out.bel.size
                  have hsz5 := (Array.getElem?_eq_some_iff.1 HT4.out.bo).1
                  have RA7 := (HRW.out.1.later b6).grown gl (fun b e e2 => by have := (HRW.out.1.own_lt e).1; simp only [Option.some.injEq] at e2; omega) (fun b e e2 => by simp only [Option.some.injEq] at e2; omega)
                  have RR7 := (HRW.out.2.later b6).grown gl (fun b e e2 => by have := (HRW.out.2.own_lt e).1; simp only [Option.some.injEq] at e2; omega) (fun us hus u hu b hr => (lay_i64 hus u hu b hr).elim)
                  have HO := hidE (And.intro ob (And.intro RA7 RR7))
                  unfold lay5 at o0 o1 o2 o3 o4 HO
                  simp only [Exit.jump]
                  refine bodyPost_ret (v := .tuple #[.agg #[.int .i64 (log : Nat), .int .i64 (next : Nat), .int .i64 (seq : Nat), .slice a4k add.length c4k, .slice a5k rem.length c5k], .int .i64 0]) (by simp [results, Try.results16, go_sem, o0, o1, o2, o3, o4]) rfl ?_
                  rw [HEE.out, HR.out]
                  obtain ⟨a8, c8, e8, s8⟩ := HO.out.2.1.slice
                  simp only [Value.slice.injEq, true_and] at e8
                  obtain ⟨rfl, rfl⟩ := e8
                  obtain ⟨a9, c9, e9, s9⟩ := HO.out.2.2.sl
                  simp only [Value.slice.injEq, true_and] at e9
                  obtain ⟨rfl, rfl⟩ := e9
                  exact ⟨a4k, c4k, a5k, c5k, rfl, ⟨HM.out.log, HM.out.next, HM.out.seq, s8, s9⟩, HO.out.1⟩
            · have hne : ((e5 : Int) != 0) = true := by simp; omega
              have HEE : Hid (deEd d = (noEd, e5)) := deEd_of (edE_7 (by rw [G5.out]) q5) q5
              obtain rfl : E = e5 := by rw [HE.out, HEE.out]
              have HQ : Hid (E ≠ 0) := q5
              clear q5
              go_wp2_with (go_at_call 32; refine hc5.mono ?_; rintro e w5 ⟨v5, r5, rfl, R5, S5, b5⟩; obtain ⟨a5k, c5k, rfl, _⟩ := R5.sl; have T5 := HT4.out.later b5; obtain ⟨⟨y0, y1, y2, y3, y4⟩, f0, f1, f2, f3, f4⟩ := T5.facts)
              go_step3
              exact ⟨rfl, ⟨HQ.out, _, T5.set 4 (.slice a5k rem.length c5k)⟩, _, _, _, _, _, _, _, _, _, _, _, _, _, _, _, _, _, _, _, _, _, _, _, _, _, _, _, _, _, _, _, _, _, _, _, _, _, _, _, _, _, _, _, _, _, _, _, _, _, _, _, _, _, _, _, _, _, _, _, _, _, rfl⟩
          · have hne : ((e4 : Int) != 0) = true := by simp; omega
            have HEE : Hid (deEd d = (noEd, e4)) := deEd_of (edE_5 (by rw [G4.out]) q4) q4
            obtain rfl : E = e4 := by rw [HE.out, HEE.out]
            have HQ : Hid (E ≠ 0) := q4
            clear q4
            go_wp2_with (go_at_call 31; refine hc4.mono ?_; rintro e w4 ⟨v4, r4, rfl, R4, S4, b4⟩; obtain ⟨a4k, c4k, rfl, _⟩ := R4.slice; have T4 := HT3.out.later b4; obtain ⟨⟨y0, y1, y2, y3, y4⟩, f0, f1, f2, f3, f4⟩ := T4.facts)
            go_step3
            exact ⟨rfl, ⟨HQ.out, _, T4.set 3 (.slice a4k add.length c4k)⟩, _, _, _, _, _, _, _, _, _, _, _, _, _, _, _, _, _, _, _, _, _, _, _, _, _, _, _, _, _, _, _, _, _, _, _, _, _, _, _, _, _, _, _, _, _, _, _, _, _, _, _, _, _, _, _, _, _, _, _, _, _, rfl⟩
        · have hne : ((e3 : Int) != 0) = true := by simp; omega
          have HEE : Hid (deEd d = (noEd, e3)) := deEd_of (edE_4 (by rw [G3.out]) q3) q3
          obtain rfl : E = e3 := by rw [HE.out, HEE.out]
          have HQ : Hid (E ≠ 0) := q3
          clear q3
          go_wp2_with (go_at_call 30; refine hc3.mono ?_; rintro e w3 ⟨r3, rfl, S3, b3⟩; have T3 := HT2.out.later b3; obtain ⟨⟨y0, y1, y2, y3, y4⟩, f0, f1, f2, f3, f4⟩ := T3.facts)
          go_step3
          exact ⟨rfl, ⟨HQ.out, _, T3.set 2 (.int .i64 (seq : Nat))⟩, _, _, _, _, _, _, _, _, _, _, _, _, _, _, _, _, _, _, _, _, _, _, _, _, _, _, _, _, _, _, _, _, _, _, _, _, _, _, _, _, _, _, _, _, _, _, _, _, _, _, _, _, _, _, _, _, _, _, _, _, _, rfl⟩
      · have hne : ((e2 : Int) != 0) = true := by simp; omega
        have HEE : Hid (deEd d = (noEd, e2)) := deEd_of (edE_2 (by rw [G2.out]) q2) q2
        obtain rfl : E = e2 := by rw [HE.out, HEE.out]
        have HQ : Hid (E ≠ 0) := q2
        clear q2
        go_wp2_with (go_at_call 30; refine hc2.mono ?_; rintro e w2 ⟨r2, rfl, S2, b2⟩; have T2 := HT1.out.later b2; obtain ⟨⟨y0, y1, y2, y3, y4⟩, f0, f1, f2, f3, f4⟩ := T2.facts)
        go_step3
        exact ⟨rfl, ⟨HQ.out, _, T2.set 1 (.int .i64 (next : Nat))⟩, _, _, _, _, _, _, _, _, _, _, _, _, _, _, _, _, _, _, _, _, _, _, _, _, _, _, _, _, _, _, _, _, _, _, _, _, _, _, _, _, _, _, _, _, _, _, _, _, _, _, _, _, _, _, _, _, _, _, _, _, _, rfl⟩
    · have hne : ((e1 : Int) != 0) = true := by simp; omega
      have HEE : Hid (deEd d = (noEd, e1)) := deEd_of (edE_1 (by rw [G1.out]) q1) q1
      obtain rfl : E = e1 := by rw [HE.out, HEE.out]
      have HQ : Hid (E ≠ 0) := q1
      clear q1
      go_wp2_with (go_at_call 30; refine hc1.mono ?_; rintro e w1 ⟨r1, rfl, S1, b1⟩; have T1 := HT0.out.later b1; obtain ⟨⟨y0, y1, y2, y3, y4⟩, f0, f1, f2, f3, f4⟩ := T1.facts)
      go_step3
      exact ⟨rfl, ⟨HQ.out, _, T1.set 0 (.int .i64 (log : Nat))⟩, _, _, _, _, _, _, _, _, _, _, _, _, _, _, _, _, _, _, _, _, _, _, _, _, _, _, _, _, _, _, _, _, _, _, _, _, _, _, _, _, _, _, _, _, _, _, _, _, _, _, _, _, _, _, _, _, _, _, _, _, _, rfl⟩
  · rintro a' w' ⟨⟨hne, C, T⟩, u0, u1, u3, u4, u5, u7, u8, u9, u10, u11, u12, u13, u14, u15, u16, u17, u18, u19, u20, u21, u22, u23, u24, u25, u26, u27, u28, u29, u30, u31, u32, u33, u34, u35, u36, u37, u38, u39, u40, u41, u42, u43, u44, u45, u46, u47, u48, u49, u50, u51, u52, u53, u54, u55, u56, u57, u58, u59, u60, u61, u62, rfl⟩
    have HT : Hid (TQ w w' C ∧ E ≠ 0) := ⟨T, hne⟩
    obtain ⟨⟨y0, y1, y2, y3, y4⟩, f0, f1, f2, f3, f4⟩ := T.res
    obtain ⟨⟨o0, o1, o2, o3, o4⟩, ob⟩ := T.fin (.int .i64 0) (.int .i64 0) (.int .i64 0) (.slice none 0 0) (.slice none 0 0)
    unfold lay5 at o0 o1 o2 o3 o4 ob
    have HO := hidE ob
    have HEE : Hid ((deEd d).1 = noEd) := by
      show _ = _
      by_cases z : edE d = 0
      · exact absurd (by rw [HE.out, deEd_ok z]) hne
      · rw [deEd_of rfl z]
    clear T hne ob
    go_wp2_with fail
    simp only [Exit.jump]
    refine bodyPost_ret (v := .tuple #[.agg #[.int .i64 0, .int .i64 0, .int .i64 0, .slice none 0 0, .slice none 0 0], .int .i64 (E : Nat)]) (by simp [results, Try.results16, go_sem, o0, o1, o2, o3, o4]) rfl ?_
    rw [HEE.out]
    exact ⟨none, 0, none, 0, rfl, ⟨in64_0, in64_0, in64_0, RS.nil _, RS.nil _⟩, HO.out⟩
end Go.Proofs.Yteaicilehigjlaa
