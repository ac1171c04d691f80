import Derived.Deep.RegionHeldLaw
import Derived.Test.YteaicilehigjlaaPk06
import Derived.Test.YteaicilehigjlaaPk07
/- The document's own reader: Number, Bytes, Flag, End. -/
namespace Go.Proofs.Yteaicilehigjlaa
open Go.RowKit
set_option linter.unusedVariables false
set_option linter.unusedSimpArgs false

theorem heap_set {w : World} {p : Nat} {C : Array Value} {t : TypeId} {f : Nat × Nat} (h : w.heap[p]? = some (.cells C t f)) (k : Nat) (v : Value) : (w.setCell ⟨p, k, none⟩ v).heap[p]? = some (.cells (C.setIfInBounds k v) t f) := by
  simp only [World.setCell, Array.getElem?_modify, if_true, h]
  rfl
theorem frozen_of {w : World} {p : Nat} {C : Array Value} {t : TypeId} (h : w.heap[p]? = some (.cells C t (0, 0))) (k : Nat) : w.frozen? ⟨p, k, none⟩ = false := by
  simp [World.frozen?, h]
theorem grown_set (w : World) (p k : Nat) (v : Value) : w.grownBy (w.setCell ⟨p, k, none⟩ v) (some p) :=
  ⟨rfl, rfl, rfl, by simp [World.setCell], fun i hi hn => Below.heap_setCell _ _ _ _ (fun e => hn (by rw [e]))⟩
theorem below_grown {w w' : World} (h : Below w.heap.size w w') (r : Option Nat) : w.grownBy w' r := ⟨h.os, h.tape, h.output, h.size, fun k hk _ => h.block k hk⟩
theorem grown_trans {w w' w'' : World} {r : Option Nat} (h : w.grownBy w' r) (g : w'.grownBy w'' r) : w.grownBy w'' r :=
  ⟨g.os.trans h.os, g.tape.trans h.tape, g.output.trans h.output, Nat.le_trans h.size g.size, fun k hk hn => (g.block k (Nat.lt_of_lt_of_le hk h.size) hn).trans (h.block k hk hn)⟩
theorem refs_cut {w : World} {ao : Option Addr} {len cap i j : Nat} {xs : List Int} {b : Nat} (hs : Sl w ao len cap xs) (hj : j ≤ len) (h : Refs (.slice (cutA ao cap i) (j - i) (cap - i)) b) : Refs (.slice ao len cap) b := by
  obtain ⟨off, l, c, e, h0⟩ := h
  simp only [Value.slice.injEq] at e
  obtain ⟨e1, rfl, rfl⟩ := e
  have hl := hs.2.2.2.1
  obtain ⟨_, b', off', e', _⟩ := hs.2.2.2.2.2 0 (by omega)
  subst e'
  unfold cutA at e1
  rw [if_neg (by omega)] at e1
  have e2 : (some ((⟨b', off', none⟩ : Addr).add i)) = some (⟨b, off, none⟩ : Addr) := e1
  rw [Addr.add_lit] at e2
  simp only [Option.some.injEq, Addr.mk.injEq, and_true] at e2
  obtain ⟨rfl, _⟩ := e2
  exact ⟨off', len, cap, rfl, by omega⟩
/-- A reader, at p. -/
def RdAt (w : World) (p : Nat) (s : Rd) : Prop :=
  ∃ a len cap, w.heap[p]? = some (.cells #[.slice a len cap, .int .i64 (s.2 : Nat)] 59 (0, 0)) ∧ Sl w a len cap s.1 ∧ (∀ b, Refs (.slice a len cap) b → b < p) ∧ len ≤ 175921860444160
theorem RdAt.later {w w' : World} {p : Nat} {s : Rd} (h : RdAt w p s) (hb : Below w.heap.size w w') : RdAt w' p s := by
  obtain ⟨a, len, cap, h1, h2, h3, h4⟩ := h
  exact ⟨a, len, cap, by rw [hb.block p (Array.getElem?_eq_some_iff.1 h1).1]; exact h1, h2.later hb, h3, h4⟩
theorem RdAt.lt {w : World} {p : Nat} {s : Rd} (h : RdAt w p s) : p < w.heap.size := by
  obtain ⟨a, len, cap, h1, _⟩ := h
  exact (Array.getElem?_eq_some_iff.1 h1).1
/-- A later block alone is changed. -/
theorem RdAt.grown {w w' : World} {p r : Nat} {s : Rd} (h : RdAt w p s) (hg : w.grownBy w' (some r)) (hr : p < r) : RdAt w' p s := by
  have hp := h.lt
  obtain ⟨a, len, cap, q1, q2, q3, q4⟩ := h
  refine ⟨a, len, cap, ?_, q2.keep fun b hb => hg.block b (q2.lt hb) (fun e => ?_), q3, q4⟩
  · rw [hg.block p hp (fun e => by simp only [Option.some.injEq] at e; omega)]; exact q1
  · simp only [Option.some.injEq] at e
    have := q3 b hb
    omega
theorem RdAt.okb {w : World} {p : Nat} {s : Rd} (h : RdAt w p s) : Okb s.1 := by
  obtain ⟨a, len, cap, q1, q2, q3, q4⟩ := h
  exact q2.2.1
theorem RdAt.cells {w : World} {p : Nat} {s : Rd} (h : RdAt w p s) : w.cell? ⟨p, 1, none⟩ = some (.int .i64 (s.2 : Nat)) ∧ w.frozen? ⟨p, 1, none⟩ = false := by
  obtain ⟨a, len, cap, q1, q2, q3, q4⟩ := h
  exact ⟨by rw [cell_of q1]; rfl, frozen_of q1 1⟩
/-- Its error is changed. -/
theorem RdAt.sete {w : World} {p : Nat} {s : Rd} (h : RdAt w p s) (er : Nat) : RdAt (w.setCell ⟨p, 1, none⟩ (.int .i64 (er : Nat))) p (s.1, er) := by
  obtain ⟨a, len, cap, q1, q2, q3, q4⟩ := h
  exact ⟨a, len, cap, heap_set q1 1 _, q2.keep fun b hr => Below.heap_setCell _ _ _ _ (Nat.ne_of_lt (q3 b hr)), q3, q4⟩
theorem rdB_okb {most : Nat} {s : Rd} (h : Okb s.1) : Okb (rdB most s).1 := by
  unfold rdB
  split
  · exact fun x hx => by cases hx
  · split
    · exact fun x hx => by cases hx
    · exact tb_okb h
theorem rdN_le {most : Nat} {s : Rd} : (rdN most s).1 ≤ most := by
  unfold rdN
  split
  · exact Nat.zero_le _
  · split
    · exact Nat.zero_le _
    · split
      · exact Nat.zero_le _
      · rename_i h; exact Nat.le_of_not_lt h

set_option maxHeartbeats 1000000 in
set_option maxRecDepth 100000 in
theorem rnumber_any {w : World} {p : Nat} {s : Rd} (h : RdAt w p s) (most : Nat) (hm : most ≤ 2 ^ 63) :
    Calls Try.prog 33 #[.pointer (some ⟨p, 0, none⟩), .int .u64 (most : Int)] w fun e w' => e = .returned (.int .u64 ((rdN most s).1 : Nat)) ∧ RdAt w' p (rdN most s).2 ∧ w.grownBy w' (some p) := by
  have h' := h
  obtain ⟨a, len, cap, hh, hsl, hrf, hl47⟩ := h
  have c0 : w.cell? ⟨p, 0, none⟩ = some (.slice a len cap) := by rw [cell_of hh]; rfl
  have c1 : w.cell? ⟨p, 1, none⟩ = some (.int .i64 (s.2 : Nat)) := by rw [cell_of hh]; rfl
  have f0 := frozen_of hh 0
  have f1 := frozen_of hh 1
  obtain ⟨e, he⟩ : ∃ e, e = s.2 := ⟨_, rfl⟩
  rw [← he] at c1
  by_cases h0 : s.2 ≠ 0
  · have hne : ((e : Int) != 0) = true := by simp; omega
    rw [rdN_err h0]
    clear hh hsl hrf hl47 h0 he f0 f1
    go_enter Try.func33, Try.ntmps33
    go_wp2_with fail
    exact bodyPost_ret (v := .int .u64 0) (by simp [results, Try.results33, go_sem]) rfl ⟨rfl, h', ⟨rfl, rfl, rfl, Nat.le_refl _, fun _ _ _ => rfl⟩⟩
  have h0' : s.2 = 0 := Decidable.not_not.1 h0
  obtain rfl : e = 0 := by omega
  have htk := rtk_l hsl
  have hlt := tk_lt s.1
  have hus := tk_used (xs := s.1)
  have hlen := hsl.1
  have hlc := hsl.2.2.2.1
  have hc63 : cap ≤ 2 ^ 63 - 1 := by have := hsl.2.2.2.2.1; unfold maxLen at this; omega
  by_cases h1 : (tk s.1).1 ≠ 0
  · have hR : rdN most s = (0, (s.1, (tk s.1).1)) := by unfold rdN; rw [if_neg h0, if_pos h1]
    rw [hR]
    obtain ⟨er, her⟩ : ∃ er, er = (tk s.1).1 := ⟨_, rfl⟩
    rw [← her] at htk h1 ⊢
    have hne : ((er : Int) != 0) = true := by simp; omega
    have heq : ((er : Int) == 0) = false := by simp; omega
    have HF : RdAt (w.setCell ⟨p, 1, none⟩ (.int .i64 (er : Nat))) p (s.1, er) := by
      refine ⟨a, len, cap, heap_set hh 1 _, ?_, hrf, hl47⟩
      exact hsl.keep fun b hr => Below.heap_setCell _ _ _ _ (Nat.ne_of_lt (hrf b hr))
    generalize (tk s.1).2.1 = n at htk
    generalize (tk s.1).2.2 = u at htk
    clear hh hsl hrf hl47 h0 he hlt hus hlen her h1 h0' h' hR
    go_enter Try.func33, Try.ntmps33
    go_wp2_with (go_at_call 44; refine htk.mono ?_; rintro e w' ⟨rfl, hw⟩; obtain rfl := hw.symm)
    exact bodyPost_ret (v := .int .u64 0) (by simp [results, Try.results33, go_sem]) rfl ⟨rfl, HF, grown_set _ _ _ _⟩
  have h1' : (tk s.1).1 = 0 := Decidable.not_not.1 h1
  have hu := hus h1'
  rw [h1'] at htk
  by_cases h2 : most < (tk s.1).2.1
  · have hR : rdN most s = (0, (s.1, 3)) := by unfold rdN; rw [if_neg h0, if_neg h1, if_pos h2]
    rw [hR]
    have HF : RdAt (w.setCell ⟨p, 1, none⟩ (.int .i64 3)) p (s.1, 3) := by
      refine ⟨a, len, cap, heap_set hh 1 _, ?_, hrf, hl47⟩
      exact hsl.keep fun b hr => Below.heap_setCell _ _ _ _ (Nat.ne_of_lt (hrf b hr))
    have hgt : (most : Int) < ((tk s.1).2.1 : Int) := by omega
    generalize (tk s.1).2.1 = n at htk hgt
    generalize (tk s.1).2.2 = u at htk
    clear hh hsl hrf hl47 h0 he hlt hus hlen h1 h0' h' hR h2 hu h1'
    go_enter Try.func33, Try.ntmps33
    go_wp2_with (go_at_call 44; refine htk.mono ?_; rintro e w' ⟨rfl, hw⟩; obtain rfl := hw.symm)
    exact bodyPost_ret (v := .int .u64 0) (by simp [results, Try.results33, go_sem]) rfl ⟨rfl, HF, grown_set _ _ _ _⟩
  · have hR : rdN most s = ((tk s.1).2.1, (s.1.drop (tk s.1).2.2, 0)) := by unfold rdN; rw [if_neg h0, if_neg h1, if_neg h2]
    rw [hR]
    have hgt : ((tk s.1).2.1 : Int) ≤ (most : Int) := by omega
    generalize (tk s.1).2.1 = n at htk hgt ⊢
    generalize (tk s.1).2.2 = u at htk hu ⊢
    have hcf := fun w => run_from w a len cap u (by omega) hlc
    have hsf := hsl.from u (by omega)
    have HF : RdAt (w.setCell ⟨p, 0, none⟩ (.slice (cutA a cap u) (len - u) (cap - u))) p (s.1.drop u, 0) := by
      have hrf2 : ∀ b, Refs (.slice (cutA a cap u) (len - u) (cap - u)) b → b < p := fun b hr => hrf b (refs_cut hsl (Nat.le_refl _) hr)
      refine ⟨cutA a cap u, len - u, cap - u, ?_, ?_, hrf2, by omega⟩
      · rw [heap_set hh 0 _]
        simp [h0']
      · exact hsf.keep fun b hr => Below.heap_setCell _ _ _ _ (Nat.ne_of_lt (hrf2 b hr))
    generalize cutA a cap u = a2 at hcf HF
    have hu62 : u ≤ 2 ^ 62 := by omega
    clear hh hsl hrf hl47 h0 he hlt hus hlen h1 h0' h' hR h2 hu h1' hsf
    go_enter Try.func33, Try.ntmps33
    go_wp2_with (go_at_call 44; refine htk.mono ?_; rintro e w' ⟨rfl, hw⟩; obtain rfl := hw.symm)
    exact bodyPost_ret (v := .int .u64 (n : Nat)) (by simp [results, Try.results33, go_sem]) rfl ⟨rfl, HF, grown_set _ _ _ _⟩

set_option maxHeartbeats 1000000 in
set_option maxRecDepth 100000 in
theorem rbytes_any {w : World} {p : Nat} {s : Rd} (h : RdAt w p s) (most : Nat) (hm : most ≤ 2 ^ 62) :
    Calls Try.prog 34 #[.pointer (some ⟨p, 0, none⟩), .int .i64 (most : Int)] w fun e w' => ∃ v, e = .returned v ∧ Row w.heap.size w' v (rdB most s).1 ∧ RdAt w' p (rdB most s).2 ∧ w.grownBy w' (some p) := by
  have h' := h
  have hplt := h.lt
  obtain ⟨a, len, cap, hh, hsl, hrf, hl47⟩ := h
  have c0 : w.cell? ⟨p, 0, none⟩ = some (.slice a len cap) := by rw [cell_of hh]; rfl
  have c1 : w.cell? ⟨p, 1, none⟩ = some (.int .i64 (s.2 : Nat)) := by rw [cell_of hh]; rfl
  have f0 := frozen_of hh 0
  have f1 := frozen_of hh 1
  obtain ⟨e, he⟩ : ∃ e, e = s.2 := ⟨_, rfl⟩
  rw [← he] at c1
  by_cases h0 : s.2 ≠ 0
  · have hne : ((e : Int) != 0) = true := by simp; omega
    rw [rdB_err h0]
    clear hh hsl hrf hl47 h0 he f0 f1
    go_enter Try.func34, Try.ntmps34
    go_wp2_with fail
    exact bodyPost_ret (v := .slice none 0 0) (by simp [results, Try.results34, go_sem]) rfl ⟨_, rfl, Row.nil _ _, h', ⟨rfl, rfl, rfl, Nat.le_refl _, fun _ _ _ => rfl⟩⟩
  have h0' : s.2 = 0 := Decidable.not_not.1 h0
  obtain rfl : e = 0 := by omega
  have htk := rtb_l hsl hl47 most hm
  have hus := tb_used (xs := s.1) (most := most)
  have hlen := hsl.1
  have hlc := hsl.2.2.2.1
  have hc63 : cap ≤ 2 ^ 63 - 1 := by have := hsl.2.2.2.2.1; unfold maxLen at this; omega
  have c0' := fun w1 (hb : Below w.heap.size w w1) => cell_later hb c0
  have c1' := fun w1 (hb : Below w.heap.size w w1) => cell_later hb c1
  have ff : ∀ w1, Below w.heap.size w w1 → w1.frozen? ⟨p, 0, none⟩ = false ∧ w1.frozen? ⟨p, 1, none⟩ = false := fun w1 hb => by
    have q := (hb.block p hplt).trans hh
    exact ⟨frozen_of q 0, frozen_of q 1⟩
  by_cases h1 : (tb s.1 most).1 ≠ 0
  · have hR : rdB most s = ([], (s.1, (tb s.1 most).1)) := by unfold rdB; rw [if_neg h0, if_pos h1]
    rw [hR]
    obtain ⟨er, her⟩ : ∃ er, er = (tb s.1 most).1 := ⟨_, rfl⟩
    rw [← her] at htk h1 ⊢
    have hne : ((er : Int) != 0) = true := by simp; omega
    have HF : Hid (∀ w1, Below w.heap.size w w1 → RdAt (w1.setCell ⟨p, 1, none⟩ (.int .i64 (er : Nat))) p (s.1, er)) := fun w1 hb => by
      refine ⟨a, len, cap, ?_, ?_, hrf, hl47⟩
      · have q := (hb.block p hplt).trans hh
        exact heap_set q 1 _
      · exact (hsl.later hb).keep fun b hr => Below.heap_setCell _ _ _ _ (Nat.ne_of_lt (hrf b hr))
    generalize (tb s.1 most).2.1 = n at htk
    generalize (tb s.1 most).2.2 = u at htk
    clear hh hsl hrf hl47 h0 he hus hlen her h1 h0' h' hR
    go_enter Try.func34, Try.ntmps34
    go_wp2_with (go_at_call 45; refine htk.mono ?_; rintro e w1 ⟨v1, rfl, hr1, hb1⟩; have d0 := c0' w1 hb1; have d1 := c1' w1 hb1; obtain ⟨g0, g1⟩ := ff w1 hb1)
    exact bodyPost_ret (v := .slice none 0 0) (by simp [results, Try.results34, go_sem]) rfl ⟨_, rfl, Row.nil _ _, HF.out w1 hb1, grown_trans (below_grown hb1 _) (grown_set _ _ _ _)⟩
  · have h1' : (tb s.1 most).1 = 0 := Decidable.not_not.1 h1
    have hu := hus h1'
    rw [h1'] at htk
    have hR : rdB most s = ((tb s.1 most).2.1, (s.1.drop (tb s.1 most).2.2, 0)) := by unfold rdB; rw [if_neg h0, if_neg h1]
    rw [hR]
    generalize (tb s.1 most).2.1 = n at htk hu ⊢
    generalize (tb s.1 most).2.2 = u at htk hu ⊢
    have hcf := fun w => run_from w a len cap u (by omega) hlc
    have HF : Hid (∀ w1 (v : Value), Below w.heap.size w w1 → Row w.heap.size w1 v n → RdAt (w1.setCell ⟨p, 0, none⟩ (.slice (cutA a cap u) (len - u) (cap - u))) p (s.1.drop u, 0) ∧ Row w.heap.size (w1.setCell ⟨p, 0, none⟩ (.slice (cutA a cap u) (len - u) (cap - u))) v n) := fun w1 v hb hr => by
      have hrf2 : ∀ b, Refs (.slice (cutA a cap u) (len - u) (cap - u)) b → b < p := fun b hr => hrf b (refs_cut hsl (Nat.le_refl _) hr)
      refine ⟨⟨cutA a cap u, len - u, cap - u, ?_, ?_, hrf2, by omega⟩, ?_⟩
      · have q := (hb.block p hplt).trans hh
        rw [heap_set q 0 _]
        simp [h0']
      · exact ((hsl.later hb).from u (by omega)).keep fun b hr => Below.heap_setCell _ _ _ _ (Nat.ne_of_lt (hrf2 b hr))
      · exact ownsRow_setCell_below hr hplt _
    generalize cutA a cap u = a2 at hcf HF
    have hu62 : u ≤ 2 ^ 62 := by omega
    clear hh hsl hrf hl47 h0 he hus hlen h1 h0' h' hR hu h1'
    go_enter Try.func34, Try.ntmps34
    go_wp2_with (go_at_call 45; refine htk.mono ?_; rintro e w1 ⟨v1, rfl, hr1, hb1⟩; have d0 := c0' w1 hb1; have d1 := c1' w1 hb1; obtain ⟨g0, g1⟩ := ff w1 hb1)
    exact bodyPost_ret (v := v1) (by simp [results, Try.results34, go_sem]) rfl ⟨_, rfl, (HF.out w1 v1 hb1 hr1).2, (HF.out w1 v1 hb1 hr1).1, grown_trans (below_grown hb1 _) (grown_set _ _ _ _)⟩

theorem set_e {w : World} {p : Nat} {xs : List Int} {a : Option Addr} {len cap : Nat} {x : Value} (hh : w.heap[p]? = some (.cells #[.slice a len cap, x] 59 (0, 0))) (hsl : Sl w a len cap xs) (hrf : ∀ b, Refs (.slice a len cap) b → b < p) (hl : len ≤ 175921860444160) (er : Nat) :
    RdAt (w.setCell ⟨p, 1, none⟩ (.int .i64 (er : Nat))) p (xs, er) :=
  ⟨a, len, cap, heap_set hh 1 _, hsl.keep fun b hr => Below.heap_setCell _ _ _ _ (Nat.ne_of_lt (hrf b hr)), hrf, hl⟩
theorem set_b {w : World} {p : Nat} {xs : List Int} {a : Option Addr} {len cap u : Nat} {x : Value} {er : Nat} (hh : w.heap[p]? = some (.cells #[.slice a len cap, .int .i64 (er : Nat)] 59 (0, 0))) (hsl : Sl w a len cap xs) (hrf : ∀ b, Refs (.slice a len cap) b → b < p) (hl : len ≤ 175921860444160) (hu : u ≤ len) :
    (w.setCell ⟨p, 0, none⟩ (.slice (cutA a cap u) (len - u) (cap - u))).heap[p]? = some (.cells #[.slice (cutA a cap u) (len - u) (cap - u), .int .i64 (er : Nat)] 59 (0, 0)) ∧ Sl (w.setCell ⟨p, 0, none⟩ (.slice (cutA a cap u) (len - u) (cap - u))) (cutA a cap u) (len - u) (cap - u) (xs.drop u) ∧ (∀ b, Refs (.slice (cutA a cap u) (len - u) (cap - u)) b → b < p) ∧ len - u ≤ 175921860444160 := by
  have hrf2 : ∀ b, Refs (.slice (cutA a cap u) (len - u) (cap - u)) b → b < p := fun b hr => hrf b (refs_cut hsl (Nat.le_refl _) hr)
  exact ⟨heap_set hh 0 _, (hsl.from u hu).keep fun b hr => Below.heap_setCell _ _ _ _ (Nat.ne_of_lt (hrf2 b hr)), hrf2, by omega⟩

set_option maxHeartbeats 1000000 in
set_option maxRecDepth 100000 in
theorem rend_any {w : World} {p : Nat} {s : Rd} (h : RdAt w p s) :
    Calls Try.prog 35 #[.pointer (some ⟨p, 0, none⟩)] w fun e w' => e = .returned (.tuple #[]) ∧ RdAt w' p (rdE s) ∧ w.grownBy w' (some p) := by
  have h' := h
  obtain ⟨a, len, cap, hh, hsl, hrf, hl47⟩ := h
  have c0 : w.cell? ⟨p, 0, none⟩ = some (.slice a len cap) := by rw [cell_of hh]; rfl
  have c1 : w.cell? ⟨p, 1, none⟩ = some (.int .i64 (s.2 : Nat)) := by rw [cell_of hh]; rfl
  have f0 := frozen_of hh 0
  have f1 := frozen_of hh 1
  obtain ⟨e, he⟩ : ∃ e, e = s.2 := ⟨_, rfl⟩
  rw [← he] at c1
  have hlen := hsl.1
  have hc63 : len ≤ 2 ^ 63 - 1 := by omega
  by_cases h0 : s.2 = 0
  · obtain rfl : e = 0 := by omega
    by_cases h1 : 0 < len
    · have hR : rdE s = (s.1, 3) := by unfold rdE; rw [if_pos ⟨h0, by omega⟩]
      rw [hR]
      have HF := set_e hh hsl hrf hl47 3
      have hgt : (0 : Int) < (len : Int) := by omega
      clear hh hsl hrf hl47 h0 he h' hR hlen h1
      go_enter Try.func35, Try.ntmps35
      go_wp2_with fail
      go_end0
      exact ⟨rfl, HF, grown_set _ _ _ _⟩
    · have hR : rdE s = s := by unfold rdE; rw [if_neg (by omega)]
      rw [hR]
      obtain rfl : len = 0 := by omega
      clear hh hsl hrf hl47 h0 he hR hlen h1
      go_enter Try.func35, Try.ntmps35
      go_wp2_with fail
      go_end0
      exact ⟨rfl, h', ⟨rfl, rfl, rfl, Nat.le_refl _, fun _ _ _ => rfl⟩⟩
  · have hR : rdE s = s := by unfold rdE; rw [if_neg (by omega)]
    rw [hR]
    have hne : ((e : Int) == 0) = false := by simp; omega
    clear hh hsl hrf hl47 h0 he hR hlen
    go_enter Try.func35, Try.ntmps35
    go_wp2_with fail
    go_end0
    exact ⟨rfl, h', ⟨rfl, rfl, rfl, Nat.le_refl _, fun _ _ _ => rfl⟩⟩
end Go.Proofs.Yteaicilehigjlaa

/- The document's own TakeBatch: bytes as a batch. -/
namespace Go.Proofs.Yteaicilehigjlaa
open Go.RowKit
set_option linter.unusedVariables false
set_option linter.unusedSimpArgs false

/-- The places: the answer's, the reader's, the batch's; all ahead of B, behind what was there. -/
structure Pl (w0 : World) (R p q B : Nat) : Prop where
  hR : w0.heap.size ≤ R
  hp : R < p
  hq : p < q
  hB : q < B
/-- Bytes behind ob. -/
def Sb (ob : Nat) (w : World) (a : Option Addr) (c : Nat) (xs : List Int) : Prop := Sl w a xs.length c xs ∧ ∀ b, Refs (.slice a xs.length c) b → ob < b
theorem Sb.grown {ob r : Nat} {w w' : World} {a : Option Addr} {c : Nat} {xs : List Int} (h : Sb ob w a c xs) (hg : w.grownBy w' (some r)) (hr : r ≤ ob) : Sb ob w' a c xs :=
  ⟨h.1.keep fun b hb => hg.block b (h.1.lt hb) (fun e => by simp only [Option.some.injEq] at e; have := h.2 b hb; omega), h.2⟩
theorem Sb.nil (ob : Nat) (w : World) : Sb ob w none 0 [] := ⟨Sl.nil w, fun b hr => by obtain ⟨_, _, _, e, h0⟩ := hr; cases e⟩
theorem sb_row {ob : Nat} {w w' : World} {v : Value} {xs : List Int} (h : Row w.heap.size w' v xs) (hob : ob < w.heap.size) (hok : Okb xs) : ∃ a c, v = .slice a xs.length c ∧ Sb ob w' a c xs := by
  obtain ⟨a, c, e, hs⟩ := Sl.ofRow h hok
  subst e
  refine ⟨a, c, rfl, hs, fun b hr => ?_⟩
  obtain ⟨off, l, c', e, h0⟩ := hr
  simp only [Value.slice.injEq] at e
  obtain ⟨rfl, rfl, rfl⟩ := e
  have := (World.ownsRow.lt h b rfl).1
  omega
theorem deOs_step {n : Nat} {st : Rd} {T : List OpV × Rd} {acc : List OpV} (h : T = (acc ++ (deOs (n + 1) st).1, (deOs (n + 1) st).2)) :
    ((deO st).2.2 ≠ 0 → T = (acc ++ [(deO st).1], (deO st).2)) ∧ ((deO st).2.2 = 0 → T = (acc ++ [(deO st).1] ++ (deOs n (deO st).2).1, (deOs n (deO st).2).2)) := by
  rw [deOs] at h
  constructor
  · intro q
    rw [if_pos q] at h
    exact h
  · intro q
    rw [if_neg (by simpa using q)] at h
    rw [h]
    simp
end Go.Proofs.Yteaicilehigjlaa

/- The document's own TakeBatch: the walk. -/
namespace Go.Proofs.Yteaicilehigjlaa
open Go.RowKit
set_option linter.unusedVariables false
set_option linter.unusedSimpArgs false

theorem RowF.slice {α : Type} {E : El α} {B : Nat} {F : Nat → Prop} {w : World} {v : Value} {xs : List α} (h : RowF E B F w v xs) : ∃ a c, v = .slice a xs.length c ∧ RS E w a xs.length c xs := h.s.rs
theorem RowF.slice' {α : Type} {E : El α} {B : Nat} {F : Nat → Prop} {w : World} {v : Value} {xs : List α} (h : RowF E B F w v xs) : ∃ a n c, v = .slice a n c ∧ n = xs.length := by
  obtain ⟨a, c, e, _⟩ := h.s.rs
  exact ⟨a, _, c, e, rfl⟩
theorem Hid.mk' {p : Prop} (h : p) : Hid p := h
theorem in64_0 : In64 0 := ⟨by decide, by decide⟩
end Go.Proofs.Yteaicilehigjlaa
