import Derived.WalkKit
import Derived.Test.YtifgojkmdicdmaaPk06
import Derived.Test.YtifgojkmdicdmaaPk11
/- The document's own reader: Number, Bytes, Flag, End. -/
namespace Go.Proofs.Ytifgojkmdicdmaa
open Go.RowKit
set_option linter.unusedVariables false
set_option linter.unusedSimpArgs false

theorem heap_set {w : World} {p : Nat} {C : Array Value} {t : TypeId} {f : Nat × Nat} (h : w.heap[p]? = some (.cells C t f)) (k : Nat) (v : Value) : (w.setCell ⟨p, k, none⟩ v).heap[p]? = some (.cells (C.setIfInBounds k v) t f) := by
  simp only [World.setCell, Array.getElem?_modify, if_true, h]
  rfl
theorem frozen_of {w : World} {p : Nat} {C : Array Value} {t : TypeId} (h : w.heap[p]? = some (.cells C t (0, 0))) (k : Nat) : w.frozen? ⟨p, k, none⟩ = false := by
  simp [World.frozen?, h]
theorem grown_set (w : World) (p k : Nat) (v : Value) : w.grownBy (w.setCell ⟨p, k, none⟩ v) (some p) :=
  ⟨rfl, rfl, rfl, by simp [World.setCell], fun i hi hn => Below.heap_setCell _ _ _ _ (fun e => hn (by rw [e]))⟩
theorem below_grown {w w' : World} (h : Below w.heap.size w w') (r : Option Nat) : w.grownBy w' r := ⟨h.os, h.tape, h.output, h.size, fun k hk _ => h.block k hk⟩
theorem grown_trans {w w' w'' : World} {r : Option Nat} (h : w.grownBy w' r) (g : w'.grownBy w'' r) : w.grownBy w'' r :=
  ⟨g.os.trans h.os, g.tape.trans h.tape, g.output.trans h.output, Nat.le_trans h.size g.size, fun k hk hn => (g.block k (Nat.lt_of_lt_of_le hk h.size) hn).trans (h.block k hk hn)⟩
theorem refs_cut {w : World} {ao : Option Addr} {len cap i j : Nat} {xs : List Int} {b : Nat} (hs : Sl w ao len cap xs) (hj : j ≤ len) (h : Refs (.slice (cutA ao cap i) (j - i) (cap - i)) b) : Refs (.slice ao len cap) b := by
  obtain ⟨off, l, c, e, h0⟩ := h
  simp only [Value.slice.injEq] at e
  obtain ⟨e1, rfl, rfl⟩ := e
  have hl := hs.2.2.2.1
  obtain ⟨_, b', off', e', _⟩ := hs.2.2.2.2.2 0 (by omega)
  subst e'
  unfold cutA at e1
  rw [if_neg (by omega)] at e1
  have e2 : (some ((⟨b', off', none⟩ : Addr).add i)) = some (⟨b, off, none⟩ : Addr) := e1
  rw [Addr.add_lit] at e2
  simp only [Option.some.injEq, Addr.mk.injEq, and_true] at e2
  obtain ⟨rfl, _⟩ := e2
  exact ⟨off', len, cap, rfl, by omega⟩
/-- A reader, at p. -/
def RdAt (w : World) (p : Nat) (s : Rd) : Prop :=
  ∃ a len cap, w.heap[p]? = some (.cells #[.slice a len cap, .int .i64 (s.2 : Nat)] 62 (0, 0)) ∧ Sl w a len cap s.1 ∧ (∀ b, Refs (.slice a len cap) b → b < p) ∧ len ≤ 175921860444160
theorem RdAt.later {w w' : World} {p : Nat} {s : Rd} (h : RdAt w p s) (hb : Below w.heap.size w w') : RdAt w' p s := by
  obtain ⟨a, len, cap, h1, h2, h3, h4⟩ := h
  exact ⟨a, len, cap, by rw [hb.block p (Array.getElem?_eq_some_iff.1 h1).1]; exact h1, h2.later hb, h3, h4⟩
theorem RdAt.lt {w : World} {p : Nat} {s : Rd} (h : RdAt w p s) : p < w.heap.size := by
  obtain ⟨a, len, cap, h1, _⟩ := h
  exact (Array.getElem?_eq_some_iff.1 h1).1
/-- A later block alone is changed. -/
theorem RdAt.grown {w w' : World} {p r : Nat} {s : Rd} (h : RdAt w p s) (hg : w.grownBy w' (some r)) (hr : p < r) : RdAt w' p s := by
  have hp := h.lt
  obtain ⟨a, len, cap, q1, q2, q3, q4⟩ := h
  refine ⟨a, len, cap, ?_, q2.keep fun b hb => hg.block b (q2.lt hb) (fun e => ?_), q3, q4⟩
  · rw [hg.block p hp (fun e => by simp only [Option.some.injEq] at e; omega)]; exact q1
  · simp only [Option.some.injEq] at e
    have := q3 b hb
    omega
theorem RdAt.okb {w : World} {p : Nat} {s : Rd} (h : RdAt w p s) : Okb s.1 := by
  obtain ⟨a, len, cap, q1, q2, q3, q4⟩ := h
  exact q2.2.1
theorem RdAt.cells {w : World} {p : Nat} {s : Rd} (h : RdAt w p s) : w.cell? ⟨p, 1, none⟩ = some (.int .i64 (s.2 : Nat)) ∧ w.frozen? ⟨p, 1, none⟩ = false := by
  obtain ⟨a, len, cap, q1, q2, q3, q4⟩ := h
  exact ⟨by rw [cell_of q1]; rfl, frozen_of q1 1⟩
/-- Its error is changed. -/
theorem RdAt.sete {w : World} {p : Nat} {s : Rd} (h : RdAt w p s) (er : Nat) : RdAt (w.setCell ⟨p, 1, none⟩ (.int .i64 (er : Nat))) p (s.1, er) := by
  obtain ⟨a, len, cap, q1, q2, q3, q4⟩ := h
  exact ⟨a, len, cap, heap_set q1 1 _, q2.keep fun b hr => Below.heap_setCell _ _ _ _ (Nat.ne_of_lt (q3 b hr)), q3, q4⟩
theorem rdB_okb {most : Nat} {s : Rd} (h : Okb s.1) : Okb (rdB most s).1 := by
  unfold rdB
  split
  · exact fun x hx => by cases hx
  · split
    · exact fun x hx => by cases hx
    · exact tb_okb h
theorem rdN_le {most : Nat} {s : Rd} : (rdN most s).1 ≤ most := by
  unfold rdN
  split
  · exact Nat.zero_le _
  · split
    · exact Nat.zero_le _
    · split
      · exact Nat.zero_le _
      · rename_i h; exact Nat.le_of_not_lt h

set_option maxHeartbeats 1000000 in
set_option maxRecDepth 100000 in
theorem rnumber_any {w : World} {p : Nat} {s : Rd} (h : RdAt w p s) (most : Nat) (hm : most ≤ 2 ^ 63) :
    Calls Try.prog 36 #[.pointer (some ⟨p, 0, none⟩), .int .u64 (most : Int)] w fun e w' => e = .returned (.int .u64 ((rdN most s).1 : Nat)) ∧ RdAt w' p (rdN most s).2 ∧ w.grownBy w' (some p) := by
  have h' := h
  obtain ⟨a, len, cap, hh, hsl, hrf, hl47⟩ := h
  have c0 : w.cell? ⟨p, 0, none⟩ = some (.slice a len cap) := by rw [cell_of hh]; rfl
  have c1 : w.cell? ⟨p, 1, none⟩ = some (.int .i64 (s.2 : Nat)) := by rw [cell_of hh]; rfl
  have f0 := frozen_of hh 0
  have f1 := frozen_of hh 1
  obtain ⟨e, he⟩ : ∃ e, e = s.2 := ⟨_, rfl⟩
  rw [← he] at c1
  by_cases h0 : s.2 ≠ 0
  · have hne : ((e : Int) != 0) = true := by simp; omega
    rw [rdN_err h0]
    clear hh hsl hrf hl47 h0 he f0 f1
    go_enter Try.func36, Try.ntmps36
    go_wp2_with fail
    exact bodyPost_ret (v := .int .u64 0) (by simp [results, Try.results36, go_sem]) rfl ⟨rfl, h', ⟨rfl, rfl, rfl, Nat.le_refl _, fun _ _ _ => rfl⟩⟩
  have h0' : s.2 = 0 := Decidable.not_not.1 h0
  obtain rfl : e = 0 := by omega
  have htk := rtk_l hsl
  have hlt := tk_lt s.1
  have hus := tk_used (xs := s.1)
  have hlen := hsl.1
  have hlc := hsl.2.2.2.1
  have hc63 : cap ≤ 2 ^ 63 - 1 := by have := hsl.2.2.2.2.1; unfold maxLen at this; omega
  by_cases h1 : (tk s.1).1 ≠ 0
  · have hR : rdN most s = (0, (s.1, (tk s.1).1)) := by unfold rdN; rw [if_neg h0, if_pos h1]
    rw [hR]
    obtain ⟨er, her⟩ : ∃ er, er = (tk s.1).1 := ⟨_, rfl⟩
    rw [← her] at htk h1 ⊢
    have hne : ((er : Int) != 0) = true := by simp; omega
    have heq : ((er : Int) == 0) = false := by simp; omega
    have HF : RdAt (w.setCell ⟨p, 1, none⟩ (.int .i64 (er : Nat))) p (s.1, er) := by
      refine ⟨a, len, cap, heap_set hh 1 _, ?_, hrf, hl47⟩
      exact hsl.keep fun b hr => Below.heap_setCell _ _ _ _ (Nat.ne_of_lt (hrf b hr))
    generalize (tk s.1).2.1 = n at htk
    generalize (tk s.1).2.2 = u at htk
    clear hh hsl hrf hl47 h0 he hlt hus hlen her h1 h0' h' hR
    go_enter Try.func36, Try.ntmps36
    go_wp2_with (go_at_call 51; refine htk.mono ?_; rintro e w' ⟨rfl, hw⟩; obtain rfl := hw.symm)
    exact bodyPost_ret (v := .int .u64 0) (by simp [results, Try.results36, go_sem]) rfl ⟨rfl, HF, grown_set _ _ _ _⟩
  have h1' : (tk s.1).1 = 0 := Decidable.not_not.1 h1
  have hu := hus h1'
  rw [h1'] at htk
  by_cases h2 : most < (tk s.1).2.1
  · have hR : rdN most s = (0, (s.1, 3)) := by unfold rdN; rw [if_neg h0, if_neg h1, if_pos h2]
    rw [hR]
    have HF : RdAt (w.setCell ⟨p, 1, none⟩ (.int .i64 3)) p (s.1, 3) := by
      refine ⟨a, len, cap, heap_set hh 1 _, ?_, hrf, hl47⟩
      exact hsl.keep fun b hr => Below.heap_setCell _ _ _ _ (Nat.ne_of_lt (hrf b hr))
    have hgt : (most : Int) < ((tk s.1).2.1 : Int) := by omega
    generalize (tk s.1).2.1 = n at htk hgt
    generalize (tk s.1).2.2 = u at htk
    clear hh hsl hrf hl47 h0 he hlt hus hlen h1 h0' h' hR h2 hu h1'
    go_enter Try.func36, Try.ntmps36
    go_wp2_with (go_at_call 51; refine htk.mono ?_; rintro e w' ⟨rfl, hw⟩; obtain rfl := hw.symm)
    exact bodyPost_ret (v := .int .u64 0) (by simp [results, Try.results36, go_sem]) rfl ⟨rfl, HF, grown_set _ _ _ _⟩
  · have hR : rdN most s = ((tk s.1).2.1, (s.1.drop (tk s.1).2.2, 0)) := by unfold rdN; rw [if_neg h0, if_neg h1, if_neg h2]
    rw [hR]
    have hgt : ((tk s.1).2.1 : Int) ≤ (most : Int) := by omega
    generalize (tk s.1).2.1 = n at htk hgt ⊢
    generalize (tk s.1).2.2 = u at htk hu ⊢
    have hcf := fun w => run_from w a len cap u (by omega) hlc
    have hsf := hsl.from u (by omega)
    have HF : RdAt (w.setCell ⟨p, 0, none⟩ (.slice (cutA a cap u) (len - u) (cap - u))) p (s.1.drop u, 0) := by
      have hrf2 : ∀ b, Refs (.slice (cutA a cap u) (len - u) (cap - u)) b → b < p := fun b hr => hrf b (refs_cut hsl (Nat.le_refl _) hr)
      refine ⟨cutA a cap u, len - u, cap - u, ?_, ?_, hrf2, by omega⟩
      · rw [heap_set hh 0 _]
        simp [h0']
      · exact hsf.keep fun b hr => Below.heap_setCell _ _ _ _ (Nat.ne_of_lt (hrf2 b hr))
    generalize cutA a cap u = a2 at hcf HF
    have hu62 : u ≤ 2 ^ 62 := by omega
    clear hh hsl hrf hl47 h0 he hlt hus hlen h1 h0' h' hR h2 hu h1' hsf
    go_enter Try.func36, Try.ntmps36
    go_wp2_with (go_at_call 51; refine htk.mono ?_; rintro e w' ⟨rfl, hw⟩; obtain rfl := hw.symm)
    exact bodyPost_ret (v := .int .u64 (n : Nat)) (by simp [results, Try.results36, go_sem]) rfl ⟨rfl, HF, grown_set _ _ _ _⟩

set_option maxHeartbeats 1000000 in
set_option maxRecDepth 100000 in
theorem rbytes_any {w : World} {p : Nat} {s : Rd} (h : RdAt w p s) (most : Nat) (hm : most ≤ 2 ^ 62) :
    Calls Try.prog 38 #[.pointer (some ⟨p, 0, none⟩), .int .i64 (most : Int)] w fun e w' => ∃ v, e = .returned v ∧ Row w.heap.size w' v (rdB most s).1 ∧ RdAt w' p (rdB most s).2 ∧ w.grownBy w' (some p) := by
  have h' := h
  have hplt := h.lt
  obtain ⟨a, len, cap, hh, hsl, hrf, hl47⟩ := h
  have c0 : w.cell? ⟨p, 0, none⟩ = some (.slice a len cap) := by rw [cell_of hh]; rfl
  have c1 : w.cell? ⟨p, 1, none⟩ = some (.int .i64 (s.2 : Nat)) := by rw [cell_of hh]; rfl
  have f0 := frozen_of hh 0
  have f1 := frozen_of hh 1
  obtain ⟨e, he⟩ : ∃ e, e = s.2 := ⟨_, rfl⟩
  rw [← he] at c1
  by_cases h0 : s.2 ≠ 0
  · have hne : ((e : Int) != 0) = true := by simp; omega
    rw [rdB_err h0]
    clear hh hsl hrf hl47 h0 he f0 f1
    go_enter Try.func38, Try.ntmps38
    go_wp2_with fail
    exact bodyPost_ret (v := .slice none 0 0) (by simp [results, Try.results38, go_sem]) rfl ⟨_, rfl, Row.nil _ _, h', ⟨rfl, rfl, rfl, Nat.le_refl _, fun _ _ _ => rfl⟩⟩
  have h0' : s.2 = 0 := Decidable.not_not.1 h0
  obtain rfl : e = 0 := by omega
  have htk := rtb_l hsl hl47 most hm
  have hus := tb_used (xs := s.1) (most := most)
  have hlen := hsl.1
  have hlc := hsl.2.2.2.1
  have hc63 : cap ≤ 2 ^ 63 - 1 := by have := hsl.2.2.2.2.1; unfold maxLen at this; omega
  have c0' := fun w1 (hb : Below w.heap.size w w1) => cell_later hb c0
  have c1' := fun w1 (hb : Below w.heap.size w w1) => cell_later hb c1
  have ff : ∀ w1, Below w.heap.size w w1 → w1.frozen? ⟨p, 0, none⟩ = false ∧ w1.frozen? ⟨p, 1, none⟩ = false := fun w1 hb => by
    have q := (hb.block p hplt).trans hh
    exact ⟨frozen_of q 0, frozen_of q 1⟩
  by_cases h1 : (tb s.1 most).1 ≠ 0
  · have hR : rdB most s = ([], (s.1, (tb s.1 most).1)) := by unfold rdB; rw [if_neg h0, if_pos h1]
    rw [hR]
    obtain ⟨er, her⟩ : ∃ er, er = (tb s.1 most).1 := ⟨_, rfl⟩
    rw [← her] at htk h1 ⊢
    have hne : ((er : Int) != 0) = true := by simp; omega
    have HF : Hid (∀ w1, Below w.heap.size w w1 → RdAt (w1.setCell ⟨p, 1, none⟩ (.int .i64 (er : Nat))) p (s.1, er)) := fun w1 hb => by
      refine ⟨a, len, cap, ?_, ?_, hrf, hl47⟩
      · have q := (hb.block p hplt).trans hh
        exact heap_set q 1 _
      · exact (hsl.later hb).keep fun b hr => Below.heap_setCell _ _ _ _ (Nat.ne_of_lt (hrf b hr))
    generalize (tb s.1 most).2.1 = n at htk
    generalize (tb s.1 most).2.2 = u at htk
    clear hh hsl hrf hl47 h0 he hus hlen her h1 h0' h' hR
    go_enter Try.func38, Try.ntmps38
    go_wp2_with (go_at_call 52; refine htk.mono ?_; rintro e w1 ⟨v1, rfl, hr1, hb1⟩; have d0 := c0' w1 hb1; have d1 := c1' w1 hb1; obtain ⟨g0, g1⟩ := ff w1 hb1)
    exact bodyPost_ret (v := .slice none 0 0) (by simp [results, Try.results38, go_sem]) rfl ⟨_, rfl, Row.nil _ _, HF.out w1 hb1, grown_trans (below_grown hb1 _) (grown_set _ _ _ _)⟩
  · have h1' : (tb s.1 most).1 = 0 := Decidable.not_not.1 h1
    have hu := hus h1'
    rw [h1'] at htk
    have hR : rdB most s = ((tb s.1 most).2.1, (s.1.drop (tb s.1 most).2.2, 0)) := by unfold rdB; rw [if_neg h0, if_neg h1]
    rw [hR]
    generalize (tb s.1 most).2.1 = n at htk hu ⊢
    generalize (tb s.1 most).2.2 = u at htk hu ⊢
    have hcf := fun w => run_from w a len cap u (by omega) hlc
    have HF : Hid (∀ w1 (v : Value), Below w.heap.size w w1 → Row w.heap.size w1 v n → RdAt (w1.setCell ⟨p, 0, none⟩ (.slice (cutA a cap u) (len - u) (cap - u))) p (s.1.drop u, 0) ∧ Row w.heap.size (w1.setCell ⟨p, 0, none⟩ (.slice (cutA a cap u) (len - u) (cap - u))) v n) := fun w1 v hb hr => by
      have hrf2 : ∀ b, Refs (.slice (cutA a cap u) (len - u) (cap - u)) b → b < p := fun b hr => hrf b (refs_cut hsl (Nat.le_refl _) hr)
      refine ⟨⟨cutA a cap u, len - u, cap - u, ?_, ?_, hrf2, by omega⟩, ?_⟩
      · have q := (hb.block p hplt).trans hh
        rw [heap_set q 0 _]
        simp [h0']
      · exact ((hsl.later hb).from u (by omega)).keep fun b hr => Below.heap_setCell _ _ _ _ (Nat.ne_of_lt (hrf2 b hr))
      · exact ownsRow_setCell_below hr hplt _
    generalize cutA a cap u = a2 at hcf HF
    have hu62 : u ≤ 2 ^ 62 := by omega
    clear hh hsl hrf hl47 h0 he hus hlen h1 h0' h' hR hu h1'
    go_enter Try.func38, Try.ntmps38
    go_wp2_with (go_at_call 52; refine htk.mono ?_; rintro e w1 ⟨v1, rfl, hr1, hb1⟩; have d0 := c0' w1 hb1; have d1 := c1' w1 hb1; obtain ⟨g0, g1⟩ := ff w1 hb1)
    exact bodyPost_ret (v := v1) (by simp [results, Try.results38, go_sem]) rfl ⟨_, rfl, (HF.out w1 v1 hb1 hr1).2, (HF.out w1 v1 hb1 hr1).1, grown_trans (below_grown hb1 _) (grown_set _ _ _ _)⟩

theorem set_e {w : World} {p : Nat} {xs : List Int} {a : Option Addr} {len cap : Nat} {x : Value} (hh : w.heap[p]? = some (.cells #[.slice a len cap, x] 62 (0, 0))) (hsl : Sl w a len cap xs) (hrf : ∀ b, Refs (.slice a len cap) b → b < p) (hl : len ≤ 175921860444160) (er : Nat) :
    RdAt (w.setCell ⟨p, 1, none⟩ (.int .i64 (er : Nat))) p (xs, er) :=
  ⟨a, len, cap, heap_set hh 1 _, hsl.keep fun b hr => Below.heap_setCell _ _ _ _ (Nat.ne_of_lt (hrf b hr)), hrf, hl⟩
theorem set_b {w : World} {p : Nat} {xs : List Int} {a : Option Addr} {len cap u : Nat} {x : Value} {er : Nat} (hh : w.heap[p]? = some (.cells #[.slice a len cap, .int .i64 (er : Nat)] 62 (0, 0))) (hsl : Sl w a len cap xs) (hrf : ∀ b, Refs (.slice a len cap) b → b < p) (hl : len ≤ 175921860444160) (hu : u ≤ len) :
    (w.setCell ⟨p, 0, none⟩ (.slice (cutA a cap u) (len - u) (cap - u))).heap[p]? = some (.cells #[.slice (cutA a cap u) (len - u) (cap - u), .int .i64 (er : Nat)] 62 (0, 0)) ∧ Sl (w.setCell ⟨p, 0, none⟩ (.slice (cutA a cap u) (len - u) (cap - u))) (cutA a cap u) (len - u) (cap - u) (xs.drop u) ∧ (∀ b, Refs (.slice (cutA a cap u) (len - u) (cap - u)) b → b < p) ∧ len - u ≤ 175921860444160 := by
  have hrf2 : ∀ b, Refs (.slice (cutA a cap u) (len - u) (cap - u)) b → b < p := fun b hr => hrf b (refs_cut hsl (Nat.le_refl _) hr)
  exact ⟨heap_set hh 0 _, (hsl.from u hu).keep fun b hr => Below.heap_setCell _ _ _ _ (Nat.ne_of_lt (hrf2 b hr)), hrf2, by omega⟩

set_option maxHeartbeats 1000000 in
set_option maxRecDepth 100000 in
theorem rflag_any {w : World} {p : Nat} {s : Rd} (h : RdAt w p s) :
    Calls Try.prog 37 #[.pointer (some ⟨p, 0, none⟩)] w fun e w' => e = .returned (.bool (rdF s).1) ∧ RdAt w' p (rdF s).2 ∧ w.grownBy w' (some p) := by
  have h' := h
  obtain ⟨a, len, cap, hh, hsl, hrf, hl47⟩ := h
  have c0 : w.cell? ⟨p, 0, none⟩ = some (.slice a len cap) := by rw [cell_of hh]; rfl
  have c1 : w.cell? ⟨p, 1, none⟩ = some (.int .i64 (s.2 : Nat)) := by rw [cell_of hh]; rfl
  have f0 := frozen_of hh 0
  have f1 := frozen_of hh 1
  obtain ⟨e, he⟩ : ∃ e, e = s.2 := ⟨_, rfl⟩
  rw [← he] at c1
  by_cases h0 : s.2 ≠ 0
  · have hne : ((e : Int) != 0) = true := by simp; omega
    rw [rdF_err h0]
    clear hh hsl hrf hl47 h0 he f0 f1
    go_enter Try.func37, Try.ntmps37
    go_wp2_with fail
    exact bodyPost_ret (v := .bool false) (by simp [results, Try.results37, go_sem]) rfl ⟨rfl, h', ⟨rfl, rfl, rfl, Nat.le_refl _, fun _ _ _ => rfl⟩⟩
  have h0' : s.2 = 0 := Decidable.not_not.1 h0
  obtain rfl : e = 0 := by omega
  obtain ⟨xs, e⟩ := s
  simp only at h0' hsl
  subst h0'
  have hlen := hsl.1
  have hlc := hsl.2.2.2.1
  have hc63 : cap ≤ 2 ^ 63 - 1 := by have := hsl.2.2.2.2.1; unfold maxLen at this; omega
  cases xs with
  | nil =>
    have hR : rdF (([] : List Int), 0) = (false, ([], 5)) := rfl
    rw [hR]
    obtain rfl : len = 0 := by simpa using hlen.symm
    have HF := set_e hh hsl hrf hl47 5
    clear hh hsl hrf hl47 h0 he h' hR hlen
    go_enter Try.func37, Try.ntmps37
    go_wp2_with fail
    exact bodyPost_ret (v := .bool false) (by simp [results, Try.results37, go_sem]) rfl ⟨rfl, HF, grown_set _ _ _ _⟩
  | cons c r =>
    have hl1 : 1 ≤ len := by simp at hlen; omega
    have hcb := hsl.2.1 c (List.mem_cons_self ..)
    obtain ⟨hx, b, off, rfl, hcell⟩ := hsl.2.2.2.2.2 0 (by omega)
    rw [xof_zero, Nat.add_zero] at hcell
    obtain ⟨n, rfl⟩ := Int.eq_ofNat_of_zero_le hcb.1
    rw [show ((n : Int).toNat : Int) = (n : Int) by omega] at hcell
    have hbp : b ≠ p := Nat.ne_of_lt (hrf b ⟨off, len, cap, rfl, by omega⟩)
    have hcf := fun w => run_from w (some ⟨b, off, none⟩) len cap 1 hl1 hlc
    rw [show ((1 : Nat) : Int) = 1 from rfl] at hcf
    obtain ⟨q1, q2, q3, q4⟩ := set_b (x := .int .i64 0) hh hsl hrf hl47 hl1
    have hne0 : ¬ (len : Int) = 0 := by omega
    have hl0 : (0 : Int) < (len : Int) := by omega
    have hbeq : ((len : Int) == 0) = false := by simp; omega
    generalize cutA (some ⟨b, off, none⟩) cap 1 = a2 at hcf q1 q2 q3
    have g1 := frozen_of q1 1
    by_cases hn1 : 1 < n
    · have hR : rdF ((n : Int) :: r, 0) = ((n : Int) == 1, (r, 3)) := by
        unfold rdF
        rw [if_neg (by simp)]
        simp only
        rw [if_pos (by omega)]
      rw [hR]
      have HF := set_e q1 q2 q3 q4 3
      rw [List.drop_one, List.tail_cons] at HF
      have hgt : (1 : Int) < (n : Int) := by omega
      have HG := grown_trans (grown_set w p 0 (.slice a2 (len - 1) (cap - 1))) (grown_set _ p 1 (.int .i64 3))
      clear hh hsl hrf hl47 h0 he h' hR hlen q1 q2 q3 q4 hx hcb
      go_enter Try.func37, Try.ntmps37
      go_wp2_with fail
      exact bodyPost_ret (v := .bool ((n : Int) == 1)) (by simp [results, Try.results37, go_sem]) rfl ⟨rfl, HF, HG⟩
    · have hR : rdF ((n : Int) :: r, 0) = ((n : Int) == 1, (r, 0)) := by
        unfold rdF
        rw [if_neg (by simp)]
        simp only
        rw [if_neg (by omega)]
      rw [hR]
      have HF : RdAt (w.setCell ⟨p, 0, none⟩ (.slice a2 (len - 1) (cap - 1))) p (r, 0) := ⟨a2, len - 1, cap - 1, q1, by rw [List.drop_one, List.tail_cons] at q2; exact q2, q3, q4⟩
      have hgt : (n : Int) ≤ 1 := by omega
      have HG := grown_set w p 0 (.slice a2 (len - 1) (cap - 1))
      clear hh hsl hrf hl47 h0 he h' hR hlen q1 q2 q3 q4 hx hcb
      go_enter Try.func37, Try.ntmps37
      go_wp2_with fail
      exact bodyPost_ret (v := .bool ((n : Int) == 1)) (by simp [results, Try.results37, go_sem]) rfl ⟨rfl, HF, HG⟩

end Go.Proofs.Ytifgojkmdicdmaa

/- The document's own Get. -/
namespace Go.Proofs.Ytifgojkmdicdmaa
open Go.RowKit
set_option linter.unusedVariables false
set_option linter.unusedSimpArgs false

theorem cells_set5 {w : World} {p : Nat} {c0 c1 c2 c3 c4 : Value} {t : TypeId} (h : w.heap[p]? = some (.cells #[c0, c1, c2, c3, c4] t (0, 0))) (a b c d e : Value) :
    let wf := ((((w.setCell ⟨p, 0, none⟩ a).setCell ⟨p, 1, none⟩ b).setCell ⟨p, 2, none⟩ c).setCell ⟨p, 3, none⟩ d).setCell ⟨p, 4, none⟩ e
    wf.cell? ⟨p, 0, none⟩ = some a ∧ wf.cell? ⟨p, 1, none⟩ = some b ∧ wf.cell? ⟨p, 2, none⟩ = some c ∧ wf.cell? ⟨p, 3, none⟩ = some d ∧ wf.cell? ⟨p, 4, none⟩ = some e := by
  have hs := heap_set (heap_set (heap_set (heap_set (heap_set h 0 a) 1 b) 2 c) 3 d) 4 e
  refine ⟨?_, ?_, ?_, ?_, ?_⟩ <;> rw [cell_of hs] <;> rfl
theorem below_set5 {w wx : World} (h : Below w.heap.size w wx) (a b c d e : Value) : Below w.heap.size w (((((wx.setCell ⟨w.heap.size, 0, none⟩ a).setCell ⟨w.heap.size, 1, none⟩ b).setCell ⟨w.heap.size, 2, none⟩ c).setCell ⟨w.heap.size, 3, none⟩ d).setCell ⟨w.heap.size, 4, none⟩ e) :=
  Below.grown h (grown_trans (grown_trans (grown_trans (grown_trans (grown_set wx w.heap.size 0 a) (grown_set _ w.heap.size 1 b)) (grown_set _ w.heap.size 2 c)) (grown_set _ w.heap.size 3 d)) (grown_set _ w.heap.size 4 e)) h.size (fun k hk => by simp only [Option.some.injEq] at hk; omega)
end Go.Proofs.Ytifgojkmdicdmaa

/- Sums of bytes, on natural numbers: one step, a byte, a row; that they are linear and lose nothing; what one to four bytes that differ do. -/
namespace Go.Proofs.Ytifgojkmdicdmaa
set_option linter.unusedVariables false

def poly : Nat := 2197175160
/-- One of the eight steps. -/
def stp (s : Nat) : Nat := if s % 2 = 1 then (s / 2) ^^^ poly else s / 2
def stps : Nat → Nat → Nat
  | 0, s => s
  | n + 1, s => stps n (stp s)
def upd8 (s b : Nat) : Nat := stps 8 (s ^^^ b)
/-- What a row of bytes makes of a state. -/
def crcs (s : Nat) (l : List Nat) : Nat := l.foldl upd8 s
theorem crcs_nil (s : Nat) : crcs s [] = s := List.foldl_nil
theorem crcs_cons (s b : Nat) (l : List Nat) : crcs s (b :: l) = crcs (upd8 s b) l := List.foldl_cons

theorem xor_mod2 (a b : Nat) : (a ^^^ b) % 2 = (a % 2 + b % 2) % 2 := by
  have h := Nat.xor_mod_two_pow (a := a) (b := b) (n := 1)
  rw [show (2 : Nat) ^ 1 = 2 from rfl] at h
  rcases Nat.mod_two_eq_zero_or_one a with ha | ha <;> rcases Nat.mod_two_eq_zero_or_one b with hb | hb <;> rw [h, ha, hb] <;> rfl
theorem xor_div2 (a b : Nat) : (a ^^^ b) / 2 = a / 2 ^^^ b / 2 := by
  have := Nat.shiftRight_xor_distrib (a := a) (b := b) (i := 1)
  simpa [Nat.shiftRight_eq_div_pow] using this
theorem xor_lt {a b : Nat} (n : Nat) (ha : a < 2 ^ n) (hb : b < 2 ^ n) : a ^^^ b < 2 ^ n := Nat.xor_lt_two_pow ha hb
theorem xor_lt32 {a b : Nat} (ha : a < 4294967296) (hb : b < 4294967296) : a ^^^ b < 4294967296 := xor_lt 32 ha hb

theorem stp_lt {s : Nat} (h : s < 4294967296) : stp s < 4294967296 := by
  unfold stp poly
  split
  · exact xor_lt32 (by omega) (by decide)
  · omega
theorem stps_lt : ∀ (n : Nat) {s : Nat}, s < 4294967296 → stps n s < 4294967296
  | 0, _, h => h
  | n + 1, _, h => stps_lt n (stp_lt h)
theorem upd8_lt {s b : Nat} (h : s < 4294967296) (hb : b < 256) : upd8 s b < 4294967296 := stps_lt 8 (xor_lt32 h (by omega))
theorem crcs_lt (l : List Nat) : ∀ {s : Nat}, s < 4294967296 → (∀ x ∈ l, x < 256) → crcs s l < 4294967296 := by
  induction l with
  | nil => intro s h _; rw [crcs_nil]; exact h
  | cons b l ih =>
    intro s h hl
    rw [crcs_cons]
    exact ih (upd8_lt h (hl b (by simp))) fun x hx => hl x (by simp [hx])
theorem crcs_append (l m : List Nat) (s : Nat) : crcs s (l ++ m) = crcs (crcs s l) m := List.foldl_append

/-- Linear. -/
theorem stp_xor (a b : Nat) : stp (a ^^^ b) = stp a ^^^ stp b := by
  unfold stp
  have hm := xor_mod2 a b
  rw [xor_div2]
  rcases Nat.mod_two_eq_zero_or_one a with ha | ha <;> rcases Nat.mod_two_eq_zero_or_one b with hb | hb <;> rw [ha, hb] at hm <;> simp only [hm, ha, hb]
  · simp
  · simp [Nat.xor_assoc]
  · simp only [if_true, show ¬ (0 : Nat) = 1 by decide, if_false]
    rw [Nat.xor_assoc, Nat.xor_comm (b / 2) poly, ← Nat.xor_assoc]
  · simp only [show ¬ ((1 + 1) % 2 = 1) by decide, if_false, if_true]
    rw [Nat.xor_assoc, ← Nat.xor_assoc poly, Nat.xor_comm poly, Nat.xor_assoc, Nat.xor_self, Nat.xor_zero]
theorem stps_xor : ∀ (n a b : Nat), stps n (a ^^^ b) = stps n a ^^^ stps n b
  | 0, _, _ => rfl
  | n + 1, a, b => by simp only [stps]; rw [stp_xor, stps_xor]
theorem stps_zero : ∀ n, stps n 0 = 0
  | 0 => rfl
  | n + 1 => by simp only [stps]; exact stps_zero n
/-- Nothing is lost. -/
theorem stp_eq_zero {s : Nat} (h : s < 4294967296) (e : stp s = 0) : s = 0 := by
  unfold stp at e
  split at e
  · have : s / 2 = poly := by
      have := congrArg (· ^^^ poly) e
      simpa [Nat.xor_assoc] using this
    unfold poly at this
    omega
  · omega
theorem stps_eq_zero (n : Nat) : ∀ {s : Nat}, s < 4294967296 → stps n s = 0 → s = 0 := by
  induction n with
  | zero => intro s _ e; exact e
  | succ n ih =>
    intro s h e
    simp only [stps] at e
    exact stp_eq_zero h (ih (stp_lt h) e)
theorem stps_add : ∀ (m n s : Nat), stps (m + n) s = stps n (stps m s)
  | 0, n, s => by rw [Nat.zero_add]; rfl
  | m + 1, n, s => by rw [show m + 1 + n = (m + n) + 1 by omega]; exact stps_add m n (stp s)

/-- Two rows and their difference. -/
theorem upd8_xor (s t a b : Nat) : upd8 (s ^^^ t) (a ^^^ b) = upd8 s a ^^^ upd8 t b := by
  unfold upd8
  rw [← stps_xor]
  congr 1
  rw [Nat.xor_assoc, ← Nat.xor_assoc t, Nat.xor_comm t a, Nat.xor_assoc a, ← Nat.xor_assoc]
theorem crcs_xor (l : List Nat) : ∀ (m : List Nat) (s t : Nat), l.length = m.length → crcs (s ^^^ t) (List.zipWith (· ^^^ ·) l m) = crcs s l ^^^ crcs t m := by
  induction l with
  | nil =>
    intro m s t h
    cases m with
    | nil => rw [List.zipWith_nil_left, crcs_nil, crcs_nil, crcs_nil]
    | cons b m => simp at h
  | cons a l ih =>
    intro m s t h
    cases m with
    | nil => simp at h
    | cons b m =>
      have h' : l.length = m.length := by simpa using h
      have e := ih m (upd8 s a) (upd8 t b) h'
      rw [← upd8_xor] at e
      rw [List.zipWith_cons_cons, crcs_cons, crcs_cons, crcs_cons]
      exact e
theorem crcs_zeros (n : Nat) : ∀ {s : Nat}, s < 4294967296 → (crcs s (List.replicate n 0) = 0 ↔ s = 0) := by
  induction n with
  | zero => intro s _; rw [List.replicate_zero, crcs_nil]
  | succ n ih =>
    intro s h
    have hs : upd8 s 0 < 4294967296 := upd8_lt h (Nat.zero_lt_succ 255)
    have e1 : crcs s (List.replicate (n + 1) 0) = crcs (upd8 s 0) (List.replicate n 0) := by rw [List.replicate_succ, crcs_cons]
    have e2 : upd8 s 0 = stps 8 s := by unfold upd8; rw [Nat.xor_zero]
    rw [e1, ih hs, e2]
    exact ⟨fun e => stps_eq_zero 8 h e, fun e => by rw [e]; exact stps_zero 8⟩
theorem zip_self (q : List Nat) : List.zipWith (· ^^^ ·) q q = List.replicate q.length 0 := by
  induction q with
  | nil => rfl
  | cons a q ih => simp only [List.zipWith, List.length_cons, List.replicate, Nat.xor_self, ih]

/-- What lies above the lowest eight bits comes down. -/
theorem stp_even (y : Nat) : stp (y * 2) = y := by
  unfold stp
  rw [if_neg (by omega)]
  omega
theorem stps_high : ∀ (n y : Nat), stps n (y * 2 ^ n) = y
  | 0, y => by simp [stps]
  | n + 1, y => by
    simp only [stps]
    rw [show y * 2 ^ (n + 1) = y * 2 ^ n * 2 by rw [Nat.pow_succ, Nat.mul_assoc], stp_even]
    exact stps_high n y
theorem upd8_word (s y : Nat) : stps 8 s ^^^ y = stps 8 (s ^^^ y * 256) := by
  rw [stps_xor, show y * 256 = y * 2 ^ 8 by rfl, stps_high]

theorem xor_add {a b : Nat} (n : Nat) (ha : a < 2 ^ n) : a ^^^ b * 2 ^ n = a + b * 2 ^ n := by
  have h1 : a ^^^ b * 2 ^ n = a ||| b * 2 ^ n := by
    apply Nat.eq_of_testBit_eq
    intro i
    simp only [Nat.testBit_xor, Nat.testBit_or, Nat.testBit_mul_two_pow]
    by_cases hi : i < n
    · simp [show ¬ n ≤ i by omega]
    · rw [Nat.testBit_lt_two_pow (Nat.lt_of_lt_of_le ha (Nat.pow_le_pow_right (by decide) (by omega)))]
      simp
  rw [h1, Nat.or_comm, Nat.mul_comm, ← Nat.two_pow_add_eq_or_of_lt ha, Nat.add_comm]

/-- A row of bytes as one word, the first lowest. -/
def word : List Nat → Nat
  | [] => 0
  | b :: l => b ^^^ word l * 256
theorem crcs_word : ∀ (l : List Nat) (s : Nat), crcs s l = stps (8 * l.length) (s ^^^ word l)
  | [], s => by rw [crcs_nil, word, Nat.xor_zero]; rfl
  | b :: l, s => by
    rw [crcs_cons, word, List.length_cons]
    rw [crcs_word l, upd8, upd8_word, show 8 * (l.length + 1) = 8 + 8 * l.length by omega, stps_add, Nat.xor_assoc]
theorem word_lt : ∀ (l : List Nat), (∀ x ∈ l, x < 256) → word l < 256 ^ l.length ∧ (word l = 0 ↔ ∀ x ∈ l, x = 0)
  | [], _ => by simp [word]
  | b :: l, h => by
    obtain ⟨h1, h2⟩ := word_lt l fun x hx => h x (by simp [hx])
    have hb := h b (by simp)
    have e : word (b :: l) = b + word l * 256 := xor_add 8 hb
    rw [e, List.length_cons, Nat.pow_succ]
    refine ⟨by omega, fun e0 x hx => ?_, fun h0 => ?_⟩
    · rcases List.mem_cons.1 hx with q | q
      · omega
      · exact h2.1 (by omega) x q
    · have := h0 b (by simp)
      have := h2.2 fun x hx => h0 x (by simp [hx])
      omega
/-- One to four bytes. -/
theorem crcs_tells (l : List Nat) (h4 : l.length ≤ 4) (h : ∀ x ∈ l, x < 256) : crcs 0 l = 0 ↔ ∀ x ∈ l, x = 0 := by
  obtain ⟨h1, h2⟩ := word_lt l h
  rw [crcs_word, Nat.zero_xor, ← h2]
  have hw : word l < 4294967296 := by
    have : 256 ^ l.length ≤ 256 ^ 4 := Nat.pow_le_pow_right (by decide) h4
    have e : (256 : Nat) ^ 4 = 4294967296 := by decide
    omega
  exact ⟨stps_eq_zero _ hw, fun e => by rw [e]; exact stps_zero _⟩

/-- Two rows that differ in one to four bytes side by side have unlike sums. -/
theorem crcs_unlike (p l m q : List Nat) (s : Nat) (hs : s < 4294967296) (hlen : l.length = m.length) (h4 : l.length ≤ 4) (hp : ∀ x ∈ p, x < 256) (hl : ∀ x ∈ l, x < 256) (hm : ∀ x ∈ m, x < 256) (hq : ∀ x ∈ q, x < 256) :
    crcs s (p ++ (l ++ q)) = crcs s (p ++ (m ++ q)) ↔ l = m := by
  refine ⟨fun e => ?_, fun e => by rw [e]⟩
  rw [crcs_append, crcs_append, crcs_append, crcs_append] at e
  have ht := crcs_lt p hs hp
  generalize crcs s p = t at e ht
  have d1 := crcs_xor l m t t hlen
  have d2 := crcs_xor q q (crcs t l) (crcs t m) rfl
  rw [Nat.xor_self] at d1
  have hz := zip_self q
  rw [hz, e, Nat.xor_self] at d2
  have hx := (crcs_zeros q.length (xor_lt32 (crcs_lt l ht hl) (crcs_lt m ht hm))).1 d2
  rw [← d1] at hx
  have hzb : ∀ x ∈ List.zipWith (· ^^^ ·) l m, x < 256 := by
    intro x hx
    obtain ⟨i, hi, rfl⟩ := List.getElem_of_mem hx
    simp only [List.length_zipWith] at hi
    rw [List.getElem_zipWith]
    exact xor_lt 8 (hl _ (List.getElem_mem _)) (hm _ (List.getElem_mem _))
  have hall := (crcs_tells _ (by simp only [List.length_zipWith]; omega) hzb).1 hx
  apply List.ext_getElem hlen
  intro i h1 h2
  have hi : i < (List.zipWith (· ^^^ ·) l m).length := by simp only [List.length_zipWith]; omega
  have := hall _ (List.getElem_mem hi)
  rw [List.getElem_zipWith] at this
  have h3 := congrArg (· ^^^ m[i]) this
  simpa only [Nat.xor_assoc, Nat.xor_self, Nat.xor_zero, Nat.zero_xor] using h3

/-- Sum and More. -/
def ones : Nat := 4294967295
def more (sum : Nat) (l : List Nat) : Nat := crcs (sum ^^^ ones) l ^^^ ones
theorem xor_ones_ones (a : Nat) : a ^^^ ones ^^^ ones = a := by rw [Nat.xor_assoc, Nat.xor_self, Nat.xor_zero]
theorem xor_ones {a : Nat} (h : a < 4294967296) : a ^^^ ones = 4294967295 - a := by
  unfold ones
  have := Nat.xor_lt_two_pow (n := 32) h (show 4294967295 < 2 ^ 32 by decide)
  have e : a ^^^ (2 ^ 32 - 1) = 2 ^ 32 - 1 - a := by
    apply Nat.eq_of_testBit_eq
    intro i
    rw [Nat.testBit_xor, Nat.testBit_two_pow_sub_one, show 2 ^ 32 - 1 - a = 2 ^ 32 - (a + 1) by omega, Nat.testBit_two_pow_sub_succ h]
    by_cases hi : i < 32
    · simp [hi]
    · rw [Nat.testBit_lt_two_pow (Nat.lt_of_lt_of_le h (by exact Nat.pow_le_pow_right (n := 2) (by decide) (show 32 ≤ i by omega)))]
      simp [hi]
  exact e
theorem more_append (sum : Nat) (l m : List Nat) : more (more sum l) m = more sum (l ++ m) := by
  unfold more
  rw [xor_ones_ones, crcs_append]
theorem more_lt {sum : Nat} {l : List Nat} (h : sum < 4294967296) (hl : ∀ x ∈ l, x < 256) : more sum l < 4294967296 := xor_lt32 (crcs_lt l (xor_lt32 h (by decide)) hl) (by decide)
theorem more_unlike (p l m q : List Nat) (s : Nat) (hs : s < 4294967296) (hlen : l.length = m.length) (h4 : l.length ≤ 4) (hp : ∀ x ∈ p, x < 256) (hl : ∀ x ∈ l, x < 256) (hm : ∀ x ∈ m, x < 256) (hq : ∀ x ∈ q, x < 256) :
    more s (p ++ (l ++ q)) = more s (p ++ (m ++ q)) ↔ l = m := by
  rw [← crcs_unlike p l m q (s ^^^ ones) (xor_lt32 hs (by decide)) hlen h4 hp hl hm hq]
  unfold more
  exact ⟨fun e => by have := congrArg (· ^^^ ones) e; simpa only [xor_ones_ones] using this, fun e => by rw [e]⟩

/-- Mask and Unmask. -/
def mask (x : Nat) : Nat := (x / 32768 + x % 32768 * 131072 + 2726488792) % 4294967296
def unmask (x : Nat) : Nat := (x + 4294967296 - 2726488792) % 4294967296 % 131072 * 32768 + (x + 4294967296 - 2726488792) % 4294967296 / 131072
theorem mask_lt (x : Nat) : mask x < 4294967296 := Nat.mod_lt _ (by decide)
theorem unmask_lt {x : Nat} (h : x < 4294967296) : unmask x < 4294967296 := by unfold unmask; omega
theorem unmask_mask {x : Nat} (h : x < 4294967296) : unmask (mask x) = x := by
  have e1 : (mask x + 4294967296 - 2726488792) % 4294967296 = x / 32768 + x % 32768 * 131072 := by
    unfold mask
    have hr : x / 32768 + x % 32768 * 131072 < 4294967296 := by omega
    generalize x / 32768 + x % 32768 * 131072 = r at hr
    omega
  unfold unmask
  rw [e1]
  have h1 : x / 32768 < 131072 := by omega
  have h2 : x = x / 32768 * 32768 + x % 32768 := by omega
  generalize x / 32768 = a at h1 h2 ⊢
  generalize x % 32768 = b at h2 ⊢
  subst h2
  omega
theorem mask_unmask {x : Nat} (h : x < 4294967296) : mask (unmask x) = x := by
  unfold unmask
  obtain ⟨r, hr⟩ : ∃ r, r = (x + 4294967296 - 2726488792) % 4294967296 := ⟨_, rfl⟩
  rw [← hr]
  have hr1 : r < 4294967296 := by omega
  have e1 : (r + 2726488792) % 4294967296 = x := by omega
  unfold mask
  have h1 : r / 131072 < 32768 := by omega
  have h2 : r = r / 131072 * 131072 + r % 131072 := by omega
  have e2 : (r % 131072 * 32768 + r / 131072) / 32768 + (r % 131072 * 32768 + r / 131072) % 32768 * 131072 = r := by
    generalize r / 131072 = a at h1 h2 ⊢
    generalize r % 131072 = b at h2 ⊢
    omega
  rw [e2, e1]
end Go.Proofs.Ytifgojkmdicdmaa
