/- Rows of records, cut off anywhere. -/
import Derived.Test.YtbinabegiikcaaaProw
namespace Go.Proofs.Ytbinabegiikcaaa
open Go.RowKit
set_option linter.unusedVariables false
set_option linter.unusedSimpArgs false

theorem cutA_zero {b off : Nat} {cap : Nat} : cutA (some ⟨b, off, none⟩) cap 0 = some ⟨b, off, none⟩ := by
  unfold cutA
  split
  · rfl
  · simp [Addr.add]
theorem elem30 : Try.prog.elem 30 = 22 := by kernel_rfl
theorem under30 : Try.prog.underlying 30 = some (.slice (Try.prog.elem 30)) := by rw [elem30]; exact Try.underlying30
theorem run_head22 (w : World) (ao : Option Addr) (len cap j : Nat) (h2 : j ≤ cap) : (Instr.slice 22 (.slice ao len cap) none (some (.int .i64 (j : Int))) none).run Try.prog w = .ok (.slice (cutA ao cap 0) j cap) w := by
  rw [run_slice_h (P := Try.prog) (w := w) 22 ao len cap under22 .i64 (j : Int) (by omega) (by omega), elem22, Try.sizeOf5]
  simp only [Result.andThen, Int.toNat_natCast]
  rw [sliced_cut _ _ _ _ (by omega)]
  rfl
theorem run_head30 (w : World) (ao : Option Addr) (len cap j : Nat) (h2 : j ≤ cap) : (Instr.slice 30 (.slice ao len cap) none (some (.int .i64 (j : Int))) none).run Try.prog w = .ok (.slice (cutA ao cap 0) j cap) w := by
  rw [run_slice_h (P := Try.prog) (w := w) 30 ao len cap under30 .i64 (j : Int) (by omega) (by omega), elem30, Try.sizeOf22]
  simp only [Result.andThen, Int.toNat_natCast]
  rw [sliced_cut _ _ _ _ (by omega)]
  rfl
theorem Sl.head {w : World} {ao : Option Addr} {len cap : Nat} {xs : List Int} (h : Sl w ao len cap xs) (j : Nat) (h2 : j ≤ len) : Sl w (cutA ao cap 0) j cap (xs.take j) := h.cut 0 j (Nat.zero_le _) h2
theorem RB.head {w : World} {ao : Option Addr} {len cap : Nat} {rs : List (List Int)} (h : RB w ao len cap rs) (j : Nat) (h2 : j ≤ len) : RB w (cutA ao cap 0) j cap (rs.take j) := by
  obtain ⟨e1, e2, e3, e4, e5⟩ := h
  refine ⟨by rw [List.length_take]; omega, fun hn => ?_, by omega, e4, fun i r hr => ?_⟩
  · cases ao with
    | none => have := e2 rfl; omega
    | some a =>
      unfold cutA at hn
      split at hn
      · cases hn
      · cases hn
  · have hi : i < j := by
      have := (List.getElem?_eq_some_iff.1 hr).1
      rw [List.length_take] at this
      omega
    rw [List.getElem?_take_of_lt hi] at hr
    obtain ⟨b, off, a, c, rfl, hc, hs⟩ := e5 i r hr
    exact ⟨b, off, a, c, cutA_zero, hc, hs⟩
theorem RowI.rd {B : Nat} {w : World} {v : Value} {es : List Int} (h : RowI B w v es) : ∃ ao cap, v = .slice ao es.length cap ∧ ∀ (k : Nat) (e : Int), es[k]? = some e → ∃ b, ao = some ⟨b, 0, none⟩ ∧ w.cell? ⟨b, k, none⟩ = some (.int .i64 e) := by
  have hcells : ∀ g, v.ownBlock = some g → _ := fun g hg => World.ownsRow.cells h (g := g) hg
  rcases h.2 with ⟨rfl, h0⟩ | ⟨g, cap, cur, rfl, hbg, hg, hnc, hcm, hcs, htake⟩
  · refine ⟨none, 0, by rw [h0], fun k e hk => ?_⟩
    have := (List.getElem?_eq_some_iff.1 hk).1
    omega
  · refine ⟨some ⟨g, 0, none⟩, cap, rfl, fun k e hk => ⟨g, rfl, ?_⟩⟩
    have := hcells g rfl k (.int .i64 e) (by rw [List.getElem?_map, hk]; rfl)
    rw [Addr.add_lit, Nat.zero_add] at this
    exact this
theorem whole_iff : ∀ (l : List (List Int)) (c j : Nat), j < l.length → ((frs (l.take (j + 1))).length ≤ c ↔ j < whole l c)
  | [], _, _, h => by cases h
  | r :: l, c, j, h => by
    rw [List.take_succ_cons, frs, List.length_append]
    unfold whole
    by_cases q : (fr r).length ≤ c
    · rw [if_pos q]
      cases j with
      | zero => simp [frs]; omega
      | succ j =>
        have ih := whole_iff l (c - (fr r).length) j (by simp at h; omega)
        constructor
        · intro t
          have := ih.1 (by omega)
          omega
        · intro t
          have := ih.2 (by omega)
          omega
    · rw [if_neg q]
      constructor
      · intro t; omega
      · intro t; omega
theorem Small.recs {rs : List (List Int)} (h : Small rs) (hok : ∀ r ∈ rs, Okb r) : Recs rs := fun r hr => ⟨hok r hr, by have := h.2 r hr; omega⟩
theorem RB.okb {w : World} {ao : Option Addr} {len cap : Nat} {rs : List (List Int)} (h : RB w ao len cap rs) : ∀ r ∈ rs, Okb r := fun r hr => by
  obtain ⟨i, hi, rfl⟩ := List.getElem_of_mem hr
  obtain ⟨b, off, a, c, _, _, hs⟩ := h.2.2.2.2 i rs[i] (List.getElem?_eq_getElem hi)
  exact hs.2.1

/-- Where the count stands. -/
def Cn (rs : List (List Int)) (C k n e : Nat) : Prop := n = min k (whole rs C) ∧ e = (frs (rs.take n)).length
theorem Cn.yes {rs : List (List Int)} {C k n e : Nat} (h : Cn rs C k n e) (hk : k < rs.length) (hC : (frs (rs.take (k + 1))).length ≤ C) : Cn rs C (k + 1) (n + 1) (frs (rs.take (k + 1))).length := by
  have hw := (whole_iff rs C k hk).1 hC
  have h1 := h.1
  have e1 : n = k := by omega
  subst e1
  exact ⟨by omega, rfl⟩
theorem Cn.no {rs : List (List Int)} {C k n e : Nat} (h : Cn rs C k n e) (hk : k < rs.length) (hC : C < (frs (rs.take (k + 1))).length) : Cn rs C (k + 1) n e := by
  have hw : ¬ k < whole rs C := fun q => by have := (whole_iff rs C k hk).2 q; omega
  exact ⟨by have := h.1; omega, h.2⟩
theorem Cn.end {rs : List (List Int)} {C n e : Nat} (h : Cn rs C rs.length n e) : n = whole rs C := by
  have := h.1
  have := whole_le rs C
  omega

set_option maxHeartbeats 2000000 in
set_option maxRecDepth 100000 in
theorem scans_any (D : PF) {w : World} {ao : Option Addr} {len cap : Nat} {rs : List (List Int)} (cut : Int) (h : RB w ao len cap rs) :
    Calls Try.prog 6 #[.slice ao len cap, .int .i64 cut] w fun e w' => e = .returned (.bool true) ∧ Below w.heap.size w w' := by
  have hr := rows_any D h
  have hmax : len ≤ 2 ^ 63 - 1 := by have := h.2.2; unfold maxLen at this; omega
  have HR : Hid (RB w ao len cap rs) := h
  clear h
  go_enter Try.func6, Try.ntmps6
  go_wp2_with fail
  refine hr.mono ?_
  rintro e w1 ⟨hcase, hb1⟩
  clear hr
  have HB1 : Hid (Below w.heap.size w w1) := hb1
  clear hb1
  rcases hcase with ⟨hsm, v5, v6, rfl, h5, h6⟩ | ⟨hns, rfl⟩
  · obtain ⟨a5, c5, hv5, hs5⟩ := h5
    subst hv5
    obtain ⟨a6, c6, hv6, hc6⟩ := h6.rd
    rw [ends_len, HR.out.1] at hv6
    subst hv6
    have hLs := frs_small rs hsm.2
    have h20 := hsm.1
    have hrec := hsm.recs HR.out.okb
    obtain ⟨L, hL⟩ : ∃ L, L = (frs rs).length := ⟨_, rfl⟩
    rw [← hL] at hs5 hLs ⊢
    have hL5 : L ≤ 50000 := by omega
    have a1 : -((L : Int) + 1) < cut.tmod ((L : Int) + 1) ∧ cut.tmod ((L : Int) + 1) < (L : Int) + 1 := ⟨Int.lt_tmod_of_pos cut (by omega), Int.tmod_lt_of_pos cut (by omega)⟩
    generalize hT : cut.tmod ((L : Int) + 1) = T at a1
    have a2 : -50001 < T ∧ T < 50001 := by omega
    obtain ⟨C, hC⟩ := Int.eq_ofNat_of_zero_le (show 0 ≤ (T + (L : Int) + 1).tmod ((L : Int) + 1) from Int.tmod_nonneg _ (by omega))
    have hCl : C ≤ L := by have := Int.tmod_lt_of_pos (T + (L : Int) + 1) (b := (L : Int) + 1) (by omega); omega
    have hCc : C ≤ c5 := by have := hs5.2.2.2.1; omega
    have hne : ((len : Int) != (len : Int)) = false := by simp
    have hl20 : len ≤ 20 := by have := HR.out.1; omega
    have hL1 : ¬ (L : Int) + 1 = 0 := by omega
    have HX : Hid (Sl w1 a5 L c5 (frs rs) ∧ Recs rs ∧ L = (frs rs).length) := ⟨hs5, hrec, hL⟩
    have HE : Hid (∀ (k : Nat) (e : Int), (ends rs rs.length)[k]? = some e → ∃ b, a6 = some ⟨b, 0, none⟩ ∧ w1.cell? ⟨b, k, none⟩ = some (.int .i64 e)) := hc6
    have hcn := fun w => run_head22 w a5 L c5 C hCc
    clear hs5 h6 hc6 hLs h20 hrec hL hsm hCc
    go_wp2_with fail
    go_loopg [8, 9, 11, 43] len (fun g n e _ i wr => ∃ k n2 e2 : Nat, k + g = len ∧ i = .int .i64 (k : Int) ∧ n = .int .i64 (n2 : Int) ∧ e = .int .i64 (e2 : Int) ∧ wr = w1 ∧ Hid (Cn rs C k n2 e2))
    case atStart => exact ⟨0, 0, 0, by omega, rfl, rfl, rfl, rfl, by simp, by simp [frs]⟩
    case round =>
      obtain ⟨k, n2, e2, hk, rfl, rfl, rfl, rfl, HC⟩ := hrel
      by_cases hkl : k < len
      · have hkl' : (k : Int) < (len : Int) := by omega
        have hkr : k < rs.length := by have := HR.out.1; omega
        obtain ⟨E, hE⟩ : ∃ E, E = (frs (rs.take (k + 1))).length := ⟨_, rfl⟩
        obtain ⟨b, ha6, hcell⟩ := HE.out k (E : Int) (by rw [hE]; simp [ends, hkr])
        subst ha6
        obtain ⟨GK, HG⟩ : ∃ g, Hid (g < gk ∧ k + 1 + g = len) := ⟨gk - 1, by omega, by omega⟩
        have hn20 : n2 ≤ 20 := by have := HC.out.1; omega
        by_cases q : E ≤ C
        · have q' : (E : Int) ≤ (C : Int) := by omega
          have HN : Hid (Cn rs C (k + 1) (n2 + 1) E) := by rw [hE] at q ⊢; exact HC.out.yes hkr q
          clear hE hk q HC
          go_wp2_with fail
          go_roundg GK
          case measure => exact HG.out.1
          case rel => exact ⟨k + 1, n2 + 1, E, HG.out.2, by go_num, by go_num, rfl, rfl, HN⟩
        · have q' : (C : Int) < (E : Int) := by omega
          have HN : Hid (Cn rs C (k + 1) n2 e2) := by rw [hE] at q; exact HC.out.no hkr (by omega)
          clear hE hk q HC
          go_wp2_with fail
          go_roundg GK
          case measure => exact HG.out.1
          case rel => exact ⟨k + 1, n2, e2, HG.out.2, by go_num, rfl, rfl, rfl, HN⟩
      · have hkl' : (len : Int) ≤ (k : Int) := by omega
        have hke : k = rs.length := by have := HR.out.1; omega
        have hCn := HC.out
        rw [hke] at hCn
        have hwn := hCn.end
        have hn2 : n2 ≤ len := by have := whole_le rs C; have := HR.out.1; omega
        have hn2c : n2 ≤ cap := by have := HR.out.2.2.1; omega
        have hst := scan_take (c := C) HX.out.2.1 (by rw [← HX.out.2.2]; exact hCl)
        rw [← hwn, ← hCn.2] at hst
        have hsc := D.scan (HX.out.1.head C hCl) (by omega)
        rw [hst] at hsc
        have hh := fun w => run_head30 w ao len cap n2 hn2c
        have H2 : Hid (RB wr (cutA ao cap 0) n2 cap (rs.take n2)) := (RB.later HR.out HB1.out).head n2 hn2
        generalize rs.take n2 = qs at hsc H2
        clear hk hkl hke HC hCn hwn hn2 hn2c hst HX HE
        simp only at hsc
        go_wp2_with fail
        refine hsc.mono ?_
        rintro e w2 ⟨v2, rfl, ⟨a2, c2, rfl, hr2⟩, hb2⟩
        have hsame := same_any hr2 (H2.out.later hb2)
        have e1 : decide (qs = qs) = true := by simp
        rw [e1] at hsame
        have hee : ((e2 : Int) == (e2 : Int)) = true := by simp
        have HB2 : Hid (Below w.heap.size w w2) := HB1.out.trans (hb2.mono HB1.out.size)
        generalize qs.length = m at hsame ⊢
        clear hsc hr2 hb2 H2 e1 HB1
        go_wp2_with fail
        refine hsame.mono ?_
        rintro e w3 ⟨rfl, hb3⟩
        have haw := awake6_any D w3
        go_wp2_with fail
        refine haw.mono ?_
        rintro e w4 ⟨rfl, hb4⟩
        have B3 := HB2.out.trans (hb3.mono HB2.out.size)
        go_wp2_with fail
        exact bodyPost_ret (v := .bool true) (by simp [results, Try.results6, go_sem]) rfl ⟨rfl, B3.trans (hb4.mono B3.size)⟩
  · have haw := awake6_any D w1
    go_wp2_with (go_at_call 10; refine haw.mono ?_; rintro e w4 ⟨rfl, hb4⟩)
    exact bodyPost_ret (v := .bool true) (by simp [results, Try.results6, go_sem]) rfl ⟨rfl, HB1.out.trans (hb4.mono HB1.out.size)⟩
end Go.Proofs.Ytbinabegiikcaaa
