/- What the landed mem finds among a key's entries. -/
import Derived.Test.YtaefddnmldbgiabDoorNrep
namespace Go.Proofs.YtaefddnmldbgiabDoor
open Go.RowKit
set_option linter.unusedVariables false
set_option linter.unusedSimpArgs false

theorem vcmp_m {w : World} {v : Vr} (h : VrAt w v) {s : Int} : Calls Tryd.prog 34 #[ptr v.b, .int .i64 s] w fun e w' => e = .returned (.int .i64 (cmpI v.seq s)) ∧ w' = w := by
  have c := h.cells.1
  clear h
  have hc := @cmp64_m w v.seq s
  unfold ptr
  go_enter Tryd.func34, Tryd.ntmps34
  go_wp2_with fail
  refine hc.mono ?_
  rintro e w' ⟨rfl, rfl⟩
  go_wp2_with fail
  go_ret
  exact ⟨by simp, rfl⟩
theorem cmpI_lt (a b : Int) : (cmpI a b < 0) ↔ a < b := by
  unfold cmpI
  split
  · simp; assumption
  · split <;> simp <;> omega
theorem cmpI_eq (a b : Int) : (cmpI a b = 0) ↔ a = b := by
  unfold cmpI
  split
  · simp; omega
  · split <;> simp <;> omega
/-- What has been found out: all below lo are less, none from hi on is. -/
def Bet (vs : List Vr) (s : Int) (lo hi : Nat) : Prop := lo ≤ hi ∧ hi ≤ vs.length ∧ (∀ j (hj : j < vs.length), j < lo → vs[j].seq < s) ∧ ∀ j (hj : j < vs.length), hi ≤ j → s ≤ vs[j].seq

set_option maxHeartbeats 2000000 in
set_option maxRecDepth 100000 in
theorem bsf_m {w : World} {n : Nd} (h : NdAt w n) (hvl : n.vs.length ≤ 100000) (ho : n.vs.Pairwise fun a b => a.seq < b.seq) {s : Int} : Calls Tryd.prog 33 #[n.rv, .int .i64 s, .func (.func 34) #[] #[]] w fun e w' => e = .returned (.tuple #[.int .i64 (plc n.vs s : Nat), .bool (the n.vs s)]) ∧ w' = w := by
  obtain ⟨ao, cap, hrv, h1, h2, h3, h4⟩ := h.rowv
  have HC : Hid (∀ i v, n.vs[i]? = some v → ∃ b, ao = some ⟨b, 0, none⟩ ∧ w.cell? ⟨b, i, none⟩ = some (ptr v.b)) := h4
  have HV := hid h.vs
  have HO := hid ho
  rw [hrv]
  obtain ⟨N, hN⟩ : ∃ N, N = n.vs.length := ⟨_, rfl⟩
  rw [← hN] at h1 h3 ⊢
  have HN := hid hN
  have hN62 : N ≤ 2 ^ 47 := by omega
  have H0 : Hid (Bet n.vs s 0 N) := ⟨Nat.zero_le _, by omega, (fun j hj q => by omega), fun j hj q => by omega⟩
  clear h h2 h3 h4 ho hrv hN h1
  go_enter Tryd.func33, Tryd.ntmps33
  go_wp2_with fail
  go_loopg [9, 10, 11] N (fun g i j _ wr => wr = w ∧ ∃ lo hi : Nat, i = .int .i64 (lo : Int) ∧ j = .int .i64 (hi : Int) ∧ hi - lo = g ∧ hi ≤ N ∧ lo ≤ hi ∧ Hid (Bet n.vs s lo hi))
  case atStart => exact ⟨rfl, 0, N, rfl, rfl, by omega, by omega, by omega, H0⟩
  case round =>
    obtain ⟨rfl, lo, hi, rfl, rfl, hg, hn, hle, HB⟩ := hrel
    by_cases hlt : lo < hi
    · have hlt' : (lo : Int) < (hi : Int) := by omega
      obtain ⟨M, hM⟩ : ∃ M, M = (lo + hi) / 2 := ⟨_, rfl⟩
      have hM1 : ((lo : Int) + (hi : Int)) / 2 = (M : Int) := by omega
      have hMl : M < n.vs.length := by have := HN.out; omega
      have HM : Hid (lo ≤ M ∧ M < hi) := ⟨by omega, by omega⟩
      obtain ⟨b, rfl, hcell⟩ := HC.out M _ (List.getElem?_eq_getElem hMl)
      have hvc := vcmp_m (s := s) (HV.out _ (List.getElem_mem hMl))
      have hMN : (M : Int) < (N : Int) := by have := HN.out; omega
      have hMN' : M < N := by omega
      obtain ⟨S, hS⟩ : ∃ S, S = cmpI n.vs[M].seq s := ⟨_, rfl⟩
      have HSI : Hid (S < 0 ↔ n.vs[M].seq < s) := by rw [hS]; exact cmpI_lt _ _
      rw [← hS] at hvc
      unfold ptr at hvc hcell
      clear hS hM
      go_wp2_with fail
      refine hvc.mono ?_
      rintro e w' ⟨rfl, rfl⟩
      clear hvc
      by_cases hS : S < 0
      · have HBN : Hid (Bet n.vs s (M + 1) hi) := ⟨by have := HM.out; omega, HB.out.2.1, (fun j hj q => by
          have h1 := HSI.out.1 hS
          rcases Nat.lt_or_ge j M with a | a
          · have := List.pairwise_iff_getElem.1 HO.out j M hj hMl a; omega
          · obtain rfl : j = M := by omega
            exact h1), HB.out.2.2.2⟩
        go_wp2_with fail
        go_roundg (hi - (M + 1))
        case measure => have := HM.out; omega
        case rel => exact ⟨rfl, M + 1, hi, by go_num, rfl, rfl, hn, by have := HM.out; omega, HBN⟩
      · have hS' : 0 ≤ S := by omega
        have HBN : Hid (Bet n.vs s lo M) := ⟨HM.out.1, by omega, HB.out.2.2.1, (fun j hj q => by
          have h1 : ¬ n.vs[M].seq < s := fun e => hS (HSI.out.2 e)
          rcases Nat.eq_or_lt_of_le q with a | a
          · subst a; omega
          · have := List.pairwise_iff_getElem.1 HO.out M j hMl hj a; omega)⟩
        go_wp2_with fail
        go_roundg (M - lo)
        case measure => have := HM.out; omega
        case rel => exact ⟨rfl, lo, M, rfl, rfl, rfl, by have := HM.out; omega, HM.out.1, HBN⟩
    · obtain rfl : lo = hi := by omega
      have hP : plc n.vs s = lo := plc_eq HO.out HB.out.2.1 HB.out.2.2.1 HB.out.2.2.2
      have HP := hid hP
      by_cases hl : lo < N
      · have hl' : (lo : Int) < (N : Int) := by omega
        have hMl : lo < n.vs.length := by have := HN.out; omega
        obtain ⟨b, rfl, hcell⟩ := HC.out lo _ (List.getElem?_eq_getElem hMl)
        have hvc := vcmp_m (s := s) (HV.out _ (List.getElem_mem hMl))
        have HT : Hid (the n.vs s = (cmpI n.vs[lo].seq s == 0)) := by
          show _ = _
          unfold the
          rw [hP, List.getElem?_eq_getElem hMl]
          simp only
          rw [Bool.eq_iff_iff]
          simp [cmpI_eq]
        generalize cmpI n.vs[lo].seq s = S at HT hvc
        unfold ptr at hvc hcell
        clear hP hlt
        go_wp2_with fail
        refine hvc.mono ?_
        rintro e w' ⟨rfl, rfl⟩
        clear hvc
        go_wp2_with fail
        exact bodyPost_ret (v := .tuple #[.int .i64 (lo : Int), .bool (S == 0)]) (by simp [results, Tryd.results33, go_sem]) rfl ⟨by rw [HT.out, HP.out], rfl⟩
      · have hl' : (N : Int) ≤ (lo : Int) := by omega
        have HT : Hid (the n.vs s = false) := by
          show _ = _
          unfold the
          rw [hP, List.getElem?_eq_none (by have := HN.out; omega)]
        clear hP hlt
        go_wp2_with fail
        exact bodyPost_ret (v := .tuple #[.int .i64 (lo : Int), .bool false]) (by simp [results, Tryd.results33, go_sem]) rfl ⟨by rw [HT.out, HP.out], rfl⟩
/-- Where a number stands, and whether it is there. -/
theorem place_m {w : World} {n : Nd} (h : NdAt w n) (hvl : n.vs.length ≤ 100000) (ho : n.vs.Pairwise fun a b => a.seq < b.seq) {s : Int} : Calls Tryd.prog 28 #[ptr n.b, .int .i64 s] w fun e w' => e = .returned (.tuple #[.int .i64 (plc n.vs s : Nat), .bool (the n.vs s)]) ∧ w' = w := by
  have hb := bsf_m h hvl ho (s := s)
  have c := h.cells.2
  clear h ho hvl
  unfold ptr
  generalize the n.vs s = T at hb ⊢
  generalize plc n.vs s = P at hb ⊢
  go_enter Tryd.func28, Tryd.ntmps28
  go_wp2_with fail
  refine hb.mono ?_
  rintro e w' ⟨rfl, rfl⟩
  clear hb
  go_wp2_with fail
  exact bodyPost_ret (v := .tuple #[.int .i64 (P : Int), .bool T]) (by simp [results, Tryd.results28, go_sem]) rfl ⟨rfl, rfl⟩
/-- The newest that is not newer. -/
theorem at_m {w : World} {n : Nd} (h : NdAt w n) (hvl : n.vs.length ≤ 100000) (ho : n.vs.Pairwise fun a b => a.seq < b.seq) {s : Int} : Calls Tryd.prog 20 #[ptr n.b, .int .i64 s] w fun e w' => e = .returned (ptrO ((atO n.vs s).map Vr.b)) ∧ w' = w := by
  have hb := place_m h hvl ho (s := s)
  have c := h.cells.2
  obtain ⟨ao, cap, hrv, h1, h2, h3, h4⟩ := h.rowv
  have HC : Hid (∀ i v, n.vs[i]? = some v → ∃ b, ao = some ⟨b, 0, none⟩ ∧ w.cell? ⟨b, i, none⟩ = some (ptr v.b)) := h4
  rw [hrv] at c
  obtain ⟨N, hN⟩ : ∃ N, N = n.vs.length := ⟨_, rfl⟩
  have hpl := plc_le n.vs s
  unfold atO
  generalize hT : the n.vs s = T at hb ⊢
  have HPI := hid (fun h : the n.vs s = true => the_true h)
  generalize hP : plc n.vs s = P at hb hpl HPI ⊢
  rw [← hN] at c hpl
  have HN := hid hN
  have hN5 : N ≤ 100000 := by omega
  clear h ho hvl hrv h1 h2 h3 h4 hN
  unfold ptr at hb ⊢
  cases T with
  | true =>
    obtain ⟨v, hv, _⟩ := HPI.out hT
    have hl : P < N := by have := (List.getElem?_eq_some_iff.1 hv).1; have := HN.out; omega
    have hl' : (P : Int) < (N : Int) := by omega
    obtain ⟨b, rfl, hcell⟩ := HC.out P v hv
    rw [if_pos rfl, hv]
    simp only [Option.map_some, ptrO]
    unfold ptr at hcell ⊢
    clear hT HPI hP hv
    go_enter Tryd.func20, Tryd.ntmps20
    go_wp2_with fail
    refine hb.mono ?_
    rintro e w' ⟨rfl, rfl⟩
    clear hb
    go_wp2_with fail
    go_ret
    exact ⟨by simp, rfl⟩
  | false =>
    rw [if_neg (by decide)]
    by_cases hz : P = 0
    · subst hz
      rw [if_pos rfl]
      simp only [Option.map_none, ptrO]
      clear hT HPI hP
      go_enter Tryd.func20, Tryd.ntmps20
      go_wp2_with fail
      refine hb.mono ?_
      rintro e w' ⟨rfl, rfl⟩
      clear hb
      go_wp2_with fail
      go_ret
      exact ⟨by simp, rfl⟩
    · rw [if_neg hz]
      have hl : P - 1 < n.vs.length := by have := HN.out; omega
      obtain ⟨b, rfl, hcell⟩ := HC.out (P - 1) _ (List.getElem?_eq_getElem hl)
      rw [List.getElem?_eq_getElem hl]
      simp only [Option.map_some, ptrO]
      unfold ptr at hcell ⊢
      generalize n.vs[P - 1].b = B at hcell ⊢
      obtain ⟨Q, rfl⟩ : ∃ Q, P = Q + 1 := ⟨P - 1, by omega⟩
      have hq : Q < N := by omega
      have hq6 : (Q : Int) ≤ 100000 := by omega
      have hq' : (Q : Int) < (N : Int) := by omega
      rw [Nat.add_sub_cancel] at hcell
      clear hT HPI hP hz hpl hl
      go_enter Tryd.func20, Tryd.ntmps20
      go_wp2_with fail
      refine hb.mono ?_
      rintro e w' ⟨rfl, rfl⟩
      clear hb
      go_wp2_with fail
      go_ret
      exact ⟨by simp, rfl⟩
end Go.Proofs.YtaefddnmldbgiabDoor
