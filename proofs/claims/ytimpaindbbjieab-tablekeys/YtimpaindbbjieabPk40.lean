import Derived.BigQuiet
import Derived.Deep.RegionHeldLaw
import Derived.Test.YtimpaindbbjieabPk20
import Derived.Test.YtimpaindbbjieabPk33
import Derived.Test.YtimpaindbbjieabPk34
import Derived.Test.YtimpaindbbjieabPk35
import Derived.Test.YtimpaindbbjieabPk37
import Derived.Test.YtimpaindbbjieabPk39
/- The landed table: where the blocks stand, each once. -/
namespace Go.Proofs.Ytimpaindbbjieab
open Go.RowKit
set_option linter.unusedVariables false
set_option linter.unusedSimpArgs false

def cntS (l : List (Nat × Nat)) (s : Nat × Nat) : Nat := l.count s
theorem cntS_more (l : List (Nat × Nat)) (s : Nat × Nat) : (fun t => if t = s then cntS l s + 1 else cntS l t) = cntS (l ++ [s]) := by
  funext t
  unfold cntS
  rw [List.count_append]
  by_cases e : t = s
  · rw [if_pos e, e]; simp
  · rw [if_neg e, List.count_eq_zero_of_not_mem (l := [s]) (by simpa using e)]
    rfl
theorem cntS_zero (l : List (Nat × Nat)) (s : Nat × Nat) : cntS l s = 0 ↔ s ∉ spU l := by
  unfold cntS
  rw [List.count_eq_zero, spU_mem]
theorem cntS_le (l : List (Nat × Nat)) (s : Nat × Nat) : cntS l s ≤ l.length := List.count_le_length
theorem lay_spn {w : World} : ∀ {us : List Value} {xs : List (Nat × Nat)}, Lay spnE w us xs → ∀ u ∈ us, ∀ b, Refs u b → False
  | us, [], h, u, hu, b, hr => by rw [show us = [] from h] at hu; cases hu
  | us, x :: xs, h, u, hu, b, hr => by
    obtain ⟨vs, us', rfl, h1, h2⟩ := h
    rcases List.mem_append.1 hu with q | q
    · rw [show vs = [.int .i64 (x.1 : Int), .int .i64 (x.2 : Int)] from h1] at q
      simp only [List.mem_cons, List.not_mem_nil, or_false] at q
      rcases q with rfl | rfl <;> exact refs_int hr
    · exact lay_spn h2 u q b hr
set_option maxHeartbeats 4000000 in
set_option maxRecDepth 100000 in
theorem spans_t {w : World} {ra : Option Addr} {rl rc : Nat} {rows : List RowV} (h : RS rowE w ra rl rc rows) (hl : rl ≤ 5000000) (hp : ∀ r ∈ rows, r.sp.1 ≤ 2 ^ 60 ∧ r.sp.2 ≤ 2 ^ 60) :
    Calls Try.prog 32 #[.slice ra rl rc] w fun e w' => ∃ v, e = .returned v ∧ RSV spnE w' v (spU (rows.map (·.sp))) ∧ Below w.heap.size w w' := by
  have hln : rows.length = rl := h.len.1
  have HS : Hid (RS rowE w ra rl rc rows ∧ rows.length = rl ∧ rl ≤ 5000000 ∧ ∀ r ∈ rows, r.sp.1 ≤ 2 ^ 60 ∧ r.sp.2 ≤ 2 ^ 60) := ⟨h, hln, hl, hp⟩
  obtain ⟨W0, hW0⟩ : ∃ W, w.alloc (.map #[] 0) = W := ⟨_, rfl⟩
  have hsz0 : W0.heap.size = w.heap.size + 1 := by rw [← hW0]; simp
  have H0 : Hid (RowS spnE (w.heap.size + 1) W0 (.slice none 0 0) (spU ((rows.take 0).map (·.sp))) ∧ Below w.heap.size w W0 ∧ MapS W0 w.heap.size 0 (cntS ((rows.take 0).map (·.sp))) ∧ w.heap.size + 1 ≤ W0.heap.size) := by
    refine ⟨RowS.nil _ _, by rw [← hW0]; exact (Below.refl _ _).alloc (Nat.le_refl _) _, ?_, by omega⟩
    have := mapS_new w
    rw [hW0] at this
    exact this
  have hmk := run_makeMap (P := Try.prog)
  have hl62 : rl ≤ 2 ^ 61 := by omega
  clear h hp
  go_enter Try.func32, Try.ntmps32
  go_wp2_with fail
  go_loopg [3, 6, 10] rl (fun g v _ i wr => ∃ k : Nat, k + g = rl ∧ i = .int .i64 (k : Int) ∧ Hid (RowS spnE (w.heap.size + 1) wr v (spU ((rows.take k).map (·.sp))) ∧ Below w.heap.size w wr ∧ MapS wr w.heap.size k (cntS ((rows.take k).map (·.sp))) ∧ w.heap.size + 1 ≤ wr.heap.size))
  case atStart => exact ⟨0, by omega, rfl, H0⟩
  case round =>
    obtain ⟨k, hk, rfl, HK⟩ := hrel
    by_cases hkl : k < rl
    · have hkl' : (k : Int) < (rl : Int) := by omega
      have hkx : k < rows.length := by omega
      have bel := HK.out.2.1
      obtain ⟨b, off, la, lc, rfl, d0, d1, d2, sk⟩ := RS.row (HS.out.1.later bel) (List.getElem?_eq_getElem hkx)
      have hsp := HS.out.2.2.2 _ (List.getElem_mem hkx)
      have hmt : (rows.take (k + 1)).map (·.sp) = (rows.take k).map (·.sp) ++ [rows[k].sp] := by rw [List.take_add_one, List.getElem?_eq_getElem hkx, List.map_append]; rfl
      have hcl := cntS_le ((rows.take k).map (·.sp)) rows[k].sp
      have hml : ((rows.take k).map (·.sp)).length ≤ 5000000 := by rw [List.length_map, List.length_take]; have := HS.out; omega
      have HST := hid (spU_step ((rows.take k).map (·.sp)) rows[k].sp)
      have HCM := hid (cntS_more ((rows.take k).map (·.sp)) rows[k].sp)
      have HCZ := hid (cntS_zero ((rows.take k).map (·.sp)) rows[k].sp)
      have HUL := hid (spU_len ((rows.take k).map (·.sp)))
      rw [← hmt] at HST HCM
      obtain ⟨⟨p, q⟩, hpq⟩ : ∃ s, rows[k].sp = s := ⟨_, rfl⟩
      rw [hpq] at hsp hcl HST HCM HCZ d0 d1
      simp only at hsp d0 d1
      generalize rows[k].last.length = ll at d2
      obtain ⟨c, hc⟩ : ∃ c, c = cntS ((rows.take k).map (·.sp)) (p, q) := ⟨_, rfl⟩
      rw [← hc] at hcl HCM HCZ
      obtain ⟨W, hW⟩ : ∃ W, wr.alloc (.cells #[.int .i64 (p : Int), .int .i64 (q : Int), .slice la ll lc] 75) = W := ⟨_, rfl⟩
      have bW : Below wr.heap.size wr W := by rw [← hW]; exact (Below.refl _ _).alloc (Nat.le_refl _) _
      have hblk : W.heap[wr.heap.size]? = some (.cells #[.int .i64 (p : Int), .int .i64 (q : Int), .slice la ll lc] 75 (0, 0)) := by rw [← hW]; exact heap_alloc_new wr _
      have y0 : W.cell? ⟨wr.heap.size, 0, none⟩ = some (.int .i64 (p : Int)) := by rw [cell_of hblk]; rfl
      have y1 : W.cell? ⟨wr.heap.size, 1, none⟩ = some (.int .i64 (q : Int)) := by rw [cell_of hblk]; rfl
      have HMW : MapS W.drew w.heap.size k (cntS ((rows.take k).map (·.sp))) := HK.out.2.2.1.same (bW.block _ HK.out.2.2.1.lt)
      have L0 := HMW.look hsp.1 hsp.2
      obtain ⟨v0, st, w1, E0, g1, M1, S1⟩ := HMW.inc (by omega) hsp.1 hsp.2
      have L1 := M1.look hsp.1 hsp.2
      obtain ⟨w3, S3, M3, g3⟩ := S1 w1 (c + 1) (by omega) rfl
      rw [← hc] at L0 L1
      have L3 := M3.look hsp.1 hsp.2
      rw [if_pos rfl] at L3
      unfold spK at L0 E0 L1 L3
      rw [show ((c + 1 : Nat) : Int) = (c : Int) + 1 by omega] at S3 L3
      generalize goInt st = gi at E0 S3
      rw [HCM.out] at M3
      have g13 : W.grownBy w3 (some w.heap.size) := grown_trans (w := W) ⟨g1.os, g1.tape, g1.output, g1.size, g1.block⟩ g3
      have hne : wr.heap.size ≠ w.heap.size := by have := HK.out.2.2.2; omega
      have hblk3 : w3.heap[wr.heap.size]? = some (.cells #[.int .i64 (p : Int), .int .i64 (q : Int), .slice la ll lc] 75 (0, 0)) := by
        rw [g13.block _ (Array.getElem?_eq_some_iff.1 hblk).1 (fun e => by simp only [Option.some.injEq] at e; omega)]
        exact hblk
      have x0 : w3.cell? ⟨wr.heap.size, 0, none⟩ = some (.int .i64 (p : Int)) := by rw [cell_of hblk3]; rfl
      have x1 : w3.cell? ⟨wr.heap.size, 1, none⟩ = some (.int .i64 (q : Int)) := by rw [cell_of hblk3]; rfl
      have HR3 := hid ((HK.out.1.later bW).grown g13 (fun b e => by have := (HK.out.1.own_lt e).1; simp only [ne_eq, Option.some.injEq]; omega) (fun us hus u hu b hr => (lay_spn hus u hu b hr).elim))
      have BW := bel.trans (bW.mono bel.size)
      have HB3 := hid (BW.trans (Below.grown (Below.refl w.heap.size W) g13 BW.size (fun k e => by simp only [Option.some.injEq] at e; omega)))
      have HSZ : Hid (w.heap.size + 1 ≤ w3.heap.size) := by have := HK.out.2.2.2; have := bW.size; have := g13.size; show _ ≤ _; omega
      have HM3 := hid M3
      have HUL2 : Hid ((spU ((rows.take k).map (·.sp))).length ≤ 5000000) := Nat.le_trans HUL.out hml
      have hk62 : k ≤ 2 ^ 61 := by omega
      have hc62 : c ≤ 2 ^ 60 := by omega
      obtain ⟨GK, HG⟩ : ∃ g, Hid (g < gk ∧ k + 1 + g = rl) := ⟨gk - 1, by omega, by omega⟩
      clear hk bel bW BW sk hsp hmt hcl hml hpq HMW g1 M1 S1 M3 g3 HK hblk hblk3 g13 hne HCM HUL H0 hmk
      by_cases hc0 : c = 0
      · have HNI := hid (HCZ.out.1 hc0)
        have HT : Hid (spU ((rows.take (k + 1)).map (·.sp)) = spU ((rows.take k).map (·.sp)) ++ [(p, q)]) := by show _ = _; rw [HST.out, if_neg HNI.out]
        have b3 : Below w3.heap.size w3 (w3.alloc (.cells #[.int .i64 (p : Int), .int .i64 (q : Int)] 59)) := (Below.refl _ _).alloc (Nat.le_refl _) _
        have HONE := hid (rs_one (E := spnE) (w := w3) (vs := [.int .i64 (p : Int), .int .i64 (q : Int)]) (x := (p, q)) rfl)
        have HR4 := hid (HR3.out.later b3)
        have HB4 := hid (HB3.out.trans (b3.mono HB3.out.size))
        have HSZ4 : Hid (w.heap.size + 1 ≤ (w3.alloc (.cells #[.int .i64 (p : Int), .int .i64 (q : Int)] 59)).heap.size) := Nat.le_trans HSZ.out b3.size
        have HM4 : Hid (MapS (w3.alloc (.cells #[.int .i64 (p : Int), .int .i64 (q : Int)] 59)) w.heap.size (k + 1) (cntS ((rows.take (k + 1)).map (·.sp)))) := HM3.out.same (b3.block _ HM3.out.lt)
        subst hc0
        rw [show ((0 : Nat) : Int) = 0 from rfl] at L0 L1 S3 L3
        rw [show (0 : Int) + 1 = 1 from rfl] at S3 L3
        clear hc b3
        go_upto_region 6 with fail
        go_region
        all_goals
          go_wp2_with (at_builtin; refine wpList_appS spnE (t := 57) (z := .agg #[.int .i64 0, .int .i64 0]) (bytes := 16) (B := w.heap.size + 1) Try.underlying57 spnE_info rfl (by decide) rfl (.tmp 26) (.tmp 29) rfl rfl HR4.out rfl HONE.out (fun u hu b hr => (lay_spn (w := w3) (xs := [(p, q)]) ⟨_, [], by simp, rfl, rfl⟩ u hu b hr).elim) (by have := HUL2.out; omega) (by have := HUL2.out; omega) HSZ4.out ?_; intro v9 w9 r9 g9 m9)
          have HB9 := hid (HB4.out.trans ((HR4.out.below g9 HSZ4.out).mono (by omega)))
          have HM9 := hid (HM4.out.same (g9.block _ HM4.out.lt (fun e => by have := (HR4.out.own_lt e.symm).1; omega)))
          go_roundg GK
          case measure => exact HG.out.1
          case rel => exact ⟨k + 1, HG.out.2, by go_num, by rw [HT.out]; exact r9, HB9.out, HM9.out, Nat.le_trans HSZ4.out g9.size⟩
      · have HNI : Hid ((p, q) ∈ spU ((rows.take k).map (·.sp))) := Classical.byContradiction fun z => hc0 (HCZ.out.2 z)
        have HT : Hid (spU ((rows.take (k + 1)).map (·.sp)) = spU ((rows.take k).map (·.sp))) := by show _ = _; rw [HST.out, if_pos HNI.out]
        have hc1 : ¬ ((c : Int) + 1 = 1) := by omega
        have hc2 : (((c : Int) + 1) == 1) = false := by simpa using hc1
        clear hc hc0
        go_upto_region 6 with fail
        go_region
        all_goals
          go_wp2_with fail
          go_roundg GK
          case measure => exact HG.out.1
          case rel => exact ⟨k + 1, HG.out.2, by go_num, by rw [HT.out]; exact HR3.out, HB3.out, HM3.out, HSZ.out⟩
    · have hkl' : (rl : Int) ≤ (k : Int) := by omega
      have h1 := HK.out.1
      rw [List.take_of_length_le (by omega)] at h1
      have HF : Hid (RSV spnE wr u3 (spU (rows.map (·.sp))) ∧ Below w.heap.size w wr) := ⟨RSV.ofRow h1, HK.out.2.1⟩
      clear hk hkl HK h1
      go_wp2_with fail
      exact bodyPost_ret (v := u3) (by simp [results, Try.results32, go_sem]) rfl ⟨u3, rfl, HF.out.1, HF.out.2⟩
end Go.Proofs.Ytimpaindbbjieab

/- The landed table: how a table lies; what Open leans on. -/
namespace Go.Proofs.Ytimpaindbbjieab
open Go.RowKit
set_option linter.unusedVariables false
set_option linter.unusedSimpArgs false

/-- How a table lies in memory. -/
structure RTb (w : World) (p : Nat) (l : List EntV) : Prop where
  ok : tblE l = 0
  oke : ∀ e ∈ l, OkE e
  at_ : ∃ wa wc ra rc, w.heap[p]? = some (.cells #[.slice wa (tblB l).length wc, .slice ra (rowsT l).length rc, .int .i64 ((flS l).1 : Int), .int .i64 ((flS l).2 : Int), .int .i64 (l.length : Int)] 71 (0, 0)) ∧ Sl w wa (tblB l).length wc (tblB l) ∧ RS rowE w ra (rowsT l).length rc (rowsT l)
theorem RTb.later {w w' : World} {p : Nat} {l : List EntV} (h : RTb w p l) (hb : Below w.heap.size w w') : RTb w' p l := by
  obtain ⟨h1, h2, wa, wc, ra, rc, h3, h4, h5⟩ := h
  exact ⟨h1, h2, wa, wc, ra, rc, (hb.block _ (Array.getElem?_eq_some_iff.1 h3).1).trans h3, h4.later hb, h5.later hb⟩
theorem opn_facts {b : List Int} {l : List EntV} (h : tblE l = 0) (ho : ∀ e ∈ l, OkE e) (hb : tblB l = b) : ftE b = (0, ixS l, flS l) ∧ okS b (ixS l) = true ∧ okS b (flS l) = true ∧ (∀ n, (ofS b (ixS l)).length ≤ n → ixT n (ofS b (ixS l)) (ixS l).1 = some (rowsT l)) ∧ (spU ((rowsT l).map (·.sp))).all (okS b) = true ∧ teK ((spU ((rowsT l).map (·.sp))).map (ofS b)) [] = (0, l) := by
  subst hb
  obtain ⟨a1, a2, a3, a4, a5⟩ := ftE_tbl h ho
  obtain ⟨b1, b2, b3, b4, b5⟩ := read_tbl h ho
  refine ⟨a1, a2, a3, fun n hn => ?_, ?_, ?_⟩
  · rw [a4] at hn ⊢; exact b1 n hn
  · rw [b2]; exact List.all_eq_true.2 b3
  · rw [b2, b4]; exact b5
theorem ftE_in {b : List Int} {i f : Nat × Nat} (h : ftE b = (0, i, f)) : 32 ≤ b.length ∧ i.1 + i.2 + 4 ≤ b.length ∧ f.1 + f.2 + 4 ≤ b.length := by
  unfold ftE at h
  split at h
  · cases h
  rename_i h1
  split at h
  · cases h
  split at h
  · cases h
  split at h
  · rename_i i' f' e1 e2
    cases h
    unfold spO at e1 e2
    split at e1
    · split at e2
      · cases e1; cases e2
        simp only
        omega
      · cases e2
    · cases e1
  · cases h
theorem ixT_in : ∀ {n : Nat} {xs : List Int} {room : Nat} {rs : List RowV}, ixT n xs room = some rs → (∀ r ∈ rs, r.sp.1 + r.sp.2 + 4 ≤ room) ∧ rs.length ≤ xs.length
  | 0, xs, room, rs, h => by
    unfold ixT at h
    split at h
    · cases h; exact ⟨(fun r hr => by cases hr), by simp⟩
    · cases h
  | n + 1, xs, room, rs, h => by
    by_cases hx : xs = []
    · subst hx
      rw [ixT_nil] at h
      cases h
      exact ⟨(fun r hr => by cases hr), by simp⟩
    · obtain ⟨s1, s2⟩ := ixT_step (n := n) (room := room) hx
      cases hr : rwT xs room with
      | none => rw [s1 hr] at h; cases h
      | some r =>
        rw [s2 r hr] at h
        obtain ⟨u1, u2, u3, u4⟩ := rwT_used hr
        cases ht : ixT n (xs.drop r.2) room with
        | none => rw [ht] at h; cases h
        | some t =>
          rw [ht] at h
          simp only [Option.map_some, Option.some.injEq] at h
          subst h
          obtain ⟨i1, i2⟩ := ixT_in ht
          rw [List.length_drop] at i2
          refine ⟨fun x hx => ?_, by simp; omega⟩
          rcases List.mem_cons.1 hx with z | z
          · rw [z]; exact u3
          · exact i1 x z
theorem spn_two (w : World) (s t : Nat × Nat) : RS spnE (w.alloc (.cells #[.int .i64 (s.1 : Int), .int .i64 (s.2 : Int), .int .i64 (t.1 : Int), .int .i64 (t.2 : Int)] 59)) (some ⟨w.heap.size, 0, none⟩) 2 2 [s, t] := by
  refine ⟨[.int .i64 (s.1 : Int), .int .i64 (s.2 : Int), .int .i64 (t.1 : Int), .int .i64 (t.2 : Int)], rfl, (fun q => by cases q), Nat.le_refl _, by unfold maxLen; omega, ⟨[.int .i64 (s.1 : Int), .int .i64 (s.2 : Int)], [.int .i64 (t.1 : Int), .int .i64 (t.2 : Int)], rfl, rfl, [.int .i64 (t.1 : Int), .int .i64 (t.2 : Int)], [], rfl, rfl, rfl⟩, fun j u hu => ?_⟩
  refine ⟨_, _, rfl, ?_⟩
  rw [Nat.zero_add, cell_of_row _ _ _ _ _ _ (heap_alloc_new w _)]
  simpa using hu
/-- What Open answers. -/
def OpR (b : List Int) (e : Ending) (w' : World) : Prop := ∃ (v : Value) (E : Nat), e = .returned (.tuple #[v, .int .i64 (E : Int)]) ∧ (E = 0 ↔ (opT tkD b).1 = 0) ∧ (E ≠ 0 → v = .pointer none) ∧ (E = 0 → ∃ p, v = .pointer (some ⟨p, 0, none⟩) ∧ RTb w' p (opT tkD b).2)
end Go.Proofs.Ytimpaindbbjieab

/- The landed table: what is read off it: Len, Most, May; a table that there is not. -/
namespace Go.Proofs.Ytimpaindbbjieab
open Go.RowKit
set_option linter.unusedVariables false
set_option linter.unusedSimpArgs false

theorem RTb.facts {w : World} {p : Nat} {l : List EntV} (h : RTb w p l) : ∃ wa wc ra rc, w.cell? ⟨p, 0, none⟩ = some (.slice wa (tblB l).length wc) ∧ w.cell? ⟨p, 1, none⟩ = some (.slice ra (rowsT l).length rc) ∧ w.cell? ⟨p, 2, none⟩ = some (.int .i64 ((flS l).1 : Int)) ∧ w.cell? ⟨p, 3, none⟩ = some (.int .i64 ((flS l).2 : Int)) ∧ w.cell? ⟨p, 4, none⟩ = some (.int .i64 (l.length : Int)) ∧ Sl w wa (tblB l).length wc (tblB l) ∧ RS rowE w ra (rowsT l).length rc (rowsT l) := by
  obtain ⟨h1, h2, wa, wc, ra, rc, h3, h4, h5⟩ := h
  exact ⟨wa, wc, ra, rc, by rw [cell_of h3]; rfl, by rw [cell_of h3]; rfl, by rw [cell_of h3]; rfl, by rw [cell_of h3]; rfl, by rw [cell_of h3]; rfl, h4, h5⟩
theorem lenA_t {w : World} {p : Nat} {l : List EntV} (h : RTb w p l) : Calls Try.prog 27 #[.pointer (some ⟨p, 0, none⟩)] w fun r w' => r = .returned (.int .i64 (l.length : Nat)) ∧ Below w.heap.size w w' := by
  obtain ⟨wa, wc, ra, rc, c0, c1, c2, c3, c4, _, _⟩ := h.facts
  clear h
  generalize l.length = n at c4 ⊢
  go_enter Try.func27, Try.ntmps27
  go_wp2_with fail
  exact bodyPost_ret (v := .int .i64 (n : Int)) (by simp [results, Try.results27, go_sem]) rfl ⟨rfl, Below.refl _ _⟩
theorem lenN_t {w : World} : Calls Try.prog 27 #[.pointer none] w fun r w' => r = .returned (.int .i64 0) ∧ Below w.heap.size w w' := by
  go_enter Try.func27, Try.ntmps27
  go_wp2_with fail
  exact bodyPost_ret (v := .int .i64 0) (by simp [results, Try.results27, go_sem]) rfl ⟨rfl, Below.refl _ _⟩
theorem mostN_t {w : World} : Calls Try.prog 14 #[.pointer none] w fun r w' => ∃ a c, r = .returned (.slice a 0 c) ∧ Below w.heap.size w w' := by
  go_enter Try.func14, Try.ntmps14
  go_wp2_with fail
  exact bodyPost_ret (v := .slice none 0 0) (by simp [results, Try.results14, go_sem]) rfl ⟨none, 0, rfl, Below.refl _ _⟩
theorem mayN2_t {w : World} {ka : Option Addr} {kl kc : Nat} : Calls Try.prog 11 #[.pointer none, .slice ka kl kc] w fun r w' => r = .returned (.bool false) ∧ Below w.heap.size w w' := by
  go_enter Try.func11, Try.ntmps11
  go_wp2_with fail
  go_quiet (fail)
  go_wp2_with fail
  exact bodyPost_ret (v := .bool false) (by simp [results, Try.results11, go_sem]) rfl ⟨rfl, below_drewN (Below.refl _ _) _⟩
theorem fromN_t {w : World} {ka : Option Addr} {kl kc : Nat} {s : Int} : Calls Try.prog 57 #[.pointer none, .slice ka kl kc, .int .i64 s] w fun r w' => r = .returned (.slice none 0 0) ∧ Below w.heap.size w w' := by
  have HB : Hid (Below w.heap.size w (((w.alloc (.cells #[.pointer none] 29)).alloc (.cells #[.slice ka kl kc] 24)).alloc (.cells #[.int .i64 s] 2))) := (((Below.refl _ w).alloc (Nat.le_refl _) _).alloc (by simp) _).alloc (by simp; omega) _
  go_enter Try.func57, Try.ntmps57
  go_wp2_with fail
  exact bodyPost_ret (v := .slice none 0 0) (by simp [results, Try.results57, go_sem]) rfl ⟨rfl, HB.out⟩
end Go.Proofs.Ytimpaindbbjieab
