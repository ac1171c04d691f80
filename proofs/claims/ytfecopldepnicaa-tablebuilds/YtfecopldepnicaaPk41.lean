import Derived.Test.YtfecopldepnicaaPk34
import Derived.Test.YtfecopldepnicaaPk36
import Derived.Test.YtfecopldepnicaaPk38
import Derived.Test.YtfecopldepnicaaPk40
/- The landed table: where the blocks stand, each once. -/
namespace Go.Proofs.Ytfecopldepnicaa
open Go.RowKit
set_option linter.unusedVariables false
set_option linter.unusedSimpArgs false

def cntS (l : List (Nat × Nat)) (s : Nat × Nat) : Nat := l.count s
theorem cntS_more (l : List (Nat × Nat)) (s : Nat × Nat) : (fun t => if t = s then cntS l s + 1 else cntS l t) = cntS (l ++ [s]) := by
  funext t
  unfold cntS
  rw [List.count_append]
  by_cases e : t = s
  · rw [if_pos e, e]; simp
  · rw [if_neg e, List.count_eq_zero_of_not_mem (l := [s]) (by simpa using e)]
    rfl
theorem cntS_zero (l : List (Nat × Nat)) (s : Nat × Nat) : cntS l s = 0 ↔ s ∉ spU l := by
  unfold cntS
  rw [List.count_eq_zero, spU_mem]
theorem cntS_le (l : List (Nat × Nat)) (s : Nat × Nat) : cntS l s ≤ l.length := List.count_le_length
theorem lay_spn {w : World} : ∀ {us : List Value} {xs : List (Nat × Nat)}, Lay spnE w us xs → ∀ u ∈ us, ∀ b, Refs u b → False
  | us, [], h, u, hu, b, hr => by rw [show us = [] from h] at hu; cases hu
  | us, x :: xs, h, u, hu, b, hr => by
    obtain ⟨vs, us', rfl, h1, h2⟩ := h
    rcases List.mem_append.1 hu with q | q
    · rw [show vs = [.int .i64 (x.1 : Int), .int .i64 (x.2 : Int)] from h1] at q
      simp only [List.mem_cons, List.not_mem_nil, or_false] at q
      rcases q with rfl | rfl <;> exact refs_int hr
    · exact lay_spn h2 u q b hr
set_option maxHeartbeats 4000000 in
set_option maxRecDepth 100000 in
theorem spans_t {w : World} {ra : Option Addr} {rl rc : Nat} {rows : List RowV} (h : RS rowE w ra rl rc rows) (hl : rl ≤ 5000000) (hp : ∀ r ∈ rows, r.sp.1 ≤ 2 ^ 60 ∧ r.sp.2 ≤ 2 ^ 60) :
    Calls Try.prog 48 #[.slice ra rl rc] w fun e w' => ∃ v, e = .returned v ∧ RSV spnE w' v (spU (rows.map (·.sp))) ∧ Below w.heap.size w w' := by
  have hln : rows.length = rl := h.len.1
  have HS : Hid (RS rowE w ra rl rc rows ∧ rows.length = rl ∧ rl ≤ 5000000 ∧ ∀ r ∈ rows, r.sp.1 ≤ 2 ^ 60 ∧ r.sp.2 ≤ 2 ^ 60) := ⟨h, hln, hl, hp⟩
  obtain ⟨W0, hW0⟩ : ∃ W, w.alloc (.map #[] 0) = W := ⟨_, rfl⟩
  have hsz0 : W0.heap.size = w.heap.size + 1 := by rw [← hW0]; simp
  have H0 : Hid (RowS spnE (w.heap.size + 1) W0 (.slice none 0 0) (spU ((rows.take 0).map (·.sp))) ∧ Below w.heap.size w W0 ∧ MapS W0 w.heap.size 0 (cntS ((rows.take 0).map (·.sp))) ∧ w.heap.size + 1 ≤ W0.heap.size) := by
    refine ⟨RowS.nil _ _, by rw [← hW0]; exact (Below.refl _ _).alloc (Nat.le_refl _) _, ?_, by omega⟩
    have := mapS_new w
    rw [hW0] at this
    exact this
  have hmk := run_makeMap (P := Try.prog)
  have hl62 : rl ≤ 2 ^ 61 := by omega
  clear h hp
  go_enter Try.func48, Try.ntmps48
  go_wp2_with fail
  go_loopg [3, 6, 10] rl (fun g v _ i wr => ∃ k : Nat, k + g = rl ∧ i = .int .i64 (k : Int) ∧ Hid (RowS spnE (w.heap.size + 1) wr v (spU ((rows.take k).map (·.sp))) ∧ Below w.heap.size w wr ∧ MapS wr w.heap.size k (cntS ((rows.take k).map (·.sp))) ∧ w.heap.size + 1 ≤ wr.heap.size))
  case atStart => exact ⟨0, by omega, rfl, H0⟩
  case round =>
    obtain ⟨k, hk, rfl, HK⟩ := hrel
    by_cases hkl : k < rl
    · have hkl' : (k : Int) < (rl : Int) := by omega
      have hkx : k < rows.length := by omega
      have bel := HK.out.2.1
      obtain ⟨b, off, la, lc, rfl, d0, d1, d2, sk⟩ := RS.row (HS.out.1.later bel) (List.getElem?_eq_getElem hkx)
      have hsp := HS.out.2.2.2 _ (List.getElem_mem hkx)
      have hmt : (rows.take (k + 1)).map (·.sp) = (rows.take k).map (·.sp) ++ [rows[k].sp] := by rw [List.take_add_one, List.getElem?_eq_getElem hkx, List.map_append]; rfl
      have hcl := cntS_le ((rows.take k).map (·.sp)) rows[k].sp
      have hml : ((rows.take k).map (·.sp)).length ≤ 5000000 := by rw [List.length_map, List.length_take]; have := HS.out; omega
      have HST := hid (spU_step ((rows.take k).map (·.sp)) rows[k].sp)
      have HCM := hid (cntS_more ((rows.take k).map (·.sp)) rows[k].sp)
      have HCZ := hid (cntS_zero ((rows.take k).map (·.sp)) rows[k].sp)
      have HUL := hid (spU_len ((rows.take k).map (·.sp)))
      rw [← hmt] at HST HCM
      obtain ⟨⟨p, q⟩, hpq⟩ : ∃ s, rows[k].sp = s := ⟨_, rfl⟩
      rw [hpq] at hsp hcl HST HCM HCZ d0 d1
      simp only at hsp d0 d1
      generalize rows[k].last.length = ll at d2
      obtain ⟨c, hc⟩ : ∃ c, c = cntS ((rows.take k).map (·.sp)) (p, q) := ⟨_, rfl⟩
      rw [← hc] at hcl HCM HCZ
      obtain ⟨W, hW⟩ : ∃ W, wr.alloc (.cells #[.int .i64 (p : Int), .int .i64 (q : Int), .slice la ll lc] 86) = W := ⟨_, rfl⟩
      have bW : Below wr.heap.size wr W := by rw [← hW]; exact (Below.refl _ _).alloc (Nat.le_refl _) _
      have hblk : W.heap[wr.heap.size]? = some (.cells #[.int .i64 (p : Int), .int .i64 (q : Int), .slice la ll lc] 86 (0, 0)) := by rw [← hW]; exact heap_alloc_new wr _
      have y0 : W.cell? ⟨wr.heap.size, 0, none⟩ = some (.int .i64 (p : Int)) := by rw [cell_of hblk]; rfl
      have y1 : W.cell? ⟨wr.heap.size, 1, none⟩ = some (.int .i64 (q : Int)) := by rw [cell_of hblk]; rfl
      have HMW : MapS W.drew w.heap.size k (cntS ((rows.take k).map (·.sp))) := HK.out.2.2.1.same (bW.block _ HK.out.2.2.1.lt)
      have L0 := HMW.look hsp.1 hsp.2
      obtain ⟨v0, st, w1, E0, g1, M1, S1⟩ := HMW.inc (by omega) hsp.1 hsp.2
      have L1 := M1.look hsp.1 hsp.2
      obtain ⟨w3, S3, M3, g3⟩ := S1 w1 (c + 1) (by omega) rfl
      rw [← hc] at L0 L1
      have L3 := M3.look hsp.1 hsp.2
      rw [if_pos rfl] at L3
      unfold spK at L0 E0 L1 L3
      rw [show ((c + 1 : Nat) : Int) = (c : Int) + 1 by omega] at S3 L3
      generalize goInt st = gi at E0 S3
      rw [HCM.out] at M3
      have g13 : W.grownBy w3 (some w.heap.size) := grown_trans (w := W) ⟨g1.os, g1.tape, g1.output, g1.size, g1.block⟩ g3
      have hne : wr.heap.size ≠ w.heap.size := by have := HK.out.2.2.2; omega
      have hblk3 : w3.heap[wr.heap.size]? = some (.cells #[.int .i64 (p : Int), .int .i64 (q : Int), .slice la ll lc] 86 (0, 0)) := by
        rw [g13.block _ (Array.getElem?_eq_some_iff.1 hblk).1 (fun e => by simp only [Option.some.injEq] at e; omega)]
        exact hblk
      have x0 : w3.cell? ⟨wr.heap.size, 0, none⟩ = some (.int .i64 (p : Int)) := by rw [cell_of hblk3]; rfl
      have x1 : w3.cell? ⟨wr.heap.size, 1, none⟩ = some (.int .i64 (q : Int)) := by rw [cell_of hblk3]; rfl
      have HR3 := hid ((HK.out.1.later bW).grown g13 (fun b e => by have := (HK.out.1.own_lt e).1; simp only [ne_eq, Option.some.injEq]; omega) (fun us hus u hu b hr => (lay_spn hus u hu b hr).elim))
      have BW := bel.trans (bW.mono bel.size)
      have HB3 := hid (BW.trans (Below.grown (Below.refl w.heap.size W) g13 BW.size (fun k e => by simp only [Option.some.injEq] at e; omega)))
      have HSZ : Hid (w.heap.size + 1 ≤ w3.heap.size) := by have := HK.out.2.2.2; have := bW.size; have := g13.size; show _ ≤ _; omega
      have HM3 := hid M3
      have HUL2 : Hid ((spU ((rows.take k).map (·.sp))).length ≤ 5000000) := Nat.le_trans HUL.out hml
      have hk62 : k ≤ 2 ^ 61 := by omega
      have hc62 : c ≤ 2 ^ 60 := by omega
      obtain ⟨GK, HG⟩ : ∃ g, Hid (g < gk ∧ k + 1 + g = rl) := ⟨gk - 1, by omega, by omega⟩
      clear hk bel bW BW sk hsp hmt hcl hml hpq HMW g1 M1 S1 M3 g3 HK hblk hblk3 g13 hne HCM HUL H0 hmk
      by_cases hc0 : c = 0
      · have HNI := hid (HCZ.out.1 hc0)
        have HT : Hid (spU ((rows.take (k + 1)).map (·.sp)) = spU ((rows.take k).map (·.sp)) ++ [(p, q)]) := by show _ = _; rw [HST.out, if_neg HNI.out]
        have b3 : Below w3.heap.size w3 (w3.alloc (.cells #[.int .i64 (p : Int), .int .i64 (q : Int)] 74)) := (Below.refl _ _).alloc (Nat.le_refl _) _
        have HONE := hid (rs_one (E := spnE) (w := w3) (vs := [.int .i64 (p : Int), .int .i64 (q : Int)]) (x := (p, q)) rfl)
        have HR4 := hid (HR3.out.later b3)
        have HB4 := hid (HB3.out.trans (b3.mono HB3.out.size))
        have HSZ4 : Hid (w.heap.size + 1 ≤ (w3.alloc (.cells #[.int .i64 (p : Int), .int .i64 (q : Int)] 74)).heap.size) := Nat.le_trans HSZ.out b3.size
        have HM4 : Hid (MapS (w3.alloc (.cells #[.int .i64 (p : Int), .int .i64 (q : Int)] 74)) w.heap.size (k + 1) (cntS ((rows.take (k + 1)).map (·.sp)))) := HM3.out.same (b3.block _ HM3.out.lt)
        subst hc0
        rw [show ((0 : Nat) : Int) = 0 from rfl] at L0 L1 S3 L3
        rw [show (0 : Int) + 1 = 1 from rfl] at S3 L3
        clear hc b3
        go_upto_region 6 with fail
        go_region
        all_goals
          go_wp2_with (at_builtin; refine wpList_appS spnE (t := 72) (z := .agg #[.int .i64 0, .int .i64 0]) (bytes := 16) (B := w.heap.size + 1) Try.underlying72 spnE_info rfl (by decide) rfl (.tmp 26) (.tmp 29) rfl rfl HR4.out rfl HONE.out (fun u hu b hr => (lay_spn (w := w3) (xs := [(p, q)]) ⟨_, [], by simp, rfl, rfl⟩ u hu b hr).elim) (by have := HUL2.out; omega) (by have := HUL2.out; omega) HSZ4.out ?_; intro v9 w9 r9 g9 m9)
          have HB9 := hid (HB4.out.trans ((HR4.out.below g9 HSZ4.out).mono (by omega)))
          have HM9 := hid (HM4.out.same (g9.block _ HM4.out.lt (fun e => by have := (HR4.out.own_lt e.symm).1; omega)))
          go_roundg GK
          case measure => exact HG.out.1
          case rel => exact ⟨k + 1, HG.out.2, by go_num, by rw [HT.out]; exact r9, HB9.out, HM9.out, Nat.le_trans HSZ4.out g9.size⟩
      · have HNI : Hid ((p, q) ∈ spU ((rows.take k).map (·.sp))) := Classical.byContradiction fun z => hc0 (HCZ.out.2 z)
        have HT : Hid (spU ((rows.take (k + 1)).map (·.sp)) = spU ((rows.take k).map (·.sp))) := by show _ = _; rw [HST.out, if_pos HNI.out]
        have hc1 : ¬ ((c : Int) + 1 = 1) := by omega
        have hc2 : (((c : Int) + 1) == 1) = false := by simpa using hc1
        clear hc hc0
        go_upto_region 6 with fail
        go_region
        all_goals
          go_wp2_with fail
          go_roundg GK
          case measure => exact HG.out.1
          case rel => exact ⟨k + 1, HG.out.2, by go_num, by rw [HT.out]; exact HR3.out, HB3.out, HM3.out, HSZ.out⟩
    · have hkl' : (rl : Int) ≤ (k : Int) := by omega
      have h1 := HK.out.1
      rw [List.take_of_length_le (by omega)] at h1
      have HF : Hid (RSV spnE wr u3 (spU (rows.map (·.sp))) ∧ Below w.heap.size w wr) := ⟨RSV.ofRow h1, HK.out.2.1⟩
      clear hk hkl HK h1
      go_wp2_with fail
      exact bodyPost_ret (v := u3) (by simp [results, Try.results48, go_sem]) rfl ⟨u3, rfl, HF.out.1, HF.out.2⟩
end Go.Proofs.Ytfecopldepnicaa

/- The landed table: how a table lies; what Open leans on. -/
namespace Go.Proofs.Ytfecopldepnicaa
open Go.RowKit
set_option linter.unusedVariables false
set_option linter.unusedSimpArgs false

/-- How a table lies in memory. -/
structure RTb (w : World) (p : Nat) (l : List EntV) : Prop where
  ok : tblE l = 0
  oke : ∀ e ∈ l, OkE e
  at_ : ∃ wa wc ra rc, w.heap[p]? = some (.cells #[.slice wa (tblB l).length wc, .slice ra (rowsT l).length rc, .int .i64 ((flS l).1 : Int), .int .i64 ((flS l).2 : Int), .int .i64 (l.length : Int)] 84 (0, 0)) ∧ Sl w wa (tblB l).length wc (tblB l) ∧ RS rowE w ra (rowsT l).length rc (rowsT l)
theorem RTb.later {w w' : World} {p : Nat} {l : List EntV} (h : RTb w p l) (hb : Below w.heap.size w w') : RTb w' p l := by
  obtain ⟨h1, h2, wa, wc, ra, rc, h3, h4, h5⟩ := h
  exact ⟨h1, h2, wa, wc, ra, rc, (hb.block _ (Array.getElem?_eq_some_iff.1 h3).1).trans h3, h4.later hb, h5.later hb⟩
theorem opn_facts {b : List Int} {l : List EntV} (h : tblE l = 0) (ho : ∀ e ∈ l, OkE e) (hb : tblB l = b) : ftE b = (0, ixS l, flS l) ∧ okS b (ixS l) = true ∧ okS b (flS l) = true ∧ (∀ n, (ofS b (ixS l)).length ≤ n → ixT n (ofS b (ixS l)) (ixS l).1 = some (rowsT l)) ∧ (spU ((rowsT l).map (·.sp))).all (okS b) = true ∧ teK ((spU ((rowsT l).map (·.sp))).map (ofS b)) [] = (0, l) := by
  subst hb
  obtain ⟨a1, a2, a3, a4, a5⟩ := ftE_tbl h ho
  obtain ⟨b1, b2, b3, b4, b5⟩ := read_tbl h ho
  refine ⟨a1, a2, a3, fun n hn => ?_, ?_, ?_⟩
  · rw [a4] at hn ⊢; exact b1 n hn
  · rw [b2]; exact List.all_eq_true.2 b3
  · rw [b2, b4]; exact b5
theorem ftE_in {b : List Int} {i f : Nat × Nat} (h : ftE b = (0, i, f)) : 32 ≤ b.length ∧ i.1 + i.2 + 4 ≤ b.length ∧ f.1 + f.2 + 4 ≤ b.length := by
  unfold ftE at h
  split at h
  · cases h
  rename_i h1
  split at h
  · cases h
  split at h
  · cases h
  split at h
  · rename_i i' f' e1 e2
    cases h
    unfold spO at e1 e2
    split at e1
    · split at e2
      · cases e1; cases e2
        simp only
        omega
      · cases e2
    · cases e1
  · cases h
theorem ixT_in : ∀ {n : Nat} {xs : List Int} {room : Nat} {rs : List RowV}, ixT n xs room = some rs → (∀ r ∈ rs, r.sp.1 + r.sp.2 + 4 ≤ room) ∧ rs.length ≤ xs.length
  | 0, xs, room, rs, h => by
    unfold ixT at h
    split at h
    · cases h; exact ⟨(fun r hr => by cases hr), by simp⟩
    · cases h
  | n + 1, xs, room, rs, h => by
    by_cases hx : xs = []
    · subst hx
      rw [ixT_nil] at h
      cases h
      exact ⟨(fun r hr => by cases hr), by simp⟩
    · obtain ⟨s1, s2⟩ := ixT_step (n := n) (room := room) hx
      cases hr : rwT xs room with
      | none => rw [s1 hr] at h; cases h
      | some r =>
        rw [s2 r hr] at h
        obtain ⟨u1, u2, u3, u4⟩ := rwT_used hr
        cases ht : ixT n (xs.drop r.2) room with
        | none => rw [ht] at h; cases h
        | some t =>
          rw [ht] at h
          simp only [Option.map_some, Option.some.injEq] at h
          subst h
          obtain ⟨i1, i2⟩ := ixT_in ht
          rw [List.length_drop] at i2
          refine ⟨fun x hx => ?_, by simp; omega⟩
          rcases List.mem_cons.1 hx with z | z
          · rw [z]; exact u3
          · exact i1 x z
theorem spn_two (w : World) (s t : Nat × Nat) : RS spnE (w.alloc (.cells #[.int .i64 (s.1 : Int), .int .i64 (s.2 : Int), .int .i64 (t.1 : Int), .int .i64 (t.2 : Int)] 74)) (some ⟨w.heap.size, 0, none⟩) 2 2 [s, t] := by
  refine ⟨[.int .i64 (s.1 : Int), .int .i64 (s.2 : Int), .int .i64 (t.1 : Int), .int .i64 (t.2 : Int)], rfl, (fun q => by cases q), Nat.le_refl _, by unfold maxLen; omega, ⟨[.int .i64 (s.1 : Int), .int .i64 (s.2 : Int)], [.int .i64 (t.1 : Int), .int .i64 (t.2 : Int)], rfl, rfl, [.int .i64 (t.1 : Int), .int .i64 (t.2 : Int)], [], rfl, rfl, rfl⟩, fun j u hu => ?_⟩
  refine ⟨_, _, rfl, ?_⟩
  rw [Nat.zero_add, cell_of_row _ _ _ _ _ _ (heap_alloc_new w _)]
  simpa using hu
/-- What Open answers. -/
def OpR (b : List Int) (e : Ending) (w' : World) : Prop := ∃ (v : Value) (E : Nat), e = .returned (.tuple #[v, .int .i64 (E : Int)]) ∧ (E = 0 ↔ (opT tkD b).1 = 0) ∧ (E ≠ 0 → v = .pointer none) ∧ (E = 0 → ∃ p, v = .pointer (some ⟨p, 0, none⟩) ∧ RTb w' p (opT tkD b).2)
end Go.Proofs.Ytfecopldepnicaa

/- The landed table: Open. -/
namespace Go.Proofs.Ytfecopldepnicaa
open Go.RowKit
set_option linter.unusedVariables false
set_option linter.unusedSimpArgs false

set_option maxHeartbeats 8000000 in
set_option maxRecDepth 100000 in
theorem open_t {w : World} {ao : Option Addr} {len cap : Nat} {b : List Int} (h : Sl w ao len cap b) (hl : len ≤ 5000000) :
    Calls Try.prog 12 #[.slice ao len cap] w fun e w' => OpR b e w' ∧ Below w.heap.size w w' := by
  have hln : b.length = len := h.1
  have HS : Hid (Sl w ao len cap b ∧ len ≤ 5000000 ∧ b.length = len ∧ len ≤ cap) := ⟨h, hl, hln, h.2.2.2.1⟩
  have HP : Hid ((opT tkD b).1 = 0 → tblE (opT tkD b).2 = 0 ∧ tblB (opT tkD b).2 = b ∧ ∀ e ∈ (opT tkD b).2, OkE e) := fun z => opT_is h.2.1 z
  have HPF : Hid ((opT tkD b).1 = 0 → ftE b = (0, ixS (opT tkD b).2, flS (opT tkD b).2) ∧ okS b (ixS (opT tkD b).2) = true ∧ okS b (flS (opT tkD b).2) = true ∧ (∀ n, (ofS b (ixS (opT tkD b).2)).length ≤ n → ixT n (ofS b (ixS (opT tkD b).2)) (ixS (opT tkD b).2).1 = some (rowsT (opT tkD b).2)) ∧ (spU ((rowsT (opT tkD b).2).map (·.sp))).all (okS b) = true ∧ teK ((spU ((rowsT (opT tkD b).2).map (·.sp))).map (ofS b)) [] = (0, (opT tkD b).2)) := fun z => by
    obtain ⟨z1, z2, z3⟩ := HP.out z
    exact opn_facts z1 z3 z2
  obtain ⟨⟨E1, ⟨i0, i1⟩, ⟨f0, f1⟩⟩, hft⟩ : ∃ x, ftE b = x := ⟨_, rfl⟩
  have hfoot := foot_t h hl
  rw [hft] at hfoot
  unfold spT at hfoot
  try simp only at hfoot
  have HFT := hid hft
  clear h hl hln hft
  go_enter Try.func12, Try.ntmps12
  go_wp2_with fail
  refine wp_scope_jumps 0 (fun a' w' => ∃ E : Nat, (E ≠ 0 ∧ (opT tkD b).1 ≠ 0 ∧ Below w.heap.size w w') ∧ ∃ (u0 u1 u2 u3 u4 u5 u6 u7 u8 u9 u11 u12 u13 u14 u15 u16 u17 u18 u19 u20 u21 u22 u23 u24 u25 u26 u27 u28 u29 u30 u31 u32 u33 u34 u35 u36 u37 u38 u39 u40 u41 u42 u43 u44 u45 u46 u47 u48 u49 u50 u51 u52 u53 u54 u55 u56 u57 u58 u59 u60 u61 u62 u63 u64 u65 u66 u67 u68 u69 u70 u71 u72 : Value), a' = { tmps := #[u0, u1, u2, u3, u4, u5, u6, u7, u8, u9, .int .i64 (E : Int), u11, u12, u13, u14, u15, u16, u17, u18, u19, u20, u21, u22, u23, u24, u25, u26, u27, u28, u29, u30, u31, u32, u33, u34, u35, u36, u37, u38, u39, u40, u41, u42, u43, u44, u45, u46, u47, u48, u49, u50, u51, u52, u53, u54, u55, u56, u57, u58, u59, u60, u61, u62, u63, u64, u65, u66, u67, u68, u69, u70, u71, u72], defers := [] }) (fun _ _ => 0) rfl ?_ ?_
  · go_upto_region 6 with (go_at_call 44; refine hfoot.mono ?_; rintro e w1 ⟨rfl, b1⟩)
    obtain ⟨W1, hW1⟩ : ∃ W, (w1.alloc (.cells #[.int .i64 (i0 : Int), .int .i64 (i1 : Int)] 74)).alloc (.cells #[.int .i64 (f0 : Int), .int .i64 (f1 : Int)] 74) = W := ⟨_, rfl⟩
    have hsz1 : (w1.alloc (.cells #[.int .i64 (i0 : Int), .int .i64 (i1 : Int)] 74)).heap.size = w1.heap.size + 1 := by simp
    have bA : Below w1.heap.size w1 (w1.alloc (.cells #[.int .i64 (i0 : Int), .int .i64 (i1 : Int)] 74)) := (Below.refl _ _).alloc (Nat.le_refl _) _
    have bB : Below (w1.heap.size + 1) (w1.alloc (.cells #[.int .i64 (i0 : Int), .int .i64 (i1 : Int)] 74)) W1 := by rw [← hW1, ← hsz1]; exact (Below.refl _ _).alloc (Nat.le_refl _) _
    have hbi : W1.heap[w1.heap.size]? = some (.cells #[.int .i64 (i0 : Int), .int .i64 (i1 : Int)] 74 (0, 0)) := by rw [bB.block _ (by omega)]; exact heap_alloc_new w1 _
    have hbf : W1.heap[w1.heap.size + 1]? = some (.cells #[.int .i64 (f0 : Int), .int .i64 (f1 : Int)] 74 (0, 0)) := by rw [← hW1, ← hsz1]; exact heap_alloc_new _ _
    have B1 : Below w.heap.size w W1 := b1.trans ((bA.trans (bB.mono (by omega))).mono b1.size)
    have HBX : Hid (∀ wx, Below W1.heap.size W1 wx → wx.cell? ⟨w1.heap.size, 0, none⟩ = some (.int .i64 (i0 : Int)) ∧ wx.cell? ⟨w1.heap.size, 1, none⟩ = some (.int .i64 (i1 : Int)) ∧ wx.cell? ⟨w1.heap.size + 1, 0, none⟩ = some (.int .i64 (f0 : Int)) ∧ wx.cell? ⟨w1.heap.size + 1, 1, none⟩ = some (.int .i64 (f1 : Int))) := fun wx hb =>
      ⟨cell_later hb (by rw [cell_of hbi]; rfl), cell_later hb (by rw [cell_of hbi]; rfl), cell_later hb (by rw [cell_of hbf]; rfl), cell_later hb (by rw [cell_of hbf]; rfl)⟩
    have HB1 := hid B1
    rw [hW1]
    clear hW1 hsz1 bA bB hbi hbf B1 b1 hfoot
    by_cases q1 : E1 = 0
    · subst q1
      obtain ⟨hin1, hin2, hin3⟩ := ftE_in HFT.out
      rw [HS.out.2.2.1] at hin1 hin2 hin3
      replace hin2 : i0 + i1 + 4 ≤ len := hin2
      replace hin3 : f0 + f1 + 4 ≤ len := hin3
      have hlen5 := HS.out.2.1
      obtain ⟨x0, x1, x2, x3⟩ := HBX.out W1 (Below.refl _ _)
      obtain ⟨C1, hC1⟩ : ∃ C : Int, C = if [(i0, i1), (f0, f1)].all (okS b) = true then 0 else 4 := ⟨_, rfl⟩
      have bT : Below W1.heap.size W1 (W1.alloc (.cells #[.int .i64 (i0 : Int), .int .i64 (i1 : Int), .int .i64 (f0 : Int), .int .i64 (f1 : Int)] 74)) := (Below.refl _ _).alloc (Nat.le_refl _) _
      have hcs := csum_t ((HS.out.1.later HB1.out).later bT) HS.out.2.1 (spn_two W1 (i0, i1) (f0, f1)) (by omega) (fun s hs => by
        simp only [List.mem_cons, List.not_mem_nil, or_false] at hs
        rcases hs with rfl | rfl
        · exact hin2
        · exact hin3) hC1
      try simp only at hcs
      have HBT := hid bT
      have HC1 := hid hC1
      clear hC1
      have HIN : Hid (i0 + i1 + 4 ≤ len ∧ f0 + f1 + 4 ≤ len ∧ len ≤ 5000000) := ⟨hin2, hin3, hlen5⟩
      clear bT
      go_upto_region 8 with (go_at_call 45; refine hcs.mono ?_; rintro e w2 ⟨rfl, b2⟩)
      have HBX2 := hid (HBT.out.trans (b2.mono HBT.out.size))
      have HB2 := hid (HB1.out.trans (HBX2.out.mono HB1.out.size))
      clear hcs b2 x0 x1 x2 x3 HBT
      by_cases q2 : [(i0, i1), (f0, f1)].all (okS b) = true
      · have hC1 : C1 = 0 := by have := HC1.out; rw [if_pos q2] at this; exact this
        subst hC1
        clear HC1
        have hsl := (HS.out.1.later HB2.out).cut i0 (i0 + i1) (by omega) (by omega)
        rw [show i0 + i1 - i0 = i1 by omega] at hsl
        have HSX : Hid (∀ wx, Below w2.heap.size w2 wx → Sl wx (cutA ao cap i0) i1 (cap - i0) (ofS b (i0, i1))) := fun wx hb => hsl.later hb
        have HOF : Hid (∀ wx, Calls Try.prog 47 #[.agg #[.int .i64 (i0 : Int), .int .i64 (i1 : Int)], .slice ao len cap] wx fun e w' => e = .returned (.slice (cutA ao cap i0) i1 (cap - i0)) ∧ Below wx.heap.size wx w') := fun wx => spof_t (by have := HS.out.2.2.2; omega) (by omega) (by omega)
        have hol : (ofS b (i0, i1)).length = i1 := hsl.1
        obtain ⟨O, hO⟩ : ∃ O, O = ixT i1 (ofS b (i0, i1)) i0 := ⟨_, rfl⟩
        have HIX : Hid (∀ wx, Sl wx (cutA ao cap i0) i1 (cap - i0) (ofS b (i0, i1)) → Calls Try.prog 46 #[.slice (cutA ao cap i0) i1 (cap - i0), .int .i64 (i0 : Int)] wx fun e w' => IxR O e w' ∧ Below wx.heap.size wx w') := fun wx hs => by rw [hO]; exact index_t hs (by have := HIN.out; omega) (by have := HIN.out; omega) (Nat.le_refl _)
        have HOO : Hid (O = ixT i1 (ofS b (i0, i1)) i0 ∧ (ofS b (i0, i1)).length = i1) := ⟨hO, hol⟩
        have HQ2 := hid q2
        have HBD : Hid (Below w2.heap.size w2 w2.drew) := (Below.refl _ w2).drew
        have HY : Hid (∀ wx, Below w2.heap.size w2 wx → wx.cell? ⟨w1.heap.size, 0, none⟩ = some (.int .i64 (i0 : Int)) ∧ wx.cell? ⟨w1.heap.size, 1, none⟩ = some (.int .i64 (i1 : Int))) := fun wx hb => by
          obtain ⟨a1, a2, _, _⟩ := HBX.out wx (HBX2.out.trans (hb.mono HBX2.out.size))
          exact ⟨a1, a2⟩
        obtain ⟨y0, y1⟩ := HY.out w2 (Below.refl _ _)
        have hi62 : i0 ≤ 2 ^ 60 := by omega
        have hi63 : i1 ≤ 2 ^ 60 := by omega
        generalize cutA ao cap i0 = ca at HSX HOF HIX
        generalize cap - i0 = cc at HSX HOF HIX
        clear hsl hol hO q2 hin1 hin2 hin3 hlen5
        have HIN2 : Hid (∀ wx, Sl wx ca i1 cc (ofS b (i0, i1)) → Calls Try.prog 46 #[.slice ca i1 cc, .int .i64 (i0 : Int)] wx fun e w' => ∃ (v : Value) (E3 : Nat), e = .returned (.tuple #[v, .int .i64 (E3 : Int)]) ∧ ((E3 = 3 ∧ O = none) ∨ (E3 = 0 ∧ ∃ rows, O = some rows ∧ RSV rowE w' v rows)) ∧ Below wx.heap.size wx w') := fun wx hs => (HIX.out wx hs).mono fun e w' ⟨hR, hb⟩ => by
          rcases hR with ⟨hz, rfl⟩ | ⟨rs, v, hz, rfl, hrs⟩
          · exact ⟨_, 3, rfl, .inl ⟨rfl, hz⟩, hb⟩
          · exact ⟨v, 0, rfl, .inr ⟨rfl, rs, hz, hrs⟩, hb⟩
        clear HIX
        go_upto_region 9 with fail
        go_region_held_law (fun w' => w'.cell? ⟨w1.heap.size, 0, none⟩ = some (.int .i64 (i0 : Int)) ∧ w'.cell? ⟨w1.heap.size, 1, none⟩ = some (.int .i64 (i1 : Int))) (first | exact HY.out _ B6 | exact HY.out _ B5 | exact HY.out _ HBD.out | exact ⟨y0, y1⟩) (first | (go_at_call 47; refine (HOF.out _).mono ?_; rintro e w5 ⟨rfl, b5⟩; have B5 := HBD.out.trans (b5.mono HBD.out.size); clear b5) | (go_at_call 46; refine (HIN2.out _ (HSX.out _ B5)).mono ?_; rintro e w6 ⟨v6, E3, rfl, hR6, b6⟩; have B6 := B5.trans (b6.mono B5.size); clear b6))
        all_goals
          have HB6 := hid (HB2.out.trans (B6.mono HB2.out.size))
          have HBX6 := hid (HBX2.out.trans (B6.mono HBX2.out.size))
          clear B5 B6 y0 y1 HIN2 HSX HOF HY HBD HB2 HBX2 HB1
          rcases hR6 with ⟨rfl, hO⟩ | ⟨rfl, rows, hO, a6, c6, rfl, rs6⟩
          · have HNP : Hid ((opT tkD b).1 ≠ 0) := fun z => by
              obtain ⟨z1, z2, z3, z4, z5, z6⟩ := HPF.out z
              rw [HFT.out] at z1
              simp only [Prod.mk.injEq, true_and] at z1
              rw [← z1.1] at z4
              have := z4 i1 (by rw [HOO.out.2]; exact Nat.le_refl _)
              have h9 := HOO.out.1
              simp only at this
              rw [this, hO] at h9
              cases h9
            clear hO HPF HP
            go_wp2_with fail
            go_step3
            exact ⟨rfl, 3, ⟨by decide, HNP.out, HB6.out⟩, _, _, _, _, _, _, _, _, _, _, _, _, _, _, _, _, _, _, _, _, _, _, _, _, _, _, _, _, _, _, _, _, _, _, _, _, _, _, _, _, _, _, _, _, _, _, _, _, _, _, _, _, _, _, _, _, _, _, _, _, _, _, _, _, _, _, _, _, _, _, _, _, rfl⟩
          · obtain ⟨hri, hrl⟩ := ixT_in (HOO.out.1.symm.trans hO)
            rw [HOO.out.2] at hrl
            have HRI : Hid ((∀ r ∈ rows, r.sp.1 + r.sp.2 + 4 ≤ i0) ∧ rows.length ≤ 5000000 ∧ i0 ≤ 5000000) := ⟨hri, by have := HIN.out; omega, by have := HIN.out; omega⟩
            have HROW : Hid (∀ l, tblE l = 0 → tblB l = b → (∀ e ∈ l, OkE e) → rows = rowsT l ∧ (f0, f1) = flS l ∧ opT tkD b = (0, l)) := fun l z1 z2 z3 => by
              obtain ⟨y1, y2, y3, y4, y5, y6⟩ := opn_facts z1 z3 z2
              rw [HFT.out] at y1
              simp only [Prod.mk.injEq, true_and] at y1
              rw [← y1.1] at y4
              have := y4 i1 (by rw [HOO.out.2]; exact Nat.le_refl _)
              have h9 := HOO.out.1
              simp only at this
              rw [this, hO] at h9
              cases h9
              refine ⟨rfl, y1.2, ?_⟩
              rw [← z2]
              exact opT_of_tbl z1 z3
            have HRP : Hid ((opT tkD b).1 = 0 → rows = rowsT (opT tkD b).2) := fun z => by
              obtain ⟨z1, z2, z3⟩ := HP.out z
              exact (HROW.out _ z1 z2 z3).1
            have HRS6 := hid rs6
            obtain ⟨RL, hRL⟩ : ∃ n, n = rows.length := ⟨_, rfl⟩
            rw [← hRL] at HRS6 ⊢
            have HRL : Hid (RL = rows.length ∧ RL ≤ 5000000) := ⟨hRL, by rw [hRL]; exact HRI.out.2.1⟩
            have hRL62 : RL ≤ 2 ^ 60 := by have := HRL.out.2; omega
            clear rs6 hri hrl hRL hO
            have hspn := spans_t HRS6.out HRL.out.2 (fun r hr => by have := HRI.out.1 r hr; have := HRI.out.2.2; exact ⟨by omega, by omega⟩)
            go_upto_region 12 with (go_at_call 48; refine hspn.mono ?_; rintro e w7 ⟨v7, rfl, ⟨a7, c7, rfl, rs7⟩, b7⟩)
            obtain ⟨SS, hSS⟩ : ∃ S, S = spU (rows.map (·.sp)) := ⟨_, rfl⟩
            rw [← hSS] at rs7 ⊢
            have HSS := hid hSS
            have hsl : SS.length ≤ 5000000 := by rw [hSS]; have := spU_len (rows.map (·.sp)); rw [List.length_map] at this; have := HRI.out.2.1; omega
            have HSI : Hid (∀ s ∈ SS, s.1 + s.2 + 4 ≤ len) := fun s hs => by
              rw [hSS] at hs
              obtain ⟨r, hr, rfl⟩ := List.mem_map.1 (spU_mem.1 hs)
              have := HRI.out.1 r hr
              have := HIN.out
              omega
            have HB7 := hid (HB6.out.trans (b7.mono HB6.out.size))
            have HBX7 := hid (HBX6.out.trans (b7.mono HBX6.out.size))
            have HRS7 := hid (HRS6.out.later b7)
            have HSP7 := hid rs7
            obtain ⟨SL, hSL⟩ : ∃ n, n = SS.length := ⟨_, rfl⟩
            rw [← hSL] at HSP7 hsl ⊢
            have hSL62 : SL ≤ 2 ^ 60 := by omega
            obtain ⟨C2, hC2⟩ : ∃ C : Int, C = if SS.all (okS b) = true then 0 else 4 := ⟨_, rfl⟩
            have hcs2 := csum_t (HS.out.1.later HB7.out) HS.out.2.1 HSP7.out (by omega) HSI.out hC2
            have HC2 := hid hC2
            have HSL : Hid (SL ≤ 5000000) := hsl
            clear hspn rs7 b7 hSS hSL hsl hC2 HB6 HBX6 HRS6
            go_upto_region 13 with (go_at_call 45; refine hcs2.mono ?_; rintro e w8 ⟨rfl, b8⟩)
            have HB8 := hid (HB7.out.trans (b8.mono HB7.out.size))
            have HBX8 := hid (HBX7.out.trans (b8.mono HBX7.out.size))
            have HRS8 := hid (HRS7.out.later b8)
            have HSP8 := hid (HSP7.out.later b8)
            clear hcs2 b8 HB7 HBX7 HRS7 HSP7
            by_cases q4 : SS.all (okS b) = true
            · have hC2 : C2 = 0 := by have := HC2.out; rw [if_pos q4] at this; exact this
              subst hC2
              clear HC2 q4
              have hen := ents_t (HS.out.1.later HB8.out) HS.out.2.1 HSP8.out (by have := HSL.out; omega) HSI.out
              obtain ⟨⟨E5, L⟩, hT⟩ : ∃ T, teK (SS.map (ofS b)) [] = T := ⟨_, rfl⟩
              have hLl : L.length ≤ 4401 := by have := teK_len (SS.map (ofS b)) [] (by simp); rw [hT] at this; exact this
              rw [hT] at hen
              replace hen : Calls Try.prog 49 #[.slice ao len cap, .slice a7 SL c7] w8 fun e w' => ∃ v, e = .returned (.tuple #[v, .int .i64 (E5 : Int)]) ∧ RSV entE w' v L ∧ Below w8.heap.size w8 w' := hen
              have HT := hid hT
              have HLL : Hid (L.length ≤ 4401) := hLl
              clear hT hLl
              go_upto_region 15 with (go_at_call 49; refine hen.mono ?_; rintro e w9 ⟨v9, rfl, ⟨a9, c9, rfl, rs9⟩, b9⟩)
              have HB9 := hid (HB8.out.trans (b9.mono HB8.out.size))
              have HBX9 := hid (HBX8.out.trans (b9.mono HBX8.out.size))
              have HRS9 := hid (HRS8.out.later b9)
              have HEN9 := hid rs9
              clear hen b9 rs9 HB8 HBX8 HRS8 HSP8
              by_cases q5 : E5 = 0
              · subst q5
                have hbu := build_t HEN9.out (by have := HLL.out; omega)
                have HOK9 := hid HEN9.out.okET
                obtain ⟨LL, hLL⟩ : ∃ n, n = L.length := ⟨_, rfl⟩
                rw [← hLL] at hbu ⊢
                have HLE := hid hLL
                have hLL62 : LL ≤ 2 ^ 60 := by have := HLL.out; omega
                obtain ⟨E6, hE6⟩ : ∃ E, E = tblE L := ⟨_, rfl⟩
                rw [← hE6] at hbu
                have HE6 := hid hE6
                obtain ⟨X, hX⟩ : ∃ X, X = (if E6 = 0 then tblB L else []) := ⟨_, rfl⟩
                rw [← hX] at hbu
                have HX := hid hX
                clear hLL hE6 hX
                go_upto_region 17 with (go_at_call 9; refine hbu.mono ?_; rintro e w10 ⟨v10, rfl, ⟨a10, c10, rfl, s10⟩, b10⟩)
                have HB10 := hid (HB9.out.trans (b10.mono HB9.out.size))
                have HBX10 := hid (HBX9.out.trans (b10.mono HBX9.out.size))
                have HRS10 := hid (HRS9.out.later b10)
                have HS10 := hid s10
                have heq := eql_m s10 (HS.out.1.later HB10.out)
                obtain ⟨XL, hXL⟩ : ∃ n, n = X.length := ⟨_, rfl⟩
                rw [← hXL] at heq HS10 ⊢
                have HXL := hid hXL
                clear hbu b10 s10 HB9 HBX9 HRS9 hXL
                by_cases q6 : E6 = 0
                · subst q6
                  by_cases q7 : X = b
                  · rw [decide_eq_true q7] at heq
                    have hXt : X = tblB L := by have := HX.out; rw [if_pos rfl] at this; exact this
                    have HG : Hid (tblE L = 0 ∧ tblB L = b ∧ (∀ e ∈ L, OkE e)) := ⟨HE6.out.symm, by rw [← hXt]; exact q7, HOK9.out⟩
                    obtain ⟨g1, g2, g3⟩ := HROW.out L HG.out.1 HG.out.2.1 HG.out.2.2
                    obtain ⟨x0, x1, x2, x3⟩ := HBX.out w10 HBX10.out
                    have bF : Below w10.heap.size w10 (w10.alloc (.cells #[.slice a10 XL c10, .slice a6 RL c6, .int .i64 (f0 : Int), .int .i64 (f1 : Int), .int .i64 (LL : Int)] 84)) := (Below.refl _ _).alloc (Nat.le_refl _) _
                    have hl1 : XL = (tblB L).length := by rw [HXL.out, hXt]
                    have hl2 : RL = (rowsT L).length := by rw [HRL.out.1, g1]
                    have hl3 : f0 = (flS L).1 ∧ f1 = (flS L).2 := by rw [← g2]; exact ⟨rfl, rfl⟩
                    have HRT : Hid (RTb (w10.alloc (.cells #[.slice a10 XL c10, .slice a6 RL c6, .int .i64 (f0 : Int), .int .i64 (f1 : Int), .int .i64 (LL : Int)] 84)) w10.heap.size L) := by
                      refine ⟨HG.out.1, HG.out.2.2, a10, c10, a6, c6, ?_, ?_, ?_⟩
                      · rw [← hl1, ← hl2, ← hl3.1, ← hl3.2, ← HLE.out]
                        exact heap_alloc_new w10 _
                      · rw [← hl1, ← hXt]
                        exact HS10.out.later bF
                      · rw [← hl2, ← g1]
                        exact HRS10.out.later bF
                    have HB11 := hid (HB10.out.trans (bF.mono HB10.out.size))
                    have HOP := hid g3
                    clear q7 HPF HP HROW HRP HX HT hXt g1 g2 g3 hl1 hl2 hl3 bF
                    go_wp2_with (go_at_call 50; refine heq.mono ?_; rintro e w11 ⟨rfl, hw⟩; obtain rfl := hw.symm)
                    simp only [Exit.jump]
                    exact bodyPost_ret (v := .tuple #[.pointer (some ⟨w10.heap.size, 0, none⟩), .int .i64 0]) (by simp [results, Try.results12, go_sem]) rfl ⟨⟨_, 0, rfl, ⟨fun _ => by rw [HOP.out], fun _ => rfl⟩, fun z => absurd rfl z, fun _ => ⟨_, rfl, by rw [HOP.out]; exact HRT.out⟩⟩, HB11.out⟩
                  · rw [decide_eq_false q7] at heq
                    have HNP : Hid ((opT tkD b).1 ≠ 0) := fun z => by
                      obtain ⟨z1, z2, z3⟩ := HP.out z
                      obtain ⟨_, _, _, _, _, z6⟩ := HPF.out z
                      rw [← HRP.out z, ← HSS.out, HT.out] at z6
                      simp only [Prod.mk.injEq, true_and] at z6
                      have hXt : X = tblB L := by have := HX.out; rw [if_pos rfl] at this; exact this
                      exact q7 (by rw [hXt, z6, z2])
                    clear q7 HPF HP HROW HRP HX HT
                    go_wp2_with (go_at_call 50; refine heq.mono ?_; rintro e w11 ⟨rfl, hw⟩; obtain rfl := hw.symm)
                    go_step3
                    exact ⟨rfl, 3, ⟨by decide, HNP.out, HB10.out⟩, _, _, _, _, _, _, _, _, _, _, _, _, _, _, _, _, _, _, _, _, _, _, _, _, _, _, _, _, _, _, _, _, _, _, _, _, _, _, _, _, _, _, _, _, _, _, _, _, _, _, _, _, _, _, _, _, _, _, _, _, _, _, _, _, _, _, _, _, _, _, _, _, rfl⟩
                · have HNP : Hid ((opT tkD b).1 ≠ 0) := fun z => by
                    obtain ⟨z1, z2, z3⟩ := HP.out z
                    obtain ⟨_, _, _, _, _, z6⟩ := HPF.out z
                    rw [← HRP.out z, ← HSS.out, HT.out] at z6
                    simp only [Prod.mk.injEq, true_and] at z6
                    exact q6 (by rw [HE6.out, z6, z1])
                  have q6' : ¬ ((E6 : Int) = 0) := by omega
                  clear q6 HPF HP HROW HRP HX HT heq
                  go_wp2_with fail
                  go_step3
                  exact ⟨rfl, 3, ⟨by decide, HNP.out, HB10.out⟩, _, _, _, _, _, _, _, _, _, _, _, _, _, _, _, _, _, _, _, _, _, _, _, _, _, _, _, _, _, _, _, _, _, _, _, _, _, _, _, _, _, _, _, _, _, _, _, _, _, _, _, _, _, _, _, _, _, _, _, _, _, _, _, _, _, _, _, _, _, _, _, _, rfl⟩
              · have HNP : Hid ((opT tkD b).1 ≠ 0) := fun z => by
                  obtain ⟨_, _, _, _, _, z6⟩ := HPF.out z
                  rw [← HRP.out z, ← HSS.out, HT.out] at z6
                  simp only [Prod.mk.injEq] at z6
                  exact q5 z6.1
                have HQ5 := hid q5
                have q5' : ¬ ((E5 : Int) = 0) := by omega
                clear q5 HPF HP HROW HRP HT
                go_wp2_with fail
                go_step3
                exact ⟨rfl, E5, ⟨HQ5.out, HNP.out, HB9.out⟩, _, _, _, _, _, _, _, _, _, _, _, _, _, _, _, _, _, _, _, _, _, _, _, _, _, _, _, _, _, _, _, _, _, _, _, _, _, _, _, _, _, _, _, _, _, _, _, _, _, _, _, _, _, _, _, _, _, _, _, _, _, _, _, _, _, _, _, _, _, _, _, _, rfl⟩
            · have hC2 : C2 = 4 := by have := HC2.out; rw [if_neg q4] at this; exact this
              subst hC2
              have HNP : Hid ((opT tkD b).1 ≠ 0) := fun z => by
                obtain ⟨_, _, _, _, z5, _⟩ := HPF.out z
                rw [← HRP.out z, ← HSS.out] at z5
                exact q4 z5
              clear HC2 q4 HPF HP HROW HRP
              go_wp2_with fail
              go_step3
              exact ⟨rfl, 4, ⟨by decide, HNP.out, HB8.out⟩, _, _, _, _, _, _, _, _, _, _, _, _, _, _, _, _, _, _, _, _, _, _, _, _, _, _, _, _, _, _, _, _, _, _, _, _, _, _, _, _, _, _, _, _, _, _, _, _, _, _, _, _, _, _, _, _, _, _, _, _, _, _, _, _, _, _, _, _, _, _, _, _, rfl⟩
      · have hC1 : C1 = 4 := by have := HC1.out; rw [if_neg q2] at this; exact this
        subst hC1
        have HNP : Hid ((opT tkD b).1 ≠ 0) := fun z => by
          obtain ⟨z1, z2, z3, _⟩ := HPF.out z
          rw [HFT.out] at z1
          simp only [Prod.mk.injEq, true_and] at z1
          rw [← z1.1] at z2
          rw [← z1.2] at z3
          exact q2 (by simp [z2, z3])
        clear HC1 q2 hin1 hin2 hin3 hlen5
        go_wp2_with fail
        go_step3
        exact ⟨rfl, 4, ⟨by decide, HNP.out, HB2.out⟩, _, _, _, _, _, _, _, _, _, _, _, _, _, _, _, _, _, _, _, _, _, _, _, _, _, _, _, _, _, _, _, _, _, _, _, _, _, _, _, _, _, _, _, _, _, _, _, _, _, _, _, _, _, _, _, _, _, _, _, _, _, _, _, _, _, _, _, _, _, _, _, _, rfl⟩
    · have HNP : Hid ((opT tkD b).1 ≠ 0) := fun z => by
        obtain ⟨z1, _⟩ := HPF.out z
        rw [HFT.out] at z1
        simp only [Prod.mk.injEq] at z1
        exact q1 z1.1
      have HQ1 := hid q1
      have q1' : ¬ ((E1 : Int) = 0) := by omega
      clear q1
      go_wp2_with fail
      go_step3
      exact ⟨rfl, E1, ⟨HQ1.out, HNP.out, HB1.out⟩, _, _, _, _, _, _, _, _, _, _, _, _, _, _, _, _, _, _, _, _, _, _, _, _, _, _, _, _, _, _, _, _, _, _, _, _, _, _, _, _, _, _, _, _, _, _, _, _, _, _, _, _, _, _, _, _, _, _, _, _, _, _, _, _, _, _, _, _, _, _, _, _, rfl⟩
  · rintro a' w' ⟨E, ⟨hE, hNP, hB⟩, u0, u1, u2, u3, u4, u5, u6, u7, u8, u9, u11, u12, u13, u14, u15, u16, u17, u18, u19, u20, u21, u22, u23, u24, u25, u26, u27, u28, u29, u30, u31, u32, u33, u34, u35, u36, u37, u38, u39, u40, u41, u42, u43, u44, u45, u46, u47, u48, u49, u50, u51, u52, u53, u54, u55, u56, u57, u58, u59, u60, u61, u62, u63, u64, u65, u66, u67, u68, u69, u70, u71, u72, rfl⟩
    have HF := hid (And.intro hE (And.intro hNP hB))
    clear hE hNP hB
    go_wp2_with fail
    simp only [Exit.jump]
    exact bodyPost_ret (v := .tuple #[.pointer none, .int .i64 (E : Int)]) (by simp [results, Try.results12, go_sem]) rfl ⟨⟨.pointer none, E, rfl, ⟨fun z => absurd z HF.out.1, fun z => absurd z HF.out.2.1⟩, fun _ => rfl, fun z => absurd z HF.out.1⟩, HF.out.2.2⟩
end Go.Proofs.Ytfecopldepnicaa
