import Derived.Maps.Own
import Derived.Maps.Views
import Derived.WideKeyEntry
import Derived.DeepKeys4
import Derived.Test.YtimpaindbbjieaaPk24
import Derived.Test.YtimpaindbbjieaaPk33
import Derived.Test.YtimpaindbbjieaaPk35
import Derived.Test.YtimpaindbbjieaaPk37
/- Maps from parts to numbers: one more for a key. -/
namespace Go.Proofs.Ytimpaindbbjieaa
open Go.RowKit
open Go.WideElems (Fit rd rg pl rd_val elemAt entry_then_store)
open Go.Maps (Keyed)
open Go.ChangeMaps Go.MapKept
set_option linter.unusedVariables false
set_option linter.unusedSimpArgs false

theorem laidT : laidOutB Try.prog = true := by kernel_rfl
theorem spn_wide : (match Try.prog.underlying 74 with | some (.array _ _) | some (.struct _) => true | _ => false) = true := by kernel_rfl
theorem spn_row : (74 : TypeId) < Try.prog.types.size := of_decide_eq_true (by kernel_rfl)
set_option maxRecDepth 100000 in
theorem spn_law : WideMaps.KeyLaw Try.prog 74 := deep_law_laid laidT (m := 3) (by omega) spn_row (by kernel_rfl) spn_wide
theorem zero3 (w : World) : (zeroValue 3).run Try.prog w = .ok (.int .i64 0) w := by kernel_rfl
def spK (p q : Nat) : Value := .agg #[.int .i64 (p : Int), .int .i64 (q : Int)]
theorem wf64 {x : Int} (h : -9223372036854775808 ≤ x ∧ x ≤ 9223372036854775807) : (Lit.int .i64 x).wf = true := by
  have e1 : IntKind.i64.min = -9223372036854775808 := by decide
  have e2 : IntKind.i64.max = 9223372036854775807 := by decide
  simp only [Lit.wf, e1, e2, Bool.and_eq_true, decide_eq_true_eq]
  exact h
theorem spn_lits (d : Nat) (p q : Nat) (hp : p ≤ 2 ^ 60) (hq : q ≤ 2 ^ 60) : Try.prog.keyLits (d + 2) 74 [.int .i64 (p : Int), .int .i64 (q : Int)] = some [.int .i64 (p : Int), .int .i64 (q : Int)] := by
  have h1 : (Lit.int .i64 (p : Int)).wf = true := wf64 (by omega)
  have h2 : (Lit.int .i64 (q : Int)).wf = true := wf64 (by omega)
  have hc : Try.prog.cellsOf 74 = 2 := by kernel_rfl
  have hc3 : Try.prog.cellsOf 3 = 1 := by kernel_rfl
  have h3 : ∀ (x : Int), (Lit.int .i64 x).wf = true → Try.prog.keyLits (d + 1) 3 [.int .i64 x] = some [.int .i64 x] := fun x hx => by
    unfold Program.keyLits
    rw [Try.underlying3]
    simp [hx]
  unfold Program.keyLits
  rw [Try.underlying74]
  simp [hc, hc3, h3 _ h1, h3 _ h2]
theorem spn_key (p q : Nat) (hp : p ≤ 2 ^ 60) (hq : q ≤ 2 ^ 60) : ∃ l, keyOf Try.prog 74 (spK p q) = some l := by
  have hk : Try.prog.keyType 74 = true := by kernel_rfl
  have hc : Try.prog.cellsOf 74 = 2 := by kernel_rfl
  obtain ⟨d, hd⟩ : ∃ d, Try.prog.types.size + 1 = d + 2 := by
    have h0 : 1 ≤ Try.prog.types.size := Nat.lt_of_le_of_lt (Nat.zero_le _) spn_row
    generalize Try.prog.types.size = n at h0
    exact ⟨n - 1, by omega⟩
  refine ⟨.string (keyBytes [.int .i64 (p : Int), .int .i64 (q : Int)]), ?_⟩
  unfold keyOf spK
  rw [Try.underlying74, hd]
  simp only [hk, Value.formed, Try.underlying74, hc, Value.cells]
  rw [spn_lits d p q hp hq]
  rfl
theorem spK_inj {p q p' q' : Nat} (h : spK p q = spK p' q') : (p, q) = (p', q') := by
  unfold spK at h
  simp only [Value.agg.injEq, Array.mk.injEq, List.cons.injEq, Value.int.injEq, true_and, and_true] at h
  simp only [Prod.mk.injEq]
  omega
/-- What a map from parts to numbers tells. -/
def spD (D : DataW Unit) (f : Nat × Nat → Nat) : Prop := ∀ p q l, p ≤ 2 ^ 60 → q ≤ 2 ^ 60 → keyOf Try.prog 74 (spK p q) = some l → D.atKey l (.lit (.int .i64 0)) = .lit (.int .i64 (f (p, q) : Int))
def MapS (w : World) (b n : Nat) (f : Nat × Nat → Nat) : Prop := ∃ D : DataW Unit, w.ownsMap Try.prog 74 (plainElem Try.prog 3) b n D ∧ Maps.IsMap D ∧ spD D f
theorem under3 : Try.prog.underlying 3 = some (.int .i64) := Try.underlying3
theorem underM : Try.prog.underlying 110 = some (.map 74 3) := Try.underlying110
theorem mapS_new (w : World) : MapS (w.alloc (.map #[] 0)) w.heap.size 0 (fun _ => 0) := ⟨.map [], World.ownsMap_made w _ _ _, Maps.isMap_empty, fun p q l _ _ _ => rfl⟩
theorem MapS.look {w : World} {b n : Nat} {f : Nat × Nat → Nat} (h : MapS w b n f) {p q : Nat} (hp : p ≤ 2 ^ 60) (hq : q ≤ 2 ^ 60) : (Instr.lookup 110 (.map (some b)) (spK p q) false).run Try.prog w = .ok (.int .i64 (f (p, q) : Int)) w := by
  obtain ⟨D, h1, h2, h3⟩ := h
  obtain ⟨l, hl⟩ := spn_key p q hp hq
  obtain ⟨c, r1, r2, r3⟩ := h1.lookup_int (Maps.Keyed.of_law spn_law) underM under3 (zero3 w) hl
  rw [h3 p q l hp hq hl] at r2
  simp only [DataW.lit.injEq, Lit.int.injEq, true_and] at r2
  rw [r1, r2]
theorem MapS.same {w w2 : World} {b n : Nat} {f : Nat × Nat → Nat} (h : MapS w b n f) (hb : w2.heap[b]? = w.heap[b]?) : MapS w2 b n f := by
  obtain ⟨D, ⟨es, clock, h1, h2⟩, h3⟩ := h
  exact ⟨D, ⟨es, clock, hb.trans h1, h2⟩, h3⟩
theorem MapS.lt {w : World} {b n : Nat} {f : Nat × Nat → Nat} (h : MapS w b n f) : b < w.heap.size := by
  obtain ⟨D, ⟨es, clock, h1, h2⟩, h3⟩ := h
  exact (Array.getElem?_eq_some_iff.1 h1).1
/-- A number for a key. -/
theorem MapS.put {w : World} {b n : Nat} {f : Nat × Nat → Nat} (h : MapS w b n f) (hn : n < 1000000000) {p q v : Nat} (hp : p ≤ 2 ^ 60) (hq : q ≤ 2 ^ 60) (hv : v ≤ 2 ^ 60) :
    ∃ w', (Instr.mapUpdate 110 (.map (some b)) (spK p q) (.int .i64 (v : Int))).run Try.prog w = .ok () w' ∧ MapS w' b (n + 1) (fun s => if s = (p, q) then v else f s) ∧ w.grownBy w' (some b) := by
  obtain ⟨D, h1, h2, h3⟩ := h
  obtain ⟨l, hl⟩ := spn_key p q hp hq
  have K := Maps.Keyed.of_law spn_law
  obtain ⟨w', r1, r2, r3⟩ := h1.update K underM (by unfold maxLen; omega) hl (plainElem_int under3 (wf64 (x := (v : Int)) (by omega)))
  refine ⟨w', r1, ⟨_, r2, ?_, fun p' q' l' hp' hq' hl' => ?_⟩, r3⟩
  · obtain ⟨es, rfl⟩ := h2
    exact ⟨_, rfl⟩
  · show _ = DataW.lit (Lit.int .i64 ((if (p', q') = (p, q) then v else f (p', q') : Nat) : Int))
    by_cases e : (p', q') = (p, q)
    · rw [if_pos e]
      simp only [Prod.mk.injEq] at e
      obtain ⟨rfl, rfl⟩ := e
      rw [hl] at hl'
      cases hl'
      exact Maps.atKey_put_same h2 (K.key hl) _ _
    · rw [if_neg e]
      have hne : l' ≠ l := fun z => by
        subst z
        exact e (spK_inj (K.inj hl' hl))
      rw [Maps.atKey_put_other hne]
      exact h3 p' q' l' hp' hq' hl'
theorem run_same {α : Type} {x : Result α} {a b : α} {w w' : World} (h : x = .ok a w) (g : x = .ok b w') : a = b ∧ w = w' := by
  rw [h] at g
  cases g
  exact ⟨rfl, rfl⟩
/-- One more for a key, where the entry is found first. -/
theorem MapS.inc {w : World} {b n : Nat} {f : Nat × Nat → Nat} (h : MapS w b n f) (hn : n < 1000000000) {p q : Nat} (hp : p ≤ 2 ^ 60) (hq : q ≤ 2 ^ 60) :
    ∃ (v0 : Value) (st : Nat) (w1 : World), (Instr.mapEntry 110 (.map (some b)) (spK p q)).run Try.prog w = .ok (.tuple #[v0, goInt st]) w1 ∧ w.grownBy w1 (some b) ∧ MapS w1 b (n + 1) f ∧
      ∀ (w2 : World) (v : Nat), v ≤ 2 ^ 60 → w2.heap[b]? = w1.heap[b]? → ∃ w3, (Instr.entryStore 110 (.map (some b)) (goInt st) (.int .i64 (v : Int))).run Try.prog w2 = .ok () w3 ∧ MapS w3 b (n + 1) (fun s => if s = (p, q) then v else f s) ∧ w2.grownBy w3 (some b) := by
  have hput := fun v hv => h.put hn (v := v) hp hq hv
  have h0 := h
  obtain ⟨D, ⟨es, clock, hb, F, hs, hDD⟩, hm, hD⟩ := h
  obtain ⟨l, hl⟩ := spn_key p q hp hq
  obtain ⟨v0, st, es1, clock1, hE, hcase, hS⟩ := entry_then_store spn_law underM (fun u => zero3 u) hb F hl
  have hgr : ∀ (x : World) (o : Obj) (es9 : Array MapEntry) (c9 : Nat), x.heap[b]? = some (.map es9 c9) → x.grownBy (setBlock x b o) (some b) := fun x o es9 c9 hy =>
    ⟨rfl, rfl, rfl, by simp [setBlock], fun i _ hi => heap_setBlock_other hy _ (fun e => hi (by rw [e]))⟩
  have hb1 : (setBlock w b (.map es1 clock1)).heap[b]? = some (.map es1 clock1) := heap_setBlock_same hb _
  refine ⟨v0, st, _, hE, hgr w _ _ _ hb, ?_, fun w2 v hv hw2 => ?_⟩
  · rcases spn_law.find w hl es.toList F.keys with ⟨f1, f2⟩ | ⟨j, e0, f1, f2, f3⟩
    · have hE2 : (Instr.mapEntry 110 (.map (some b)) (spK p q)).run Try.prog w = .ok (.tuple #[.int .i64 0, goInt clock]) (setBlock w b (.map (es.push ⟨spK p q, .int .i64 0, clock⟩) (clock + 1))) := by
        simp [Instr.mapEntry, run_underlying underM, MapKept.run_getObj_map hb, spn_law.check w false hl, f1, zero3, MapKept.run_setObj_map _ hb, Result.andThen, setBlock]
      obtain ⟨_, ew⟩ := run_same hE hE2
      rw [ew]
      obtain ⟨w', r1, r2, r3⟩ := hput 0 (by omega)
      have hU : (Instr.mapUpdate 110 (.map (some b)) (spK p q) (.int .i64 ((0 : Nat) : Int))).run Try.prog w = .ok () (setBlock w b (.map (es.push ⟨spK p q, .int .i64 0, clock⟩) (clock + 1))) := by
        simp [Instr.mapUpdate, run_underlying underM, MapKept.run_getObj_map hb, spn_law.check w false hl, f1, MapKept.run_setObj_map _ hb, Result.andThen, setBlock]
      obtain ⟨_, ew2⟩ := run_same r1 hU
      rw [← ew2]
      have hz : f (p, q) = 0 := by
        have h1 := hD p q l hp hq hl
        rcases Maps.fit_look false (Maps.Keyed.of_law spn_law) underM (zero3 w) hb F hl with ⟨_, _, hat⟩ | ⟨e0, y, hm0, hk0, _⟩
        · rw [hDD, hat] at h1
          simp only [DataW.lit.injEq, Lit.int.injEq, true_and] at h1
          omega
        · exact absurd hk0 (f2 e0 hm0)
      have hfe : (fun s => if s = (p, q) then 0 else f s) = f := by
        funext s
        by_cases e : s = (p, q)
        · rw [if_pos e, e, hz]
        · rw [if_neg e]
      rw [hfe] at r2
      exact r2
    · have hj : es[j]? = some e0 := by simpa using f2
      have hsame : es.modify j (fun e => { e with key := spK p q }) = es := by
        apply Array.ext'
        rw [Array.toList_modify, modify_eq_set _ _ _ _ f2]
        have : ({ e0 with key := spK p q } : MapEntry) = e0 := by rw [← f3]
        rw [this]
        exact WideElems.set_self _ _ _ f2
      have hE2 : (Instr.mapEntry 110 (.map (some b)) (spK p q)).run Try.prog w = .ok (.tuple #[e0.val, goInt e0.born]) (setBlock w b (.map es clock)) := by
        simp [Instr.mapEntry, run_underlying underM, MapKept.run_getObj_map hb, spn_law.check w false hl, f1, hj, f3, spn_law.stays w hl, hsame, MapKept.run_setObj_map _ hb, Result.andThen, setBlock]
      obtain ⟨_, ew⟩ := run_same hE hE2
      rw [ew]
      have : MapS (setBlock w b (.map es clock)) b n f := h0.same (by rw [heap_setBlock_same hb, hb])
      obtain ⟨D', q1, q2⟩ := this
      exact ⟨D', q1.mono (by omega), q2⟩
  · rw [hb1] at hw2
    obtain ⟨es', clock', r1, r2⟩ := hS w2 (.int .i64 (v : Int)) hw2
    obtain ⟨w', s1, s2, s3⟩ := hput v hv
    obtain ⟨_, ew⟩ := run_same r2 s1
    refine ⟨_, r1, s2.same ?_, hgr w2 _ _ _ hw2⟩
    rw [heap_setBlock_same hw2, ← ew, heap_setBlock_same hb]
end Go.Proofs.Ytimpaindbbjieaa

/- The landed table: where the blocks stand, each once. -/
namespace Go.Proofs.Ytimpaindbbjieaa
open Go.RowKit
set_option linter.unusedVariables false
set_option linter.unusedSimpArgs false

def cntS (l : List (Nat × Nat)) (s : Nat × Nat) : Nat := l.count s
theorem cntS_more (l : List (Nat × Nat)) (s : Nat × Nat) : (fun t => if t = s then cntS l s + 1 else cntS l t) = cntS (l ++ [s]) := by
  funext t
  unfold cntS
  rw [List.count_append]
  by_cases e : t = s
  · rw [if_pos e, e]; simp
  · rw [if_neg e, List.count_eq_zero_of_not_mem (l := [s]) (by simpa using e)]
    rfl
theorem cntS_zero (l : List (Nat × Nat)) (s : Nat × Nat) : cntS l s = 0 ↔ s ∉ spU l := by
  unfold cntS
  rw [List.count_eq_zero, spU_mem]
theorem cntS_le (l : List (Nat × Nat)) (s : Nat × Nat) : cntS l s ≤ l.length := List.count_le_length
theorem lay_spn {w : World} : ∀ {us : List Value} {xs : List (Nat × Nat)}, Lay spnE w us xs → ∀ u ∈ us, ∀ b, Refs u b → False
  | us, [], h, u, hu, b, hr => by rw [show us = [] from h] at hu; cases hu
  | us, x :: xs, h, u, hu, b, hr => by
    obtain ⟨vs, us', rfl, h1, h2⟩ := h
    rcases List.mem_append.1 hu with q | q
    · rw [show vs = [.int .i64 (x.1 : Int), .int .i64 (x.2 : Int)] from h1] at q
      simp only [List.mem_cons, List.not_mem_nil, or_false] at q
      rcases q with rfl | rfl <;> exact refs_int hr
    · exact lay_spn h2 u q b hr
set_option maxHeartbeats 4000000 in
set_option maxRecDepth 100000 in
theorem spans_t {w : World} {ra : Option Addr} {rl rc : Nat} {rows : List RowV} (h : RS rowE w ra rl rc rows) (hl : rl ≤ 5000000) (hp : ∀ r ∈ rows, r.sp.1 ≤ 2 ^ 60 ∧ r.sp.2 ≤ 2 ^ 60) :
    Calls Try.prog 48 #[.slice ra rl rc] w fun e w' => ∃ v, e = .returned v ∧ RSV spnE w' v (spU (rows.map (·.sp))) ∧ Below w.heap.size w w' := by
  have hln : rows.length = rl := h.len.1
  have HS : Hid (RS rowE w ra rl rc rows ∧ rows.length = rl ∧ rl ≤ 5000000 ∧ ∀ r ∈ rows, r.sp.1 ≤ 2 ^ 60 ∧ r.sp.2 ≤ 2 ^ 60) := ⟨h, hln, hl, hp⟩
  obtain ⟨W0, hW0⟩ : ∃ W, w.alloc (.map #[] 0) = W := ⟨_, rfl⟩
  have hsz0 : W0.heap.size = w.heap.size + 1 := by rw [← hW0]; simp
  have H0 : Hid (RowS spnE (w.heap.size + 1) W0 (.slice none 0 0) (spU ((rows.take 0).map (·.sp))) ∧ Below w.heap.size w W0 ∧ MapS W0 w.heap.size 0 (cntS ((rows.take 0).map (·.sp))) ∧ w.heap.size + 1 ≤ W0.heap.size) := by
    refine ⟨RowS.nil _ _, by rw [← hW0]; exact (Below.refl _ _).alloc (Nat.le_refl _) _, ?_, by omega⟩
    have := mapS_new w
    rw [hW0] at this
    exact this
  have hmk := run_makeMap (P := Try.prog)
  have hl62 : rl ≤ 2 ^ 61 := by omega
  clear h hp
  go_enter Try.func48, Try.ntmps48
  go_wp2_with fail
  go_loopg [3, 6, 10] rl (fun g v _ i wr => ∃ k : Nat, k + g = rl ∧ i = .int .i64 (k : Int) ∧ Hid (RowS spnE (w.heap.size + 1) wr v (spU ((rows.take k).map (·.sp))) ∧ Below w.heap.size w wr ∧ MapS wr w.heap.size k (cntS ((rows.take k).map (·.sp))) ∧ w.heap.size + 1 ≤ wr.heap.size))
  case atStart => exact ⟨0, by omega, rfl, H0⟩
  case round =>
    obtain ⟨k, hk, rfl, HK⟩ := hrel
    by_cases hkl : k < rl
    · have hkl' : (k : Int) < (rl : Int) := by omega
      have hkx : k < rows.length := by omega
      have bel := HK.out.2.1
      obtain ⟨b, off, la, lc, rfl, d0, d1, d2, sk⟩ := RS.row (HS.out.1.later bel) (List.getElem?_eq_getElem hkx)
      have hsp := HS.out.2.2.2 _ (List.getElem_mem hkx)
      have hmt : (rows.take (k + 1)).map (·.sp) = (rows.take k).map (·.sp) ++ [rows[k].sp] := by rw [List.take_add_one, List.getElem?_eq_getElem hkx, List.map_append]; rfl
      have hcl := cntS_le ((rows.take k).map (·.sp)) rows[k].sp
      have hml : ((rows.take k).map (·.sp)).length ≤ 5000000 := by rw [List.length_map, List.length_take]; have := HS.out; omega
      have HST := hid (spU_step ((rows.take k).map (·.sp)) rows[k].sp)
      have HCM := hid (cntS_more ((rows.take k).map (·.sp)) rows[k].sp)
      have HCZ := hid (cntS_zero ((rows.take k).map (·.sp)) rows[k].sp)
      have HUL := hid (spU_len ((rows.take k).map (·.sp)))
      rw [← hmt] at HST HCM
      obtain ⟨⟨p, q⟩, hpq⟩ : ∃ s, rows[k].sp = s := ⟨_, rfl⟩
      rw [hpq] at hsp hcl HST HCM HCZ d0 d1
      simp only at hsp d0 d1
      generalize rows[k].last.length = ll at d2
      obtain ⟨c, hc⟩ : ∃ c, c = cntS ((rows.take k).map (·.sp)) (p, q) := ⟨_, rfl⟩
      rw [← hc] at hcl HCM HCZ
      obtain ⟨W, hW⟩ : ∃ W, wr.alloc (.cells #[.int .i64 (p : Int), .int .i64 (q : Int), .slice la ll lc] 86) = W := ⟨_, rfl⟩
      have bW : Below wr.heap.size wr W := by rw [← hW]; exact (Below.refl _ _).alloc (Nat.le_refl _) _
      have hblk : W.heap[wr.heap.size]? = some (.cells #[.int .i64 (p : Int), .int .i64 (q : Int), .slice la ll lc] 86 (0, 0)) := by rw [← hW]; exact heap_alloc_new wr _
      have y0 : W.cell? ⟨wr.heap.size, 0, none⟩ = some (.int .i64 (p : Int)) := by rw [cell_of hblk]; rfl
      have y1 : W.cell? ⟨wr.heap.size, 1, none⟩ = some (.int .i64 (q : Int)) := by rw [cell_of hblk]; rfl
      have HMW : MapS W.drew w.heap.size k (cntS ((rows.take k).map (·.sp))) := HK.out.2.2.1.same (bW.block _ HK.out.2.2.1.lt)
      have L0 := HMW.look hsp.1 hsp.2
      obtain ⟨v0, st, w1, E0, g1, M1, S1⟩ := HMW.inc (by omega) hsp.1 hsp.2
      have L1 := M1.look hsp.1 hsp.2
      obtain ⟨w3, S3, M3, g3⟩ := S1 w1 (c + 1) (by omega) rfl
      rw [← hc] at L0 L1
      have L3 := M3.look hsp.1 hsp.2
      rw [if_pos rfl] at L3
      unfold spK at L0 E0 L1 L3
      rw [show ((c + 1 : Nat) : Int) = (c : Int) + 1 by omega] at S3 L3
      generalize goInt st = gi at E0 S3
      rw [HCM.out] at M3
      have g13 : W.grownBy w3 (some w.heap.size) := grown_trans (w := W) ⟨g1.os, g1.tape, g1.output, g1.size, g1.block⟩ g3
      have hne : wr.heap.size ≠ w.heap.size := by have := HK.out.2.2.2; omega
      have hblk3 : w3.heap[wr.heap.size]? = some (.cells #[.int .i64 (p : Int), .int .i64 (q : Int), .slice la ll lc] 86 (0, 0)) := by
        rw [g13.block _ (Array.getElem?_eq_some_iff.1 hblk).1 (fun e => by simp only [Option.some.injEq] at e; omega)]
        exact hblk
      have x0 : w3.cell? ⟨wr.heap.size, 0, none⟩ = some (.int .i64 (p : Int)) := by rw [cell_of hblk3]; rfl
      have x1 : w3.cell? ⟨wr.heap.size, 1, none⟩ = some (.int .i64 (q : Int)) := by rw [cell_of hblk3]; rfl
      have HR3 := hid ((HK.out.1.later bW).grown g13 (fun b e => by have := (HK.out.1.own_lt e).1; simp only [ne_eq, Option.some.injEq]; omega) (fun us hus u hu b hr => (lay_spn hus u hu b hr).elim))
      have BW := bel.trans (bW.mono bel.size)
      have HB3 := hid (BW.trans (Below.grown (Below.refl w.heap.size W) g13 BW.size (fun k e => by simp only [Option.some.injEq] at e; omega)))
      have HSZ : Hid (w.heap.size + 1 ≤ w3.heap.size) := by have := HK.out.2.2.2; have := bW.size; have := g13.size; show _ ≤ _; omega
      have HM3 := hid M3
      have HUL2 : Hid ((spU ((rows.take k).map (·.sp))).length ≤ 5000000) := Nat.le_trans HUL.out hml
      have hk62 : k ≤ 2 ^ 61 := by omega
      have hc62 : c ≤ 2 ^ 60 := by omega
      obtain ⟨GK, HG⟩ : ∃ g, Hid (g < gk ∧ k + 1 + g = rl) := ⟨gk - 1, by omega, by omega⟩
      clear hk bel bW BW sk hsp hmt hcl hml hpq HMW g1 M1 S1 M3 g3 HK hblk hblk3 g13 hne HCM HUL H0 hmk
      by_cases hc0 : c = 0
      · have HNI := hid (HCZ.out.1 hc0)
        have HT : Hid (spU ((rows.take (k + 1)).map (·.sp)) = spU ((rows.take k).map (·.sp)) ++ [(p, q)]) := by show _ = _; rw [HST.out, if_neg HNI.out]
        have b3 : Below w3.heap.size w3 (w3.alloc (.cells #[.int .i64 (p : Int), .int .i64 (q : Int)] 74)) := (Below.refl _ _).alloc (Nat.le_refl _) _
        have HONE := hid (rs_one (E := spnE) (w := w3) (vs := [.int .i64 (p : Int), .int .i64 (q : Int)]) (x := (p, q)) rfl)
        have HR4 := hid (HR3.out.later b3)
        have HB4 := hid (HB3.out.trans (b3.mono HB3.out.size))
        have HSZ4 : Hid (w.heap.size + 1 ≤ (w3.alloc (.cells #[.int .i64 (p : Int), .int .i64 (q : Int)] 74)).heap.size) := Nat.le_trans HSZ.out b3.size
        have HM4 : Hid (MapS (w3.alloc (.cells #[.int .i64 (p : Int), .int .i64 (q : Int)] 74)) w.heap.size (k + 1) (cntS ((rows.take (k + 1)).map (·.sp)))) := HM3.out.same (b3.block _ HM3.out.lt)
        subst hc0
        rw [show ((0 : Nat) : Int) = 0 from rfl] at L0 L1 S3 L3
        rw [show (0 : Int) + 1 = 1 from rfl] at S3 L3
        clear hc b3
        go_upto_region 6 with fail
        go_region
        all_goals
          go_wp2_with (at_builtin; refine wpList_appS spnE (t := 72) (z := .agg #[.int .i64 0, .int .i64 0]) (bytes := 16) (B := w.heap.size + 1) Try.underlying72 spnE_info rfl (by decide) rfl (.tmp 26) (.tmp 29) rfl rfl HR4.out rfl HONE.out (fun u hu b hr => (lay_spn (w := w3) (xs := [(p, q)]) ⟨_, [], by simp, rfl, rfl⟩ u hu b hr).elim) (by have := HUL2.out; omega) (by have := HUL2.out; omega) HSZ4.out ?_; intro v9 w9 r9 g9 m9)
          have HB9 := hid (HB4.out.trans ((HR4.out.below g9 HSZ4.out).mono (by omega)))
          have HM9 := hid (HM4.out.same (g9.block _ HM4.out.lt (fun e => by have := (HR4.out.own_lt e.symm).1; omega)))
          go_roundg GK
          case measure => exact HG.out.1
          case rel => exact ⟨k + 1, HG.out.2, by go_num, by rw [HT.out]; exact r9, HB9.out, HM9.out, Nat.le_trans HSZ4.out g9.size⟩
      · have HNI : Hid ((p, q) ∈ spU ((rows.take k).map (·.sp))) := Classical.byContradiction fun z => hc0 (HCZ.out.2 z)
        have HT : Hid (spU ((rows.take (k + 1)).map (·.sp)) = spU ((rows.take k).map (·.sp))) := by show _ = _; rw [HST.out, if_pos HNI.out]
        have hc1 : ¬ ((c : Int) + 1 = 1) := by omega
        have hc2 : (((c : Int) + 1) == 1) = false := by simpa using hc1
        clear hc hc0
        go_upto_region 6 with fail
        go_region
        all_goals
          go_wp2_with fail
          go_roundg GK
          case measure => exact HG.out.1
          case rel => exact ⟨k + 1, HG.out.2, by go_num, by rw [HT.out]; exact HR3.out, HB3.out, HM3.out, HSZ.out⟩
    · have hkl' : (rl : Int) ≤ (k : Int) := by omega
      have h1 := HK.out.1
      rw [List.take_of_length_le (by omega)] at h1
      have HF : Hid (RSV spnE wr u3 (spU (rows.map (·.sp))) ∧ Below w.heap.size w wr) := ⟨RSV.ofRow h1, HK.out.2.1⟩
      clear hk hkl HK h1
      go_wp2_with fail
      exact bodyPost_ret (v := u3) (by simp [results, Try.results48, go_sem]) rfl ⟨u3, rfl, HF.out.1, HF.out.2⟩
end Go.Proofs.Ytimpaindbbjieaa

/- The landed table: how a table lies; what Open leans on. -/
namespace Go.Proofs.Ytimpaindbbjieaa
open Go.RowKit
set_option linter.unusedVariables false
set_option linter.unusedSimpArgs false

/-- How a table lies in memory. -/
structure RTb (w : World) (p : Nat) (l : List EntV) : Prop where
  ok : tblE l = 0
  oke : ∀ e ∈ l, OkE e
  at_ : ∃ wa wc ra rc, w.heap[p]? = some (.cells #[.slice wa (tblB l).length wc, .slice ra (rowsT l).length rc, .int .i64 ((flS l).1 : Int), .int .i64 ((flS l).2 : Int), .int .i64 (l.length : Int)] 84 (0, 0)) ∧ Sl w wa (tblB l).length wc (tblB l) ∧ RS rowE w ra (rowsT l).length rc (rowsT l)
theorem RTb.later {w w' : World} {p : Nat} {l : List EntV} (h : RTb w p l) (hb : Below w.heap.size w w') : RTb w' p l := by
  obtain ⟨h1, h2, wa, wc, ra, rc, h3, h4, h5⟩ := h
  exact ⟨h1, h2, wa, wc, ra, rc, (hb.block _ (Array.getElem?_eq_some_iff.1 h3).1).trans h3, h4.later hb, h5.later hb⟩
theorem opn_facts {b : List Int} {l : List EntV} (h : tblE l = 0) (ho : ∀ e ∈ l, OkE e) (hb : tblB l = b) : ftE b = (0, ixS l, flS l) ∧ okS b (ixS l) = true ∧ okS b (flS l) = true ∧ (∀ n, (ofS b (ixS l)).length ≤ n → ixT n (ofS b (ixS l)) (ixS l).1 = some (rowsT l)) ∧ (spU ((rowsT l).map (·.sp))).all (okS b) = true ∧ teK ((spU ((rowsT l).map (·.sp))).map (ofS b)) [] = (0, l) := by
  subst hb
  obtain ⟨a1, a2, a3, a4, a5⟩ := ftE_tbl h ho
  obtain ⟨b1, b2, b3, b4, b5⟩ := read_tbl h ho
  refine ⟨a1, a2, a3, fun n hn => ?_, ?_, ?_⟩
  · rw [a4] at hn ⊢; exact b1 n hn
  · rw [b2]; exact List.all_eq_true.2 b3
  · rw [b2, b4]; exact b5
theorem ftE_in {b : List Int} {i f : Nat × Nat} (h : ftE b = (0, i, f)) : 32 ≤ b.length ∧ i.1 + i.2 + 4 ≤ b.length ∧ f.1 + f.2 + 4 ≤ b.length := by
  unfold ftE at h
  split at h
  · cases h
  rename_i h1
  split at h
  · cases h
  split at h
  · cases h
  split at h
  · rename_i i' f' e1 e2
    cases h
    unfold spO at e1 e2
    split at e1
    · split at e2
      · cases e1; cases e2
        simp only
        omega
      · cases e2
    · cases e1
  · cases h
theorem ixT_in : ∀ {n : Nat} {xs : List Int} {room : Nat} {rs : List RowV}, ixT n xs room = some rs → (∀ r ∈ rs, r.sp.1 + r.sp.2 + 4 ≤ room) ∧ rs.length ≤ xs.length
  | 0, xs, room, rs, h => by
    unfold ixT at h
    split at h
    · cases h; exact ⟨(fun r hr => by cases hr), by simp⟩
    · cases h
  | n + 1, xs, room, rs, h => by
    by_cases hx : xs = []
    · subst hx
      rw [ixT_nil] at h
      cases h
      exact ⟨(fun r hr => by cases hr), by simp⟩
    · obtain ⟨s1, s2⟩ := ixT_step (n := n) (room := room) hx
      cases hr : rwT xs room with
      | none => rw [s1 hr] at h; cases h
      | some r =>
        rw [s2 r hr] at h
        obtain ⟨u1, u2, u3, u4⟩ := rwT_used hr
        cases ht : ixT n (xs.drop r.2) room with
        | none => rw [ht] at h; cases h
        | some t =>
          rw [ht] at h
          simp only [Option.map_some, Option.some.injEq] at h
          subst h
          obtain ⟨i1, i2⟩ := ixT_in ht
          rw [List.length_drop] at i2
          refine ⟨fun x hx => ?_, by simp; omega⟩
          rcases List.mem_cons.1 hx with z | z
          · rw [z]; exact u3
          · exact i1 x z
theorem spn_two (w : World) (s t : Nat × Nat) : RS spnE (w.alloc (.cells #[.int .i64 (s.1 : Int), .int .i64 (s.2 : Int), .int .i64 (t.1 : Int), .int .i64 (t.2 : Int)] 74)) (some ⟨w.heap.size, 0, none⟩) 2 2 [s, t] := by
  refine ⟨[.int .i64 (s.1 : Int), .int .i64 (s.2 : Int), .int .i64 (t.1 : Int), .int .i64 (t.2 : Int)], rfl, (fun q => by cases q), Nat.le_refl _, by unfold maxLen; omega, ⟨[.int .i64 (s.1 : Int), .int .i64 (s.2 : Int)], [.int .i64 (t.1 : Int), .int .i64 (t.2 : Int)], rfl, rfl, [.int .i64 (t.1 : Int), .int .i64 (t.2 : Int)], [], rfl, rfl, rfl⟩, fun j u hu => ?_⟩
  refine ⟨_, _, rfl, ?_⟩
  rw [Nat.zero_add, cell_of_row _ _ _ _ _ _ (heap_alloc_new w _)]
  simpa using hu
/-- What Open answers. -/
def OpR (b : List Int) (e : Ending) (w' : World) : Prop := ∃ (v : Value) (E : Nat), e = .returned (.tuple #[v, .int .i64 (E : Int)]) ∧ (E = 0 ↔ (opT tkD b).1 = 0) ∧ (E ≠ 0 → v = .pointer none) ∧ (E = 0 → ∃ p, v = .pointer (some ⟨p, 0, none⟩) ∧ RTb w' p (opT tkD b).2)
end Go.Proofs.Ytimpaindbbjieaa
