/- What slices.Insert of one pointer into a row of pointers of one's own answers. -/
import Derived.Test.YtaefddnmldbgiabDoorNrep
import Derived.Shelf.Spec.SlicesInsertGrow
namespace Go.Proofs.YtaefddnmldbgiabDoor
open Go.RowKit Go.Lib
set_option linter.unusedVariables false
set_option linter.unusedSimpArgs false

theorem pver_info : (Tryd.prog.info? 51).map (fun i => (i.zero, i.size, i.bytes)) = some (some (.pointer none), 1, 8) := by kernel_rfl
theorem pver_size : (Tryd.prog.info? 51).map (·.size) = some 1 := by kernel_rfl
/-- The row behind the shift. -/
def sft (cur : Array Value) (i : Nat) (cs : List Value) : Array Value := (cur.toList.take (i + 1) ++ cs.drop i ++ cur.toList.drop (i + 1 + (cs.drop i).length)).toArray
def stt (cur : Array Value) (i : Nat) (u : Value) : Array Value := (cur.toList.take i ++ [u] ++ cur.toList.drop (i + 1)).toArray
theorem sft_size {cur : Array Value} {i : Nat} {cs : List Value} (h : cs.length + 1 ≤ cur.size) (hi : i ≤ cs.length) : (sft cur i cs).size = cur.size := by
  simp [sft]
  omega
theorem stt_size {cur : Array Value} {i : Nat} {u : Value} (h : i + 1 ≤ cur.size) : (stt cur i u).size = cur.size := by
  simp [stt]
  omega
theorem sft_take {cur : Array Value} {i : Nat} {cs : List Value} (u : Value) (ht : cur.toList.take cs.length = cs) (h : cs.length + 1 ≤ cur.size) (hi : i ≤ cs.length) : (stt (sft cur i cs) i u).toList.take (cs.length + 1) = cs.take i ++ u :: cs.drop i := by
  have e1 : cur.toList.take i = cs.take i := by rw [← ht, List.take_take, Nat.min_eq_left hi]
  have hl : (cur.toList.take i).length = i := by rw [List.length_take]; simp; omega
  have e2 : (sft cur i cs).toList.take i = cs.take i := by
    unfold sft
    simp only [List.toList_toArray, List.append_assoc]
    rw [List.take_append_of_le_length (by rw [List.length_take]; simp; omega), List.take_take, Nat.min_eq_left (by omega)]
    exact e1
  have e3 : (sft cur i cs).toList.drop (i + 1) = cs.drop i ++ cur.toList.drop (i + 1 + (cs.drop i).length) := by
    unfold sft
    simp only [List.toList_toArray, List.append_assoc]
    rw [List.drop_left' (by rw [List.length_take]; simp; omega)]
  unfold stt
  rw [e2, e3]
  have : cs.take i ++ [u] ++ (cs.drop i ++ cur.toList.drop (i + 1 + (cs.drop i).length)) = (cs.take i ++ u :: cs.drop i) ++ cur.toList.drop (i + 1 + (cs.drop i).length) := by simp
  rw [this]
  rw [List.take_left' (by simp; omega)]

set_option maxHeartbeats 4000000 in
set_option maxRecDepth 100000 in
/-- There is room. -/
theorem ins_shift {w : World} {b n c i vb : Nat} {cs : List Value} {u : Value} {cur : Array Value} (hi : i < n) (hroom : n + 1 ≤ c) (hc63 : c ≤ 9223372036854775807) (hvb : vb ≠ b) (hcl : cs.length = n)
    (hg : w.heap[b]? = some (.cells cur 51 (0, 0))) (hcur : cur.size = c) (htk : cur.toList.take n = cs) (hgv : w.heap[vb]? = some (.cells #[u] 51 (0, 0))) (h1c : ∀ v ∈ cs, v.oneCell' = true) (h1v : u.oneCell' = true) :
    Calls Tryd.prog 29 #[.slice (some ⟨b, 0, none⟩) n c, .int .i64 (i : Int), .slice (some ⟨vb, 0, none⟩) 1 1] w fun e w' =>
      e = .returned (.slice (some ⟨b, 0, none⟩) (n + 1) c) ∧ w'.heap = ((w.setRow b (sft cur i cs)).setRow b (stt (sft cur i cs) i u)).heap ∧ w'.os = w.os ∧ w'.tape = w.tape ∧ w'.output = w.output := by
  have hz2 : ¬ ((i : Int) = (n : Int)) := by omega
  have hcell : ∀ j v, cs[j]? = some v → w.cell? ⟨b, j, none⟩ = some v := fun j v hj => by
    rw [cell_of hg]
    rw [← htk, List.getElem?_take] at hj
    split at hj
    · simpa using hj
    · cases hj
  have hov : ∀ lb cb, (callFunc 36 #[.slice (some ⟨vb, 0, none⟩) 1 1, .slice (some ⟨b, i + 1, none⟩) lb cb]).run Tryd.prog w = .ok (.value (.bool false)) w := fun lb cb => by
    rw [run_callFunc_extern Tryd.func36 (by kernel_rfl) (by kernel_rfl) (by kernel_rfl) (e := Extern.SlicesOverlaps.overlaps #[39, 39] #[4]) (by kernel_rfl),
      Lib.run_overlaps_apart w 39 4 51 Tryd.underlying39 1 Tryd.sizeOf51 ⟨vb, 0, none⟩ ⟨b, i + 1, none⟩ 1 1 lb cb hvb 51 51 1 c (by simp [World.shape?, hgv]) (by simp [World.shape?, hg, hcur]) (by omega) (by simp [World.frozen?, hgv]) (by simp [World.frozen?, hgv])]
    rfl
  have hdl : (cs.drop i).length = n - i := by rw [List.length_drop, hcl]
  have hcp1 : ∀ ty dc sc, (Builtin.copy_ #[39, 39] ty #[.slice (some ⟨b, i + 1, none⟩) (n - i) dc, .slice (some ⟨b, i, none⟩) (n + 1 - i) sc]).run Tryd.prog w.drew = .ok (goInt (cs.drop i).length) (w.drew.setRow b (sft cur i cs)) := fun ty dc sc =>
    run_copy_row Tryd.prog w.drew _ _ ty 51 b (i + 1) (n - i) dc ⟨b, i, none⟩ (n + 1 - i) sc cur 51 (cs.drop i) Tryd.underlying39 pver_size hg (by rw [hdl]; simp only [Nat.min_def]; split <;> omega)
      (fun j v hj => by rw [Addr.add_lit]; exact hcell (i + j) v (by rwa [List.getElem?_drop] at hj)) (by omega) (fun v hv => h1c v (List.mem_of_mem_drop hv))
  obtain ⟨W1, hW1⟩ : ∃ W1, W1 = w.drew.setRow b (sft cur i cs) := ⟨_, rfl⟩
  have hg1 : W1.heap[b]? = some (.cells (sft cur i cs) 51 (0, 0)) := by rw [hW1]; exact setRow_heap _ _ _ _ _ _ hg
  have hgv1 : W1.heap[vb]? = some (.cells #[u] 51 (0, 0)) := by rw [hW1]; exact (setRow_other w.drew _ _ _ hvb).trans hgv
  have hcp2 : ∀ (W : World), W.heap = W1.heap → ∀ ty dc, (Builtin.copy_ #[39, 39] ty #[.slice (some ⟨b, i, none⟩) (n + 1 - i) dc, .slice (some ⟨vb, 0, none⟩) 1 1]).run Tryd.prog W = .ok (goInt 1) (W.setRow b (stt (sft cur i cs) i u)) := fun W hW ty dc =>
    run_copy_row Tryd.prog W _ _ ty 51 b i (n + 1 - i) dc ⟨vb, 0, none⟩ 1 1 (sft cur i cs) 51 [u] Tryd.underlying39 pver_size (by rw [hW]; exact hg1) (by simp only [Nat.min_def]; split <;> simp <;> omega)
      (fun j v hj => by
        rw [Addr.add_lit, cell_of (show W.heap[vb]? = _ by rw [hW]; exact hgv1)]
        cases j with
        | zero => simpa using hj
        | succ j => simp at hj) (by rw [sft_size (by omega) (by omega)]; simp; omega) (fun v hv => by rw [List.mem_singleton.1 hv]; exact h1v)
  have hb1 : (0 : Int) ≤ (i : Int) + 1 := by omega
  have hin : i ≤ n := by omega
  have htn : ((i : Int) + 1).toNat = i + 1 := by omega
  have hb2 : ¬ (c = i + 1) := by omega
  have hb3 : (i : Int) ≤ (n : Int) + 1 := by omega
  have hb4 : ¬ (c = i) := by omega
  have hw1 : IntKind.i64.wrap ((i : Int) + 1) = (i : Int) + 1 := by rw [IntKind.wrap_i64]; omega
  have mixed : Tryd.prog.follows .mixedOrders = true := by kernel_rfl
  rw [← hW1] at hcp1
  clear hg hcur htk hgv hcell h1c h1v hg1 hgv1
  go_enter Tryd.func29, Tryd.ntmps29
  go_wp2_with (simp only [hov])
  go_region_law_o (refine step_copy_runI rfl _ _ 39 39 rfl _ _ (by simp [Act.eval, Act.put]) (by simp [Act.eval, Act.put]) (hcp1 _ _ _) ?_)
  go_wp2_with (at_builtin; refine wpList_copy_runI _ rfl _ _ 39 39 rfl _ _ rfl rfl (hcp2 _ rfl _ _) ?_)
  go_ret
  exact ⟨rfl, rfl, rfl, rfl, rfl⟩

set_option maxHeartbeats 4000000 in
set_option maxRecDepth 100000 in
/-- There is no room: a new row. -/
theorem ins_grow {w : World} {b n c i vb : Nat} {cs : List Value} {u : Value} {cur : Array Value} (hi : i < n) (hnc : n ≤ c) (hroom : c < n + 1) (hn : n ≤ 100000) (hcl : cs.length = n)
    (hg : w.heap[b]? = some (.cells cur 51 (0, 0))) (hcur : cur.size = c) (htk : cur.toList.take n = cs) (hgv : w.heap[vb]? = some (.cells #[u] 51 (0, 0))) (h1c : ∀ v ∈ cs, v.oneCell' = true) (h1v : u.oneCell' = true) :
    Calls Tryd.prog 29 #[.slice (some ⟨b, 0, none⟩) n c, .int .i64 (i : Int), .slice (some ⟨vb, 0, none⟩) 1 1] w fun e w' =>
      ∃ G ROW, n + 1 ≤ G ∧ G ≤ maxLen ∧ ROW.size = G ∧ ROW.toList.take (n + 1) = cs.take i ++ u :: cs.drop i ∧ e = .returned (.slice (some ⟨w.heap.size, 0, none⟩) (n + 1) G) ∧ w'.heap[w.heap.size]? = some (.cells ROW 51 (0, 0)) ∧ Below w.heap.size w w' := by
  obtain ⟨i0, hi0, hz0, hzs, hzb⟩ := info_parts pver_info
  have hz2 : ¬ ((i : Int) = (n : Int)) := by omega
  have hz3 : (c : Int) < (n : Int) + 1 := by omega
  have hbw : b < w.heap.size := (Array.getElem?_eq_some_iff.1 hg).1
  have hvw : vb < w.heap.size := (Array.getElem?_eq_some_iff.1 hgv).1
  have hcell : ∀ j v, cs[j]? = some v → w.cell? ⟨b, j, none⟩ = some v := fun j v hj => by
    rw [cell_of hg]
    rw [← htk, List.getElem?_take] at hj
    split at hj
    · simpa using hj
    · cases hj
  have hkk : (n : Int) + 1 - (i : Int) = ((n + 1 - i : Nat) : Int) := by omega
  have hik : i + (n + 1 - i) = n + 1 := by omega
  have hold : (Builtin.firstCells i0.size i (.slice (some ⟨b, 0, none⟩) i c)).run Tryd.prog w.drew = .ok (cs.take i).toArray w.drew := by
    rw [hzs]
    exact run_firstCells_some w.drew 1 i ⟨b, 0, none⟩ i c (cs.take i) (by rw [List.length_take]; omega) (fun j v hj => by
      rw [Addr.add_lit, Nat.zero_add]
      rw [List.getElem?_take] at hj
      split at hj
      · exact hcell j v hj
      · cases hj)
  have hrz : ∀ ty, (Builtin.append_ #[39, 3] ty #[.slice (some ⟨b, 0, none⟩) i c, .int .i64 ((n : Int) + 1 - (i : Int))]).run Tryd.prog w =
      .ok (.slice (some ⟨w.heap.size, 0, none⟩) (n + 1) (grownCap w (n + 1) c 51)) (w.drew.alloc (.cells ((cs.take i).toArray ++ Builtin.zeroCells (Value.pointer none).cells (n + 1 - i) ++ Builtin.zeroCells (Value.pointer none).cells (grownCap w (n + 1) c 51 - (n + 1))) 51)) := fun ty => by
    have h := Lib.run_append_grow_zeros w 39 3 ty 51 i0 _ .i64 .i64 Tryd.underlying39 Tryd.underlying3 hi0 hz0 (some ⟨b, 0, none⟩) i c (cs.take i) hold (n + 1 - i) (by omega) (by omega) (by omega) (by omega) (by rw [hzb]; omega) (by rw [hzb, hik]; exact growslice_fits hroom (by omega))
    rw [hik] at h
    rw [hkk]
    exact h
  obtain ⟨G, hG⟩ : ∃ G, G = grownCap w (n + 1) c 51 := ⟨_, rfl⟩
  obtain ⟨ROW, hROW⟩ : ∃ ROW : Array Value, ROW = (cs.take i).toArray ++ Builtin.zeroCells (Value.pointer none).cells (n + 1 - i) ++ Builtin.zeroCells (Value.pointer none).cells (G - (n + 1)) := ⟨_, rfl⟩
  rw [← hG] at hrz
  rw [← hROW] at hrz
  have hGn : n + 1 ≤ G := by rw [hG]; exact grownCap_ge w _ _ _
  have hGm : G ≤ maxLen := by rw [hG]; exact grownCap_le_maxLen w (n + 1) c 51 (by unfold maxLen; omega)
  have hG63 : G ≤ 9223372036854775807 := by unfold maxLen at hGm; omega
  have hRs : ROW.size = G := by
    rw [hROW]
    simp [Builtin.zeroCells, Value.cells]
    omega
  have hRt : ROW.toList.take i = cs.take i := by
    rw [hROW]
    simp only [Array.toList_append, List.append_assoc, List.toList_toArray]
    rw [List.take_left' (by rw [List.length_take]; omega)]
  obtain ⟨R2, hR2⟩ : ∃ R2 : Array Value, R2 = stt ROW i u := ⟨_, rfl⟩
  have hR2s : R2.size = G := by rw [hR2, stt_size (by omega)]; exact hRs
  have hdl : (cs.drop i).length = n - i := by rw [List.length_drop, hcl]
  obtain ⟨R3, hR3⟩ : ∃ R3 : Array Value, R3 = (R2.toList.take (i + 1) ++ cs.drop i ++ R2.toList.drop (i + 1 + (cs.drop i).length)).toArray := ⟨_, rfl⟩
  have hR3s : R3.size = G := by rw [hR3]; simp; omega
  have hR3t : R3.toList.take (n + 1) = cs.take i ++ u :: cs.drop i := by
    have e1 : R2.toList.take (i + 1) = cs.take i ++ [u] := by
      rw [hR2]
      unfold stt
      simp only [List.toList_toArray]
      rw [List.take_left' (by simp; omega), hRt]
    rw [hR3]
    simp only [List.toList_toArray]
    rw [e1, List.take_left' (by simp; omega)]
    simp
  obtain ⟨W1, hW1⟩ : ∃ W1, W1 = w.drew.alloc (.cells ROW 51) := ⟨_, rfl⟩
  rw [← hW1] at hrz
  have hgN : W1.heap[w.heap.size]? = some (.cells ROW 51 (0, 0)) := by rw [hW1]; exact heap_alloc_new w.drew _
  have hgv1 : W1.heap[vb]? = some (.cells #[u] 51 (0, 0)) := by rw [hW1]; exact (Below.heap_alloc w.drew _ vb hvw).trans hgv
  have hgb1 : W1.heap[b]? = some (.cells cur 51 (0, 0)) := by rw [hW1]; exact (Below.heap_alloc w.drew _ b hbw).trans hg
  have hcpA : ∀ (W : World), W.heap = W1.heap → ∀ ty dc, (Builtin.copy_ #[39, 39] ty #[.slice (some ⟨w.heap.size, i, none⟩) (n + 1 - i) dc, .slice (some ⟨vb, 0, none⟩) 1 1]).run Tryd.prog W = .ok (goInt 1) (W.setRow w.heap.size R2) := fun W hW ty dc => by
    have h := run_copy_row Tryd.prog W 39 39 ty 51 w.heap.size i (n + 1 - i) dc ⟨vb, 0, none⟩ 1 1 ROW 51 [u] Tryd.underlying39 pver_size (by rw [hW]; exact hgN) (by simp only [Nat.min_def]; split <;> simp <;> omega)
      (fun j v hj => by
        rw [Addr.add_lit, cell_of (show W.heap[vb]? = _ by rw [hW]; exact hgv1)]
        cases j with
        | zero => simpa using hj
        | succ j => simp at hj) (by simp; omega) (fun v hv => by rw [List.mem_singleton.1 hv]; exact h1v)
    rw [hR2]
    exact h
  have hbN : b ≠ w.heap.size := by omega
  have hcpB : ∀ (W : World), W.heap = (W1.setRow w.heap.size R2).heap → ∀ ty dc sc, (Builtin.copy_ #[39, 39] ty #[.slice (some ⟨w.heap.size, i + 1, none⟩) (n - i) dc, .slice (some ⟨b, i, none⟩) (n - i) sc]).run Tryd.prog W = .ok (goInt (cs.drop i).length) (W.setRow w.heap.size R3) := fun W hW ty dc sc => by
    have h := run_copy_row Tryd.prog W 39 39 ty 51 w.heap.size (i + 1) (n - i) dc ⟨b, i, none⟩ (n - i) sc R2 51 (cs.drop i) Tryd.underlying39 pver_size (by rw [hW]; exact setRow_heap _ _ _ _ _ _ hgN) (by rw [hdl]; simp only [Nat.min_def]; split <;> omega)
      (fun j v hj => by
        rw [Addr.add_lit, cell_of (show W.heap[b]? = some (.cells cur 51 (0, 0)) by rw [hW]; exact (setRow_other W1 _ _ _ hbN).trans hgb1)]
        have := hcell (i + j) v (by rwa [List.getElem?_drop] at hj)
        rwa [cell_of hg] at this) (by omega) (fun v hv => h1c v (List.mem_of_mem_drop hv))
    rw [hR3]
    exact h
  have hGi : ¬ (G = i) := by omega
  have hGim : ¬ (G = i + 1) := by omega
  have hci : ¬ (c = i) := by omega
  have hw1 : IntKind.i64.wrap ((i : Int) + 1) = (i : Int) + 1 := by rw [IntKind.wrap_i64]; omega
  have hb1 : (0 : Int) ≤ (i : Int) + 1 := by omega
  have hin : i ≤ n := by omega
  have htn : ((i : Int) + 1).toNat = i + 1 := by omega
  have hb3 : (i : Int) ≤ (n : Int) := by omega
  have mixed : Tryd.prog.follows .mixedOrders = true := by kernel_rfl
  have HF : Hid (n + 1 ≤ G ∧ G ≤ maxLen ∧ R3.size = G ∧ R3.toList.take (n + 1) = cs.take i ++ u :: cs.drop i ∧ W1 = w.drew.alloc (.cells ROW 51)) := ⟨hGn, hGm, hR3s, hR3t, hW1⟩
  clear hkk hik hold hROW hG hg hgv hcur htk hcell h1c h1v hgN hgv1 hgb1 hR2 hR3 hRs hRt hR2s hR3s hR3t hGm hi0 hz0 hzs hzb
  subst hW1
  have hE1 : ((w.alloc (.cells ROW 51)).drew).heap = (w.drew.alloc (.cells ROW 51)).heap := rfl
  have hE2 : (((w.alloc (.cells ROW 51)).drew.setRow w.heap.size R2).drew).heap = ((w.drew.alloc (.cells ROW 51)).setRow w.heap.size R2).heap := rfl
  go_enter Tryd.func29, Tryd.ntmps29
  go_wp2_with (first
    | (at_builtin; refine Lib.wpList_append_run _ rfl _ _ _ _ rfl _ _ rfl rfl _ _ (hrz _) ?_)
    | (at_builtin; refine wpList_copy_runI _ rfl _ _ 39 39 rfl _ _ rfl rfl (hcpA _ hE1 _ _) ?_))
  go_region_law_o (refine step_copy_runI rfl _ _ 39 39 rfl (.slice (some ⟨w.heap.size, i + 1, none⟩) (n - i) (G - (i + 1))) (.slice (some ⟨b, i, none⟩) (n - i) (c - i)) (by simp [Act.eval, Act.put]) (by simp [Act.eval, Act.put]) (hcpB _ hE2 3 (G - (i + 1)) (c - i)) ?_)
  go_wp2
  go_ret
  refine ⟨G, R3, HF.out.1, HF.out.2.1, HF.out.2.2.1, HF.out.2.2.2.1, rfl, ?_, rfl, rfl, rfl, ?_, fun k hk => ?_⟩
  · exact setRow_heap _ _ _ _ _ _ (setRow_heap _ _ _ _ _ _ (heap_alloc_new w _))
  · simp [World.setRow]
  · have hne : k ≠ w.heap.size := by omega
    exact (setRow_other _ _ _ _ hne).trans ((setRow_other _ _ _ _ hne).trans (Below.heap_alloc w _ k hk))
/-- A pointer as an element of a row. -/
def pE : El Value where
  ty := 51
  size := 1
  M := fun w vs x => vs = [x] ∧ ∃ a, x = .pointer a
  len := fun h => by rw [h.1]; rfl
  one := fun h v hv => by obtain ⟨rfl, a, rfl⟩ := h; rw [List.mem_singleton.1 hv]; rfl
  lt := fun h v hv b hr => by
    obtain ⟨rfl, a, rfl⟩ := h
    rw [List.mem_singleton.1 hv] at hr
    obtain ⟨_, _, _, e, _⟩ := hr
    cases e
  keep := fun h _ => h
theorem lay_p {w : World} : ∀ {us xs : List Value}, Lay pE w us xs → us = xs
  | us, [], h => h
  | us, x :: xs, h => by
    obtain ⟨vs, us', rfl, h1, h2⟩ := h
    rw [h1.1, lay_p h2]
    rfl
theorem p_lay {w : World} : ∀ {xs : List Value}, (∀ x ∈ xs, ∃ a, x = .pointer a) → Lay pE w xs xs
  | [], _ => rfl
  | x :: xs, h => ⟨[x], xs, rfl, ⟨rfl, h x (by simp)⟩, p_lay fun y hy => h y (by simp [hy])⟩
theorem p_refs {u : Value} {b : Nat} (h : ∃ a, u = .pointer a) (hr : Refs u b) : False := by
  obtain ⟨a, rfl⟩ := h
  obtain ⟨_, _, _, e, _⟩ := hr
  cases e
theorem pE_info : (Tryd.prog.info? pE.ty).map (fun i => (i.zero, i.size, i.bytes)) = some (some (.pointer none), pE.size, 8) := by kernel_rfl

set_option maxHeartbeats 4000000 in
set_option maxRecDepth 100000 in
/-- At the end. -/
theorem ins_end {w : World} {v : Value} {k vb : Nat} {us : List Value} {u : Value} (hrow : w.ownsRow 0 51 1 v k us) (hk : k ≤ 100000) (hus : ∀ x ∈ us, ∃ a, x = .pointer a) (hu : ∃ a, u = .pointer a) (hgv : w.heap[vb]? = some (.cells #[u] 51 (0, 0))) :
    Calls Tryd.prog 29 #[v, .int .i64 (k : Int), .slice (some ⟨vb, 0, none⟩) 1 1] w fun e w' => ∃ v', e = .returned v' ∧ w'.ownsRow 0 51 1 v' (k + 1) (us ++ [u]) ∧ w.grownBy w' v.ownBlock ∧ Moved w v v' := by
  obtain ⟨ao, c, rfl, hkc, hnil, hcm⟩ : ∃ ao c, v = .slice ao k c ∧ k ≤ c ∧ (ao = none → k = 0 ∧ c = 0) ∧ c ≤ maxLen := by
    rcases hrow.2 with q | ⟨g, cap, cur, q1, q2, q3, q4, q5, q6⟩
    · exact ⟨none, 0, by rw [q.2]; exact q.1, by omega, fun _ => ⟨q.2, rfl⟩, Nat.zero_le _⟩
    · exact ⟨_, _, q1, q4, (fun e => by cases e), q5⟩
  have hl : us.length = k := by have := hrow.1; omega
  have HR : Hid (RowS pE 0 w (.slice ao k c) us) := ⟨us, by rw [hl]; exact hrow, p_lay hus, fun x hx b hr => (p_refs (hus x hx) hr).elim⟩
  have HS : Hid (RSu pE w (some ⟨vb, 0, none⟩) 1 1 [u] [u]) := ⟨rfl, (fun e => by cases e), Nat.le_refl _, by decide, p_lay (fun x hx => by rw [List.mem_singleton.1 hx]; exact hu), fun j x hj => by
    cases j with
    | zero => exact ⟨vb, 0, rfl, by rw [cell_of hgv]; simpa using hj⟩
    | succ j => simp at hj⟩
  have HU : Hid (∀ x ∈ [u], ∀ b, Refs x b → (Value.slice ao k c).ownBlock ≠ some b) := fun x hx b hr => by rw [List.mem_singleton.1 hx] at hr; exact (p_refs hu hr).elim
  have HL := hid hl
  have hc63 : c ≤ 9223372036854775807 := by unfold maxLen at hcm; omega
  clear hrow hus hu hgv hl hcm
  have hfin : ∀ v' w', RowS pE 0 w' v' (us ++ [u]) → w'.ownsRow 0 51 1 v' (k + 1) (us ++ [u]) := fun v' w' h => by
    obtain ⟨us', h1, h2, h3⟩ := h
    have e := lay_p h2
    subst e
    have := h1
    rw [List.length_append, HL.out] at this
    exact this
  have HFIN := hid hfin
  clear hfin
  cases ao with
  | none =>
    obtain ⟨rfl, rfl⟩ := hnil rfl
    clear hnil
    go_enter Tryd.func29, Tryd.ntmps29
    go_wp2_with (at_builtin; refine wpList_appS pE (t := 39) (z := .pointer none) (bytes := 8) (B := 0) Tryd.underlying39 pE_info rfl (by decide) rfl (.tmp 23) (.tmp 24) rfl rfl HR.out rfl HS.out HU.out (by have := HL.out; omega) (by have := HL.out; omega) (Nat.zero_le _) ?_; intro v9 w9 r9 g9 m9; have H9 := hid (And.intro (HFIN.out _ _ r9) (And.intro g9 m9)); clear r9 g9 m9)
    exact bodyPost_ret (v := v9) (by simp [results, Tryd.results29, go_sem]) rfl ⟨v9, rfl, H9.out⟩
  | some a =>
    obtain ⟨ab, aof, asp⟩ := a
    clear hnil
    go_enter Tryd.func29, Tryd.ntmps29
    go_wp2_with (at_builtin; refine wpList_appS pE (t := 39) (z := .pointer none) (bytes := 8) (B := 0) Tryd.underlying39 pE_info rfl (by decide) rfl (.tmp 23) (.tmp 24) rfl rfl HR.out rfl HS.out HU.out (by have := HL.out; omega) (by have := HL.out; omega) (Nat.zero_le _) ?_; intro v9 w9 r9 g9 m9; have H9 := hid (And.intro (HFIN.out _ _ r9) (And.intro g9 m9)); clear r9 g9 m9)
    all_goals exact bodyPost_ret (v := v9) (by simp [results, Tryd.results29, go_sem]) rfl ⟨v9, rfl, H9.out⟩
/-- One more in a row of one's own, wherever. -/
theorem ins_m {w : World} {v : Value} {k i vb : Nat} {us : List Value} {u : Value} (hrow : w.ownsRow 0 51 1 v k us) (hi : i ≤ k) (hk : k ≤ 100000) (hus : ∀ x ∈ us, ∃ a, x = .pointer a) (hu : ∃ a, u = .pointer a) (hgv : w.heap[vb]? = some (.cells #[u] 51 (0, 0))) (hne : ¬ Ows v vb) :
    Calls Tryd.prog 29 #[v, .int .i64 (i : Int), .slice (some ⟨vb, 0, none⟩) 1 1] w fun e w' => ∃ v', e = .returned v' ∧ w'.ownsRow 0 51 1 v' (k + 1) (us.take i ++ u :: us.drop i) ∧ Kept (Ows v) w w' ∧ ∀ j, Ows v' j → Ows v j ∨ w.heap.size ≤ j := by
  have hl : us.length = k := by have := hrow.1; omega
  have h1c : ∀ x ∈ us, x.oneCell' = true := fun x hx => by obtain ⟨a, rfl⟩ := hus x hx; rfl
  have h1v : u.oneCell' = true := by obtain ⟨a, rfl⟩ := hu; rfl
  rcases Nat.lt_or_ge i k with q | q
  · rcases hrow.2 with z | ⟨g, cap, cur, q1, q2, q3, q4, q5, q6, q7⟩
    · omega
    · subst q1
      have hne' : vb ≠ g := fun e => hne (by rw [e]; rfl)
      rw [Nat.mul_one] at q6 q7
      rcases Nat.lt_or_ge cap (k + 1) with r | r
      · refine (ins_grow (cur := cur) q q4 r hk hl q3 q6 q7 hgv h1c h1v).mono ?_
        rintro e w' ⟨G, ROW, g1, g2, g3, g4, rfl, g5, g6⟩
        refine ⟨_, rfl, ⟨by simp; omega, .inr ⟨_, G, ROW, rfl, Nat.zero_le _, g5, g1, g2, by omega, by rw [Nat.mul_one]; exact g4⟩⟩, ⟨g6.os, g6.tape, g6.output, g6.size, fun j hj _ => g6.block j hj⟩, fun j hj => .inr ?_⟩
        have : w.heap.size = j := by simpa [Ows, Value.ownBlock] using hj
        omega
      · refine (ins_shift (cur := cur) q r (by unfold maxLen at q5; omega) hne' hl q3 q6 q7 hgv h1c h1v).mono ?_
        rintro e w' ⟨rfl, g1, g2, g3, g4⟩
        refine ⟨_, rfl, ⟨by simp; omega, .inr ⟨g, cap, stt (sft cur i us) i u, rfl, Nat.zero_le _, ?_, r, q5, ?_, ?_⟩⟩, ⟨g2, g3, g4, ?_, fun j hj hn => ?_⟩, fun j hj => .inl hj⟩
        · rw [g1]; exact setRow_heap _ _ _ _ _ _ (setRow_heap _ _ _ _ _ _ q3)
        · rw [stt_size (by rw [sft_size (by omega) (by omega)]; omega), sft_size (by omega) (by omega)]; omega
        · have := sft_take (cur := cur) (i := i) (cs := us) u (by rw [hl]; exact q7) (by omega) (by omega)
          rw [hl] at this
          rw [Nat.mul_one]; exact this
        · rw [g1]; simp [World.setRow]
        · have hjg : j ≠ g := fun e => hn (by rw [e]; rfl)
          rw [g1]
          exact (setRow_other _ _ _ _ hjg).trans (setRow_other _ _ _ _ hjg)
  · obtain rfl : i = k := by omega
    refine (ins_end hrow hk hus hu hgv).mono ?_
    rintro e w' ⟨v', rfl, h1, h2, h3⟩
    refine ⟨v', rfl, by rw [List.take_of_length_le (by omega), List.drop_of_length_le (by omega)]; exact h1, ⟨h2.os, h2.tape, h2.output, h2.size, fun j hj hn => h2.block j hj (fun e => hn e.symm)⟩, fun j hj => ?_⟩
    rcases h3 with e | ⟨g, e, he⟩
    · exact .inl (by unfold Ows at hj ⊢; rw [← e]; exact hj)
    · refine .inr ?_
      unfold Ows at hj
      rw [e] at hj
      obtain rfl : g = j := by simpa using hj
      exact he
end Go.Proofs.YtaefddnmldbgiabDoor
