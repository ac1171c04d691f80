/- The landed mem's Get, Len, Weight, New. -/
import Derived.Test.YtaefddnmldbgiabDoorNadd
namespace Go.Proofs.YtaefddnmldbgiabDoor
open Go.RowKit
set_option linter.unusedVariables false
set_option linter.unusedSimpArgs false

theorem find_none_key {l : List EntV} {key : List Int} {s : Int} (h : ∀ e ∈ l, cmp e.key key ≠ 0) : (l.find? fun e => decide (cmp e.key key = 0 ∧ e.seq ≤ s)) = none := by
  rw [List.find?_eq_none]
  intro x hx
  have := h x hx
  simp [this]
/-- What Get tells of a key that is there. -/
theorem get_flat {A B : List Nd} {n : Nd} {key : List Int} {s : Int} (hk : n.key = key) (hA : ∀ a ∈ A, cmp a.key key < 0) (hB : ∀ b ∈ B, 0 < cmp b.key key) (ho : n.vs.Pairwise fun a b => a.seq < b.seq) : getE (flat (A ++ n :: B)) key s = (atO n.vs s).map (Vr.ent n.key) := by
  unfold getE
  rw [flat_app, flat_cons, List.find?_append, List.find?_append]
  rw [find_none_key (l := flat A) (fun e he => by
    obtain ⟨a, ha, _, e1⟩ := flat_key he
    have := hA a ha
    rw [e1]; omega), find_none_key (l := flat B) (fun e he => by
    obtain ⟨a, ha, _, e1⟩ := flat_key he
    have := hB a ha
    rw [e1]; omega)]
  rw [Option.none_or, Option.or_none]
  have e2 : (n.ents.find? fun e => decide (cmp e.key key = 0 ∧ e.seq ≤ s)) = n.ents.find? fun e => decide (e.seq ≤ s) := by
    have : ∀ l : List EntV, (∀ e ∈ l, cmp e.key key = 0) → (l.find? fun e => decide (cmp e.key key = 0 ∧ e.seq ≤ s)) = l.find? fun e => decide (e.seq ≤ s) := fun l => by
      induction l with
      | nil => intro _; rfl
      | cons x r ih =>
        intro h
        have hx := h x (by simp)
        rw [List.find?_cons, List.find?_cons, ih fun e he => h e (by simp [he])]
        simp [hx]
    exact this _ fun e he => by rw [(ents_key he).1, hk]; exact cmp_refl _
  rw [e2]
  exact find_at ho s n.key
theorem get_none {ns : List Nd} {key : List Int} {s : Int} (h : ∀ n ∈ ns, n.key ≠ key) : getE (flat ns) key s = none := find_none_key fun e he => by
  obtain ⟨a, ha, _, e1⟩ := flat_key he
  rw [e1]
  exact fun q => h a ha (cmp_zero.1 q)
theorem ok_key {ns : List Nd} (hok : okE (flat ns)) {n : Nd} (hn : n ∈ ns) {v : Vr} (hv : v ∈ n.vs) : n.key.length ≤ 512 ∧ v.val.length ≤ 2048 := by
  have hm : v.ent n.key ∈ flat ns := by
    obtain ⟨A, B, rfl⟩ := List.append_of_mem hn
    rw [flat_app, flat_cons]
    refine List.mem_append.2 (.inr (List.mem_append.2 (.inl ?_)))
    unfold Nd.ents
    rw [List.mem_reverse]
    exact List.mem_map.2 ⟨v, hv, rfl⟩
  have := hok _ hm
  unfold mayE at this
  simp only [decide_eq_true_eq] at this
  exact ⟨this.2.1, this.2.2.2.2.2.2.1⟩
theorem new_m {w : World} (hT : Tab w) : Calls Tryd.prog 5 #[] w fun e w' => ∃ p F, e = .returned (pm p) ∧ RM w' p [] F ∧ (∀ k, F k → w.heap.size ≤ k) ∧ Below w.heap.size w w' := by
  have HT := hid hT
  clear hT
  go_enter Tryd.func5, Tryd.ntmps5
  go_wp2_with fail
  have hb : Below w.heap.size w (w.alloc (.cells #[.slice none 0 0, .slice none 0 0, .pointer none, .pointer none, .pointer none, .pointer none, .pointer none, .pointer none, .pointer none, .pointer none, .pointer none, .pointer none, .pointer none, .pointer none, .int .i64 0, .int .i64 0] 45)) := (Below.refl _ w).alloc (Nat.le_refl _) _
  have hg := heap_alloc_new w (.cells #[.slice none 0 0, .slice none 0 0, .pointer none, .pointer none, .pointer none, .pointer none, .pointer none, .pointer none, .pointer none, .pointer none, .pointer none, .pointer none, .pointer none, .pointer none, .int .i64 0, .int .i64 0] 45)
  refine bodyPost_ret (v := pm w.heap.size) (by simp [results, Tryd.results5, go_sem, pm]) rfl ⟨w.heap.size, FP w.heap.size [], rfl, ⟨[], ⟨⟨HT.out.later hb, ⟨_, hg, rfl, rfl, rfl⟩, (fun n hn => by cases hn), ⟨List.Pairwise.nil, fun n hn => by cases hn⟩, List.nodup_nil, List.Pairwise.nil⟩, fun i hi => ?_⟩, rfl, rfl⟩, fun k hk => ?_, hb⟩
  · show World.cell? _ ⟨w.heap.size, 2 + i, none⟩ = _
    rw [cell_of hg]
    match i, hi with
    | 0, _ => rfl
    | 1, _ => rfl
    | 2, _ => rfl
    | 3, _ => rfl
    | 4, _ => rfl
    | 5, _ => rfl
    | 6, _ => rfl
    | 7, _ => rfl
    | 8, _ => rfl
    | 9, _ => rfl
    | 10, _ => rfl
    | 11, _ => rfl
  · rcases hk with rfl | ⟨n, hn, _⟩
    · exact Nat.le_refl _
    · cases hn
set_option maxHeartbeats 4000000 in
set_option maxRecDepth 100000 in
theorem get_m {w : World} {p : Nat} {l : List EntV} {F : Nat → Prop} {ka : Option Addr} {kl kc : Nat} {key : List Int} {s : Int} (h : RM w p l F) (hok : okE l) (hl : l.length ≤ 100) (hk : Sl w ka kl kc key) (hs : In64 s) : Calls Tryd.prog 10 #[pm p, .slice ka kl kc, .int .i64 s] w fun r w' => GotE w.heap.size (getE l key s) r w' ∧ Below w.heap.size w w' := by
  obtain ⟨ns, hm, rfl, rfl⟩ := h
  obtain ⟨W, hW⟩ : ∃ W, W = w.alloc (.cells #[.slice none 0 0, .int .i64 0, .bool false, .int .i64 0, .slice none 0 0] 28) := ⟨_, rfl⟩
  have hWb : Below w.heap.size w W := by rw [hW]; exact (Below.refl _ w).alloc (Nat.le_refl _) _
  have hWs : W.heap.size = w.heap.size + 1 := by rw [hW]; simp
  have hWk : W.heap[w.heap.size]? = some (.cells #[.slice none 0 0, .int .i64 0, .bool false, .int .i64 0, .slice none 0 0] 28 (0, 0)) := by rw [hW]; exact heap_alloc_new w _
  have HQ : Hid (∀ wx, Below W.heap.size W wx → wx.heap[w.heap.size]? = some (.cells #[.slice none 0 0, .int .i64 0, .bool false, .int .i64 0, .slice none 0 0] 28 (0, 0))) := fun wx hb => (hb.block _ (by omega)).trans hWk
  have hsk := seek_m (hm.later hWb) (hk.later hWb)
  have HH : Hid (MemAt w p ns ((flat ns).length : Nat) (wts (flat ns) : Nat) ∧ okE (flat ns) ∧ (flat ns).length ≤ 100 ∧ Sl w ka kl kc key ∧ Below w.heap.size w W ∧ W.heap.size = w.heap.size + 1) := ⟨hm, hok, hl, hk, hWb, hWs⟩
  have HW := hid hW
  have HZ : Hid (∀ wx, Below W.heap.size W wx → getE (flat ns) key s = none → ∀ wf, wf = ((((wx.setCell ⟨w.heap.size, 0, none⟩ (.slice none 0 0)).setCell ⟨w.heap.size, 1, none⟩ (.int .i64 0)).setCell ⟨w.heap.size, 2, none⟩ (.bool false)).setCell ⟨w.heap.size, 3, none⟩ (.int .i64 0)).setCell ⟨w.heap.size, 4, none⟩ (.slice none 0 0) → GotE w.heap.size (getE (flat ns) key s) (.returned (.tuple #[ent0, .bool false])) wf ∧ Below w.heap.size w wf) := fun wx hb hg wf hwf => by
    rw [hwf]
    exact ⟨.inl ⟨hg, rfl⟩, below_set5 (HH.out.2.2.2.2.1.trans (hb.mono HH.out.2.2.2.2.1.size)) _ _ _ _ _⟩
  clear hm hok hl hk hWb hWs hWk hW
  unfold pm at hsk ⊢
  unfold ent0 at HZ
  go_enter Tryd.func10, Tryd.ntmps10
  go_upto_region 1 with fail
  rw [← HW.out]
  cases hb : bck ns key with
  | nil =>
    rw [hb] at hsk
    simp only [List.head?_nil, Option.map_none, ptrO] at hsk
    have hno := key_none HH.out.1 (key := key) (fun m r h => by rw [hb] at h; cases h)
    have HG := hid (get_none (s := s) hno)
    clear hno hb
    go_wp2_with (first | (go_at_call 19; refine hsk.mono ?_; rintro e9 w2 ⟨rfl, b2⟩; have hn := @has_nil w2 ka kl kc) | (go_at_call 15; refine hn.mono ?_; rintro e9 w9 ⟨rfl, hw⟩; obtain rfl := hw.symm; clear hn hw; obtain ⟨z0, z1, z2, z3, z4, f0, f1, f2, f3, f4⟩ := ent0_cells (HQ.out _ b2)))
    obtain ⟨o0, o1, o2, o3, o4⟩ := cells_set5 (HQ.out _ b2) (.slice none 0 0) (.int .i64 0) (.bool false) (.int .i64 0) (.slice none 0 0)
    exact bodyPost_ret (v := .tuple #[.agg #[.slice none 0 0, .int .i64 0, .bool false, .int .i64 0, .slice none 0 0], .bool false]) (by simp [results, Tryd.results10, go_sem, o0, o1, o2, o3, o4]) rfl (HZ.out _ b2 HG.out _ rfl)
  | cons m r =>
    rw [hb] at hsk
    simp only [List.head?_cons, Option.map_some, ptrO] at hsk
    unfold ptr at hsk
    have hmm : m ∈ ns := (bck_ge m (by rw [hb]; simp)).1
    by_cases hkey : m.key = key
    · have hgf : getE (flat ns) key s = (atO m.vs s).map (Vr.ent m.key) := by
        obtain ⟨A, n, B, e1, e2, e3, e4, e5, e6, _⟩ := got_there HH.out.1 (Below.refl _ w) hb hkey
        have e := frt_bck HH.out.1.bas.ord.1 key
        rw [hb] at e
        conv => lhs; rw [e]
        refine get_flat hkey (fun a ha => (frt_lt a ha).2) (fun b hb' => ?_) (HH.out.1.bas.ord.2 m hmm)
        have ho := HH.out.1.bas.ord.1
        rw [e] at ho
        have h1 := (List.pairwise_cons.1 (List.pairwise_append.1 ho).2.1).1 b hb'
        have h2 := cmp_neg m.key b.key
        rw [hkey] at h1 h2
        omega
      have hvl : m.vs.length ≤ 100000 := by have := vs_le hmm; have := HH.out.2.2.1; omega
      have HN : Hid (∀ wx, Below W.heap.size W wx → NdAt wx m ∧ Sl wx ka kl kc key) := fun wx hb => by
        have hc := HH.out.2.2.2.2.1.trans (hb.mono HH.out.2.2.2.2.1.size)
        exact ⟨(HH.out.1.later hc).bas.nd m hmm, HH.out.2.2.2.1.later hc⟩
      have HO := hid (HH.out.1.bas.ord.2 m hmm)
      have HVL := hid hvl
      have HHAS : Hid (∀ wx, Below W.heap.size W wx → Calls Tryd.prog 15 #[.pointer (some ⟨m.b, 0, none⟩), .slice ka kl kc] wx fun e w' => e = .returned (.bool true) ∧ w' = wx) := fun wx hb => by
        have := has_m (HN.out _ hb).1 (HN.out _ hb).2
        rw [show decide (m.key = key) = true by simpa using hkey] at this
        exact this
      cases hat : atO m.vs s with
      | none =>
        rw [hat] at hgf
        have HG := hid hgf
        have HAT : Hid (∀ wx, Below W.heap.size W wx → Calls Tryd.prog 20 #[.pointer (some ⟨m.b, 0, none⟩), .int .i64 s] wx fun e w' => e = .returned (.pointer none) ∧ w' = wx) := fun wx hb => by
          have := at_m (HN.out _ hb).1 HVL.out HO.out (s := s)
          rw [hat] at this
          exact this
        clear hb hkey hgf hvl hat
        go_wp2_with (first | (go_at_call 19; refine hsk.mono ?_; rintro e9 w2 ⟨rfl, b2⟩) | (go_at_call 15; refine (HHAS.out _ b2).mono ?_; rintro e9 w9 ⟨rfl, hw⟩; obtain rfl := hw.symm; clear hw) | (go_at_call 20; refine (HAT.out _ b2).mono ?_; rintro e9 w9 ⟨rfl, hw⟩; obtain rfl := hw.symm; clear hw; obtain ⟨z0, z1, z2, z3, z4, f0, f1, f2, f3, f4⟩ := ent0_cells (HQ.out _ b2)))
        obtain ⟨o0, o1, o2, o3, o4⟩ := cells_set5 (HQ.out _ b2) (.slice none 0 0) (.int .i64 0) (.bool false) (.int .i64 0) (.slice none 0 0)
        exact bodyPost_ret (v := .tuple #[.agg #[.slice none 0 0, .int .i64 0, .bool false, .int .i64 0, .slice none 0 0], .bool false]) (by simp [results, Tryd.results10, go_sem, o0, o1, o2, o3, o4]) rfl (HZ.out _ b2 HG.out _ rfl)
      | some v =>
        rw [hat] at hgf
        have HG := hid hgf
        have hvm := atO_mem hat
        have HAT : Hid (∀ wx, Below W.heap.size W wx → Calls Tryd.prog 20 #[.pointer (some ⟨m.b, 0, none⟩), .int .i64 s] wx fun e w' => e = .returned (.pointer (some ⟨v.b, 0, none⟩)) ∧ w' = wx) := fun wx hb => by
          have := at_m (HN.out _ hb).1 HVL.out HO.out (s := s)
          rw [hat] at this
          exact this
        have hlen := ok_key HH.out.2.1 hmm hvm
        have HENT : Hid (∀ wx, Below W.heap.size W wx → Calls Tryd.prog 21 #[.pointer (some ⟨m.b, 0, none⟩), .pointer (some ⟨v.b, 0, none⟩)] wx fun e w' => ToldE wx (v.ent m.key) e w') := fun wx hb => entry_m (HN.out _ hb).1 hvm (by omega) (by omega)
        have HFIN : Hid (∀ wx w5 a5 c5 a6 c6, Below W.heap.size W wx → EntM w5 (entL a5 c5 a6 c6 (v.ent m.key)) (v.ent m.key) → (∀ u ∈ entL a5 c5 a6 c6 (v.ent m.key), ∀ b, Refs u b → wx.heap.size ≤ b) → Below wx.heap.size wx w5 → GotE w.heap.size (getE (flat ns) key s) (.returned (.tuple #[entA a5 c5 a6 c6 (v.ent m.key), .bool true])) (((((w5.setCell ⟨w.heap.size, 0, none⟩ (.slice a5 (v.ent m.key).key.length c5)).setCell ⟨w.heap.size, 1, none⟩ (.int .i64 (v.ent m.key).seq)).setCell ⟨w.heap.size, 2, none⟩ (.bool (v.ent m.key).gone)).setCell ⟨w.heap.size, 3, none⟩ (.int .i64 (v.ent m.key).till)).setCell ⟨w.heap.size, 4, none⟩ (.slice a6 (v.ent m.key).val.length c6)) ∧ Below w.heap.size w (((((w5.setCell ⟨w.heap.size, 0, none⟩ (.slice a5 (v.ent m.key).key.length c5)).setCell ⟨w.heap.size, 1, none⟩ (.int .i64 (v.ent m.key).seq)).setCell ⟨w.heap.size, 2, none⟩ (.bool (v.ent m.key).gone)).setCell ⟨w.heap.size, 3, none⟩ (.int .i64 (v.ent m.key).till)).setCell ⟨w.heap.size, 4, none⟩ (.slice a6 (v.ent m.key).val.length c6))) := fun wx w5 a5 c5 a6 c6 hb hem hnew hb5 => by
          have hc := HH.out.2.2.2.2.1.trans (hb.mono HH.out.2.2.2.2.1.size)
          have hc5 := hc.trans (hb5.mono hc.size)
          have hsz := hb.size
          have hWs := HH.out.2.2.2.2.2
          refine ⟨.inr ⟨v.ent m.key, a5, c5, a6, c6, HG.out, rfl, entE.keep hem fun u hu b hr => ?_, fun u hu b hr => ?_⟩, below_set5 hc5 _ _ _ _ _⟩
          · have h1 := hnew u hu b hr
            have hne : b ≠ w.heap.size := by omega
            rw [heap_ne _ _ _ hne, heap_ne _ _ _ hne, heap_ne _ _ _ hne, heap_ne _ _ _ hne, heap_ne _ _ _ hne]
          · have := hnew u hu b hr
            omega
        clear hb hkey hgf hvl hat hvm hlen
        unfold entA at HFIN
        generalize v.ent m.key = x at HENT HFIN
        unfold ToldE entA at HENT
        go_wp2_with (first | (go_at_call 19; refine hsk.mono ?_; rintro e9 w2 ⟨rfl, b2⟩) | (go_at_call 15; refine (HHAS.out _ b2).mono ?_; rintro e9 w9 ⟨rfl, hw⟩; obtain rfl := hw.symm; clear hw) | (go_at_call 20; refine (HAT.out _ b2).mono ?_; rintro e9 w9 ⟨rfl, hw⟩; obtain rfl := hw.symm; clear hw) | (go_at_call 21; refine (HENT.out _ b2).mono ?_; rintro e9 w5 ⟨a5, c5, a6, c6, rfl, em5, n5, _, _, b5⟩; obtain ⟨z0, z1, z2, z3, z4, f0, f1, f2, f3, f4⟩ := ent0_cells (HQ.out _ (b2.trans (b5.mono b2.size)))))
        obtain ⟨o0, o1, o2, o3, o4⟩ := cells_set5 (HQ.out _ (b2.trans (b5.mono b2.size))) (.slice a5 x.key.length c5) (.int .i64 x.seq) (.bool x.gone) (.int .i64 x.till) (.slice a6 x.val.length c6)
        exact bodyPost_ret (v := .tuple #[.agg #[.slice a5 x.key.length c5, .int .i64 x.seq, .bool x.gone, .int .i64 x.till, .slice a6 x.val.length c6], .bool true]) (by simp [results, Tryd.results10, go_sem, o0, o1, o2, o3, o4]) rfl (HFIN.out _ _ _ _ _ _ b2 em5 n5 b5)
    · have hno := key_none HH.out.1 (key := key) (fun m' r' h => by rw [hb] at h; cases h; exact hkey)
      have HG := hid (get_none (s := s) hno)
      have HHAS : Hid (∀ wx, Below W.heap.size W wx → Calls Tryd.prog 15 #[.pointer (some ⟨m.b, 0, none⟩), .slice ka kl kc] wx fun e w' => e = .returned (.bool false) ∧ w' = wx) := fun wx hb => by
        have hc := HH.out.2.2.2.2.1.trans (hb.mono HH.out.2.2.2.2.1.size)
        have := has_m ((HH.out.1.later hc).bas.nd m hmm) (HH.out.2.2.2.1.later hc)
        rw [show decide (m.key = key) = false by simpa using hkey] at this
        exact this
      clear hno hb hkey
      go_wp2_with (first | (go_at_call 19; refine hsk.mono ?_; rintro e9 w2 ⟨rfl, b2⟩) | (go_at_call 15; refine (HHAS.out _ b2).mono ?_; rintro e9 w9 ⟨rfl, hw⟩; obtain rfl := hw.symm; clear hw; obtain ⟨z0, z1, z2, z3, z4, f0, f1, f2, f3, f4⟩ := ent0_cells (HQ.out _ b2)))
      obtain ⟨o0, o1, o2, o3, o4⟩ := cells_set5 (HQ.out _ b2) (.slice none 0 0) (.int .i64 0) (.bool false) (.int .i64 0) (.slice none 0 0)
      exact bodyPost_ret (v := .tuple #[.agg #[.slice none 0 0, .int .i64 0, .bool false, .int .i64 0, .slice none 0 0], .bool false]) (by simp [results, Tryd.results10, go_sem, o0, o1, o2, o3, o4]) rfl (HZ.out _ b2 HG.out _ rfl)
end Go.Proofs.YtaefddnmldbgiabDoor
