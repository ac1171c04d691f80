import Derived.Test.YtaefddnmldbgiabDoorPk14
import Derived.Test.YtaefddnmldbgiabDoorPk20
/- The landed mem's Get, Len, Weight, New. -/
namespace Go.Proofs.YtaefddnmldbgiabDoor
open Go.RowKit
set_option linter.unusedVariables false
set_option linter.unusedSimpArgs false

theorem find_none_key {l : List EntV} {key : List Int} {s : Int} (h : ∀ e ∈ l, cmp e.key key ≠ 0) : (l.find? fun e => decide (cmp e.key key = 0 ∧ e.seq ≤ s)) = none := by
  rw [List.find?_eq_none]
  intro x hx
  have := h x hx
  simp [this]
/-- What Get tells of a key that is there. -/
theorem get_flat {A B : List Nd} {n : Nd} {key : List Int} {s : Int} (hk : n.key = key) (hA : ∀ a ∈ A, cmp a.key key < 0) (hB : ∀ b ∈ B, 0 < cmp b.key key) (ho : n.vs.Pairwise fun a b => a.seq < b.seq) : getE (flat (A ++ n :: B)) key s = (atO n.vs s).map (Vr.ent n.key) := by
  unfold getE
  rw [flat_app, flat_cons, List.find?_append, List.find?_append]
  rw [find_none_key (l := flat A) (fun e he => by
    obtain ⟨a, ha, _, e1⟩ := flat_key he
    have := hA a ha
    rw [e1]; omega), find_none_key (l := flat B) (fun e he => by
    obtain ⟨a, ha, _, e1⟩ := flat_key he
    have := hB a ha
    rw [e1]; omega)]
  rw [Option.none_or, Option.or_none]
  have e2 : (n.ents.find? fun e => decide (cmp e.key key = 0 ∧ e.seq ≤ s)) = n.ents.find? fun e => decide (e.seq ≤ s) := by
    have : ∀ l : List EntV, (∀ e ∈ l, cmp e.key key = 0) → (l.find? fun e => decide (cmp e.key key = 0 ∧ e.seq ≤ s)) = l.find? fun e => decide (e.seq ≤ s) := fun l => by
      induction l with
      | nil => intro _; rfl
      | cons x r ih =>
        intro h
        have hx := h x (by simp)
        rw [List.find?_cons, List.find?_cons, ih fun e he => h e (by simp [he])]
        simp [hx]
    exact this _ fun e he => by rw [(ents_key he).1, hk]; exact cmp_refl _
  rw [e2]
  exact find_at ho s n.key
theorem get_none {ns : List Nd} {key : List Int} {s : Int} (h : ∀ n ∈ ns, n.key ≠ key) : getE (flat ns) key s = none := find_none_key fun e he => by
  obtain ⟨a, ha, _, e1⟩ := flat_key he
  rw [e1]
  exact fun q => h a ha (cmp_zero.1 q)
theorem ok_key {ns : List Nd} (hok : okE (flat ns)) {n : Nd} (hn : n ∈ ns) {v : Vr} (hv : v ∈ n.vs) : n.key.length ≤ 512 ∧ v.val.length ≤ 2048 := by
  have hm : v.ent n.key ∈ flat ns := by
    obtain ⟨A, B, rfl⟩ := List.append_of_mem hn
    rw [flat_app, flat_cons]
    refine List.mem_append.2 (.inr (List.mem_append.2 (.inl ?_)))
    unfold Nd.ents
    rw [List.mem_reverse]
    exact List.mem_map.2 ⟨v, hv, rfl⟩
  have := hok _ hm
  unfold mayE at this
  simp only [decide_eq_true_eq] at this
  exact ⟨this.2.1, this.2.2.2.2.2.2.1⟩
theorem new_m {w : World} (hT : Tab w) : Calls Tryd.prog 5 #[] w fun e w' => ∃ p F, e = .returned (pm p) ∧ RM w' p [] F ∧ (∀ k, F k → w.heap.size ≤ k) ∧ Below w.heap.size w w' := by
  have HT := hid hT
  clear hT
  go_enter Tryd.func5, Tryd.ntmps5
  go_wp2_with fail
  have hb : Below w.heap.size w (w.alloc (.cells #[.slice none 0 0, .slice none 0 0, .pointer none, .pointer none, .pointer none, .pointer none, .pointer none, .pointer none, .pointer none, .pointer none, .pointer none, .pointer none, .pointer none, .pointer none, .int .i64 0, .int .i64 0] 45)) := (Below.refl _ w).alloc (Nat.le_refl _) _
  have hg := heap_alloc_new w (.cells #[.slice none 0 0, .slice none 0 0, .pointer none, .pointer none, .pointer none, .pointer none, .pointer none, .pointer none, .pointer none, .pointer none, .pointer none, .pointer none, .pointer none, .pointer none, .int .i64 0, .int .i64 0] 45)
  refine bodyPost_ret (v := pm w.heap.size) (by simp [results, Tryd.results5, go_sem, pm]) rfl ⟨w.heap.size, FP w.heap.size [], rfl, ⟨[], ⟨⟨HT.out.later hb, ⟨_, hg, rfl, rfl, rfl⟩, (fun n hn => by cases hn), ⟨List.Pairwise.nil, fun n hn => by cases hn⟩, List.nodup_nil, List.Pairwise.nil⟩, fun i hi => ?_⟩, rfl, rfl⟩, fun k hk => ?_, hb⟩
  · show World.cell? _ ⟨w.heap.size, 2 + i, none⟩ = _
    rw [cell_of hg]
    match i, hi with
    | 0, _ => rfl
    | 1, _ => rfl
    | 2, _ => rfl
    | 3, _ => rfl
    | 4, _ => rfl
    | 5, _ => rfl
    | 6, _ => rfl
    | 7, _ => rfl
    | 8, _ => rfl
    | 9, _ => rfl
    | 10, _ => rfl
    | 11, _ => rfl
  · rcases hk with rfl | ⟨n, hn, _⟩
    · exact Nat.le_refl _
    · cases hn
set_option maxHeartbeats 4000000 in
set_option maxRecDepth 100000 in
theorem get_m {w : World} {p : Nat} {l : List EntV} {F : Nat → Prop} {ka : Option Addr} {kl kc : Nat} {key : List Int} {s : Int} (h : RM w p l F) (hok : okE l) (hl : l.length ≤ 100) (hk : Sl w ka kl kc key) (hs : In64 s) : Calls Tryd.prog 10 #[pm p, .slice ka kl kc, .int .i64 s] w fun r w' => GotE w.heap.size (getE l key s) r w' ∧ Below w.heap.size w w' := by
  obtain ⟨ns, hm, rfl, rfl⟩ := h
  obtain ⟨W, hW⟩ : ∃ W, W = w.alloc (.cells #[.slice none 0 0, .int .i64 0, .bool false, .int .i64 0, .slice none 0 0] 28) := ⟨_, rfl⟩
  have hWb : Below w.heap.size w W := by rw [hW]; exact (Below.refl _ w).alloc (Nat.le_refl _) _
  have hWs : W.heap.size = w.heap.size + 1 := by rw [hW]; simp
  have hWk : W.heap[w.heap.size]? = some (.cells #[.slice none 0 0, .int .i64 0, .bool false, .int .i64 0, .slice none 0 0] 28 (0, 0)) := by rw [hW]; exact heap_alloc_new w _
  have HQ : Hid (∀ wx, Below W.heap.size W wx → wx.heap[w.heap.size]? = some (.cells #[.slice none 0 0, .int .i64 0, .bool false, .int .i64 0, .slice none 0 0] 28 (0, 0))) := fun wx hb => (hb.block _ (by omega)).trans hWk
  have hsk := seek_m (hm.later hWb) (hk.later hWb)
  have HH : Hid (MemAt w p ns ((flat ns).length : Nat) (wts (flat ns) : Nat) ∧ okE (flat ns) ∧ (flat ns).length ≤ 100 ∧ Sl w ka kl kc key ∧ Below w.heap.size w W ∧ W.heap.size = w.heap.size + 1) := ⟨hm, hok, hl, hk, hWb, hWs⟩
  have HW := hid hW
  have HZ : Hid (∀ wx, Below W.heap.size W wx → getE (flat ns) key s = none → ∀ wf, wf = ((((wx.setCell ⟨w.heap.size, 0, none⟩ (.slice none 0 0)).setCell ⟨w.heap.size, 1, none⟩ (.int .i64 0)).setCell ⟨w.heap.size, 2, none⟩ (.bool false)).setCell ⟨w.heap.size, 3, none⟩ (.int .i64 0)).setCell ⟨w.heap.size, 4, none⟩ (.slice none 0 0) → GotE w.heap.size (getE (flat ns) key s) (.returned (.tuple #[ent0, .bool false])) wf ∧ Below w.heap.size w wf) := fun wx hb hg wf hwf => by
    rw [hwf]
    exact ⟨.inl ⟨hg, rfl⟩, below_set5 (HH.out.2.2.2.2.1.trans (hb.mono HH.out.2.2.2.2.1.size)) _ _ _ _ _⟩
  clear hm hok hl hk hWb hWs hWk hW
  unfold pm at hsk ⊢
  unfold ent0 at HZ
  go_enter Tryd.func10, Tryd.ntmps10
  go_upto_region 1 with fail
  rw [← HW.out]
  cases hb : bck ns key with
  | nil =>
    rw [hb] at hsk
    simp only [List.head?_nil, Option.map_none, ptrO] at hsk
    have hno := key_none HH.out.1 (key := key) (fun m r h => by rw [hb] at h; cases h)
    have HG := hid (get_none (s := s) hno)
    clear hno hb
    go_wp2_with (first | (go_at_call 19; refine hsk.mono ?_; rintro e9 w2 ⟨rfl, b2⟩; have hn := @has_nil w2 ka kl kc) | (go_at_call 15; refine hn.mono ?_; rintro e9 w9 ⟨rfl, hw⟩; obtain rfl := hw.symm; clear hn hw; obtain ⟨z0, z1, z2, z3, z4, f0, f1, f2, f3, f4⟩ := ent0_cells (HQ.out _ b2)))
    obtain ⟨o0, o1, o2, o3, o4⟩ := cells_set5 (HQ.out _ b2) (.slice none 0 0) (.int .i64 0) (.bool false) (.int .i64 0) (.slice none 0 0)
    exact bodyPost_ret (v := .tuple #[.agg #[.slice none 0 0, .int .i64 0, .bool false, .int .i64 0, .slice none 0 0], .bool false]) (by simp [results, Tryd.results10, go_sem, o0, o1, o2, o3, o4]) rfl (HZ.out _ b2 HG.out _ rfl)
  | cons m r =>
    rw [hb] at hsk
    simp only [List.head?_cons, Option.map_some, ptrO] at hsk
    unfold ptr at hsk
    have hmm : m ∈ ns := (bck_ge m (by rw [hb]; simp)).1
    by_cases hkey : m.key = key
    · have hgf : getE (flat ns) key s = (atO m.vs s).map (Vr.ent m.key) := by
        obtain ⟨A, n, B, e1, e2, e3, e4, e5, e6, _⟩ := got_there HH.out.1 (Below.refl _ w) hb hkey
        have e := frt_bck HH.out.1.bas.ord.1 key
        rw [hb] at e
        conv => lhs; rw [e]
        refine get_flat hkey (fun a ha => (frt_lt a ha).2) (fun b hb' => ?_) (HH.out.1.bas.ord.2 m hmm)
        have ho := HH.out.1.bas.ord.1
        rw [e] at ho
        have h1 := (List.pairwise_cons.1 (List.pairwise_append.1 ho).2.1).1 b hb'
        have h2 := cmp_neg m.key b.key
        rw [hkey] at h1 h2
        omega
      have hvl : m.vs.length ≤ 100000 := by have := vs_le hmm; have := HH.out.2.2.1; omega
      have HN : Hid (∀ wx, Below W.heap.size W wx → NdAt wx m ∧ Sl wx ka kl kc key) := fun wx hb => by
        have hc := HH.out.2.2.2.2.1.trans (hb.mono HH.out.2.2.2.2.1.size)
        exact ⟨(HH.out.1.later hc).bas.nd m hmm, HH.out.2.2.2.1.later hc⟩
      have HO := hid (HH.out.1.bas.ord.2 m hmm)
      have HVL := hid hvl
      have HHAS : Hid (∀ wx, Below W.heap.size W wx → Calls Tryd.prog 15 #[.pointer (some ⟨m.b, 0, none⟩), .slice ka kl kc] wx fun e w' => e = .returned (.bool true) ∧ w' = wx) := fun wx hb => by
        have := has_m (HN.out _ hb).1 (HN.out _ hb).2
        rw [show decide (m.key = key) = true by simpa using hkey] at this
        exact this
      cases hat : atO m.vs s with
      | none =>
        rw [hat] at hgf
        have HG := hid hgf
        have HAT : Hid (∀ wx, Below W.heap.size W wx → Calls Tryd.prog 20 #[.pointer (some ⟨m.b, 0, none⟩), .int .i64 s] wx fun e w' => e = .returned (.pointer none) ∧ w' = wx) := fun wx hb => by
          have := at_m (HN.out _ hb).1 HVL.out HO.out (s := s)
          rw [hat] at this
          exact this
        clear hb hkey hgf hvl hat
        go_wp2_with (first | (go_at_call 19; refine hsk.mono ?_; rintro e9 w2 ⟨rfl, b2⟩) | (go_at_call 15; refine (HHAS.out _ b2).mono ?_; rintro e9 w9 ⟨rfl, hw⟩; obtain rfl := hw.symm; clear hw) | (go_at_call 20; refine (HAT.out _ b2).mono ?_; rintro e9 w9 ⟨rfl, hw⟩; obtain rfl := hw.symm; clear hw; obtain ⟨z0, z1, z2, z3, z4, f0, f1, f2, f3, f4⟩ := ent0_cells (HQ.out _ b2)))
        obtain ⟨o0, o1, o2, o3, o4⟩ := cells_set5 (HQ.out _ b2) (.slice none 0 0) (.int .i64 0) (.bool false) (.int .i64 0) (.slice none 0 0)
        exact bodyPost_ret (v := .tuple #[.agg #[.slice none 0 0, .int .i64 0, .bool false, .int .i64 0, .slice none 0 0], .bool false]) (by simp [results, Tryd.results10, go_sem, o0, o1, o2, o3, o4]) rfl (HZ.out _ b2 HG.out _ rfl)
      | some v =>
        rw [hat] at hgf
        have HG := hid hgf
        have hvm := atO_mem hat
        have HAT : Hid (∀ wx, Below W.heap.size W wx → Calls Tryd.prog 20 #[.pointer (some ⟨m.b, 0, none⟩), .int .i64 s] wx fun e w' => e = .returned (.pointer (some ⟨v.b, 0, none⟩)) ∧ w' = wx) := fun wx hb => by
          have := at_m (HN.out _ hb).1 HVL.out HO.out (s := s)
          rw [hat] at this
          exact this
        have hlen := ok_key HH.out.2.1 hmm hvm
        have HENT : Hid (∀ wx, Below W.heap.size W wx → Calls Tryd.prog 21 #[.pointer (some ⟨m.b, 0, none⟩), .pointer (some ⟨v.b, 0, none⟩)] wx fun e w' => ToldE wx (v.ent m.key) e w') := fun wx hb => entry_m (HN.out _ hb).1 hvm (by omega) (by omega)
        have HFIN : Hid (∀ wx w5 a5 c5 a6 c6, Below W.heap.size W wx → EntM w5 (entL a5 c5 a6 c6 (v.ent m.key)) (v.ent m.key) → (∀ u ∈ entL a5 c5 a6 c6 (v.ent m.key), ∀ b, Refs u b → wx.heap.size ≤ b) → Below wx.heap.size wx w5 → GotE w.heap.size (getE (flat ns) key s) (.returned (.tuple #[entA a5 c5 a6 c6 (v.ent m.key), .bool true])) (((((w5.setCell ⟨w.heap.size, 0, none⟩ (.slice a5 (v.ent m.key).key.length c5)).setCell ⟨w.heap.size, 1, none⟩ (.int .i64 (v.ent m.key).seq)).setCell ⟨w.heap.size, 2, none⟩ (.bool (v.ent m.key).gone)).setCell ⟨w.heap.size, 3, none⟩ (.int .i64 (v.ent m.key).till)).setCell ⟨w.heap.size, 4, none⟩ (.slice a6 (v.ent m.key).val.length c6)) ∧ Below w.heap.size w (((((w5.setCell ⟨w.heap.size, 0, none⟩ (.slice a5 (v.ent m.key).key.length c5)).setCell ⟨w.heap.size, 1, none⟩ (.int .i64 (v.ent m.key).seq)).setCell ⟨w.heap.size, 2, none⟩ (.bool (v.ent m.key).gone)).setCell ⟨w.heap.size, 3, none⟩ (.int .i64 (v.ent m.key).till)).setCell ⟨w.heap.size, 4, none⟩ (.slice a6 (v.ent m.key).val.length c6))) := fun wx w5 a5 c5 a6 c6 hb hem hnew hb5 => by
          have hc := HH.out.2.2.2.2.1.trans (hb.mono HH.out.2.2.2.2.1.size)
          have hc5 := hc.trans (hb5.mono hc.size)
          have hsz := hb.size
          have hWs := HH.out.2.2.2.2.2
          refine ⟨.inr ⟨v.ent m.key, a5, c5, a6, c6, HG.out, rfl, entE.keep hem fun u hu b hr => ?_, fun u hu b hr => ?_⟩, below_set5 hc5 _ _ _ _ _⟩
          · have h1 := hnew u hu b hr
            have hne : b ≠ w.heap.size := by omega
            rw [heap_ne _ _ _ hne, heap_ne _ _ _ hne, heap_ne _ _ _ hne, heap_ne _ _ _ hne, heap_ne _ _ _ hne]
          · have := hnew u hu b hr
            omega
        clear hb hkey hgf hvl hat hvm hlen
        unfold entA at HFIN
        generalize v.ent m.key = x at HENT HFIN
        unfold ToldE entA at HENT
        go_wp2_with (first | (go_at_call 19; refine hsk.mono ?_; rintro e9 w2 ⟨rfl, b2⟩) | (go_at_call 15; refine (HHAS.out _ b2).mono ?_; rintro e9 w9 ⟨rfl, hw⟩; obtain rfl := hw.symm; clear hw) | (go_at_call 20; refine (HAT.out _ b2).mono ?_; rintro e9 w9 ⟨rfl, hw⟩; obtain rfl := hw.symm; clear hw) | (go_at_call 21; refine (HENT.out _ b2).mono ?_; rintro e9 w5 ⟨a5, c5, a6, c6, rfl, em5, n5, _, _, b5⟩; obtain ⟨z0, z1, z2, z3, z4, f0, f1, f2, f3, f4⟩ := ent0_cells (HQ.out _ (b2.trans (b5.mono b2.size)))))
        obtain ⟨o0, o1, o2, o3, o4⟩ := cells_set5 (HQ.out _ (b2.trans (b5.mono b2.size))) (.slice a5 x.key.length c5) (.int .i64 x.seq) (.bool x.gone) (.int .i64 x.till) (.slice a6 x.val.length c6)
        exact bodyPost_ret (v := .tuple #[.agg #[.slice a5 x.key.length c5, .int .i64 x.seq, .bool x.gone, .int .i64 x.till, .slice a6 x.val.length c6], .bool true]) (by simp [results, Tryd.results10, go_sem, o0, o1, o2, o3, o4]) rfl (HFIN.out _ _ _ _ _ _ b2 em5 n5 b5)
    · have hno := key_none HH.out.1 (key := key) (fun m' r' h => by rw [hb] at h; cases h; exact hkey)
      have HG := hid (get_none (s := s) hno)
      have HHAS : Hid (∀ wx, Below W.heap.size W wx → Calls Tryd.prog 15 #[.pointer (some ⟨m.b, 0, none⟩), .slice ka kl kc] wx fun e w' => e = .returned (.bool false) ∧ w' = wx) := fun wx hb => by
        have hc := HH.out.2.2.2.2.1.trans (hb.mono HH.out.2.2.2.2.1.size)
        have := has_m ((HH.out.1.later hc).bas.nd m hmm) (HH.out.2.2.2.1.later hc)
        rw [show decide (m.key = key) = false by simpa using hkey] at this
        exact this
      clear hno hb hkey
      go_wp2_with (first | (go_at_call 19; refine hsk.mono ?_; rintro e9 w2 ⟨rfl, b2⟩) | (go_at_call 15; refine (HHAS.out _ b2).mono ?_; rintro e9 w9 ⟨rfl, hw⟩; obtain rfl := hw.symm; clear hw; obtain ⟨z0, z1, z2, z3, z4, f0, f1, f2, f3, f4⟩ := ent0_cells (HQ.out _ b2)))
      obtain ⟨o0, o1, o2, o3, o4⟩ := cells_set5 (HQ.out _ b2) (.slice none 0 0) (.int .i64 0) (.bool false) (.int .i64 0) (.slice none 0 0)
      exact bodyPost_ret (v := .tuple #[.agg #[.slice none 0 0, .int .i64 0, .bool false, .int .i64 0, .slice none 0 0], .bool false]) (by simp [results, Tryd.results10, go_sem, o0, o1, o2, o3, o4]) rfl (HZ.out _ b2 HG.out _ rfl)
end Go.Proofs.YtaefddnmldbgiabDoor

/- The landed mem's Latest; rows of entries whose bytes may be written. -/
namespace Go.Proofs.YtaefddnmldbgiabDoor
open Go.RowKit
set_option linter.unusedVariables false
set_option linter.unusedSimpArgs false

/-- An entry of a row, whose bytes may be written. -/
def EntW (w : World) (vs : List Value) (x : EntV) : Prop := EntM w vs x ∧ ∀ u ∈ vs, ∀ a n c, u = .slice a n c → Wr w a n
def entW : El EntV where
  ty := entE.ty
  size := entE.size
  M := EntW
  len := fun h => entE.len h.1
  one := fun h => entE.one h.1
  lt := fun h => entE.lt h.1
  keep := fun h hk => ⟨entE.keep h.1 hk, fun u hu a n c e => (h.2 u hu a n c e).keep fun b off ea hn => hk u hu b ⟨off, n, c, by rw [e, ea], hn⟩⟩
theorem entW_info : (Tryd.prog.info? entW.ty).map (fun i => (i.zero, i.size, i.bytes)) = some (some (.agg #[.slice none 0 0, .int .i64 0, .bool false, .int .i64 0, .slice none 0 0]), entW.size, 72) := entE_info
theorem lay_wr {w : World} : ∀ {us : List Value} {xs : List EntV}, Lay entW w us xs → Lay entE w us xs ∧ ∀ u ∈ us, ∀ a n c, u = .slice a n c → Wr w a n
  | us, [], h => ⟨h, fun u hu => by rw [show us = [] from h] at hu; cases hu⟩
  | us, x :: xs, h => by
    obtain ⟨vs, us', rfl, h1, h2⟩ := h
    have h3 := lay_wr h2
    refine ⟨⟨vs, us', rfl, h1.1, h3.1⟩, fun u hu => ?_⟩
    rcases List.mem_append.1 hu with q | q
    · exact h1.2 u q
    · exact h3.2 u q
theorem rowW_E {B : Nat} {F : Nat → Prop} {w : World} {v : Value} {xs : List EntV} (h : RowF entW B F w v xs) : RowF entE B F w v xs := by
  obtain ⟨us, h1, h2, h3, h4⟩ := h
  exact ⟨us, h1, (lay_wr h2).1, h3, h4⟩
theorem told_W {w' : World} {x : EntV} {ka va : Option Addr} {kc vc : Nat} (h : EntM w' (entL ka kc va vc x) x) (r1 : Wr w' ka x.key.length) (r2 : Wr w' va x.val.length) : EntW w' (entL ka kc va vc x) x := by
  refine ⟨h, fun u hu a n c e => ?_⟩
  unfold entL at hu
  simp only [List.mem_cons, List.not_mem_nil, or_false] at hu
  rcases hu with rfl | rfl | rfl | rfl | rfl
  · simp only [Value.slice.injEq] at e; obtain ⟨rfl, rfl, rfl⟩ := e; exact r1
  · cases e
  · cases e
  · cases e
  · simp only [Value.slice.injEq] at e; obtain ⟨rfl, rfl, rfl⟩ := e; exact r2
/-- The keys that are asked for. -/
def inK (ub : List Int) (n : Nd) : Bool := decide (ub.length = 0 ∨ cmp n.key ub < 0)
theorem list_flat (fr ub : List Int) : ∀ ns : List Nd, listE (flat ns) fr ub = flat ((bck ns fr).filter (inK ub))
  | [] => rfl
  | n :: r => by
    have ih := list_flat fr ub r
    rw [flat_cons]
    unfold listE at ih ⊢
    rw [List.filter_append, ih]
    have h1 : n.ents.filter (inE fr ub) = if ! decide (cmp n.key fr < 0) && inK ub n then n.ents else [] := by
      split
      · rename_i q
        rw [List.filter_eq_self]
        intro e he
        unfold inE
        rw [(ents_key he).1]
        unfold inK at q
        simp at q ⊢
        exact q
      · rename_i q
        rw [List.filter_eq_nil_iff]
        intro e he
        unfold inE
        rw [(ents_key he).1]
        unfold inK at q
        simp at q ⊢
        exact q
    rw [h1]
    by_cases q : cmp n.key fr < 0
    · have e1 : bck (n :: r) fr = bck r fr := by simp [bck, q]
      rw [e1]
      simp [q]
    · have e1 : bck (n :: r) fr = n :: bck r fr := by simp [bck, q]
      rw [e1]
      by_cases q2 : inK ub n = true
      · rw [List.filter_cons_of_pos q2, flat_cons]
        simp [q, q2]
      · rw [List.filter_cons_of_neg q2]
        simp [q, q2]
/-- Those asked for stand first. -/
theorem filter_take {Z : List Nd} (ho : Z.Pairwise fun a b => cmp a.key b.key < 0) {ub : List Int} {j : Nat} (h1 : ∀ m ∈ Z.take j, inK ub m = true) (h2 : ∀ m, Z[j]? = some m → inK ub m = false) : Z.filter (inK ub) = Z.take j := by
  conv => lhs; rw [← List.take_append_drop j Z]
  rw [List.filter_append, List.filter_eq_self.2 h1]
  have : (Z.drop j).filter (inK ub) = [] := by
    rw [List.filter_eq_nil_iff]
    intro x hx
    cases hz : Z[j]? with
    | none => rw [List.drop_eq_nil_of_le (List.getElem?_eq_none_iff.1 hz)] at hx; cases hx
    | some m =>
      have hm := h2 m hz
      have hj := (List.getElem?_eq_some_iff.1 hz).1
      rw [List.drop_eq_getElem_cons hj] at hx
      have e0 : Z[j] = m := (List.getElem?_eq_some_iff.1 hz).2
      rcases List.mem_cons.1 hx with e | e
      · rw [e, e0, hm]; simp
      · have hp : cmp m.key x.key < 0 := by
          obtain ⟨i, hi, rfl⟩ := List.getElem_of_mem e
          rw [List.length_drop] at hi
          rw [List.getElem_drop, ← e0]
          exact List.pairwise_iff_getElem.1 ho _ _ hj (by omega) (by omega)
        unfold inK at hm ⊢
        simp only [decide_eq_false_iff_not, not_or] at hm
        simp only [decide_eq_true_eq, not_or]
        exact ⟨hm.1, fun q => hm.2 (cmp_trans hp q)⟩
  rw [this, List.append_nil]
/-- Of one key: the first that is not newer. -/
theorem seen_more {s : Int} {k : List Int} : ∀ {L out : List EntV}, (∀ e ∈ L, e.key = k) → (∃ x, out.getLast? = some x ∧ x.key = k) → L.foldl (seen1 s) out = out
  | [], out, _, _ => rfl
  | e :: L, out, h1, ⟨x, hx, hk⟩ => by
    have e1 : seen1 s out e = out := by
      unfold seen1
      rw [if_neg]
      rintro ⟨_, q | ⟨y, hy, hc⟩⟩
      · rw [q] at hx; simp at hx
      · rw [hx] at hy
        obtain rfl : x = y := by simpa using hy
        apply hc
        rw [hk, h1 e (by simp)]
        exact cmp_refl _
    rw [List.foldl_cons, e1]
    exact seen_more (fun e' he => h1 e' (by simp [he])) ⟨x, hx, hk⟩
theorem seen_first {s : Int} {k : List Int} : ∀ {L out : List EntV}, (∀ e ∈ L, e.key = k) → (∀ x, out.getLast? = some x → cmp x.key k ≠ 0) → L.foldl (seen1 s) out = out ++ (L.find? fun e => decide (e.seq ≤ s)).toList
  | [], out, _, _ => by simp
  | e :: L, out, h1, h2 => by
    by_cases q : e.seq ≤ s
    · have e1 : seen1 s out e = out ++ [e] := by
        unfold seen1
        rw [if_pos]
        refine ⟨q, ?_⟩
        cases ho : out.getLast? with
        | none => exact .inl (List.getLast?_eq_none_iff.1 ho)
        | some x => exact .inr ⟨x, rfl, by rw [h1 e (by simp)]; exact h2 x ho⟩
      rw [List.foldl_cons, e1, seen_more (k := k) (fun e' he => h1 e' (by simp [he])) ⟨e, by simp, h1 e (by simp)⟩]
      simp [q]
    · have e1 : seen1 s out e = out := by
        unfold seen1
        rw [if_neg (fun h => q h.1)]
      rw [List.foldl_cons, e1, seen_first (fun e' he => h1 e' (by simp [he])) h2]
      simp [q]
def latV (s : Int) (n : Nd) : Option EntV := match atO n.vs s with
  | some v => if v.gone then none else some (v.ent n.key)
  | none => none
theorem seen_flat {s : Int} : ∀ (Y : List Nd), ordN Y → seenE (flat Y) s = Y.filterMap (fun n => (atO n.vs s).map (Vr.ent n.key)) := fun Y => by
  have main : ∀ (Y : List Nd) (out : List EntV), ordN Y → (∀ x, out.getLast? = some x → ∀ n ∈ Y, cmp x.key n.key ≠ 0) → (flat Y).foldl (seen1 s) out = out ++ Y.filterMap (fun n => (atO n.vs s).map (Vr.ent n.key)) := by
    intro Y
    induction Y with
    | nil => intro out _ _; simp [flat]
    | cons n r ih =>
      intro out ho hl
      rw [flat_cons, List.foldl_append]
      have hf : n.ents.foldl (seen1 s) out = out ++ ((atO n.vs s).map (Vr.ent n.key)).toList := by
        rw [seen_first (k := n.key) (fun e he => (ents_key he).1) (fun x hx => hl x hx n (by simp))]
        congr 2
        exact find_at (ho.2 n (by simp)) s n.key
      rw [hf, ih _ ⟨(List.pairwise_cons.1 ho.1).2, fun m hm => ho.2 m (by simp [hm])⟩ ?_]
      · rw [List.filterMap_cons]
        cases hc : (atO n.vs s).map (Vr.ent n.key) with
        | none => simp
        | some x => simp
      · intro x hx m hm
        cases hc : atO n.vs s with
        | none =>
          rw [hc] at hx
          simp at hx
          exact hl x hx m (by simp [hm])
        | some v =>
          rw [hc] at hx
          simp at hx
          have := (List.pairwise_cons.1 ho.1).1 m hm
          rw [← hx]
          show cmp n.key m.key ≠ 0
          omega
  intro ho
  have := main Y [] ho (fun x hx => by simp at hx)
  simpa [seenE] using this
theorem latest_flat {ns : List Nd} (ho : ordN ns) {fr ub : List Int} {s : Int} {j : Nat} (h1 : ∀ m ∈ (bck ns fr).take j, inK ub m = true) (h2 : ∀ m, (bck ns fr)[j]? = some m → inK ub m = false) : latestE (flat ns) fr ub s = ((bck ns fr).take j).filterMap (latV s) := by
  have hs : (bck ns fr).Sublist ns := List.filter_sublist
  have hb : (bck ns fr).Pairwise fun a b => cmp a.key b.key < 0 := ho.1.sublist hs
  unfold latestE
  rw [list_flat, filter_take hb h1 h2, seen_flat _ ⟨hb.sublist (List.take_sublist _ _), fun n hn => ho.2 n (hs.subset (List.mem_of_mem_take hn))⟩]
  generalize (bck ns fr).take j = Y
  induction Y with
  | nil => rfl
  | cons n r ih =>
    rw [List.filterMap_cons, List.filterMap_cons]
    cases hc : atO n.vs s with
    | none =>
      have e1 : latV s n = none := by unfold latV; rw [hc]
      rw [e1]
      simpa using ih
    | some v =>
      simp only [Option.map_some]
      cases hg : v.gone with
      | true =>
        have e1 : latV s n = none := by unfold latV; rw [hc]; simp [hg]
        rw [e1, List.filter_cons_of_neg (by simp [Vr.ent, hg])]
        exact ih
      | false =>
        have e1 : latV s n = some (v.ent n.key) := by unfold latV; rw [hc]; simp [hg]
        rw [e1, List.filter_cons_of_pos (by simp [Vr.ent, hg])]
        simp only
        rw [ih]
theorem list_flat_take {ns : List Nd} (ho : ordN ns) {fr ub : List Int} {j : Nat} (h1 : ∀ m ∈ (bck ns fr).take j, inK ub m = true) (h2 : ∀ m, (bck ns fr)[j]? = some m → inK ub m = false) : listE (flat ns) fr ub = flat ((bck ns fr).take j) := by
  have hb : (bck ns fr).Pairwise fun a b => cmp a.key b.key < 0 := ho.1.sublist List.filter_sublist
  rw [list_flat, filter_take hb h1 h2]
theorem flat_sub : ∀ {a b : List Nd}, a.Sublist b → (flat a).length ≤ (flat b).length := fun {a b} h => by
  induction h with
  | slnil => exact Nat.le_refl _
  | cons x h ih => rw [flat_cons, List.length_append]; omega
  | cons_cons x h ih => rw [flat_cons, flat_cons, List.length_append, List.length_append]; omega
/-- The key behind a key. -/
theorem nd_next {w : World} {p : Nat} {ns : List Nd} {c wt : Int} (h : MemAt w p ns c wt) (fr : List Int) {j : Nat} {m : Nd} (hm : (bck ns fr)[j]? = some m) : w.cell? ⟨m.b, 2, none⟩ = some (ptrO ((bck ns fr)[j + 1]?.map Nd.b)) := by
  have hc := h.lv 0 (by omega)
  rw [lev_zero (fun n hn => (h.bas.nd n hn).h.1)] at hc
  have e := frt_bck h.bas.ord.1 fr
  have hj := (List.getElem?_eq_some_iff.1 hm).1
  have e0 : (bck ns fr)[j] = m := (List.getElem?_eq_some_iff.1 hm).2
  have e2 : ns.map Nd.b = ((frt ns fr ++ (bck ns fr).take j).map Nd.b ++ [m.b]) ++ ((bck ns fr).drop (j + 1)).map Nd.b := by
    conv => lhs; rw [e, ← List.take_append_drop j (bck ns fr), List.drop_eq_getElem_cons hj, e0]
    simp
  rw [e2] at hc
  have hn := hc.from.next
  rw [lastB_app] at hn
  rw [hn]
  congr 2
  rw [List.head?_map, List.head?_drop]

set_option maxHeartbeats 4000000 in
set_option maxRecDepth 100000 in
theorem latest_m {w : World} {p : Nat} {l : List EntV} {F : Nat → Prop} {fa ta : Option Addr} {fl fc tl tc : Nat} {fr ub : List Int} {s : Int} (h : RM w p l F) (hok : okE l) (hl : l.length ≤ 100) (hf : Sl w fa fl fc fr) (ht : Sl w ta tl tc ub) (hs : In64 s) : Calls Tryd.prog 12 #[pm p, .slice fa fl fc, .slice ta tl tc, .int .i64 s] w fun r w' => ∃ v, r = .returned v ∧ RowF entE w.heap.size (fun b => w.heap.size ≤ b) w' v (latestE l fr ub s) ∧ Below w.heap.size w w' := by
  obtain ⟨ns, hm, rfl, rfl⟩ := h
  have hsk := seek_m hm hf
  rw [List.head?_eq_getElem?] at hsk
  have HH : Hid (MemAt w p ns ((flat ns).length : Nat) (wts (flat ns) : Nat) ∧ okE (flat ns) ∧ (flat ns).length ≤ 100 ∧ Sl w ta tl tc ub) := ⟨hm, hok, hl, ht⟩
  have HLL : Hid (∀ j, (((bck ns fr).take j).filterMap (latV s)).length ≤ 100) := fun j => by
    have h1 : ∀ Y : List Nd, (Y.filterMap (latV s)).length ≤ (flat Y).length := fun Y => by
      induction Y with
      | nil => simp [flat]
      | cons n r ih =>
        rw [List.filterMap_cons, flat_cons, List.length_append]
        cases hc : latV s n with
        | none => simp only; omega
        | some x =>
          simp only [List.length_cons]
          have : 1 ≤ n.ents.length := by
            unfold latV at hc
            cases ha : atO n.vs s with
            | none => rw [ha] at hc; cases hc
            | some v =>
              have := List.length_pos_of_mem (atO_mem ha)
              unfold Nd.ents
              simp
              omega
          omega
    have h2 := h1 ((bck ns fr).take j)
    have h3 : (flat ((bck ns fr).take j)).length ≤ (flat ns).length := by
      have hs : ((bck ns fr).take j).Sublist ns := (List.take_sublist _ _).trans List.filter_sublist
      exact flat_sub hs
    omega
  clear hm hok hl hf ht
  unfold pm at hsk ⊢
  obtain ⟨Z, hZ⟩ : ∃ Z, Z = bck ns fr := ⟨_, rfl⟩
  rw [← hZ] at hsk HLL
  have HZ := hid hZ
  clear hZ
  obtain ⟨o0, ho0⟩ : ∃ o0, ptrO (Z[0]?.map Nd.b) = .pointer o0 := by
    cases Z[0]?.map Nd.b with
    | none => exact ⟨_, rfl⟩
    | some b => exact ⟨_, rfl⟩
  rw [ho0] at hsk
  have HO0 := hid ho0
  clear ho0
  go_enter Tryd.func12, Tryd.ntmps12
  go_wp2_with fail
  refine hsk.mono ?_
  rintro e9 w2 ⟨rfl, b2⟩
  have H0 : Hid (RowF entW w.heap.size (fun b => w.heap.size ≤ b) w2 (.slice none 0 0) ((Z.take 0).filterMap (latV s)) ∧ Below w.heap.size w w2 ∧ ∀ m ∈ Z.take 0, inK ub m = true) := ⟨RowF.nil _ _ _, b2, fun m hm => by cases hm⟩
  clear hsk b2
  go_wp2_with fail
  go_loopg [9, 10, 11] Z.length (fun g v nv _ wr => ∃ j : Nat, j + g = Z.length ∧ nv = ptrO (Z[j]?.map Nd.b) ∧ Hid (RowF entW w.heap.size (fun b => w.heap.size ≤ b) wr v ((Z.take j).filterMap (latV s)) ∧ Below w.heap.size w wr ∧ ∀ m ∈ Z.take j, inK ub m = true))
  case atStart => exact ⟨0, by omega, HO0.out.symm, H0⟩
  case round =>
    obtain ⟨j, hj, rfl, HK⟩ := hrel
    have HDONE : Hid ((∀ m, Z[j]? = some m → inK ub m = false) → RowF entE w.heap.size (fun b => w.heap.size ≤ b) wr u9 (latestE (flat ns) fr ub s) ∧ Below w.heap.size w wr) := fun h2 => by
      have h1 := HK.out.2.2
      rw [HZ.out] at h1 h2
      rw [latest_flat HH.out.1.bas.ord h1 h2, ← HZ.out]
      exact ⟨rowW_E HK.out.1, HK.out.2.1⟩
    cases hz : Z[j]? with
    | none =>
      have hn := @ahead_nil wr ta tl tc
      have HD := hid (HDONE.out (fun m hm => by rw [hz] at hm; cases hm))
      simp only [Option.map_none, ptrO]
      clear hj hz HK HDONE
      go_wp2_with fail
      refine hn.mono ?_
      rintro e9 w9 ⟨rfl, hw⟩
      obtain rfl := hw.symm
      clear hn hw
      go_wp2_with fail
      go_ret
      exact ⟨_, rfl, HD.out⟩
    | some m =>
      have hmm : m ∈ ns := (bck_ge m (by rw [← HZ.out]; exact List.mem_of_getElem? hz)).1
      have hjl := (List.getElem?_eq_some_iff.1 hz).1
      have HM := hid (HH.out.1.later HK.out.2.1)
      have hn := ahead_m (HM.out.bas.nd m hmm) (HH.out.2.2.2.later HK.out.2.1)
      simp only [Option.map_some, ptrO]
      unfold ptr at hn ⊢
      by_cases hi : inK ub m = true
      · have hi' := hi
        unfold inK at hi'
        rw [hi'] at hn
        have hvl : m.vs.length ≤ 100000 := by have := vs_le hmm; have := HH.out.2.2.1; omega
        have hat := at_m (HM.out.bas.nd m hmm) hvl (HH.out.1.bas.ord.2 m hmm) (s := s)
        have HNX : Hid (∀ wx, Below w.heap.size w wx → wx.cell? ⟨m.b, 2, none⟩ = some (ptrO (Z[j + 1]?.map Nd.b))) := fun wx hb => by
          rw [HZ.out] at hz ⊢
          exact nd_next (HH.out.1.later hb) fr hz
        have HTK : Hid ((Z.take (j + 1)).filterMap (latV s) = (Z.take j).filterMap (latV s) ++ (latV s m).toList) := by
          show _ = _
          rw [List.take_add_one, hz, List.filterMap_append]
          cases hq : latV s m <;> simp [hq]
        have HIN : Hid (∀ x ∈ Z.take (j + 1), inK ub x = true) := fun x hx => by
          rw [List.take_add_one, hz] at hx
          rcases List.mem_append.1 hx with q | q
          · exact HK.out.2.2 x q
          · have e : x = m := by simpa using q
            rw [e]; exact hi
        have HL := hid (HLL.out j)
        obtain ⟨GK, HG⟩ : ∃ g, Hid (g < gk ∧ j + 1 + g = Z.length) := ⟨gk - 1, by omega, by omega⟩
        obtain ⟨o', ho'⟩ : ∃ o', ptrO (Z[j + 1]?.map Nd.b) = .pointer o' := by
          cases Z[j + 1]?.map Nd.b with
          | none => exact ⟨_, rfl⟩
          | some b => exact ⟨_, rfl⟩
        have HO' := hid ho'
        rw [ho'] at HNX
        unfold ptr at hat
        cases hav : atO m.vs s with
        | none =>
          have HLV : Hid (latV s m = none) := by show _ = _; unfold latV; rw [hav]
          rw [hav] at hat
          simp only [Option.map_none, ptrO] at hat
          have hnx := HNX.out wr HK.out.2.1
          clear hj hz hi hi' hvl hjl hav ho' HDONE
          go_wp2_with (first | (go_at_call 23; refine hn.mono ?_; rintro e9 w9 ⟨rfl, hw⟩; obtain rfl := hw.symm; clear hn hw) | (go_at_call 20; refine hat.mono ?_; rintro e9 w9 ⟨rfl, hw⟩; obtain rfl := hw.symm; clear hat hw))
          go_roundg GK
          case measure => exact HG.out.1
          case rel => exact ⟨j + 1, HG.out.2, HO'.out.symm, by rw [HTK.out, HLV.out]; simpa using HK.out.1, HK.out.2.1, HIN.out⟩
        | some v =>
          have hvm := atO_mem hav
          rw [hav] at hat
          simp only [Option.map_some, ptrO] at hat
          unfold ptr at hat
          have hgc := ((HM.out.bas.nd m hmm).vs v hvm).cells.2.1
          cases hg : v.gone with
          | true =>
            have HLV : Hid (latV s m = none) := by show _ = _; unfold latV; rw [hav]; simp [hg]
            rw [hg] at hgc
            have hnx := HNX.out wr HK.out.2.1
            clear hj hz hi hi' hvl hjl hav ho' HDONE hg
            go_wp2_with (first | (go_at_call 23; refine hn.mono ?_; rintro e9 w9 ⟨rfl, hw⟩; obtain rfl := hw.symm; clear hn hw) | (go_at_call 20; refine hat.mono ?_; rintro e9 w9 ⟨rfl, hw⟩; obtain rfl := hw.symm; clear hat hw))
            go_roundg GK
            case measure => exact HG.out.1
            case rel => exact ⟨j + 1, HG.out.2, HO'.out.symm, by rw [HTK.out, HLV.out]; simpa using HK.out.1, HK.out.2.1, HIN.out⟩
          | false =>
            have HLV : Hid (latV s m = some (v.ent m.key)) := by show _ = _; unfold latV; rw [hav]; simp [hg]
            rw [hg] at hgc
            have hlen := ok_key HH.out.2.1 hmm hvm
            have hent := entry_m (HM.out.bas.nd m hmm) hvm (by omega) (by omega)
            unfold ptr at hent
            have HVE := hid hvm
            generalize hx : v.ent m.key = x at hent HLV
            have HAP : Hid (∀ w5 a5 c5 a6 c6 v9 w9, Below w.heap.size w w5 → RowF entW w.heap.size (fun b => w.heap.size ≤ b) w5 u9 ((Z.take j).filterMap (latV s)) → RowF entW w.heap.size (fun b => w.heap.size ≤ b) w9 v9 ((Z.take j).filterMap (latV s) ++ [x]) → (w5.alloc (.cells #[.slice a5 x.key.length c5, .int .i64 x.seq, .bool x.gone, .int .i64 x.till, .slice a6 x.val.length c6] 28)).grownBy w9 u9.ownBlock → RowF entW w.heap.size (fun b => w.heap.size ≤ b) w9 v9 ((Z.take (j + 1)).filterMap (latV s)) ∧ Below w.heap.size w w9) := fun w5 a5 c5 a6 c6 v9 w9 hb5 hr5 r9 g9 => by
              refine ⟨by rw [HTK.out, HLV.out]; exact r9, ?_⟩
              have hba : Below w.heap.size w (w5.alloc (.cells #[.slice a5 x.key.length c5, .int .i64 x.seq, .bool x.gone, .int .i64 x.till, .slice a6 x.val.length c6] 28)) := hb5.alloc hb5.size _
              exact Below.grown hba g9 hba.size (fun k hk => (hr5.own_lt hk).1)
            unfold ToldE at hent
            clear hj hz hi hi' hvl hjl hav ho' HDONE hg hlen hvm hx
            go_wp2_with (first | (go_at_call 23; refine hn.mono ?_; rintro e9 w9 ⟨rfl, hw⟩; obtain rfl := hw.symm; clear hn hw) | (go_at_call 20; refine hat.mono ?_; rintro e9 w9 ⟨rfl, hw⟩; obtain rfl := hw.symm; clear hat hw) | (go_at_call 21; refine hent.mono ?_; rintro e9 w5 ⟨a5, c5, a6, c6, rfl, em5, n5, k5, k6, b5⟩; unfold entA; have HR5 := hid (HK.out.1.later b5); have HE5 := hid (told_W em5 k5 k6); have HN5 := hid n5; have HB5 : Hid (Below w.heap.size w w5 ∧ wr.heap.size ≤ w5.heap.size) := ⟨HK.out.2.1.trans (b5.mono HK.out.2.1.size), b5.size⟩; clear em5 n5 k5 k6 b5 hent) | (at_builtin; refine wpList_appF entW (t := 22) (z := .agg #[.slice none 0 0, .int .i64 0, .bool false, .int .i64 0, .slice none 0 0]) (bytes := 72) (B := w.heap.size) Tryd.underlying22 entW_info rfl (by decide) rfl (.tmp 35) (.tmp 39) rfl rfl (HR5.out.alloc _) rfl (rs_one HE5.out) (fun u hu b hr e => by have h1 := HN5.out u hu b hr; have h2 := (HK.out.1.own_lt e).2; omega) (fun u hu b hr => by have h1 := HN5.out u hu b hr; have h2 := HK.out.2.1.size; omega) (by have := HL.out; omega) (by have := HL.out; omega) (by have := HB5.out.1.size; simp; omega) ?_; intro v9 w9 r9 g9 m9; have HR9 := hid (HAP.out w5 a5 c5 a6 c6 v9 w9 HB5.out.1 HR5.out r9 g9); have hnx := HNX.out _ HR9.out.2; clear r9 g9 m9))
            go_roundg GK
            case measure => exact HG.out.1
            case rel => exact ⟨j + 1, HG.out.2, HO'.out.symm, HR9.out.1, HR9.out.2, HIN.out⟩
      · have hi' : inK ub m = false := by simpa using hi
        have HD := hid (HDONE.out (fun m' hm' => by rw [hz] at hm'; cases hm'; exact hi'))
        unfold inK at hi'
        rw [hi'] at hn
        clear hj hz hi hi' hjl HDONE
        go_wp2_with fail
        refine hn.mono ?_
        rintro e9 w9 ⟨rfl, hw⟩
        obtain rfl := hw.symm
        clear hn hw
        go_wp2_with fail
        go_ret
        exact ⟨_, rfl, HD.out⟩
end Go.Proofs.YtaefddnmldbgiabDoor

/- The landed mem is a mem; and one that there isn't. -/
namespace Go.Proofs.YtaefddnmldbgiabDoor
open Go.RowKit
set_option linter.unusedVariables false
set_option linter.unusedSimpArgs false

theorem rm_lt {w : World} {p : Nat} {l : List EntV} {F : Nat → Prop} (h : RM w p l F) : ∀ k, F k → k < w.heap.size := by
  obtain ⟨ns, hm, rfl, rfl⟩ := h
  exact fun k hk => hm.bas.lt hk
theorem rm_same {w w' : World} {p : Nat} {l : List EntV} {F : Nat → Prop} (h : RM w p l F) (h1 : ∀ k, F k → w'.heap[k]? = w.heap[k]?) (h2 : ∀ k, k < 2 → w'.heap[k]? = w.heap[k]?) : RM w' p l F := by
  obtain ⟨ns, hm, rfl, rfl⟩ := h
  exact ⟨ns, hm.keep h1 (h2 1 (by omega)), rfl, rfl⟩
theorem rm_rn {w : World} {p : Nat} {l : List EntV} {F : Nat → Prop} (h : RM w p l F) : 2 ≤ w.heap.size := by
  obtain ⟨ns, hm, rfl, rfl⟩ := h
  exact hm.bas.tab.lt
/-- -/
def theMem : PM where
  R := RM
  G := Tab
  N := 2
  gk := fun h hb => h.later hb
  gn := fun h => h.lt
  rn := fun h => rm_rn h
  lt := fun h => rm_lt h
  same := fun h h1 h2 => rm_same h h1 h2
  new := fun h => new_m h
  may := fun _ => @may_m _ _ _ _ _ _
  add := fun h _ h2 h3 h4 h5 h6 h7 => add_m h h2 h3 h4 h5 h6 h7
  get := fun h _ h2 h3 h4 h5 => get_m h h2 h3 h4 h5
  latest := fun h _ h2 h3 h4 h5 h6 => latest_m h h2 h3 h4 h5 h6
end Go.Proofs.YtaefddnmldbgiabDoor
