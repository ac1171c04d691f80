/- The landed mem's Add. -/
import Derived.Test.YtaefddnmldbgiabDoorNadd
namespace Go.Proofs.YtaefddnmldbgiabDoor
open Go.RowKit
set_option linter.unusedVariables false
set_option linter.unusedSimpArgs false

/-- With one more of a key, the whole is what the document asks. -/
theorem add_flat {A B : List Nd} {n : Nd} {x : EntV} {v : Vr} {rv' : Value} (hk : n.key = x.key) (hA : ∀ a ∈ A, cmp a.key x.key < 0) (hB : ∀ b ∈ B, 0 < cmp b.key x.key) (ho : n.vs.Pairwise fun a b => a.seq < b.seq) (ht : the n.vs x.seq = false) (hv : v.ent x.key = x) :
    flat (A ++ { n with vs := n.vs.take (plc n.vs x.seq) ++ v :: n.vs.drop (plc n.vs x.seq), rv := rv' } :: B) = putE (flat (A ++ n :: B)) x ∧ hasE (flat (A ++ n :: B)) x = false := by
  have hvs : v.seq = x.seq := by rw [← hv]; rfl
  have h := flat_more (A := A) (B := B) (n := n) (n' := { n with vs := n.vs.take (plc n.vs x.seq) ++ v :: n.vs.drop (plc n.vs x.seq), rv := rv' }) (P := n.vs.take (plc n.vs x.seq)) (S := n.vs.drop (plc n.vs x.seq)) (v := v) (by rw [hk]; exact hA) (by rw [hk]; exact hB) (List.take_append_drop _ _).symm rfl rfl (fun q hq => by rw [hvs]; exact plc_before q hq) (fun q hq => by rw [hvs]; exact the_false ho ht q hq)
  have e9 : Vr.ent n.key v = x := by rw [hk]; exact hv
  rw [e9] at h
  exact h
/-- The count and the weight are turned. -/
theorem memat_count {w : World} {p : Nat} {ns : List Nd} {c wt : Int} (h : MemAt w p ns c wt) (c' wt' : Int) : MemAt ((w.setCell ⟨p, 14, none⟩ (.int .i64 c')).setCell ⟨p, 15, none⟩ (.int .i64 wt')) p ns c' wt' := by
  obtain ⟨C, c1, c2, c3, c4⟩ := h.bas.head
  have hoth : ∀ {k : Nat}, k ≠ p → ((w.setCell ⟨p, 14, none⟩ (.int .i64 c')).setCell ⟨p, 15, none⟩ (.int .i64 wt')).heap[k]? = w.heap[k]? := fun {k} hk => by rw [heap_ne _ _ _ hk, heap_ne _ _ _ hk]
  have hnp : ∀ {k : Nat} {D : Array Value} {t : TypeId} {f : Nat × Nat}, w.heap[k]? = some (.cells D t f) → t ≠ 45 → k ≠ p := fun {k D t f} hk ht => ty_ne hk c1 ht
  have hrow : ∀ {B : Nat} {e : TypeId} {sz : Nat} {x : Value} {n : Nat} {us : List Value}, w.ownsRow B e sz x n us → e ≠ 45 → ((w.setCell ⟨p, 14, none⟩ (.int .i64 c')).setCell ⟨p, 15, none⟩ (.int .i64 wt')).ownsRow B e sz x n us := fun {B e sz x n us} hr h1 => ownsRow_keep hr fun k hk => by
    obtain ⟨D, hD⟩ := ownsRow_ty hr hk
    exact hoth (hnp hD h1)
  have hs := heap_set (heap_set c1 14 (.int .i64 c')) 15 (.int .i64 wt')
  refine ⟨⟨?_, ⟨_, hs, by simpa using c2, ?_, ?_⟩, fun n hn => ?_, h.bas.ord, h.bas.nb, h.bas.rw⟩, fun i hi => (h.lv i hi).keep fun k hk => ?_⟩
  · obtain ⟨T, t, fr, e1, ⟨e2, e3, e4⟩, _⟩ := h.bas.tab
    exact h.bas.tab.keep (hoth (hnp e1 e4))
  · rw [Array.getElem?_setIfInBounds_ne (by omega), Array.getElem?_setIfInBounds_self, if_pos (by omega)]
  · rw [Array.getElem?_setIfInBounds_self, if_pos (by simp; omega)]
  · have hnd := h.bas.nd n hn
    obtain ⟨D, d1, d2⟩ := hnd.blk
    exact ⟨⟨D, (hoth (hnp d1 (by decide))).trans d1, d2⟩, hrow hnd.key (by decide), hnd.ok, hrow hnd.row (by decide), fun x hx => ⟨(hoth (hnp (hnd.vs x hx).blk (by decide))).trans (hnd.vs x hx).blk, hrow (hnd.vs x hx).val (by decide), (hnd.vs x hx).ok, (hnd.vs x hx).i1, (hnd.vs x hx).i2⟩, hnd.h⟩
  · by_cases q : k = p
    · subst q
      rw [cell_off (by omega), cell_off (by omega)]
    · rw [cell_blk q, cell_blk q]
theorem MemAt.counts {w : World} {p : Nat} {ns : List Nd} {c wt : Int} (h : MemAt w p ns c wt) : w.cell? ⟨p, 14, none⟩ = some (.int .i64 c) ∧ w.cell? ⟨p, 15, none⟩ = some (.int .i64 wt) ∧ w.frozen? ⟨p, 14, none⟩ = false ∧ w.frozen? ⟨p, 15, none⟩ = false := by
  obtain ⟨C, c1, c2, c3, c4⟩ := h.bas.head
  exact ⟨by rw [cell_of c1]; exact c3, by rw [cell_of c1]; exact c4, frozen_ofW c1 _, frozen_ofW c1 _⟩
theorem GotN.seen {w wx : World} {p : Nat} {ns : List Nd} {key : List Int} {c wt : Int} {nb : Nat} (h : GotN w p ns key c wt nb wx) {b : Nat} {C : Array Value} {t : TypeId} (hb : w.heap[b]? = some (.cells C t (0, 0))) (hF : ¬ FP p ns b) : wx.heap[b]? = some (.cells C t (0, 0)) := by
  obtain ⟨A, n, B, _, _, _, _, _, _, hk, _⟩ := h
  exact (hk.block b (Array.getElem?_eq_some_iff.1 hb).1 hF).trans hb
theorem entM_kept {F : Nat → Prop} {w w' : World} {ka va : Option Addr} {kc vc : Nat} {x : EntV} (h : EntM w (entL ka kc va vc x) x) (hk : Kept F w w') (hF : ∀ u ∈ entL ka kc va vc x, ∀ b, Refs u b → ¬ F b) : EntM w' (entL ka kc va vc x) x :=
  entE.keep h fun u hu b hr => hk.block b (entE.lt h u hu b hr) (hF u hu b hr)

set_option maxHeartbeats 4000000 in
set_option maxRecDepth 100000 in
theorem add_m {w : World} {p : Nat} {l : List EntV} {F : Nat → Prop} {ka va : Option Addr} {kc vc : Nat} {e : EntV} (hR : RM w p l F) (hok : okE l) (hl : l.length ≤ 100) (hem : EntM w (entL ka kc va vc e) e) (hsep : ∀ u ∈ entL ka kc va vc e, ∀ b, Refs u b → ¬ F b) (hk3 : e.key.length ≤ 3000) (hv3 : e.val.length ≤ 3000) :
    Calls Tryd.prog 8 #[pm p, entA ka kc va vc e] w fun r w' => r = .returned (.int .i64 ((addE l e).1 : Nat)) ∧ ∃ F', RM w' p (addE l e).2 F' ∧ Kept F w w' ∧ ∀ k, F' k → F k ∨ w.heap.size ≤ k := by
  obtain ⟨ns, hm, rfl, rfl⟩ := hR
  obtain ⟨W1, hW1⟩ : ∃ W1, W1 = w.alloc (.cells #[.slice ka e.key.length kc, .int .i64 e.seq, .bool e.gone, .int .i64 e.till, .slice va e.val.length vc] 28) := ⟨_, rfl⟩
  have b1 : Below w.heap.size w W1 := by rw [hW1]; exact (Below.refl _ w).alloc (Nat.le_refl _) _
  have k1 : W1.heap[w.heap.size]? = some (.cells #[.slice ka e.key.length kc, .int .i64 e.seq, .bool e.gone, .int .i64 e.till, .slice va e.val.length vc] 28 (0, 0)) := by rw [hW1]; exact heap_alloc_new w _
  have hmay := may_m (w := W1) (ka := ka) (kc := kc) (va := va) (vc := vc) (e := e)
  have HW1 := hid hW1
  have hsl : Sl w ka e.key.length kc e.key := by
    obtain ⟨ka', kc', va', vc', heq, sk, sv, i1, i2⟩ := hem
    unfold entL at heq
    simp only [List.cons.injEq, Value.slice.injEq, and_true, true_and] at heq
    obtain ⟨⟨rfl, rfl⟩, rfl, rfl⟩ := heq
    exact sk
  have HH : Hid (MemAt w p ns ((flat ns).length : Nat) (wts (flat ns) : Nat) ∧ (flat ns).length ≤ 100 ∧ EntM w (entL ka kc va vc e) e ∧ (∀ u ∈ entL ka kc va vc e, ∀ b, Refs u b → ¬ FP p ns b) ∧ Sl w ka e.key.length kc e.key ∧ Below w.heap.size w W1 ∧ W1.heap[w.heap.size]? = some (.cells #[.slice ka e.key.length kc, .int .i64 e.seq, .bool e.gone, .int .i64 e.till, .slice va e.val.length vc] 28 (0, 0)) ∧ e.key.length ≤ 3000 ∧ e.val.length ≤ 3000 ∧ okE (flat ns)) := ⟨hm, hl, hem, hsep, hsl, b1, k1, hk3, hv3, hok⟩
  have hwl := wts_le hok
  have HBX : Hid (∀ wx : World, wx.heap[w.heap.size]? = some (.cells #[.slice ka e.key.length kc, .int .i64 e.seq, .bool e.gone, .int .i64 e.till, .slice va e.val.length vc] 28 (0, 0)) → wx.cell? ⟨w.heap.size, 0, none⟩ = some (.slice ka e.key.length kc) ∧ wx.cell? ⟨w.heap.size, 1, none⟩ = some (.int .i64 e.seq) ∧ wx.cell? ⟨w.heap.size, 2, none⟩ = some (.bool e.gone) ∧ wx.cell? ⟨w.heap.size, 3, none⟩ = some (.int .i64 e.till) ∧ wx.cell? ⟨w.heap.size, 4, none⟩ = some (.slice va e.val.length vc)) := fun wx hb => by
    refine ⟨?_, ?_, ?_, ?_, ?_⟩ <;> rw [cell_of hb] <;> rfl
  have hw3 : wts (flat ns) ≤ 300000 := by omega
  clear hm hl hem hsep hsl b1 k1 hW1 hok hwl
  unfold pm
  by_cases hq : mayE e = true
  · rw [hq] at hmay
    have HQ := hid hq
    clear hq
    unfold entA at hmay ⊢
    go_enter Tryd.func8, Tryd.ntmps8
    go_upto_region 1 with fail
    rw [← HW1.out]
    obtain ⟨y0, y1, y2, y3, y4⟩ := HBX.out W1 HH.out.2.2.2.2.2.2.1
    go_upto_region 3 with (first | (go_at_call 13; refine hmay.mono ?_; rintro e9 w2 ⟨rfl, b2⟩))
    have K2 : w2.heap[w.heap.size]? = some (.cells #[.slice ka e.key.length kc, .int .i64 e.seq, .bool e.gone, .int .i64 e.till, .slice va e.val.length vc] 28 (0, 0)) := (b2.block _ (Array.getElem?_eq_some_iff.1 HH.out.2.2.2.2.2.2.1).1).trans HH.out.2.2.2.2.2.2.1
    have B2 : Below w.heap.size w w2 := HH.out.2.2.2.2.2.1.trans (b2.mono HH.out.2.2.2.2.2.1.size)
    have hbef := before_m (HH.out.1.later B2) (HH.out.2.2.2.2.1.later B2)
    have HK2 := hid (And.intro K2 B2)
    obtain ⟨z0, z1, z2, z3, z4⟩ := HBX.out w2 K2
    unfold pm at hbef
    clear hmay b2 K2 B2 y0 y1 y2 y3 y4 HW1
    go_upto_region 4 with (first | (go_at_call 14; refine hbef.mono ?_; rintro e9 w3 ⟨rfl, b3⟩) | (refine wpList_store_row rfl 41 (.tmp 5) (.tmp 17) rfl w3.heap.size (pathA p ns e.key) rfl rfl 41 #[.pointer none, .pointer none, .pointer none, .pointer none, .pointer none, .pointer none, .pointer none, .pointer none, .pointer none, .pointer none, .pointer none, .pointer none] (heap_alloc_new w3 _) arr12_size rfl (path_one p ns e.key) ?_))
    obtain ⟨W5, hW5⟩ : ∃ W5, W5 = (w3.alloc (.cells #[.pointer none, .pointer none, .pointer none, .pointer none, .pointer none, .pointer none, .pointer none, .pointer none, .pointer none, .pointer none, .pointer none, .pointer none] 41)).setRow w3.heap.size (pathA p ns e.key) := ⟨_, rfl⟩
    have B3 : Below w.heap.size w w3 := HK2.out.2.trans (b3.mono HK2.out.2.size)
    have B4 : Below w.heap.size w (w3.alloc (.cells #[.pointer none, .pointer none, .pointer none, .pointer none, .pointer none, .pointer none, .pointer none, .pointer none, .pointer none, .pointer none, .pointer none, .pointer none] 41)) := B3.alloc B3.size _
    have HB5 : Hid (Below w.heap.size w W5) := by rw [hW5]; exact below_row B4 _ _ B3.size
    have HQ5 : Hid (W5.heap[w3.heap.size]? = some (.cells (pathA p ns e.key) 41 (0, 0))) := by rw [hW5]; exact setRow_heap _ _ _ _ _ _ (heap_alloc_new w3 _)
    have hlt2 := (Array.getElem?_eq_some_iff.1 HK2.out.1).1
    have K5 : Hid (W5.heap[w.heap.size]? = some (.cells #[.slice ka e.key.length kc, .int .i64 e.seq, .bool e.gone, .int .i64 e.till, .slice va e.val.length vc] 28 (0, 0))) := by
      have h3 := (b3.block _ hlt2).trans HK2.out.1
      have hs3 := b3.size
      rw [hW5]
      exact (setRow_other _ _ _ _ (by omega)).trans ((Below.heap_alloc w3 _ _ (by omega)).trans h3)
    have HSZ : Hid (w.heap.size ≤ w3.heap.size) := B3.size
    rw [← hW5]
    clear hbef b3 B3 B4 hlt2 z0 z1 z2 z3 z4 HK2 hW5
    have HM5 := hid (HH.out.1.later HB5.out)
    obtain ⟨V, hV⟩ : ∃ V, V = ptrO ((bck ns e.key).head?.map Nd.b) := ⟨_, rfl⟩
    have n5 := pre_next HM5.out e.key
    rw [← hV] at n5
    have p5 : W5.cell? ⟨w3.heap.size, 0, none⟩ = some (.pointer (some ⟨pre p ns e.key 0, 0, none⟩)) := by rw [cell_of HQ5.out]; rfl
    obtain ⟨o, rfl⟩ : ∃ o, V = .pointer o := by
      rw [hV]
      cases (bck ns e.key).head?.map Nd.b with
      | none => exact ⟨_, rfl⟩
      | some b => exact ⟨_, rfl⟩
    have HV := hid hV
    clear hV
    go_upto_region 5 with fail
    clear n5 p5
    obtain ⟨y0, y1, y2, y3, y4⟩ := HBX.out W5 K5.out
    have HFB : Hid (¬ FP p ns w.heap.size ∧ w.heap.size < W5.heap.size) := ⟨fun hf => by have := HH.out.1.bas.lt hf; omega, (Array.getElem?_eq_some_iff.1 K5.out).1⟩
    cases hb : bck ns e.key with
    | nil =>
      have ho : o = none := by
        have := HV.out
        rw [hb] at this
        simpa [ptrO] using this
      subst ho
      have hno := key_none HH.out.1 (key := e.key) (fun m r h => by rw [hb] at h; cases h)
      have hlk := link_m HM5.out (HH.out.2.2.2.2.1.later HB5.out) HH.out.2.2.2.2.2.2.2.1 hno
      have hn := @has_nil W5 ka e.key.length kc
      have HNO := hid hno
      clear hb hno
      have hlk2 := hlk
      go_upto_region 7 with (first | (go_at_call 15; refine hn.mono ?_; rintro e9 w9 ⟨rfl, hw⟩; obtain rfl := hw.symm; clear hn hw) | (refine wpList_load_row rfl 41 (.tmp 5) rfl w3.heap.size rfl 41 (pathA p ns e.key) (0, 0) (.array 12 40) HQ5.out Tryd.underlying41 rfl arr12_size ?_) | (go_at_call 16; refine hlk2.mono ?_; rintro e9 w9 ⟨nb, kv, hh, rfl, m9, k9, n9⟩))
      have HC : Hid (GotN w p ns e.key ((flat ns).length : Nat) (wts (flat ns) : Nat) nb w9 ∧ w9.heap[w.heap.size]? = some (.cells #[.slice ka e.key.length kc, .int .i64 e.seq, .bool e.gone, .int .i64 e.till, .slice va e.val.length vc] 28 (0, 0))) := ⟨got_link HH.out.1 HB5.out HNO.out m9 k9 n9, (k9.block _ HFB.out.2 HFB.out.1).trans K5.out⟩
      clear m9 k9 n9 hlk hlk2
      unfold ptr
      obtain ⟨y0, y1, y2, y3, y4⟩ := HBX.out _ HC.out.2
      obtain ⟨A, n, B, hnb, hnk, hm6, hfl, hA, hB, hkp, hfp⟩ := HC.out.1
      rw [hnb]
      have hvs : n.vs.length ≤ 100 := by
        have h1 := vs_le (ns := A ++ n :: B) (n := n) (by simp)
        rw [hfl] at h1
        have := HH.out.2.1
        omega
      have hna := nadd_m hm6 (entM_kept HH.out.2.2.1 hkp HH.out.2.2.2.1) (by omega) hv3
      unfold ptr entA at hna
      have H6 : Hid (n.key = e.key ∧ MemAt w9 p (A ++ n :: B) ((flat ns).length : Nat) (wts (flat ns) : Nat) ∧ flat (A ++ n :: B) = flat ns ∧ (∀ a ∈ A, cmp a.key e.key < 0) ∧ (∀ b ∈ B, 0 < cmp b.key e.key) ∧ Kept (FP p ns) w w9 ∧ ∀ k, FP p (A ++ n :: B) k → FP p ns k ∨ w.heap.size ≤ k) := ⟨hnk, hm6, hfl, hA, hB, hkp, hfp⟩
      have HBK := hid HC.out.2
      clear hnb hnk hm6 hfl hA hB hkp hfp HC hvs
      go_wp2_with fail
      refine hna.mono ?_
      clear hna
      rintro e9 w10 (⟨ht, rfl, b10⟩ | ⟨ht, rfl, hadd⟩)
      · have HAE : Hid (addE (flat ns) e = (6, flat ns)) := by
          obtain ⟨v, hv, hs⟩ := the_true ht
          have := flat_has (A := A) (B := B) (n := n) (v := v) (e := e) (List.mem_of_getElem? hv) H6.out.1.symm hs.symm
          rw [H6.out.2.2.1] at this
          exact addE_has HQ.out this
        have HFIN : Hid (∃ F', RM w10 p (flat ns) F' ∧ Kept (FP p ns) w w10 ∧ ∀ k, F' k → FP p ns k ∨ w.heap.size ≤ k) :=
          ⟨FP p (A ++ n :: B), ⟨A ++ n :: B, by rw [H6.out.2.2.1]; exact H6.out.2.1.later b10, H6.out.2.2.1.symm, rfl⟩, H6.out.2.2.2.2.2.1.trans (Kept.of_below b10), H6.out.2.2.2.2.2.2⟩
        clear ht b10
        go_wp2_with fail
        go_ret
        rw [HAE.out]
        exact ⟨by simp, HFIN.out⟩
      · obtain ⟨v, rv', m10, hve, k10, n10⟩ := hadd
        have hfa := add_flat (rv' := rv') H6.out.1 H6.out.2.2.2.1 H6.out.2.2.2.2.1 (H6.out.2.1.bas.ord.2 n (by simp)) ht hve
        rw [H6.out.2.2.1] at hfa
        have HAE : Hid (addE (flat ns) e = (0, putE (flat ns) e)) := addE_put HQ.out hfa.2
        obtain ⟨x14, x15, f14, f15⟩ := m10.counts
        have g10 : w10.heap[w.heap.size]? = some (.cells #[.slice ka e.key.length kc, .int .i64 e.seq, .bool e.gone, .int .i64 e.till, .slice va e.val.length vc] 28 (0, 0)) := by
          refine (k10.block _ (Array.getElem?_eq_some_iff.1 HBK.out).1 ?_).trans HBK.out
          have hnd := H6.out.2.1.bas.nd n (by simp)
          rintro (q | q)
          · obtain ⟨C, c1, _⟩ := hnd.blk
            exact ty_ne HBK.out c1 (by decide) q
          · obtain ⟨C, c1⟩ := ownsRow_ty hnd.row q
            exact ty_ne HBK.out c1 (by decide) rfl
        obtain ⟨t0, t1, t2, t3, t4⟩ := HBX.out _ g10
        have hpne : p ≠ w.heap.size := by
          obtain ⟨C, c1, _⟩ := m10.bas.head
          exact ty_ne c1 g10 (by decide)
        have hl1 : (flat ns).length ≤ 100 := HH.out.2.1
        have HFIN : Hid (∀ wf, wf.heap = ((w10.setCell ⟨p, 14, none⟩ (.int .i64 (((flat ns).length : Nat) + 1 : Int))).setCell ⟨p, 15, none⟩ (.int .i64 ((wts (flat ns) : Nat) + ((e.key.length : Nat) + (e.val.length : Nat) + 16) : Int))).heap → wf.os = w10.os → wf.tape = w10.tape → wf.output = w10.output → ∃ F', RM wf p (putE (flat ns) e) F' ∧ Kept (FP p ns) w wf ∧ ∀ k, F' k → FP p ns k ∨ w.heap.size ≤ k) := fun wf hw1 hw2 hw3 hw4 => by
          have hmc := memat_count m10 (((flat ns).length : Nat) + 1 : Int) ((wts (flat ns) : Nat) + ((e.key.length : Nat) + (e.val.length : Nat) + 16) : Int)
          have hmw := hmc.keep (w' := wf) (fun k _ => by rw [hw1]) (by rw [hw1])
          have hF10 : ∀ k, (k = n.b ∨ Ows n.rv k) → FP p ns k ∨ w.heap.size ≤ k := fun k hk => H6.out.2.2.2.2.2.2 k (.inr ⟨n, by simp, by rcases hk with q | q; exact .inl q; exact .inr (.inr (.inl q))⟩)
          refine ⟨FP p (A ++ { n with vs := n.vs.take (plc n.vs e.seq) ++ v :: n.vs.drop (plc n.vs e.seq), rv := rv' } :: B), ⟨_, ?_, hfa.1.symm, rfl⟩, ?_, fun k hk => ?_⟩
          · rw [hfa.1, putE_len, wts_flat_put]
            have e1 : (((flat ns).length + 1 : Nat) : Int) = ((flat ns).length : Nat) + 1 := by omega
            have e2 : ((wts (flat ns) + wtE e : Nat) : Int) = (wts (flat ns) : Nat) + ((e.key.length : Nat) + (e.val.length : Nat) + 16) := by unfold wtE; omega
            rw [e1, e2]
            exact hmw
          · have hk1 : Kept (FP p ns) w w10 := ⟨k10.os.trans H6.out.2.2.2.2.2.1.os, k10.tape.trans H6.out.2.2.2.2.2.1.tape, k10.output.trans H6.out.2.2.2.2.2.1.output, Nat.le_trans H6.out.2.2.2.2.2.1.size k10.size, fun k hk hn => (k10.block k (Nat.lt_of_lt_of_le hk H6.out.2.2.2.2.2.1.size) (fun q => by rcases hF10 k q with r | r; exact hn r; omega)).trans (H6.out.2.2.2.2.2.1.block k hk hn)⟩
            have hk2 := (hk1.set (b := p) (k := 14) (v := .int .i64 (((flat ns).length : Nat) + 1 : Int)) (.inl (.inl rfl))).set (b := p) (k := 15) (v := .int .i64 ((wts (flat ns) : Nat) + ((e.key.length : Nat) + (e.val.length : Nat) + 16) : Int)) (.inl (.inl rfl))
            exact ⟨hw2.trans hk1.os, hw3.trans hk1.tape, hw4.trans hk1.output, by rw [hw1]; exact hk2.size, fun k hk hn => by rw [hw1]; exact hk2.block k hk hn⟩
          · rcases fp_mid.1 hk with q | ⟨m', hm', q⟩ | q
            · exact .inl (.inl q)
            · exact H6.out.2.2.2.2.2.2 k (fp_mid.2 (.inr (.inl ⟨m', hm', q⟩)))
            · have hsz := H6.out.2.2.2.2.2.1.size
              have hN : ∀ k', k' = v.b ∨ Ows v.vv k' ∨ Ows rv' k' → FP p ns k' ∨ w.heap.size ≤ k' := fun k' hk' => by
                rcases n10 k' hk' with r | r
                · exact hF10 k' (.inr r)
                · exact .inr (by omega)
              have hO : ∀ {k'}, NF n k' → FP p ns k' ∨ w.heap.size ≤ k' := fun {k'} r => H6.out.2.2.2.2.2.2 k' (fp_mid.2 (.inr (.inr r)))
              rcases q with q | q | q | ⟨y, hy, q⟩
              · exact hO (.inl q)
              · exact hO (.inr (.inl q))
              · exact hN k (.inr (.inr q))
              · simp only at hy
                rcases List.mem_append.1 hy with r | r
                · exact hO (.inr (.inr (.inr ⟨y, List.mem_of_mem_take r, q⟩)))
                · rcases List.mem_cons.1 r with rfl | r
                  · exact hN k (by rcases q with q | q; exact .inl q; exact .inr (.inl q))
                  · exact hO (.inr (.inr (.inr ⟨y, List.mem_of_mem_drop r, q⟩)))
        generalize (flat ns).length = LN at x14 hl1 HFIN HAE ⊢
        clear m10 k10 n10 hfa ht hve
        go_upto_region 10 with fail
        go_cut [] from 44 to 58 (fun wx => Hid (wx.heap = ((w10.setCell ⟨p, 14, none⟩ (.int .i64 ((LN : Nat) + 1 : Int))).setCell ⟨p, 15, none⟩ (.int .i64 ((wts (flat ns) : Nat) + ((e.key.length : Nat) + (e.val.length : Nat) + 16) : Int))).heap ∧ wx.os = w10.os ∧ wx.tape = w10.tape ∧ wx.output = w10.output))
        case first =>
          clear HFIN HAE HBX HH H6 HBK HV HM5 HQ5 HB5 K5 HSZ HFB t1 t2 t3 y0 y1 y2 y3 y4 g10
          have HWR : Hid (IntKind.i64.wrap (((wts (flat ns) : Nat) : Int) + IntKind.i64.wrap (IntKind.i64.wrap ((e.key.length : Int) + (e.val.length : Int)) + 16)) = ((wts (flat ns) : Nat) : Int) + ((e.key.length : Int) + (e.val.length : Int) + 16)) := by
            show _ = _
            rw [IntKind.wrap_i64, IntKind.wrap_i64, IntKind.wrap_i64]
            omega
          go_region_law (fail)
          all_goals
            go_wp2_with fail
            go_meet
            exact ⟨(by first | rfl | (rw [HWR.out]; rfl)), rfl, rfl, rfl⟩
        have HCU := hcut
        go_wp2_with fail
        go_ret
        rw [HAE.out]
        exact ⟨by simp, HFIN.out _ HCU.out.1 HCU.out.2.1 HCU.out.2.2.1 HCU.out.2.2.2⟩
    | cons m r =>
      have ho : o = some ⟨m.b, 0, none⟩ := by
        have := HV.out
        rw [hb] at this
        simpa [ptrO, ptr] using this
      subst ho
      have hmm : m ∈ ns := (bck_ge m (by rw [hb]; simp)).1
      have hn := has_m (HM5.out.bas.nd m hmm) (HH.out.2.2.2.2.1.later HB5.out)
      unfold ptr at hn
      by_cases hkey : m.key = e.key
      · have HC : Hid (GotN w p ns e.key ((flat ns).length : Nat) (wts (flat ns) : Nat) m.b W5 ∧ W5.heap[w.heap.size]? = some (.cells #[.slice ka e.key.length kc, .int .i64 e.seq, .bool e.gone, .int .i64 e.till, .slice va e.val.length vc] 28 (0, 0))) := ⟨got_there HH.out.1 HB5.out hb hkey, K5.out⟩
        have hd : decide (m.key = e.key) = true := by simpa using hkey
        rw [hd] at hn
        clear hb hmm hkey hd
        go_upto_region 7 with (first | (go_at_call 15; refine hn.mono ?_; rintro e9 w9 ⟨rfl, hw⟩; obtain rfl := hw.symm; clear hn hw))
        obtain ⟨y0, y1, y2, y3, y4⟩ := HBX.out _ HC.out.2
        obtain ⟨A, n, B, hnb, hnk, hm6, hfl, hA, hB, hkp, hfp⟩ := HC.out.1
        rw [hnb]
        have hvs : n.vs.length ≤ 100 := by
          have h1 := vs_le (ns := A ++ n :: B) (n := n) (by simp)
          rw [hfl] at h1
          have := HH.out.2.1
          omega
        have hna := nadd_m hm6 (entM_kept HH.out.2.2.1 hkp HH.out.2.2.2.1) (by omega) hv3
        unfold ptr entA at hna
        have H6 : Hid (n.key = e.key ∧ MemAt W5 p (A ++ n :: B) ((flat ns).length : Nat) (wts (flat ns) : Nat) ∧ flat (A ++ n :: B) = flat ns ∧ (∀ a ∈ A, cmp a.key e.key < 0) ∧ (∀ b ∈ B, 0 < cmp b.key e.key) ∧ Kept (FP p ns) w W5 ∧ ∀ k, FP p (A ++ n :: B) k → FP p ns k ∨ w.heap.size ≤ k) := ⟨hnk, hm6, hfl, hA, hB, hkp, hfp⟩
        have HBK := hid HC.out.2
        clear hnb hnk hm6 hfl hA hB hkp hfp HC hvs
        go_wp2_with fail
        refine hna.mono ?_
        clear hna
        rintro e9 w10 (⟨ht, rfl, b10⟩ | ⟨ht, rfl, hadd⟩)
        · have HAE : Hid (addE (flat ns) e = (6, flat ns)) := by
            obtain ⟨v, hv, hs⟩ := the_true ht
            have := flat_has (A := A) (B := B) (n := n) (v := v) (e := e) (List.mem_of_getElem? hv) H6.out.1.symm hs.symm
            rw [H6.out.2.2.1] at this
            exact addE_has HQ.out this
          have HFIN : Hid (∃ F', RM w10 p (flat ns) F' ∧ Kept (FP p ns) w w10 ∧ ∀ k, F' k → FP p ns k ∨ w.heap.size ≤ k) :=
            ⟨FP p (A ++ n :: B), ⟨A ++ n :: B, by rw [H6.out.2.2.1]; exact H6.out.2.1.later b10, H6.out.2.2.1.symm, rfl⟩, H6.out.2.2.2.2.2.1.trans (Kept.of_below b10), H6.out.2.2.2.2.2.2⟩
          clear ht b10
          go_wp2_with fail
          go_ret
          rw [HAE.out]
          exact ⟨by simp, HFIN.out⟩
        · obtain ⟨v, rv', m10, hve, k10, n10⟩ := hadd
          have hfa := add_flat (rv' := rv') H6.out.1 H6.out.2.2.2.1 H6.out.2.2.2.2.1 (H6.out.2.1.bas.ord.2 n (by simp)) ht hve
          rw [H6.out.2.2.1] at hfa
          have HAE : Hid (addE (flat ns) e = (0, putE (flat ns) e)) := addE_put HQ.out hfa.2
          obtain ⟨x14, x15, f14, f15⟩ := m10.counts
          have g10 : w10.heap[w.heap.size]? = some (.cells #[.slice ka e.key.length kc, .int .i64 e.seq, .bool e.gone, .int .i64 e.till, .slice va e.val.length vc] 28 (0, 0)) := by
            refine (k10.block _ (Array.getElem?_eq_some_iff.1 HBK.out).1 ?_).trans HBK.out
            have hnd := H6.out.2.1.bas.nd n (by simp)
            rintro (q | q)
            · obtain ⟨C, c1, _⟩ := hnd.blk
              exact ty_ne HBK.out c1 (by decide) q
            · obtain ⟨C, c1⟩ := ownsRow_ty hnd.row q
              exact ty_ne HBK.out c1 (by decide) rfl
          obtain ⟨t0, t1, t2, t3, t4⟩ := HBX.out _ g10
          have hpne : p ≠ w.heap.size := by
            obtain ⟨C, c1, _⟩ := m10.bas.head
            exact ty_ne c1 g10 (by decide)
          have hl1 : (flat ns).length ≤ 100 := HH.out.2.1
          have HFIN : Hid (∀ wf, wf.heap = ((w10.setCell ⟨p, 14, none⟩ (.int .i64 (((flat ns).length : Nat) + 1 : Int))).setCell ⟨p, 15, none⟩ (.int .i64 ((wts (flat ns) : Nat) + ((e.key.length : Nat) + (e.val.length : Nat) + 16) : Int))).heap → wf.os = w10.os → wf.tape = w10.tape → wf.output = w10.output → ∃ F', RM wf p (putE (flat ns) e) F' ∧ Kept (FP p ns) w wf ∧ ∀ k, F' k → FP p ns k ∨ w.heap.size ≤ k) := fun wf hw1 hw2 hw3 hw4 => by
            have hmc := memat_count m10 (((flat ns).length : Nat) + 1 : Int) ((wts (flat ns) : Nat) + ((e.key.length : Nat) + (e.val.length : Nat) + 16) : Int)
            have hmw := hmc.keep (w' := wf) (fun k _ => by rw [hw1]) (by rw [hw1])
            have hF10 : ∀ k, (k = n.b ∨ Ows n.rv k) → FP p ns k ∨ w.heap.size ≤ k := fun k hk => H6.out.2.2.2.2.2.2 k (.inr ⟨n, by simp, by rcases hk with q | q; exact .inl q; exact .inr (.inr (.inl q))⟩)
            refine ⟨FP p (A ++ { n with vs := n.vs.take (plc n.vs e.seq) ++ v :: n.vs.drop (plc n.vs e.seq), rv := rv' } :: B), ⟨_, ?_, hfa.1.symm, rfl⟩, ?_, fun k hk => ?_⟩
            · rw [hfa.1, putE_len, wts_flat_put]
              have e1 : (((flat ns).length + 1 : Nat) : Int) = ((flat ns).length : Nat) + 1 := by omega
              have e2 : ((wts (flat ns) + wtE e : Nat) : Int) = (wts (flat ns) : Nat) + ((e.key.length : Nat) + (e.val.length : Nat) + 16) := by unfold wtE; omega
              rw [e1, e2]
              exact hmw
            · have hk1 : Kept (FP p ns) w w10 := ⟨k10.os.trans H6.out.2.2.2.2.2.1.os, k10.tape.trans H6.out.2.2.2.2.2.1.tape, k10.output.trans H6.out.2.2.2.2.2.1.output, Nat.le_trans H6.out.2.2.2.2.2.1.size k10.size, fun k hk hn => (k10.block k (Nat.lt_of_lt_of_le hk H6.out.2.2.2.2.2.1.size) (fun q => by rcases hF10 k q with r | r; exact hn r; omega)).trans (H6.out.2.2.2.2.2.1.block k hk hn)⟩
              have hk2 := (hk1.set (b := p) (k := 14) (v := .int .i64 (((flat ns).length : Nat) + 1 : Int)) (.inl (.inl rfl))).set (b := p) (k := 15) (v := .int .i64 ((wts (flat ns) : Nat) + ((e.key.length : Nat) + (e.val.length : Nat) + 16) : Int)) (.inl (.inl rfl))
              exact ⟨hw2.trans hk1.os, hw3.trans hk1.tape, hw4.trans hk1.output, by rw [hw1]; exact hk2.size, fun k hk hn => by rw [hw1]; exact hk2.block k hk hn⟩
            · rcases fp_mid.1 hk with q | ⟨m', hm', q⟩ | q
              · exact .inl (.inl q)
              · exact H6.out.2.2.2.2.2.2 k (fp_mid.2 (.inr (.inl ⟨m', hm', q⟩)))
              · have hsz := H6.out.2.2.2.2.2.1.size
                have hN : ∀ k', k' = v.b ∨ Ows v.vv k' ∨ Ows rv' k' → FP p ns k' ∨ w.heap.size ≤ k' := fun k' hk' => by
                  rcases n10 k' hk' with r | r
                  · exact hF10 k' (.inr r)
                  · exact .inr (by omega)
                have hO : ∀ {k'}, NF n k' → FP p ns k' ∨ w.heap.size ≤ k' := fun {k'} r => H6.out.2.2.2.2.2.2 k' (fp_mid.2 (.inr (.inr r)))
                rcases q with q | q | q | ⟨y, hy, q⟩
                · exact hO (.inl q)
                · exact hO (.inr (.inl q))
                · exact hN k (.inr (.inr q))
                · simp only at hy
                  rcases List.mem_append.1 hy with r | r
                  · exact hO (.inr (.inr (.inr ⟨y, List.mem_of_mem_take r, q⟩)))
                  · rcases List.mem_cons.1 r with rfl | r
                    · exact hN k (by rcases q with q | q; exact .inl q; exact .inr (.inl q))
                    · exact hO (.inr (.inr (.inr ⟨y, List.mem_of_mem_drop r, q⟩)))
          generalize (flat ns).length = LN at x14 hl1 HFIN HAE ⊢
          clear m10 k10 n10 hfa ht hve
          go_upto_region 10 with fail
          go_cut [] from 44 to 58 (fun wx => Hid (wx.heap = ((w10.setCell ⟨p, 14, none⟩ (.int .i64 ((LN : Nat) + 1 : Int))).setCell ⟨p, 15, none⟩ (.int .i64 ((wts (flat ns) : Nat) + ((e.key.length : Nat) + (e.val.length : Nat) + 16) : Int))).heap ∧ wx.os = w10.os ∧ wx.tape = w10.tape ∧ wx.output = w10.output))
          case first =>
            clear HFIN HAE HBX HH H6 HBK HV HM5 HQ5 HB5 K5 HSZ HFB t1 t2 t3 y0 y1 y2 y3 y4 g10
            have HWR : Hid (IntKind.i64.wrap (((wts (flat ns) : Nat) : Int) + IntKind.i64.wrap (IntKind.i64.wrap ((e.key.length : Int) + (e.val.length : Int)) + 16)) = ((wts (flat ns) : Nat) : Int) + ((e.key.length : Int) + (e.val.length : Int) + 16)) := by
              show _ = _
              rw [IntKind.wrap_i64, IntKind.wrap_i64, IntKind.wrap_i64]
              omega
            go_region_law (fail)
            all_goals
              go_wp2_with fail
              go_meet
              exact ⟨(by first | rfl | (rw [HWR.out]; rfl)), rfl, rfl, rfl⟩
          have HCU := hcut
          go_wp2_with fail
          go_ret
          rw [HAE.out]
          exact ⟨by simp, HFIN.out _ HCU.out.1 HCU.out.2.1 HCU.out.2.2.1 HCU.out.2.2.2⟩
      · have hd : decide (m.key = e.key) = false := by simpa using hkey
        rw [hd] at hn
        have hno := key_none HH.out.1 (key := e.key) (fun m' r' h => by rw [hb] at h; cases h; exact hkey)
        have hlk := link_m HM5.out (HH.out.2.2.2.2.1.later HB5.out) HH.out.2.2.2.2.2.2.2.1 hno
        have HNO := hid hno
        clear hb hmm hkey hd hno
        have hlk2 := hlk
        go_upto_region 7 with (first | (go_at_call 15; refine hn.mono ?_; rintro e9 w9 ⟨rfl, hw⟩; obtain rfl := hw.symm; clear hn hw) | (refine wpList_load_row rfl 41 (.tmp 5) rfl w3.heap.size rfl 41 (pathA p ns e.key) (0, 0) (.array 12 40) HQ5.out Tryd.underlying41 rfl arr12_size ?_) | (go_at_call 16; refine hlk2.mono ?_; rintro e9 w9 ⟨nb, kv, hh, rfl, m9, k9, n9⟩))
        have HC : Hid (GotN w p ns e.key ((flat ns).length : Nat) (wts (flat ns) : Nat) nb w9 ∧ w9.heap[w.heap.size]? = some (.cells #[.slice ka e.key.length kc, .int .i64 e.seq, .bool e.gone, .int .i64 e.till, .slice va e.val.length vc] 28 (0, 0))) := ⟨got_link HH.out.1 HB5.out HNO.out m9 k9 n9, (k9.block _ HFB.out.2 HFB.out.1).trans K5.out⟩
        clear m9 k9 n9 hlk hlk2
        unfold ptr
        obtain ⟨y0, y1, y2, y3, y4⟩ := HBX.out _ HC.out.2
        obtain ⟨A, n, B, hnb, hnk, hm6, hfl, hA, hB, hkp, hfp⟩ := HC.out.1
        rw [hnb]
        have hvs : n.vs.length ≤ 100 := by
          have h1 := vs_le (ns := A ++ n :: B) (n := n) (by simp)
          rw [hfl] at h1
          have := HH.out.2.1
          omega
        have hna := nadd_m hm6 (entM_kept HH.out.2.2.1 hkp HH.out.2.2.2.1) (by omega) hv3
        unfold ptr entA at hna
        have H6 : Hid (n.key = e.key ∧ MemAt w9 p (A ++ n :: B) ((flat ns).length : Nat) (wts (flat ns) : Nat) ∧ flat (A ++ n :: B) = flat ns ∧ (∀ a ∈ A, cmp a.key e.key < 0) ∧ (∀ b ∈ B, 0 < cmp b.key e.key) ∧ Kept (FP p ns) w w9 ∧ ∀ k, FP p (A ++ n :: B) k → FP p ns k ∨ w.heap.size ≤ k) := ⟨hnk, hm6, hfl, hA, hB, hkp, hfp⟩
        have HBK := hid HC.out.2
        clear hnb hnk hm6 hfl hA hB hkp hfp HC hvs
        go_wp2_with fail
        refine hna.mono ?_
        clear hna
        rintro e9 w10 (⟨ht, rfl, b10⟩ | ⟨ht, rfl, hadd⟩)
        · have HAE : Hid (addE (flat ns) e = (6, flat ns)) := by
            obtain ⟨v, hv, hs⟩ := the_true ht
            have := flat_has (A := A) (B := B) (n := n) (v := v) (e := e) (List.mem_of_getElem? hv) H6.out.1.symm hs.symm
            rw [H6.out.2.2.1] at this
            exact addE_has HQ.out this
          have HFIN : Hid (∃ F', RM w10 p (flat ns) F' ∧ Kept (FP p ns) w w10 ∧ ∀ k, F' k → FP p ns k ∨ w.heap.size ≤ k) :=
            ⟨FP p (A ++ n :: B), ⟨A ++ n :: B, by rw [H6.out.2.2.1]; exact H6.out.2.1.later b10, H6.out.2.2.1.symm, rfl⟩, H6.out.2.2.2.2.2.1.trans (Kept.of_below b10), H6.out.2.2.2.2.2.2⟩
          clear ht b10
          go_wp2_with fail
          go_ret
          rw [HAE.out]
          exact ⟨by simp, HFIN.out⟩
        · obtain ⟨v, rv', m10, hve, k10, n10⟩ := hadd
          have hfa := add_flat (rv' := rv') H6.out.1 H6.out.2.2.2.1 H6.out.2.2.2.2.1 (H6.out.2.1.bas.ord.2 n (by simp)) ht hve
          rw [H6.out.2.2.1] at hfa
          have HAE : Hid (addE (flat ns) e = (0, putE (flat ns) e)) := addE_put HQ.out hfa.2
          obtain ⟨x14, x15, f14, f15⟩ := m10.counts
          have g10 : w10.heap[w.heap.size]? = some (.cells #[.slice ka e.key.length kc, .int .i64 e.seq, .bool e.gone, .int .i64 e.till, .slice va e.val.length vc] 28 (0, 0)) := by
            refine (k10.block _ (Array.getElem?_eq_some_iff.1 HBK.out).1 ?_).trans HBK.out
            have hnd := H6.out.2.1.bas.nd n (by simp)
            rintro (q | q)
            · obtain ⟨C, c1, _⟩ := hnd.blk
              exact ty_ne HBK.out c1 (by decide) q
            · obtain ⟨C, c1⟩ := ownsRow_ty hnd.row q
              exact ty_ne HBK.out c1 (by decide) rfl
          obtain ⟨t0, t1, t2, t3, t4⟩ := HBX.out _ g10
          have hpne : p ≠ w.heap.size := by
            obtain ⟨C, c1, _⟩ := m10.bas.head
            exact ty_ne c1 g10 (by decide)
          have hl1 : (flat ns).length ≤ 100 := HH.out.2.1
          have HFIN : Hid (∀ wf, wf.heap = ((w10.setCell ⟨p, 14, none⟩ (.int .i64 (((flat ns).length : Nat) + 1 : Int))).setCell ⟨p, 15, none⟩ (.int .i64 ((wts (flat ns) : Nat) + ((e.key.length : Nat) + (e.val.length : Nat) + 16) : Int))).heap → wf.os = w10.os → wf.tape = w10.tape → wf.output = w10.output → ∃ F', RM wf p (putE (flat ns) e) F' ∧ Kept (FP p ns) w wf ∧ ∀ k, F' k → FP p ns k ∨ w.heap.size ≤ k) := fun wf hw1 hw2 hw3 hw4 => by
            have hmc := memat_count m10 (((flat ns).length : Nat) + 1 : Int) ((wts (flat ns) : Nat) + ((e.key.length : Nat) + (e.val.length : Nat) + 16) : Int)
            have hmw := hmc.keep (w' := wf) (fun k _ => by rw [hw1]) (by rw [hw1])
            have hF10 : ∀ k, (k = n.b ∨ Ows n.rv k) → FP p ns k ∨ w.heap.size ≤ k := fun k hk => H6.out.2.2.2.2.2.2 k (.inr ⟨n, by simp, by rcases hk with q | q; exact .inl q; exact .inr (.inr (.inl q))⟩)
            refine ⟨FP p (A ++ { n with vs := n.vs.take (plc n.vs e.seq) ++ v :: n.vs.drop (plc n.vs e.seq), rv := rv' } :: B), ⟨_, ?_, hfa.1.symm, rfl⟩, ?_, fun k hk => ?_⟩
            · rw [hfa.1, putE_len, wts_flat_put]
              have e1 : (((flat ns).length + 1 : Nat) : Int) = ((flat ns).length : Nat) + 1 := by omega
              have e2 : ((wts (flat ns) + wtE e : Nat) : Int) = (wts (flat ns) : Nat) + ((e.key.length : Nat) + (e.val.length : Nat) + 16) := by unfold wtE; omega
              rw [e1, e2]
              exact hmw
            · have hk1 : Kept (FP p ns) w w10 := ⟨k10.os.trans H6.out.2.2.2.2.2.1.os, k10.tape.trans H6.out.2.2.2.2.2.1.tape, k10.output.trans H6.out.2.2.2.2.2.1.output, Nat.le_trans H6.out.2.2.2.2.2.1.size k10.size, fun k hk hn => (k10.block k (Nat.lt_of_lt_of_le hk H6.out.2.2.2.2.2.1.size) (fun q => by rcases hF10 k q with r | r; exact hn r; omega)).trans (H6.out.2.2.2.2.2.1.block k hk hn)⟩
              have hk2 := (hk1.set (b := p) (k := 14) (v := .int .i64 (((flat ns).length : Nat) + 1 : Int)) (.inl (.inl rfl))).set (b := p) (k := 15) (v := .int .i64 ((wts (flat ns) : Nat) + ((e.key.length : Nat) + (e.val.length : Nat) + 16) : Int)) (.inl (.inl rfl))
              exact ⟨hw2.trans hk1.os, hw3.trans hk1.tape, hw4.trans hk1.output, by rw [hw1]; exact hk2.size, fun k hk hn => by rw [hw1]; exact hk2.block k hk hn⟩
            · rcases fp_mid.1 hk with q | ⟨m', hm', q⟩ | q
              · exact .inl (.inl q)
              · exact H6.out.2.2.2.2.2.2 k (fp_mid.2 (.inr (.inl ⟨m', hm', q⟩)))
              · have hsz := H6.out.2.2.2.2.2.1.size
                have hN : ∀ k', k' = v.b ∨ Ows v.vv k' ∨ Ows rv' k' → FP p ns k' ∨ w.heap.size ≤ k' := fun k' hk' => by
                  rcases n10 k' hk' with r | r
                  · exact hF10 k' (.inr r)
                  · exact .inr (by omega)
                have hO : ∀ {k'}, NF n k' → FP p ns k' ∨ w.heap.size ≤ k' := fun {k'} r => H6.out.2.2.2.2.2.2 k' (fp_mid.2 (.inr (.inr r)))
                rcases q with q | q | q | ⟨y, hy, q⟩
                · exact hO (.inl q)
                · exact hO (.inr (.inl q))
                · exact hN k (.inr (.inr q))
                · simp only at hy
                  rcases List.mem_append.1 hy with r | r
                  · exact hO (.inr (.inr (.inr ⟨y, List.mem_of_mem_take r, q⟩)))
                  · rcases List.mem_cons.1 r with rfl | r
                    · exact hN k (by rcases q with q | q; exact .inl q; exact .inr (.inl q))
                    · exact hO (.inr (.inr (.inr ⟨y, List.mem_of_mem_drop r, q⟩)))
          generalize (flat ns).length = LN at x14 hl1 HFIN HAE ⊢
          clear m10 k10 n10 hfa ht hve
          go_upto_region 10 with fail
          go_cut [] from 44 to 58 (fun wx => Hid (wx.heap = ((w10.setCell ⟨p, 14, none⟩ (.int .i64 ((LN : Nat) + 1 : Int))).setCell ⟨p, 15, none⟩ (.int .i64 ((wts (flat ns) : Nat) + ((e.key.length : Nat) + (e.val.length : Nat) + 16) : Int))).heap ∧ wx.os = w10.os ∧ wx.tape = w10.tape ∧ wx.output = w10.output))
          case first =>
            clear HFIN HAE HBX HH H6 HBK HV HM5 HQ5 HB5 K5 HSZ HFB t1 t2 t3 y0 y1 y2 y3 y4 g10
            have HWR : Hid (IntKind.i64.wrap (((wts (flat ns) : Nat) : Int) + IntKind.i64.wrap (IntKind.i64.wrap ((e.key.length : Int) + (e.val.length : Int)) + 16)) = ((wts (flat ns) : Nat) : Int) + ((e.key.length : Int) + (e.val.length : Int) + 16)) := by
              show _ = _
              rw [IntKind.wrap_i64, IntKind.wrap_i64, IntKind.wrap_i64]
              omega
            go_region_law (fail)
            all_goals
              go_wp2_with fail
              go_meet
              exact ⟨(by first | rfl | (rw [HWR.out]; rfl)), rfl, rfl, rfl⟩
          have HCU := hcut
          go_wp2_with fail
          go_ret
          rw [HAE.out]
          exact ⟨by simp, HFIN.out _ HCU.out.1 HCU.out.2.1 HCU.out.2.2.1 HCU.out.2.2.2⟩
  · have hq' : mayE e = false := by simpa using hq
    rw [hq'] at hmay
    have HAE : Hid (addE (flat ns) e = (1, flat ns)) := addE_bad hq'
    have HFIN : Hid (∀ w2, Below W1.heap.size W1 w2 → ∃ F', RM w2 p (flat ns) F' ∧ Kept (FP p ns) w w2 ∧ ∀ k, F' k → FP p ns k ∨ w.heap.size ≤ k) := fun w2 b2 => by
      have B2 : Below w.heap.size w w2 := HH.out.2.2.2.2.2.1.trans (b2.mono HH.out.2.2.2.2.2.1.size)
      exact ⟨FP p ns, ⟨ns, HH.out.1.later B2, rfl, rfl⟩, Kept.of_below B2, fun k hk => .inl hk⟩
    clear hq hq'
    unfold entA at hmay ⊢
    go_enter Tryd.func8, Tryd.ntmps8
    go_upto_region 1 with fail
    rw [← HW1.out]
    obtain ⟨y0, y1, y2, y3, y4⟩ := HBX.out W1 HH.out.2.2.2.2.2.2.1
    go_wp2_with (first | (go_at_call 13; refine hmay.mono ?_; rintro e9 w2 ⟨rfl, b2⟩))
    go_ret
    rw [HAE.out]
    exact ⟨by simp, HFIN.out _ b2⟩
end Go.Proofs.YtaefddnmldbgiabDoor
