import Derived.Test.YtaefddnmldbgiaaDoorPk19
/- The landed mem's Add. -/
namespace Go.Proofs.YtaefddnmldbgiaaDoor
open Go.RowKit
set_option linter.unusedVariables false
set_option linter.unusedSimpArgs false

theorem mem_mid {α : Type} {A B : List α} {n m : α} (h : m ∈ A ++ n :: B) : (m ∈ A ∨ m ∈ B) ∨ m = n := by
  rcases List.mem_append.1 h with q | q
  · exact .inl (.inl q)
  · rcases List.mem_cons.1 q with e | q
    · exact .inr e
    · exact .inl (.inr q)
/-- One more entry of a key. -/
theorem memat_add {w w7 w8 : World} {p : Nat} {A B : List Nd} {n : Nd} {c wt : Int} (h : MemAt w p (A ++ n :: B) c wt) (h7 : Below w.heap.size w w7) {v : Vr} (hv : VrAt w7 v) {i : Nat} {rv' : Value} (hk : Kept (Ows n.rv) w7 w8)
    (hr : w8.ownsRow 0 62 1 rv' (n.vs.length + 1) ((n.vs.take i ++ v :: n.vs.drop i).map fun v => ptr v.b)) (hi : i ≤ n.vs.length) (hnew : ∀ j, Ows rv' j → Ows n.rv j ∨ w.heap.size ≤ j) (hP : ∀ x ∈ n.vs.take i, x.seq < v.seq) (hS : ∀ x ∈ n.vs.drop i, v.seq < x.seq) :
    MemAt (w8.setCell ⟨n.b, 1, none⟩ rv') p (A ++ { n with vs := n.vs.take i ++ v :: n.vs.drop i, rv := rv' } :: B) c wt := by
  have hn : n ∈ A ++ n :: B := by simp
  have h7' := h.later h7
  have hnd := h7'.bas.nd n hn
  obtain ⟨C, c1, c2, c3, c4⟩ := hnd.blk
  -- a block of another type than a row of pointers stays
  have k8 : ∀ {k : Nat} {D : Array Value} {t : TypeId} {f : Nat × Nat}, w7.heap[k]? = some (.cells D t f) → t ≠ 62 → w8.heap[k]? = w7.heap[k]? := fun {k D t f} hk' ht => by
    refine hk.block k (Array.getElem?_eq_some_iff.1 hk').1 fun hO => ?_
    obtain ⟨E, hE⟩ := ownsRow_ty hnd.row hO
    rw [hk'] at hE
    simp only [Option.some.injEq, Obj.cells.injEq] at hE
    exact ht hE.2.1
  have k9 : ∀ {k : Nat} {D : Array Value} {t : TypeId} {f : Nat × Nat}, w7.heap[k]? = some (.cells D t f) → t ≠ 62 → t ≠ 57 → (w8.setCell ⟨n.b, 1, none⟩ rv').heap[k]? = w7.heap[k]? := fun {k D t f} hk' ht ht2 =>
    (heap_ne w8 1 rv' (ty_ne hk' c1 ht2)).trans (k8 hk' ht)
  have r9 : ∀ {B : Nat} {e : TypeId} {sz : Nat} {x : Value} {m : Nat} {us : List Value}, w7.ownsRow B e sz x m us → e ≠ 62 → e ≠ 57 → (w8.setCell ⟨n.b, 1, none⟩ rv').ownsRow B e sz x m us := fun {B e sz x m us} hr' h1 h2 => ownsRow_keep hr' fun k hk' => by
    obtain ⟨E, hE⟩ := ownsRow_ty hr' hk'
    exact k9 hE h1 h2
  have v9 : ∀ {x : Vr}, VrAt w7 x → VrAt (w8.setCell ⟨n.b, 1, none⟩ rv') x := fun {x} hx => ⟨(k9 hx.blk (by decide) (by decide)).trans hx.blk, r9 hx.val (by decide) (by decide), hx.ok, hx.i1, hx.i2⟩
  have c8 : w8.heap[n.b]? = some (.cells C 57 (0, 0)) := (k8 c1 (by decide)).trans c1
  have hpw := List.pairwise_append.1 h.bas.rw
  have hoth : ∀ m, m ∈ A ∨ m ∈ B → ∀ k, Ows m.rv k → ¬ Ows n.rv k := fun m hm k h1 h2 => by
    rcases hm with q | q
    · exact hpw.2.2 m q n (by simp) k h1 h2
    · exact (List.pairwise_cons.1 hpw.2.1).1 m q k h2 h1
  have hnbs := h.bas.nb
  rw [List.map_append, List.map_cons, List.nodup_append] at hnbs
  have hbne : ∀ m, m ∈ A ∨ m ∈ B → m.b ≠ n.b := fun m hm e => by
    rcases hm with q | q
    · exact hnbs.2.2 m.b (List.mem_map.2 ⟨m, q, rfl⟩) n.b (by simp) e
    · exact (List.nodup_cons.1 hnbs.2.1).1 (e ▸ List.mem_map.2 ⟨m, q, rfl⟩)
  have hlen : (n.vs.take i ++ v :: n.vs.drop i).length = n.vs.length + 1 := by simp; omega
  refine ⟨⟨?_, ?_, fun m hm => ?_, ?_, ?_, ?_⟩, fun j hj => ?_⟩
  · obtain ⟨T, t, fr, e1, ⟨e2, e3, e4⟩, _⟩ := h7'.bas.tab
    exact h7'.bas.tab.keep (k9 e1 e2 e3)
  · obtain ⟨D, d1, d2⟩ := h7'.bas.head
    exact ⟨D, (k9 d1 (by decide) (by decide)).trans d1, d2⟩
  · rcases mem_mid hm with q | rfl
    · have hm7 := h7'.bas.nd m (by rcases q with q | q <;> simp [q])
      obtain ⟨D, d1, d2⟩ := hm7.blk
      refine ⟨⟨D, ?_, d2⟩, r9 hm7.key (by decide) (by decide), hm7.ok, ownsRow_keep hm7.row fun k hk' => ?_, fun x hx => v9 (hm7.vs x hx), hm7.h⟩
      · exact (heap_ne w8 1 rv' (hbne m q)).trans ((k8 d1 (by decide)).trans d1)
      · obtain ⟨E, hE⟩ := ownsRow_ty hm7.row hk'
        exact (heap_ne w8 1 rv' (ty_ne hE c1 (by decide))).trans (hk.block k (Array.getElem?_eq_some_iff.1 hE).1 (hoth m q k hk'))
    · refine ⟨⟨_, heap_set c8 1 rv', by simpa using c2, ?_, ?_⟩, r9 hnd.key (by decide) (by decide), hnd.ok, ?_, fun x hx => ?_, hnd.h⟩
      · rw [Array.getElem?_setIfInBounds_ne (by omega)]; exact c3
      · rw [Array.getElem?_setIfInBounds_self, if_pos (by omega)]
      · simp only
        rw [hlen]
        refine ownsRow_keep hr fun k hk' => ?_
        obtain ⟨E, hE⟩ := ownsRow_ty hr hk'
        exact heap_ne w8 1 rv' (ty_ne hE c8 (by decide))
      · simp only at hx
        rcases List.mem_append.1 hx with q | q
        · exact v9 (hnd.vs x (List.mem_of_mem_take q))
        · rcases List.mem_cons.1 q with rfl | q
          · exact v9 hv
          · exact v9 (hnd.vs x (List.mem_of_mem_drop q))
  · have ho := h.bas.ord
    obtain ⟨o1, o2, o3⟩ := List.pairwise_append.1 ho.1
    obtain ⟨o4, o5⟩ := List.pairwise_cons.1 o2
    refine ⟨List.pairwise_append.2 ⟨o1, List.pairwise_cons.2 ⟨o4, o5⟩, fun a ha b hb => ?_⟩, fun m hm => ?_⟩
    · rcases List.mem_cons.1 hb with rfl | q
      · exact o3 a ha n (by simp)
      · exact o3 a ha b (by simp [q])
    · rcases mem_mid hm with q | rfl
      · exact ho.2 m (by rcases q with q | q <;> simp [q])
      · have hs := ho.2 n hn
        simp only
        rw [← List.take_append_drop i n.vs] at hs
        obtain ⟨s1, s2, s3⟩ := List.pairwise_append.1 hs
        refine List.pairwise_append.2 ⟨s1, List.pairwise_cons.2 ⟨hS, s2⟩, fun a ha b hb => ?_⟩
        rcases List.mem_cons.1 hb with rfl | q
        · exact hP a ha
        · exact s3 a ha b q
  · have := h.bas.nb
    simpa using this
  · obtain ⟨o1, o2, o3⟩ := hpw
    obtain ⟨o4, o5⟩ := List.pairwise_cons.1 o2
    have hlt : ∀ m, m ∈ A ∨ m ∈ B → ∀ k, Ows m.rv k → ¬ Ows rv' k := fun m hm k h1 h2 => by
      rcases hnew k h2 with q | q
      · exact hoth m hm k h1 q
      · have := ownsRow_lt (h.bas.nd m (by rcases hm with q | q <;> simp [q])).row h1
        omega
    refine List.pairwise_append.2 ⟨o1, List.pairwise_cons.2 ⟨fun b hb k h1 h2 => hlt b (.inr hb) k h2 h1, o5⟩, fun a ha b hb => ?_⟩
    rcases List.mem_cons.1 hb with rfl | q
    · exact fun k h1 h2 => hlt a (.inl ha) k h1 h2
    · exact o3 a ha b (by simp [q])
  · have hc := h7'.lv j hj
    have e : lev (A ++ { n with vs := n.vs.take i ++ v :: n.vs.drop i, rv := rv' } :: B) j = lev (A ++ n :: B) j := by
      rw [lev_app, lev_app]
      congr 1
      by_cases q : j < n.h <;> simp [lev, q]
    rw [e]
    refine hc.keep fun k hk' => ?_
    have hkb : ∃ D t f, w7.heap[k]? = some (.cells D t f) ∧ t ≠ 62 := by
      rcases hk' with rfl | q
      · obtain ⟨D, d1, _⟩ := h7'.bas.head
        exact ⟨D, _, _, d1, by decide⟩
      · obtain ⟨m, hm, rfl, _⟩ := lev_mem q
        obtain ⟨D, d1, _⟩ := (h7'.bas.nd m hm).blk
        exact ⟨D, _, _, d1, by decide⟩
    obtain ⟨D, t, f, hD, ht⟩ := hkb
    have e8 : w8.cell? ⟨k, 2 + j, none⟩ = w7.cell? ⟨k, 2 + j, none⟩ := World.cell?_of_block (a := ⟨k, 2 + j, none⟩) (k8 hD ht)
    by_cases q : k = n.b
    · subst q
      rw [cell_off (by omega), e8]
    · rw [cell_blk q, e8]
theorem Kept.weak {F G : Nat → Prop} {w w' : World} (h : Kept F w w') (hFG : ∀ k, F k → G k) : Kept G w w' := ⟨h.os, h.tape, h.output, h.size, fun k hk hn => h.block k hk fun q => hn (hFG k q)⟩
theorem ownsRow_slice {w : World} {B : Nat} {e : TypeId} {sz : Nat} {v : Value} {n : Nat} {us : List Value} (h : w.ownsRow B e sz v n us) : ∃ a l c, v = .slice a l c := by
  rcases h.2 with q | ⟨g, cap, cur, q1, _⟩
  · exact ⟨_, _, _, q.1⟩
  · exact ⟨_, _, _, q1⟩
/-- What node.add has done. -/
def AddV (w : World) (p : Nat) (A B : List Nd) (n : Nd) (c wt : Int) (x : EntV) (w' : World) : Prop :=
  ∃ v rv', MemAt w' p (A ++ { n with vs := n.vs.take (plc n.vs x.seq) ++ v :: n.vs.drop (plc n.vs x.seq), rv := rv' } :: B) c wt ∧ v.ent x.key = x ∧ Kept (fun k => k = n.b ∨ Ows n.rv k) w w' ∧ ∀ k, k = v.b ∨ Ows v.vv k ∨ Ows rv' k → Ows n.rv k ∨ w.heap.size ≤ k
set_option maxHeartbeats 4000000 in
set_option maxRecDepth 100000 in
theorem nadd_m {w : World} {p : Nat} {A B : List Nd} {n : Nd} {c wt : Int} (h : MemAt w p (A ++ n :: B) c wt) {ka va : Option Addr} {kc vc : Nat} {x : EntV} (hem : EntM w (entL ka kc va vc x) x) (hl : n.vs.length ≤ 1000) (hvl : x.val.length ≤ 3000) : Calls Tryd.prog 40 #[ptr n.b, entA ka kc va vc x] w fun r w' =>
    (the n.vs x.seq = true ∧ r = .returned (.bool false) ∧ Below w.heap.size w w') ∨ (the n.vs x.seq = false ∧ r = .returned (.bool true) ∧ AddV w p A B n c wt x w') := by
  have hn : n ∈ A ++ n :: B := by simp
  have ho := h.bas.ord.2 n hn
  obtain ⟨ka', kc', va', vc', heq, sk, sv, i1, i2⟩ := hem
  unfold entL at heq
  simp only [List.cons.injEq, Value.slice.injEq, and_true, true_and] at heq
  obtain ⟨⟨rfl, rfl⟩, rfl, rfl⟩ := heq
  obtain ⟨W1, hW1⟩ : ∃ W1, W1 = w.alloc (.cells #[.slice ka x.key.length kc, .int .i64 x.seq, .bool x.gone, .int .i64 x.till, .slice va x.val.length vc] 28) := ⟨_, rfl⟩
  have b1 : Below w.heap.size w W1 := by rw [hW1]; exact (Below.refl _ w).alloc (Nat.le_refl _) _
  have hpl := place_m ((h.later b1).bas.nd n hn) (by omega) ho (s := x.seq)
  have HBX := hid (fun wx hb => box_cells w (.slice ka x.key.length kc) (.int .i64 x.seq) (.bool x.gone) (.int .i64 x.till) (.slice va x.val.length vc) 28 (wx := wx) (by rw [← hW1]; exact hb))
  have HH : Hid (MemAt w p (A ++ n :: B) c wt ∧ Sl w va x.val.length vc x.val ∧ In64 x.seq ∧ In64 x.till ∧ n.vs.length ≤ 1000 ∧ x.val.length ≤ 3000 ∧ n ∈ A ++ n :: B ∧ n.vs.Pairwise (fun a b => a.seq < b.seq) ∧ Below w.heap.size w W1) := ⟨h, sv, i1, i2, hl, hvl, hn, ho, b1⟩
  have HPL := hid (And.intro (plc_le n.vs x.seq) (And.intro (plc_before (vs := n.vs) (s := x.seq)) (the_false ho (s := x.seq))))
  have HW1 := hid hW1
  clear h hn ho sk sv i1 i2 hl hvl b1 hW1
  obtain ⟨key, seq, gone, till, vl⟩ := x
  simp only at *
  unfold entA
  simp only
  generalize hT : the n.vs seq = T at hpl HPL ⊢
  have HPP : ∃ P, P = plc n.vs seq := ⟨_, rfl⟩
  obtain ⟨P, hP⟩ := HPP
  rw [← hP] at hpl HPL
  have HPE := hid hP
  unfold ptr
  unfold ptr at hpl
  cases T with
  | true =>
    have HB := hid HH.out.2.2.2.2.2.2.2.2
    go_enter Tryd.func40, Tryd.ntmps40
    go_upto_region 1 with fail
    rw [← HW1.out]
    obtain ⟨y0, y1, y2, y3, y4⟩ := HBX.out W1 (Below.refl _ _)
    clear HW1 hT hP
    go_wp2_with fail
    refine hpl.mono ?_
    rintro e w' ⟨rfl, hw⟩
    obtain rfl := hw.symm
    clear hpl hw
    go_wp2_with fail
    go_ret
    exact .inl ⟨by simp, by simp, HB.out⟩
  | false =>
    have HCV : Hid (∀ wx, Below W1.heap.size W1 wx → Calls Tryd.prog 44 #[.slice va vl.length vc] wx fun e w' => ∃ v, e = .returned v ∧ Row wx.heap.size w' v vl ∧ Below W1.heap.size W1 w' ∧ Below wx.heap.size wx w') := fun wx hb => by
      have hb' := HH.out.2.2.2.2.2.2.2.2
      refine (clone_n (HH.out.2.1.later (hb'.trans (hb.mono hb'.size))) (by have := HH.out.2.2.2.2.2.1; omega)).mono ?_
      rintro e w' ⟨v', rfl, r, b⟩
      exact ⟨v', rfl, r, hb.trans (b.mono hb.size), b⟩
    have HSZ : Hid (w.heap.size ≤ W1.heap.size) := HH.out.2.2.2.2.2.2.2.2.size
    go_enter Tryd.func40, Tryd.ntmps40
    go_upto_region 1 with fail
    rw [← HW1.out]
    obtain ⟨y0, y1, y2, y3, y4⟩ := HBX.out W1 (Below.refl _ _)
    clear HW1 hT hP
    go_wp2_with fail
    refine hpl.mono ?_
    rintro e w' ⟨rfl, hw⟩
    obtain rfl := hw.symm
    clear hpl hw
    go_wp2_with fail
    have S0 := HBX.out W1.drew (Below.refl _ W1).drew
    have BD := (Below.refl W1.heap.size W1).drew
    have HOK : Hid (Okb vl) := HH.out.2.1.2.1
    go_region_held_law (fun w' => w'.cell? ⟨w.heap.size, 0, none⟩ = some (.slice ka key.length kc) ∧ w'.cell? ⟨w.heap.size, 1, none⟩ = some (.int .i64 seq) ∧ w'.cell? ⟨w.heap.size, 2, none⟩ = some (.bool gone) ∧ w'.cell? ⟨w.heap.size, 3, none⟩ = some (.int .i64 till) ∧ w'.cell? ⟨w.heap.size, 4, none⟩ = some (.slice va vl.length vc)) (first | (with_reducible exact S0) | (with_reducible exact S6) | (with_reducible exact S5) | (go_loud (fail "S"))) (first | (go_at_call 44; refine (HCV.out _ BD).mono ?_; rintro e w5 ⟨v5, rfl, r5, B5, b5⟩; obtain ⟨a5, c5, rfl, s5⟩ := Sl.ofRow r5 HOK.out; have S5 := HBX.out _ B5; have S6 := HBX.out _ (B5.alloc B5.size (.cells #[.int .i64 seq, .bool gone, .int .i64 till, .slice a5 vl.length c5] 70))))
    obtain ⟨W6, hW6⟩ : ∃ W6, W6 = w5.alloc (.cells #[.int .i64 seq, .bool gone, .int .i64 till, .slice a5 vl.length c5] 70) := ⟨_, rfl⟩
    have HW6 := hid hW6
    have b6 : Below w5.heap.size w5 W6 := by rw [hW6]; exact (Below.refl _ w5).alloc (Nat.le_refl _) _
    have B6 : Below W1.heap.size W1 W6 := B5.trans (b6.mono B5.size)
    have BW := HH.out.2.2.2.2.2.2.2.2
    have Bw5 : Below w.heap.size w w5 := BW.trans (B5.mono BW.size)
    have V6 : Hid (VrAt W6 ⟨w5.heap.size, seq, gone, till, .slice a5 vl.length c5, vl⟩) := ⟨by rw [hW6]; exact heap_alloc_new w5 _, (r5.later b6).base (Nat.zero_le _), HOK.out, HH.out.2.2.1, HH.out.2.2.2.1⟩
    obtain ⟨W7, hW7⟩ : ∃ W7, W7 = W6.alloc (.cells #[.pointer (some ⟨w5.heap.size, 0, none⟩)] 62) := ⟨_, rfl⟩
    have HW7 := hid hW7
    have b7 : Below W6.heap.size W6 W7 := by rw [hW7]; exact (Below.refl _ W6).alloc (Nat.le_refl _) _
    have Bw6 : Below w.heap.size w W6 := Bw5.trans (b6.mono Bw5.size)
    have Bw7 : Hid (Below w.heap.size w W7) := Bw6.trans (b7.mono Bw6.size)
    have V7 : Hid (VrAt W7 ⟨w5.heap.size, seq, gone, till, .slice a5 vl.length c5, vl⟩) := V6.out.keep fun k hk => b7.block k (by
      rcases hk with rfl | q
      · exact (Array.getElem?_eq_some_iff.1 V6.out.blk).1
      · exact ownsRow_lt V6.out.val q)
    have hnd7 := (HH.out.1.later Bw7.out).bas.nd n HH.out.2.2.2.2.2.2.1
    have g7 : W7.heap[W6.heap.size]? = some (.cells #[.pointer (some ⟨w5.heap.size, 0, none⟩)] 62 (0, 0)) := by rw [hW7]; exact heap_alloc_new W6 _
    have hnr : ¬ Ows n.rv W6.heap.size := fun hO => by
      have := ownsRow_lt (HH.out.1.bas.nd n HH.out.2.2.2.2.2.2.1).row hO
      have := Bw6.size
      omega
    have hins := ins_m hnd7.row HPL.out.1 (by have := HH.out.2.2.2.2.1; omega) (fun y hy => by obtain ⟨v, _, rfl⟩ := List.mem_map.1 hy; exact ⟨_, rfl⟩) ⟨_, rfl⟩ g7 hnr
    have HC1 : Hid (∀ wx, Below w.heap.size w wx → wx.cell? ⟨n.b, 1, none⟩ = some n.rv) := fun wx hb => ((HH.out.1.later hb).bas.nd n HH.out.2.2.2.2.2.2.1).cells.2
    have z6 := HC1.out W6 Bw6
    obtain ⟨ao, cap, hrv, _⟩ := hnd7.rowv
    have HRV := hid hrv
    have HV5 : Hid (w.heap.size ≤ w5.heap.size ∧ ∀ k, Ows (.slice a5 vl.length c5) k → w.heap.size ≤ k) := ⟨Bw5.size, fun k hk => by
      have := (World.ownsRow.lt r5 k hk).1
      have := BW.size
      have hd : W1.drew.heap.size = W1.heap.size := rfl
      omega⟩
    have HN8 : Hid (∀ w8, Kept (Ows n.rv) W7 w8 → w8.cell? ⟨n.b, 1, none⟩ = some n.rv ∧ w8.frozen? ⟨n.b, 1, none⟩ = false) := fun w8 k8 => by
      have hq := (HH.out.1.later Bw7.out).bas.nd n HH.out.2.2.2.2.2.2.1
      obtain ⟨C, q1, q2, q3, q4⟩ := hq.blk
      have e8 : w8.heap[n.b]? = some (.cells C 57 (0, 0)) := (k8.block n.b (Array.getElem?_eq_some_iff.1 q1).1 (fun hO => by
        obtain ⟨E, hE⟩ := ownsRow_ty hq.row hO
        exact ty_ne q1 hE (by decide) rfl)).trans q1
      exact ⟨by rw [cell_of e8]; exact q4, frozen_ofW e8 1⟩
    clear r5 s5 B5 b5 S0 S5 S6 BD b6 B6 Bw5 b7 Bw6 g7 hnr hnd7 y0 y1 y2 y3 y4 BW hW6 hW7 HCV
    rw [hrv] at z6
    rw [HW7.out] at hins
    have hins2 := hins
    rw [hrv] at hins2
    clear hins hrv
    have HEM : Hid (w.heap.size < W7.heap.size) := by
      have h9 : w5.heap.size < W7.heap.size := (Array.getElem?_eq_some_iff.1 V7.out.blk).1
      have := HV5.out.1
      show _ < _
      omega
    go_upto_region 5 with fail
    rw [← HW6.out]
    go_wp2_with (go_at_call 48; refine hins2.mono ?_; rintro e w8 ⟨v8, rfl, r8, k8, n8⟩; rw [← HRV.out, ← HW7.out] at k8 n8; obtain ⟨a8, l8, c8, rfl⟩ := ownsRow_slice r8; obtain ⟨x1, x2⟩ := HN8.out _ k8)
    have HFIN : Hid (AddV w p A B n c wt ⟨key, seq, gone, till, vl⟩ (w8.setCell ⟨n.b, 1, none⟩ (.slice a8 l8 c8))) := by
      refine ⟨⟨w5.heap.size, seq, gone, till, .slice a5 vl.length c5, vl⟩, .slice a8 l8 c8, ?_, rfl, ?_, fun k hk => ?_⟩
      · have hm := memat_add (i := P) HH.out.1 Bw7.out V7.out k8 (rv' := .slice a8 l8 c8) (by rw [List.map_append, List.map_cons, List.map_take, List.map_drop]; exact r8) HPL.out.1 (fun j hj => by
          rcases n8 j hj with q | q
          · exact .inl q
          · exact .inr (by have := HEM.out; omega)) HPL.out.2.1 (HPL.out.2.2 (by simp))
        rw [HPE.out] at hm
        exact hm
      · exact ((Kept.of_below Bw7.out).trans (k8.weak fun k q => .inr q)).set (.inl (.inl rfl))
      · rcases hk with rfl | q | q
        · exact .inr HV5.out.1
        · exact .inr (HV5.out.2 k q)
        · rcases n8 k q with q | q
          · exact .inl q
          · exact .inr (by have := HEM.out; omega)
    clear r8 k8 n8 x1 x2
    go_wp2_with fail
    go_ret
    exact .inr ⟨by simp, by simp, HFIN.out⟩
/-- How the landed mem lies in memory. -/
def RM (w : World) (p : Nat) (l : List EntV) (F : Nat → Prop) : Prop := ∃ ns, MemAt w p ns ((flat ns).length : Nat) (wts (flat ns) : Nat) ∧ l = flat ns ∧ F = FP p ns
/-- A key that is there now, and all else as it was. -/
def GotN (w : World) (p : Nat) (ns : List Nd) (key : List Int) (c wt : Int) (nb : Nat) (wx : World) : Prop :=
  ∃ A n B, nb = n.b ∧ n.key = key ∧ MemAt wx p (A ++ n :: B) c wt ∧ flat (A ++ n :: B) = flat ns ∧ (∀ a ∈ A, cmp a.key key < 0) ∧ (∀ b ∈ B, 0 < cmp b.key key) ∧ Kept (FP p ns) w wx ∧ ∀ k, FP p (A ++ n :: B) k → FP p ns k ∨ w.heap.size ≤ k
theorem fp_mid {p : Nat} {A B : List Nd} {n : Nd} {k : Nat} : FP p (A ++ n :: B) k ↔ k = p ∨ (∃ m, (m ∈ A ∨ m ∈ B) ∧ NF m k) ∨ NF n k := by
  constructor
  · rintro (q | ⟨m, hm, q⟩)
    · exact .inl q
    · rcases mem_mid hm with r | rfl
      · exact .inr (.inl ⟨m, r, q⟩)
      · exact .inr (.inr q)
  · rintro (q | ⟨m, hm, q⟩ | q)
    · exact .inl q
    · exact .inr ⟨m, by rcases hm with r | r <;> simp [r], q⟩
    · exact .inr ⟨n, by simp, q⟩
theorem bck_gt {w : World} {p : Nat} {ns : List Nd} {c wt : Int} (h : MemAt w p ns c wt) {key : List Int} (hno : ∀ n ∈ ns, n.key ≠ key) : ∀ b ∈ bck ns key, 0 < cmp b.key key := fun b hb => by
  have h1 := bck_ge b hb
  have h2 : cmp b.key key ≠ 0 := fun e => hno b h1.1 (cmp_zero.1 e)
  omega
/-- The key is there already. -/
theorem got_there {w wx : World} {p : Nat} {ns : List Nd} {c wt : Int} (h : MemAt w p ns c wt) (hb : Below w.heap.size w wx) {key : List Int} {m : Nd} {r : List Nd} (hm : bck ns key = m :: r) (hk : m.key = key) : GotN w p ns key c wt m.b wx := by
  have e := frt_bck h.bas.ord.1 key
  rw [hm] at e
  have ho := h.bas.ord.1
  rw [e] at ho
  obtain ⟨o1, o2, o3⟩ := List.pairwise_append.1 ho
  refine ⟨frt ns key, m, r, rfl, hk, by rw [← e]; exact h.later hb, by rw [← e], fun a ha => (frt_lt a ha).2, fun b hb' => ?_, Kept.of_below hb, fun k hk' => .inl (by rw [e]; exact hk')⟩
  have := (List.pairwise_cons.1 o2).1 b hb'
  have h3 := cmp_neg m.key b.key
  rw [hk] at this h3
  omega
/-- No key is like it. -/
theorem key_none {w : World} {p : Nat} {ns : List Nd} {c wt : Int} (h : MemAt w p ns c wt) {key : List Int} (hm : ∀ m r, bck ns key = m :: r → m.key ≠ key) : ∀ n ∈ ns, n.key ≠ key := fun n hn e => by
  have e1 := frt_bck h.bas.ord.1 key
  rw [e1] at hn
  rcases List.mem_append.1 hn with q | q
  · have := (frt_lt n q).2
    rw [e, cmp_refl] at this
    omega
  · cases hb : bck ns key with
    | nil => rw [hb] at q; cases q
    | cons m r =>
      have hmk := hm m r hb
      rw [hb] at q
      rcases List.mem_cons.1 q with rfl | q
      · exact hmk e
      · have ho := h.bas.ord.1
        rw [e1, hb] at ho
        have h1 := (List.pairwise_cons.1 (List.pairwise_append.1 ho).2.1).1 n q
        have h2 := (bck_ge m (by rw [hb]; simp)).2
        rw [e] at h1
        exact h2 h1
theorem got_link {w wx w' : World} {p : Nat} {ns : List Nd} {c wt : Int} (h : MemAt w p ns c wt) (hb : Below w.heap.size w wx) {key : List Int} (hno : ∀ n ∈ ns, n.key ≠ key) {nb hh : Nat} {kv : Value} (hm : MemAt w' p (frt ns key ++ ⟨nb, key, kv, hh, [], .slice none 0 0⟩ :: bck ns key) c wt) (hk : Kept (FP p ns) wx w') (hnew : ∀ k, NF ⟨nb, key, kv, hh, [], .slice none 0 0⟩ k → wx.heap.size ≤ k) : GotN w p ns key c wt nb w' := by
  have e := frt_bck h.bas.ord.1 key
  refine ⟨frt ns key, _, bck ns key, rfl, rfl, hm, ?_, fun a ha => (frt_lt a ha).2, bck_gt h hno, (Kept.of_below hb).trans hk, fun k hk' => ?_⟩
  · rw [flat_app, flat_cons]
    conv => rhs; rw [e, flat_app]
    simp [Nd.ents]
  · rcases fp_mid.1 hk' with q | ⟨m, hm', q⟩ | q
    · exact .inl (.inl q)
    · refine .inl (.inr ⟨m, ?_, q⟩)
      rcases hm' with r | r
      · exact (frt_lt m r).1
      · exact (bck_ge m r).1
    · exact .inr (by have := hnew k q; have := hb.size; omega)
theorem vs_le {ns : List Nd} {n : Nd} (h : n ∈ ns) : n.vs.length ≤ (flat ns).length := by
  obtain ⟨A, B, rfl⟩ := List.append_of_mem h
  rw [flat_app, flat_cons]
  simp [Nd.ents]
  omega
end Go.Proofs.YtaefddnmldbgiaaDoor

/- The landed mem's Add. -/
namespace Go.Proofs.YtaefddnmldbgiaaDoor
open Go.RowKit
set_option linter.unusedVariables false
set_option linter.unusedSimpArgs false

/-- With one more of a key, the whole is what the document asks. -/
theorem add_flat {A B : List Nd} {n : Nd} {x : EntV} {v : Vr} {rv' : Value} (hk : n.key = x.key) (hA : ∀ a ∈ A, cmp a.key x.key < 0) (hB : ∀ b ∈ B, 0 < cmp b.key x.key) (ho : n.vs.Pairwise fun a b => a.seq < b.seq) (ht : the n.vs x.seq = false) (hv : v.ent x.key = x) :
    flat (A ++ { n with vs := n.vs.take (plc n.vs x.seq) ++ v :: n.vs.drop (plc n.vs x.seq), rv := rv' } :: B) = putE (flat (A ++ n :: B)) x ∧ hasE (flat (A ++ n :: B)) x = false := by
  have hvs : v.seq = x.seq := by rw [← hv]; rfl
  have h := flat_more (A := A) (B := B) (n := n) (n' := { n with vs := n.vs.take (plc n.vs x.seq) ++ v :: n.vs.drop (plc n.vs x.seq), rv := rv' }) (P := n.vs.take (plc n.vs x.seq)) (S := n.vs.drop (plc n.vs x.seq)) (v := v) (by rw [hk]; exact hA) (by rw [hk]; exact hB) (List.take_append_drop _ _).symm rfl rfl (fun q hq => by rw [hvs]; exact plc_before q hq) (fun q hq => by rw [hvs]; exact the_false ho ht q hq)
  have e9 : Vr.ent n.key v = x := by rw [hk]; exact hv
  rw [e9] at h
  exact h
/-- The count and the weight are turned. -/
theorem memat_count {w : World} {p : Nat} {ns : List Nd} {c wt : Int} (h : MemAt w p ns c wt) (c' wt' : Int) : MemAt ((w.setCell ⟨p, 14, none⟩ (.int .i64 c')).setCell ⟨p, 15, none⟩ (.int .i64 wt')) p ns c' wt' := by
  obtain ⟨C, c1, c2, c3, c4⟩ := h.bas.head
  have hoth : ∀ {k : Nat}, k ≠ p → ((w.setCell ⟨p, 14, none⟩ (.int .i64 c')).setCell ⟨p, 15, none⟩ (.int .i64 wt')).heap[k]? = w.heap[k]? := fun {k} hk => by rw [heap_ne _ _ _ hk, heap_ne _ _ _ hk]
  have hnp : ∀ {k : Nat} {D : Array Value} {t : TypeId} {f : Nat × Nat}, w.heap[k]? = some (.cells D t f) → t ≠ 59 → k ≠ p := fun {k D t f} hk ht => ty_ne hk c1 ht
  have hrow : ∀ {B : Nat} {e : TypeId} {sz : Nat} {x : Value} {n : Nat} {us : List Value}, w.ownsRow B e sz x n us → e ≠ 59 → ((w.setCell ⟨p, 14, none⟩ (.int .i64 c')).setCell ⟨p, 15, none⟩ (.int .i64 wt')).ownsRow B e sz x n us := fun {B e sz x n us} hr h1 => ownsRow_keep hr fun k hk => by
    obtain ⟨D, hD⟩ := ownsRow_ty hr hk
    exact hoth (hnp hD h1)
  have hs := heap_set (heap_set c1 14 (.int .i64 c')) 15 (.int .i64 wt')
  refine ⟨⟨?_, ⟨_, hs, by simpa using c2, ?_, ?_⟩, fun n hn => ?_, h.bas.ord, h.bas.nb, h.bas.rw⟩, fun i hi => (h.lv i hi).keep fun k hk => ?_⟩
  · obtain ⟨T, t, fr, e1, ⟨e2, e3, e4⟩, _⟩ := h.bas.tab
    exact h.bas.tab.keep (hoth (hnp e1 e4))
  · rw [Array.getElem?_setIfInBounds_ne (by omega), Array.getElem?_setIfInBounds_self, if_pos (by omega)]
  · rw [Array.getElem?_setIfInBounds_self, if_pos (by simp; omega)]
  · have hnd := h.bas.nd n hn
    obtain ⟨D, d1, d2⟩ := hnd.blk
    exact ⟨⟨D, (hoth (hnp d1 (by decide))).trans d1, d2⟩, hrow hnd.key (by decide), hnd.ok, hrow hnd.row (by decide), fun x hx => ⟨(hoth (hnp (hnd.vs x hx).blk (by decide))).trans (hnd.vs x hx).blk, hrow (hnd.vs x hx).val (by decide), (hnd.vs x hx).ok, (hnd.vs x hx).i1, (hnd.vs x hx).i2⟩, hnd.h⟩
  · by_cases q : k = p
    · subst q
      rw [cell_off (by omega), cell_off (by omega)]
    · rw [cell_blk q, cell_blk q]
theorem MemAt.counts {w : World} {p : Nat} {ns : List Nd} {c wt : Int} (h : MemAt w p ns c wt) : w.cell? ⟨p, 14, none⟩ = some (.int .i64 c) ∧ w.cell? ⟨p, 15, none⟩ = some (.int .i64 wt) ∧ w.frozen? ⟨p, 14, none⟩ = false ∧ w.frozen? ⟨p, 15, none⟩ = false := by
  obtain ⟨C, c1, c2, c3, c4⟩ := h.bas.head
  exact ⟨by rw [cell_of c1]; exact c3, by rw [cell_of c1]; exact c4, frozen_ofW c1 _, frozen_ofW c1 _⟩
theorem GotN.seen {w wx : World} {p : Nat} {ns : List Nd} {key : List Int} {c wt : Int} {nb : Nat} (h : GotN w p ns key c wt nb wx) {b : Nat} {C : Array Value} {t : TypeId} (hb : w.heap[b]? = some (.cells C t (0, 0))) (hF : ¬ FP p ns b) : wx.heap[b]? = some (.cells C t (0, 0)) := by
  obtain ⟨A, n, B, _, _, _, _, _, _, hk, _⟩ := h
  exact (hk.block b (Array.getElem?_eq_some_iff.1 hb).1 hF).trans hb
theorem entM_kept {F : Nat → Prop} {w w' : World} {ka va : Option Addr} {kc vc : Nat} {x : EntV} (h : EntM w (entL ka kc va vc x) x) (hk : Kept F w w') (hF : ∀ u ∈ entL ka kc va vc x, ∀ b, Refs u b → ¬ F b) : EntM w' (entL ka kc va vc x) x :=
  entE.keep h fun u hu b hr => hk.block b (entE.lt h u hu b hr) (hF u hu b hr)

set_option maxHeartbeats 4000000 in
set_option maxRecDepth 100000 in
theorem add_m {w : World} {p : Nat} {l : List EntV} {F : Nat → Prop} {ka va : Option Addr} {kc vc : Nat} {e : EntV} (hR : RM w p l F) (hok : okE l) (hl : l.length ≤ 100) (hem : EntM w (entL ka kc va vc e) e) (hsep : ∀ u ∈ entL ka kc va vc e, ∀ b, Refs u b → ¬ F b) (hk3 : e.key.length ≤ 3000) (hv3 : e.val.length ≤ 3000) :
    Calls Tryd.prog 23 #[pm p, entA ka kc va vc e] w fun r w' => r = .returned (.int .i64 ((addE l e).1 : Nat)) ∧ ∃ F', RM w' p (addE l e).2 F' ∧ Kept F w w' ∧ ∀ k, F' k → F k ∨ w.heap.size ≤ k := by
  obtain ⟨ns, hm, rfl, rfl⟩ := hR
  obtain ⟨W1, hW1⟩ : ∃ W1, W1 = w.alloc (.cells #[.slice ka e.key.length kc, .int .i64 e.seq, .bool e.gone, .int .i64 e.till, .slice va e.val.length vc] 28) := ⟨_, rfl⟩
  have b1 : Below w.heap.size w W1 := by rw [hW1]; exact (Below.refl _ w).alloc (Nat.le_refl _) _
  have k1 : W1.heap[w.heap.size]? = some (.cells #[.slice ka e.key.length kc, .int .i64 e.seq, .bool e.gone, .int .i64 e.till, .slice va e.val.length vc] 28 (0, 0)) := by rw [hW1]; exact heap_alloc_new w _
  have hmay := may_m (w := W1) (ka := ka) (kc := kc) (va := va) (vc := vc) (e := e)
  have HW1 := hid hW1
  have hsl : Sl w ka e.key.length kc e.key := by
    obtain ⟨ka', kc', va', vc', heq, sk, sv, i1, i2⟩ := hem
    unfold entL at heq
    simp only [List.cons.injEq, Value.slice.injEq, and_true, true_and] at heq
    obtain ⟨⟨rfl, rfl⟩, rfl, rfl⟩ := heq
    exact sk
  have HH : Hid (MemAt w p ns ((flat ns).length : Nat) (wts (flat ns) : Nat) ∧ (flat ns).length ≤ 100 ∧ EntM w (entL ka kc va vc e) e ∧ (∀ u ∈ entL ka kc va vc e, ∀ b, Refs u b → ¬ FP p ns b) ∧ Sl w ka e.key.length kc e.key ∧ Below w.heap.size w W1 ∧ W1.heap[w.heap.size]? = some (.cells #[.slice ka e.key.length kc, .int .i64 e.seq, .bool e.gone, .int .i64 e.till, .slice va e.val.length vc] 28 (0, 0)) ∧ e.key.length ≤ 3000 ∧ e.val.length ≤ 3000 ∧ okE (flat ns)) := ⟨hm, hl, hem, hsep, hsl, b1, k1, hk3, hv3, hok⟩
  have hwl := wts_le hok
  have HBX : Hid (∀ wx : World, wx.heap[w.heap.size]? = some (.cells #[.slice ka e.key.length kc, .int .i64 e.seq, .bool e.gone, .int .i64 e.till, .slice va e.val.length vc] 28 (0, 0)) → wx.cell? ⟨w.heap.size, 0, none⟩ = some (.slice ka e.key.length kc) ∧ wx.cell? ⟨w.heap.size, 1, none⟩ = some (.int .i64 e.seq) ∧ wx.cell? ⟨w.heap.size, 2, none⟩ = some (.bool e.gone) ∧ wx.cell? ⟨w.heap.size, 3, none⟩ = some (.int .i64 e.till) ∧ wx.cell? ⟨w.heap.size, 4, none⟩ = some (.slice va e.val.length vc)) := fun wx hb => by
    refine ⟨?_, ?_, ?_, ?_, ?_⟩ <;> rw [cell_of hb] <;> rfl
  have hw3 : wts (flat ns) ≤ 300000 := by omega
  clear hm hl hem hsep hsl b1 k1 hW1 hok hwl
  unfold pm
  by_cases hq : mayE e = true
  · rw [hq] at hmay
    have HQ := hid hq
    clear hq
    unfold entA at hmay ⊢
    go_enter Tryd.func23, Tryd.ntmps23
    go_upto_region 1 with fail
    rw [← HW1.out]
    obtain ⟨y0, y1, y2, y3, y4⟩ := HBX.out W1 HH.out.2.2.2.2.2.2.1
    go_upto_region 3 with (first | (go_at_call 29; refine hmay.mono ?_; rintro e9 w2 ⟨rfl, b2⟩))
    have K2 : w2.heap[w.heap.size]? = some (.cells #[.slice ka e.key.length kc, .int .i64 e.seq, .bool e.gone, .int .i64 e.till, .slice va e.val.length vc] 28 (0, 0)) := (b2.block _ (Array.getElem?_eq_some_iff.1 HH.out.2.2.2.2.2.2.1).1).trans HH.out.2.2.2.2.2.2.1
    have B2 : Below w.heap.size w w2 := HH.out.2.2.2.2.2.1.trans (b2.mono HH.out.2.2.2.2.2.1.size)
    have hbef := before_m (HH.out.1.later B2) (HH.out.2.2.2.2.1.later B2)
    have HK2 := hid (And.intro K2 B2)
    obtain ⟨z0, z1, z2, z3, z4⟩ := HBX.out w2 K2
    unfold pm at hbef
    clear hmay b2 K2 B2 y0 y1 y2 y3 y4 HW1
    go_upto_region 4 with (first | (go_at_call 38; refine hbef.mono ?_; rintro e9 w3 ⟨rfl, b3⟩) | (refine wpList_store_row rfl 55 (.tmp 5) (.tmp 17) rfl w3.heap.size (pathA p ns e.key) rfl rfl 55 #[.pointer none, .pointer none, .pointer none, .pointer none, .pointer none, .pointer none, .pointer none, .pointer none, .pointer none, .pointer none, .pointer none, .pointer none] (heap_alloc_new w3 _) arr12_size rfl (path_one p ns e.key) ?_))
    obtain ⟨W5, hW5⟩ : ∃ W5, W5 = (w3.alloc (.cells #[.pointer none, .pointer none, .pointer none, .pointer none, .pointer none, .pointer none, .pointer none, .pointer none, .pointer none, .pointer none, .pointer none, .pointer none] 55)).setRow w3.heap.size (pathA p ns e.key) := ⟨_, rfl⟩
    have B3 : Below w.heap.size w w3 := HK2.out.2.trans (b3.mono HK2.out.2.size)
    have B4 : Below w.heap.size w (w3.alloc (.cells #[.pointer none, .pointer none, .pointer none, .pointer none, .pointer none, .pointer none, .pointer none, .pointer none, .pointer none, .pointer none, .pointer none, .pointer none] 55)) := B3.alloc B3.size _
    have HB5 : Hid (Below w.heap.size w W5) := by rw [hW5]; exact below_row B4 _ _ B3.size
    have HQ5 : Hid (W5.heap[w3.heap.size]? = some (.cells (pathA p ns e.key) 55 (0, 0))) := by rw [hW5]; exact setRow_heap _ _ _ _ _ _ (heap_alloc_new w3 _)
    have hlt2 := (Array.getElem?_eq_some_iff.1 HK2.out.1).1
    have K5 : Hid (W5.heap[w.heap.size]? = some (.cells #[.slice ka e.key.length kc, .int .i64 e.seq, .bool e.gone, .int .i64 e.till, .slice va e.val.length vc] 28 (0, 0))) := by
      have h3 := (b3.block _ hlt2).trans HK2.out.1
      have hs3 := b3.size
      rw [hW5]
      exact (setRow_other _ _ _ _ (by omega)).trans ((Below.heap_alloc w3 _ _ (by omega)).trans h3)
    have HSZ : Hid (w.heap.size ≤ w3.heap.size) := B3.size
    rw [← hW5]
    clear hbef b3 B3 B4 hlt2 z0 z1 z2 z3 z4 HK2 hW5
    have HM5 := hid (HH.out.1.later HB5.out)
    obtain ⟨V, hV⟩ : ∃ V, V = ptrO ((bck ns e.key).head?.map Nd.b) := ⟨_, rfl⟩
    have n5 := pre_next HM5.out e.key
    rw [← hV] at n5
    have p5 : W5.cell? ⟨w3.heap.size, 0, none⟩ = some (.pointer (some ⟨pre p ns e.key 0, 0, none⟩)) := by rw [cell_of HQ5.out]; rfl
    obtain ⟨o, rfl⟩ : ∃ o, V = .pointer o := by
      rw [hV]
      cases (bck ns e.key).head?.map Nd.b with
      | none => exact ⟨_, rfl⟩
      | some b => exact ⟨_, rfl⟩
    have HV := hid hV
    clear hV
    go_upto_region 5 with fail
    clear n5 p5
    obtain ⟨y0, y1, y2, y3, y4⟩ := HBX.out W5 K5.out
    have HFB : Hid (¬ FP p ns w.heap.size ∧ w.heap.size < W5.heap.size) := ⟨fun hf => by have := HH.out.1.bas.lt hf; omega, (Array.getElem?_eq_some_iff.1 K5.out).1⟩
    cases hb : bck ns e.key with
    | nil =>
      have ho : o = none := by
        have := HV.out
        rw [hb] at this
        simpa [ptrO] using this
      subst ho
      have hno := key_none HH.out.1 (key := e.key) (fun m r h => by rw [hb] at h; cases h)
      have hlk := link_m HM5.out (HH.out.2.2.2.2.1.later HB5.out) HH.out.2.2.2.2.2.2.2.1 hno
      have hn := @has_nil W5 ka e.key.length kc
      have HNO := hid hno
      clear hb hno
      have hlk2 := hlk
      go_upto_region 7 with (first | (go_at_call 31; refine hn.mono ?_; rintro e9 w9 ⟨rfl, hw⟩; obtain rfl := hw.symm; clear hn hw) | (refine wpList_load_row rfl 55 (.tmp 5) rfl w3.heap.size rfl 55 (pathA p ns e.key) (0, 0) (.array 12 54) HQ5.out Tryd.underlying55 rfl arr12_size ?_) | (go_at_call 39; refine hlk2.mono ?_; rintro e9 w9 ⟨nb, kv, hh, rfl, m9, k9, n9⟩))
      have HC : Hid (GotN w p ns e.key ((flat ns).length : Nat) (wts (flat ns) : Nat) nb w9 ∧ w9.heap[w.heap.size]? = some (.cells #[.slice ka e.key.length kc, .int .i64 e.seq, .bool e.gone, .int .i64 e.till, .slice va e.val.length vc] 28 (0, 0))) := ⟨got_link HH.out.1 HB5.out HNO.out m9 k9 n9, (k9.block _ HFB.out.2 HFB.out.1).trans K5.out⟩
      clear m9 k9 n9 hlk hlk2
      unfold ptr
      obtain ⟨y0, y1, y2, y3, y4⟩ := HBX.out _ HC.out.2
      obtain ⟨A, n, B, hnb, hnk, hm6, hfl, hA, hB, hkp, hfp⟩ := HC.out.1
      rw [hnb]
      have hvs : n.vs.length ≤ 100 := by
        have h1 := vs_le (ns := A ++ n :: B) (n := n) (by simp)
        rw [hfl] at h1
        have := HH.out.2.1
        omega
      have hna := nadd_m hm6 (entM_kept HH.out.2.2.1 hkp HH.out.2.2.2.1) (by omega) hv3
      unfold ptr entA at hna
      have H6 : Hid (n.key = e.key ∧ MemAt w9 p (A ++ n :: B) ((flat ns).length : Nat) (wts (flat ns) : Nat) ∧ flat (A ++ n :: B) = flat ns ∧ (∀ a ∈ A, cmp a.key e.key < 0) ∧ (∀ b ∈ B, 0 < cmp b.key e.key) ∧ Kept (FP p ns) w w9 ∧ ∀ k, FP p (A ++ n :: B) k → FP p ns k ∨ w.heap.size ≤ k) := ⟨hnk, hm6, hfl, hA, hB, hkp, hfp⟩
      have HBK := hid HC.out.2
      clear hnb hnk hm6 hfl hA hB hkp hfp HC hvs
      go_wp2_with fail
      refine hna.mono ?_
      clear hna
      rintro e9 w10 (⟨ht, rfl, b10⟩ | ⟨ht, rfl, hadd⟩)
      · have HAE : Hid (addE (flat ns) e = (6, flat ns)) := by
          obtain ⟨v, hv, hs⟩ := the_true ht
          have := flat_has (A := A) (B := B) (n := n) (v := v) (e := e) (List.mem_of_getElem? hv) H6.out.1.symm hs.symm
          rw [H6.out.2.2.1] at this
          exact addE_has HQ.out this
        have HFIN : Hid (∃ F', RM w10 p (flat ns) F' ∧ Kept (FP p ns) w w10 ∧ ∀ k, F' k → FP p ns k ∨ w.heap.size ≤ k) :=
          ⟨FP p (A ++ n :: B), ⟨A ++ n :: B, by rw [H6.out.2.2.1]; exact H6.out.2.1.later b10, H6.out.2.2.1.symm, rfl⟩, H6.out.2.2.2.2.2.1.trans (Kept.of_below b10), H6.out.2.2.2.2.2.2⟩
        clear ht b10
        go_wp2_with fail
        go_ret
        rw [HAE.out]
        exact ⟨by simp, HFIN.out⟩
      · obtain ⟨v, rv', m10, hve, k10, n10⟩ := hadd
        have hfa := add_flat (rv' := rv') H6.out.1 H6.out.2.2.2.1 H6.out.2.2.2.2.1 (H6.out.2.1.bas.ord.2 n (by simp)) ht hve
        rw [H6.out.2.2.1] at hfa
        have HAE : Hid (addE (flat ns) e = (0, putE (flat ns) e)) := addE_put HQ.out hfa.2
        obtain ⟨x14, x15, f14, f15⟩ := m10.counts
        have g10 : w10.heap[w.heap.size]? = some (.cells #[.slice ka e.key.length kc, .int .i64 e.seq, .bool e.gone, .int .i64 e.till, .slice va e.val.length vc] 28 (0, 0)) := by
          refine (k10.block _ (Array.getElem?_eq_some_iff.1 HBK.out).1 ?_).trans HBK.out
          have hnd := H6.out.2.1.bas.nd n (by simp)
          rintro (q | q)
          · obtain ⟨C, c1, _⟩ := hnd.blk
            exact ty_ne HBK.out c1 (by decide) q
          · obtain ⟨C, c1⟩ := ownsRow_ty hnd.row q
            exact ty_ne HBK.out c1 (by decide) rfl
        obtain ⟨t0, t1, t2, t3, t4⟩ := HBX.out _ g10
        have hpne : p ≠ w.heap.size := by
          obtain ⟨C, c1, _⟩ := m10.bas.head
          exact ty_ne c1 g10 (by decide)
        have hl1 : (flat ns).length ≤ 100 := HH.out.2.1
        have HFIN : Hid (∀ wf, wf.heap = ((w10.setCell ⟨p, 14, none⟩ (.int .i64 (((flat ns).length : Nat) + 1 : Int))).setCell ⟨p, 15, none⟩ (.int .i64 ((wts (flat ns) : Nat) + ((e.key.length : Nat) + (e.val.length : Nat) + 16) : Int))).heap → wf.os = w10.os → wf.tape = w10.tape → wf.output = w10.output → ∃ F', RM wf p (putE (flat ns) e) F' ∧ Kept (FP p ns) w wf ∧ ∀ k, F' k → FP p ns k ∨ w.heap.size ≤ k) := fun wf hw1 hw2 hw3 hw4 => by
          have hmc := memat_count m10 (((flat ns).length : Nat) + 1 : Int) ((wts (flat ns) : Nat) + ((e.key.length : Nat) + (e.val.length : Nat) + 16) : Int)
          have hmw := hmc.keep (w' := wf) (fun k _ => by rw [hw1]) (by rw [hw1])
          have hF10 : ∀ k, (k = n.b ∨ Ows n.rv k) → FP p ns k ∨ w.heap.size ≤ k := fun k hk => H6.out.2.2.2.2.2.2 k (.inr ⟨n, by simp, by rcases hk with q | q; exact .inl q; exact .inr (.inr (.inl q))⟩)
          refine ⟨FP p (A ++ { n with vs := n.vs.take (plc n.vs e.seq) ++ v :: n.vs.drop (plc n.vs e.seq), rv := rv' } :: B), ⟨_, ?_, hfa.1.symm, rfl⟩, ?_, fun k hk => ?_⟩
          · rw [hfa.1, putE_len, wts_flat_put]
            have e1 : (((flat ns).length + 1 : Nat) : Int) = ((flat ns).length : Nat) + 1 := by omega
            have e2 : ((wts (flat ns) + wtE e : Nat) : Int) = (wts (flat ns) : Nat) + ((e.key.length : Nat) + (e.val.length : Nat) + 16) := by unfold wtE; omega
            rw [e1, e2]
            exact hmw
          · have hk1 : Kept (FP p ns) w w10 := ⟨k10.os.trans H6.out.2.2.2.2.2.1.os, k10.tape.trans H6.out.2.2.2.2.2.1.tape, k10.output.trans H6.out.2.2.2.2.2.1.output, Nat.le_trans H6.out.2.2.2.2.2.1.size k10.size, fun k hk hn => (k10.block k (Nat.lt_of_lt_of_le hk H6.out.2.2.2.2.2.1.size) (fun q => by rcases hF10 k q with r | r; exact hn r; omega)).trans (H6.out.2.2.2.2.2.1.block k hk hn)⟩
            have hk2 := (hk1.set (b := p) (k := 14) (v := .int .i64 (((flat ns).length : Nat) + 1 : Int)) (.inl (.inl rfl))).set (b := p) (k := 15) (v := .int .i64 ((wts (flat ns) : Nat) + ((e.key.length : Nat) + (e.val.length : Nat) + 16) : Int)) (.inl (.inl rfl))
            exact ⟨hw2.trans hk1.os, hw3.trans hk1.tape, hw4.trans hk1.output, by rw [hw1]; exact hk2.size, fun k hk hn => by rw [hw1]; exact hk2.block k hk hn⟩
          · rcases fp_mid.1 hk with q | ⟨m', hm', q⟩ | q
            · exact .inl (.inl q)
            · exact H6.out.2.2.2.2.2.2 k (fp_mid.2 (.inr (.inl ⟨m', hm', q⟩)))
            · have hsz := H6.out.2.2.2.2.2.1.size
              have hN : ∀ k', k' = v.b ∨ Ows v.vv k' ∨ Ows rv' k' → FP p ns k' ∨ w.heap.size ≤ k' := fun k' hk' => by
                rcases n10 k' hk' with r | r
                · exact hF10 k' (.inr r)
                · exact .inr (by omega)
              have hO : ∀ {k'}, NF n k' → FP p ns k' ∨ w.heap.size ≤ k' := fun {k'} r => H6.out.2.2.2.2.2.2 k' (fp_mid.2 (.inr (.inr r)))
              rcases q with q | q | q | ⟨y, hy, q⟩
              · exact hO (.inl q)
              · exact hO (.inr (.inl q))
              · exact hN k (.inr (.inr q))
              · simp only at hy
                rcases List.mem_append.1 hy with r | r
                · exact hO (.inr (.inr (.inr ⟨y, List.mem_of_mem_take r, q⟩)))
                · rcases List.mem_cons.1 r with rfl | r
                  · exact hN k (by rcases q with q | q; exact .inl q; exact .inr (.inl q))
                  · exact hO (.inr (.inr (.inr ⟨y, List.mem_of_mem_drop r, q⟩)))
        generalize (flat ns).length = LN at x14 hl1 HFIN HAE ⊢
        clear m10 k10 n10 hfa ht hve
        go_upto_region 10 with fail
        go_cut [] from 44 to 58 (fun wx => Hid (wx.heap = ((w10.setCell ⟨p, 14, none⟩ (.int .i64 ((LN : Nat) + 1 : Int))).setCell ⟨p, 15, none⟩ (.int .i64 ((wts (flat ns) : Nat) + ((e.key.length : Nat) + (e.val.length : Nat) + 16) : Int))).heap ∧ wx.os = w10.os ∧ wx.tape = w10.tape ∧ wx.output = w10.output))
        case first =>
          clear HFIN HAE HBX HH H6 HBK HV HM5 HQ5 HB5 K5 HSZ HFB t1 t2 t3 y0 y1 y2 y3 y4 g10
          have HWR : Hid (IntKind.i64.wrap (((wts (flat ns) : Nat) : Int) + IntKind.i64.wrap (IntKind.i64.wrap ((e.key.length : Int) + (e.val.length : Int)) + 16)) = ((wts (flat ns) : Nat) : Int) + ((e.key.length : Int) + (e.val.length : Int) + 16)) := by
            show _ = _
            rw [IntKind.wrap_i64, IntKind.wrap_i64, IntKind.wrap_i64]
            omega
          go_region_law (fail)
          all_goals
            go_wp2_with fail
            go_meet
            exact ⟨(by first | rfl | (rw [HWR.out]; rfl)), rfl, rfl, rfl⟩
        have HCU := hcut
        go_wp2_with fail
        go_ret
        rw [HAE.out]
        exact ⟨by simp, HFIN.out _ HCU.out.1 HCU.out.2.1 HCU.out.2.2.1 HCU.out.2.2.2⟩
    | cons m r =>
      have ho : o = some ⟨m.b, 0, none⟩ := by
        have := HV.out
        rw [hb] at this
        simpa [ptrO, ptr] using this
      subst ho
      have hmm : m ∈ ns := (bck_ge m (by rw [hb]; simp)).1
      have hn := has_m (HM5.out.bas.nd m hmm) (HH.out.2.2.2.2.1.later HB5.out)
      unfold ptr at hn
      by_cases hkey : m.key = e.key
      · have HC : Hid (GotN w p ns e.key ((flat ns).length : Nat) (wts (flat ns) : Nat) m.b W5 ∧ W5.heap[w.heap.size]? = some (.cells #[.slice ka e.key.length kc, .int .i64 e.seq, .bool e.gone, .int .i64 e.till, .slice va e.val.length vc] 28 (0, 0))) := ⟨got_there HH.out.1 HB5.out hb hkey, K5.out⟩
        have hd : decide (m.key = e.key) = true := by simpa using hkey
        rw [hd] at hn
        clear hb hmm hkey hd
        go_upto_region 7 with (first | (go_at_call 31; refine hn.mono ?_; rintro e9 w9 ⟨rfl, hw⟩; obtain rfl := hw.symm; clear hn hw))
        obtain ⟨y0, y1, y2, y3, y4⟩ := HBX.out _ HC.out.2
        obtain ⟨A, n, B, hnb, hnk, hm6, hfl, hA, hB, hkp, hfp⟩ := HC.out.1
        rw [hnb]
        have hvs : n.vs.length ≤ 100 := by
          have h1 := vs_le (ns := A ++ n :: B) (n := n) (by simp)
          rw [hfl] at h1
          have := HH.out.2.1
          omega
        have hna := nadd_m hm6 (entM_kept HH.out.2.2.1 hkp HH.out.2.2.2.1) (by omega) hv3
        unfold ptr entA at hna
        have H6 : Hid (n.key = e.key ∧ MemAt W5 p (A ++ n :: B) ((flat ns).length : Nat) (wts (flat ns) : Nat) ∧ flat (A ++ n :: B) = flat ns ∧ (∀ a ∈ A, cmp a.key e.key < 0) ∧ (∀ b ∈ B, 0 < cmp b.key e.key) ∧ Kept (FP p ns) w W5 ∧ ∀ k, FP p (A ++ n :: B) k → FP p ns k ∨ w.heap.size ≤ k) := ⟨hnk, hm6, hfl, hA, hB, hkp, hfp⟩
        have HBK := hid HC.out.2
        clear hnb hnk hm6 hfl hA hB hkp hfp HC hvs
        go_wp2_with fail
        refine hna.mono ?_
        clear hna
        rintro e9 w10 (⟨ht, rfl, b10⟩ | ⟨ht, rfl, hadd⟩)
        · have HAE : Hid (addE (flat ns) e = (6, flat ns)) := by
            obtain ⟨v, hv, hs⟩ := the_true ht
            have := flat_has (A := A) (B := B) (n := n) (v := v) (e := e) (List.mem_of_getElem? hv) H6.out.1.symm hs.symm
            rw [H6.out.2.2.1] at this
            exact addE_has HQ.out this
          have HFIN : Hid (∃ F', RM w10 p (flat ns) F' ∧ Kept (FP p ns) w w10 ∧ ∀ k, F' k → FP p ns k ∨ w.heap.size ≤ k) :=
            ⟨FP p (A ++ n :: B), ⟨A ++ n :: B, by rw [H6.out.2.2.1]; exact H6.out.2.1.later b10, H6.out.2.2.1.symm, rfl⟩, H6.out.2.2.2.2.2.1.trans (Kept.of_below b10), H6.out.2.2.2.2.2.2⟩
          clear ht b10
          go_wp2_with fail
          go_ret
          rw [HAE.out]
          exact ⟨by simp, HFIN.out⟩
        · obtain ⟨v, rv', m10, hve, k10, n10⟩ := hadd
          have hfa := add_flat (rv' := rv') H6.out.1 H6.out.2.2.2.1 H6.out.2.2.2.2.1 (H6.out.2.1.bas.ord.2 n (by simp)) ht hve
          rw [H6.out.2.2.1] at hfa
          have HAE : Hid (addE (flat ns) e = (0, putE (flat ns) e)) := addE_put HQ.out hfa.2
          obtain ⟨x14, x15, f14, f15⟩ := m10.counts
          have g10 : w10.heap[w.heap.size]? = some (.cells #[.slice ka e.key.length kc, .int .i64 e.seq, .bool e.gone, .int .i64 e.till, .slice va e.val.length vc] 28 (0, 0)) := by
            refine (k10.block _ (Array.getElem?_eq_some_iff.1 HBK.out).1 ?_).trans HBK.out
            have hnd := H6.out.2.1.bas.nd n (by simp)
            rintro (q | q)
            · obtain ⟨C, c1, _⟩ := hnd.blk
              exact ty_ne HBK.out c1 (by decide) q
            · obtain ⟨C, c1⟩ := ownsRow_ty hnd.row q
              exact ty_ne HBK.out c1 (by decide) rfl
          obtain ⟨t0, t1, t2, t3, t4⟩ := HBX.out _ g10
          have hpne : p ≠ w.heap.size := by
            obtain ⟨C, c1, _⟩ := m10.bas.head
            exact ty_ne c1 g10 (by decide)
          have hl1 : (flat ns).length ≤ 100 := HH.out.2.1
          have HFIN : Hid (∀ wf, wf.heap = ((w10.setCell ⟨p, 14, none⟩ (.int .i64 (((flat ns).length : Nat) + 1 : Int))).setCell ⟨p, 15, none⟩ (.int .i64 ((wts (flat ns) : Nat) + ((e.key.length : Nat) + (e.val.length : Nat) + 16) : Int))).heap → wf.os = w10.os → wf.tape = w10.tape → wf.output = w10.output → ∃ F', RM wf p (putE (flat ns) e) F' ∧ Kept (FP p ns) w wf ∧ ∀ k, F' k → FP p ns k ∨ w.heap.size ≤ k) := fun wf hw1 hw2 hw3 hw4 => by
            have hmc := memat_count m10 (((flat ns).length : Nat) + 1 : Int) ((wts (flat ns) : Nat) + ((e.key.length : Nat) + (e.val.length : Nat) + 16) : Int)
            have hmw := hmc.keep (w' := wf) (fun k _ => by rw [hw1]) (by rw [hw1])
            have hF10 : ∀ k, (k = n.b ∨ Ows n.rv k) → FP p ns k ∨ w.heap.size ≤ k := fun k hk => H6.out.2.2.2.2.2.2 k (.inr ⟨n, by simp, by rcases hk with q | q; exact .inl q; exact .inr (.inr (.inl q))⟩)
            refine ⟨FP p (A ++ { n with vs := n.vs.take (plc n.vs e.seq) ++ v :: n.vs.drop (plc n.vs e.seq), rv := rv' } :: B), ⟨_, ?_, hfa.1.symm, rfl⟩, ?_, fun k hk => ?_⟩
            · rw [hfa.1, putE_len, wts_flat_put]
              have e1 : (((flat ns).length + 1 : Nat) : Int) = ((flat ns).length : Nat) + 1 := by omega
              have e2 : ((wts (flat ns) + wtE e : Nat) : Int) = (wts (flat ns) : Nat) + ((e.key.length : Nat) + (e.val.length : Nat) + 16) := by unfold wtE; omega
              rw [e1, e2]
              exact hmw
            · have hk1 : Kept (FP p ns) w w10 := ⟨k10.os.trans H6.out.2.2.2.2.2.1.os, k10.tape.trans H6.out.2.2.2.2.2.1.tape, k10.output.trans H6.out.2.2.2.2.2.1.output, Nat.le_trans H6.out.2.2.2.2.2.1.size k10.size, fun k hk hn => (k10.block k (Nat.lt_of_lt_of_le hk H6.out.2.2.2.2.2.1.size) (fun q => by rcases hF10 k q with r | r; exact hn r; omega)).trans (H6.out.2.2.2.2.2.1.block k hk hn)⟩
              have hk2 := (hk1.set (b := p) (k := 14) (v := .int .i64 (((flat ns).length : Nat) + 1 : Int)) (.inl (.inl rfl))).set (b := p) (k := 15) (v := .int .i64 ((wts (flat ns) : Nat) + ((e.key.length : Nat) + (e.val.length : Nat) + 16) : Int)) (.inl (.inl rfl))
              exact ⟨hw2.trans hk1.os, hw3.trans hk1.tape, hw4.trans hk1.output, by rw [hw1]; exact hk2.size, fun k hk hn => by rw [hw1]; exact hk2.block k hk hn⟩
            · rcases fp_mid.1 hk with q | ⟨m', hm', q⟩ | q
              · exact .inl (.inl q)
              · exact H6.out.2.2.2.2.2.2 k (fp_mid.2 (.inr (.inl ⟨m', hm', q⟩)))
              · have hsz := H6.out.2.2.2.2.2.1.size
                have hN : ∀ k', k' = v.b ∨ Ows v.vv k' ∨ Ows rv' k' → FP p ns k' ∨ w.heap.size ≤ k' := fun k' hk' => by
                  rcases n10 k' hk' with r | r
                  · exact hF10 k' (.inr r)
                  · exact .inr (by omega)
                have hO : ∀ {k'}, NF n k' → FP p ns k' ∨ w.heap.size ≤ k' := fun {k'} r => H6.out.2.2.2.2.2.2 k' (fp_mid.2 (.inr (.inr r)))
                rcases q with q | q | q | ⟨y, hy, q⟩
                · exact hO (.inl q)
                · exact hO (.inr (.inl q))
                · exact hN k (.inr (.inr q))
                · simp only at hy
                  rcases List.mem_append.1 hy with r | r
                  · exact hO (.inr (.inr (.inr ⟨y, List.mem_of_mem_take r, q⟩)))
                  · rcases List.mem_cons.1 r with rfl | r
                    · exact hN k (by rcases q with q | q; exact .inl q; exact .inr (.inl q))
                    · exact hO (.inr (.inr (.inr ⟨y, List.mem_of_mem_drop r, q⟩)))
          generalize (flat ns).length = LN at x14 hl1 HFIN HAE ⊢
          clear m10 k10 n10 hfa ht hve
          go_upto_region 10 with fail
          go_cut [] from 44 to 58 (fun wx => Hid (wx.heap = ((w10.setCell ⟨p, 14, none⟩ (.int .i64 ((LN : Nat) + 1 : Int))).setCell ⟨p, 15, none⟩ (.int .i64 ((wts (flat ns) : Nat) + ((e.key.length : Nat) + (e.val.length : Nat) + 16) : Int))).heap ∧ wx.os = w10.os ∧ wx.tape = w10.tape ∧ wx.output = w10.output))
          case first =>
            clear HFIN HAE HBX HH H6 HBK HV HM5 HQ5 HB5 K5 HSZ HFB t1 t2 t3 y0 y1 y2 y3 y4 g10
            have HWR : Hid (IntKind.i64.wrap (((wts (flat ns) : Nat) : Int) + IntKind.i64.wrap (IntKind.i64.wrap ((e.key.length : Int) + (e.val.length : Int)) + 16)) = ((wts (flat ns) : Nat) : Int) + ((e.key.length : Int) + (e.val.length : Int) + 16)) := by
              show _ = _
              rw [IntKind.wrap_i64, IntKind.wrap_i64, IntKind.wrap_i64]
              omega
            go_region_law (fail)
            all_goals
              go_wp2_with fail
              go_meet
              exact ⟨(by first | rfl | (rw [HWR.out]; rfl)), rfl, rfl, rfl⟩
          have HCU := hcut
          go_wp2_with fail
          go_ret
          rw [HAE.out]
          exact ⟨by simp, HFIN.out _ HCU.out.1 HCU.out.2.1 HCU.out.2.2.1 HCU.out.2.2.2⟩
      · have hd : decide (m.key = e.key) = false := by simpa using hkey
        rw [hd] at hn
        have hno := key_none HH.out.1 (key := e.key) (fun m' r' h => by rw [hb] at h; cases h; exact hkey)
        have hlk := link_m HM5.out (HH.out.2.2.2.2.1.later HB5.out) HH.out.2.2.2.2.2.2.2.1 hno
        have HNO := hid hno
        clear hb hmm hkey hd hno
        have hlk2 := hlk
        go_upto_region 7 with (first | (go_at_call 31; refine hn.mono ?_; rintro e9 w9 ⟨rfl, hw⟩; obtain rfl := hw.symm; clear hn hw) | (refine wpList_load_row rfl 55 (.tmp 5) rfl w3.heap.size rfl 55 (pathA p ns e.key) (0, 0) (.array 12 54) HQ5.out Tryd.underlying55 rfl arr12_size ?_) | (go_at_call 39; refine hlk2.mono ?_; rintro e9 w9 ⟨nb, kv, hh, rfl, m9, k9, n9⟩))
        have HC : Hid (GotN w p ns e.key ((flat ns).length : Nat) (wts (flat ns) : Nat) nb w9 ∧ w9.heap[w.heap.size]? = some (.cells #[.slice ka e.key.length kc, .int .i64 e.seq, .bool e.gone, .int .i64 e.till, .slice va e.val.length vc] 28 (0, 0))) := ⟨got_link HH.out.1 HB5.out HNO.out m9 k9 n9, (k9.block _ HFB.out.2 HFB.out.1).trans K5.out⟩
        clear m9 k9 n9 hlk hlk2
        unfold ptr
        obtain ⟨y0, y1, y2, y3, y4⟩ := HBX.out _ HC.out.2
        obtain ⟨A, n, B, hnb, hnk, hm6, hfl, hA, hB, hkp, hfp⟩ := HC.out.1
        rw [hnb]
        have hvs : n.vs.length ≤ 100 := by
          have h1 := vs_le (ns := A ++ n :: B) (n := n) (by simp)
          rw [hfl] at h1
          have := HH.out.2.1
          omega
        have hna := nadd_m hm6 (entM_kept HH.out.2.2.1 hkp HH.out.2.2.2.1) (by omega) hv3
        unfold ptr entA at hna
        have H6 : Hid (n.key = e.key ∧ MemAt w9 p (A ++ n :: B) ((flat ns).length : Nat) (wts (flat ns) : Nat) ∧ flat (A ++ n :: B) = flat ns ∧ (∀ a ∈ A, cmp a.key e.key < 0) ∧ (∀ b ∈ B, 0 < cmp b.key e.key) ∧ Kept (FP p ns) w w9 ∧ ∀ k, FP p (A ++ n :: B) k → FP p ns k ∨ w.heap.size ≤ k) := ⟨hnk, hm6, hfl, hA, hB, hkp, hfp⟩
        have HBK := hid HC.out.2
        clear hnb hnk hm6 hfl hA hB hkp hfp HC hvs
        go_wp2_with fail
        refine hna.mono ?_
        clear hna
        rintro e9 w10 (⟨ht, rfl, b10⟩ | ⟨ht, rfl, hadd⟩)
        · have HAE : Hid (addE (flat ns) e = (6, flat ns)) := by
            obtain ⟨v, hv, hs⟩ := the_true ht
            have := flat_has (A := A) (B := B) (n := n) (v := v) (e := e) (List.mem_of_getElem? hv) H6.out.1.symm hs.symm
            rw [H6.out.2.2.1] at this
            exact addE_has HQ.out this
          have HFIN : Hid (∃ F', RM w10 p (flat ns) F' ∧ Kept (FP p ns) w w10 ∧ ∀ k, F' k → FP p ns k ∨ w.heap.size ≤ k) :=
            ⟨FP p (A ++ n :: B), ⟨A ++ n :: B, by rw [H6.out.2.2.1]; exact H6.out.2.1.later b10, H6.out.2.2.1.symm, rfl⟩, H6.out.2.2.2.2.2.1.trans (Kept.of_below b10), H6.out.2.2.2.2.2.2⟩
          clear ht b10
          go_wp2_with fail
          go_ret
          rw [HAE.out]
          exact ⟨by simp, HFIN.out⟩
        · obtain ⟨v, rv', m10, hve, k10, n10⟩ := hadd
          have hfa := add_flat (rv' := rv') H6.out.1 H6.out.2.2.2.1 H6.out.2.2.2.2.1 (H6.out.2.1.bas.ord.2 n (by simp)) ht hve
          rw [H6.out.2.2.1] at hfa
          have HAE : Hid (addE (flat ns) e = (0, putE (flat ns) e)) := addE_put HQ.out hfa.2
          obtain ⟨x14, x15, f14, f15⟩ := m10.counts
          have g10 : w10.heap[w.heap.size]? = some (.cells #[.slice ka e.key.length kc, .int .i64 e.seq, .bool e.gone, .int .i64 e.till, .slice va e.val.length vc] 28 (0, 0)) := by
            refine (k10.block _ (Array.getElem?_eq_some_iff.1 HBK.out).1 ?_).trans HBK.out
            have hnd := H6.out.2.1.bas.nd n (by simp)
            rintro (q | q)
            · obtain ⟨C, c1, _⟩ := hnd.blk
              exact ty_ne HBK.out c1 (by decide) q
            · obtain ⟨C, c1⟩ := ownsRow_ty hnd.row q
              exact ty_ne HBK.out c1 (by decide) rfl
          obtain ⟨t0, t1, t2, t3, t4⟩ := HBX.out _ g10
          have hpne : p ≠ w.heap.size := by
            obtain ⟨C, c1, _⟩ := m10.bas.head
            exact ty_ne c1 g10 (by decide)
          have hl1 : (flat ns).length ≤ 100 := HH.out.2.1
          have HFIN : Hid (∀ wf, wf.heap = ((w10.setCell ⟨p, 14, none⟩ (.int .i64 (((flat ns).length : Nat) + 1 : Int))).setCell ⟨p, 15, none⟩ (.int .i64 ((wts (flat ns) : Nat) + ((e.key.length : Nat) + (e.val.length : Nat) + 16) : Int))).heap → wf.os = w10.os → wf.tape = w10.tape → wf.output = w10.output → ∃ F', RM wf p (putE (flat ns) e) F' ∧ Kept (FP p ns) w wf ∧ ∀ k, F' k → FP p ns k ∨ w.heap.size ≤ k) := fun wf hw1 hw2 hw3 hw4 => by
            have hmc := memat_count m10 (((flat ns).length : Nat) + 1 : Int) ((wts (flat ns) : Nat) + ((e.key.length : Nat) + (e.val.length : Nat) + 16) : Int)
            have hmw := hmc.keep (w' := wf) (fun k _ => by rw [hw1]) (by rw [hw1])
            have hF10 : ∀ k, (k = n.b ∨ Ows n.rv k) → FP p ns k ∨ w.heap.size ≤ k := fun k hk => H6.out.2.2.2.2.2.2 k (.inr ⟨n, by simp, by rcases hk with q | q; exact .inl q; exact .inr (.inr (.inl q))⟩)
            refine ⟨FP p (A ++ { n with vs := n.vs.take (plc n.vs e.seq) ++ v :: n.vs.drop (plc n.vs e.seq), rv := rv' } :: B), ⟨_, ?_, hfa.1.symm, rfl⟩, ?_, fun k hk => ?_⟩
            · rw [hfa.1, putE_len, wts_flat_put]
              have e1 : (((flat ns).length + 1 : Nat) : Int) = ((flat ns).length : Nat) + 1 := by omega
              have e2 : ((wts (flat ns) + wtE e : Nat) : Int) = (wts (flat ns) : Nat) + ((e.key.length : Nat) + (e.val.length : Nat) + 16) := by unfold wtE; omega
              rw [e1, e2]
              exact hmw
            · have hk1 : Kept (FP p ns) w w10 := ⟨k10.os.trans H6.out.2.2.2.2.2.1.os, k10.tape.trans H6.out.2.2.2.2.2.1.tape, k10.output.trans H6.out.2.2.2.2.2.1.output, Nat.le_trans H6.out.2.2.2.2.2.1.size k10.size, fun k hk hn => (k10.block k (Nat.lt_of_lt_of_le hk H6.out.2.2.2.2.2.1.size) (fun q => by rcases hF10 k q with r | r; exact hn r; omega)).trans (H6.out.2.2.2.2.2.1.block k hk hn)⟩
              have hk2 := (hk1.set (b := p) (k := 14) (v := .int .i64 (((flat ns).length : Nat) + 1 : Int)) (.inl (.inl rfl))).set (b := p) (k := 15) (v := .int .i64 ((wts (flat ns) : Nat) + ((e.key.length : Nat) + (e.val.length : Nat) + 16) : Int)) (.inl (.inl rfl))
              exact ⟨hw2.trans hk1.os, hw3.trans hk1.tape, hw4.trans hk1.output, by rw [hw1]; exact hk2.size, fun k hk hn => by rw [hw1]; exact hk2.block k hk hn⟩
            · rcases fp_mid.1 hk with q | ⟨m', hm', q⟩ | q
              · exact .inl (.inl q)
              · exact H6.out.2.2.2.2.2.2 k (fp_mid.2 (.inr (.inl ⟨m', hm', q⟩)))
              · have hsz := H6.out.2.2.2.2.2.1.size
                have hN : ∀ k', k' = v.b ∨ Ows v.vv k' ∨ Ows rv' k' → FP p ns k' ∨ w.heap.size ≤ k' := fun k' hk' => by
                  rcases n10 k' hk' with r | r
                  · exact hF10 k' (.inr r)
                  · exact .inr (by omega)
                have hO : ∀ {k'}, NF n k' → FP p ns k' ∨ w.heap.size ≤ k' := fun {k'} r => H6.out.2.2.2.2.2.2 k' (fp_mid.2 (.inr (.inr r)))
                rcases q with q | q | q | ⟨y, hy, q⟩
                · exact hO (.inl q)
                · exact hO (.inr (.inl q))
                · exact hN k (.inr (.inr q))
                · simp only at hy
                  rcases List.mem_append.1 hy with r | r
                  · exact hO (.inr (.inr (.inr ⟨y, List.mem_of_mem_take r, q⟩)))
                  · rcases List.mem_cons.1 r with rfl | r
                    · exact hN k (by rcases q with q | q; exact .inl q; exact .inr (.inl q))
                    · exact hO (.inr (.inr (.inr ⟨y, List.mem_of_mem_drop r, q⟩)))
          generalize (flat ns).length = LN at x14 hl1 HFIN HAE ⊢
          clear m10 k10 n10 hfa ht hve
          go_upto_region 10 with fail
          go_cut [] from 44 to 58 (fun wx => Hid (wx.heap = ((w10.setCell ⟨p, 14, none⟩ (.int .i64 ((LN : Nat) + 1 : Int))).setCell ⟨p, 15, none⟩ (.int .i64 ((wts (flat ns) : Nat) + ((e.key.length : Nat) + (e.val.length : Nat) + 16) : Int))).heap ∧ wx.os = w10.os ∧ wx.tape = w10.tape ∧ wx.output = w10.output))
          case first =>
            clear HFIN HAE HBX HH H6 HBK HV HM5 HQ5 HB5 K5 HSZ HFB t1 t2 t3 y0 y1 y2 y3 y4 g10
            have HWR : Hid (IntKind.i64.wrap (((wts (flat ns) : Nat) : Int) + IntKind.i64.wrap (IntKind.i64.wrap ((e.key.length : Int) + (e.val.length : Int)) + 16)) = ((wts (flat ns) : Nat) : Int) + ((e.key.length : Int) + (e.val.length : Int) + 16)) := by
              show _ = _
              rw [IntKind.wrap_i64, IntKind.wrap_i64, IntKind.wrap_i64]
              omega
            go_region_law (fail)
            all_goals
              go_wp2_with fail
              go_meet
              exact ⟨(by first | rfl | (rw [HWR.out]; rfl)), rfl, rfl, rfl⟩
          have HCU := hcut
          go_wp2_with fail
          go_ret
          rw [HAE.out]
          exact ⟨by simp, HFIN.out _ HCU.out.1 HCU.out.2.1 HCU.out.2.2.1 HCU.out.2.2.2⟩
  · have hq' : mayE e = false := by simpa using hq
    rw [hq'] at hmay
    have HAE : Hid (addE (flat ns) e = (1, flat ns)) := addE_bad hq'
    have HFIN : Hid (∀ w2, Below W1.heap.size W1 w2 → ∃ F', RM w2 p (flat ns) F' ∧ Kept (FP p ns) w w2 ∧ ∀ k, F' k → FP p ns k ∨ w.heap.size ≤ k) := fun w2 b2 => by
      have B2 : Below w.heap.size w w2 := HH.out.2.2.2.2.2.1.trans (b2.mono HH.out.2.2.2.2.2.1.size)
      exact ⟨FP p ns, ⟨ns, HH.out.1.later B2, rfl, rfl⟩, Kept.of_below B2, fun k hk => .inl hk⟩
    clear hq hq'
    unfold entA at hmay ⊢
    go_enter Tryd.func23, Tryd.ntmps23
    go_upto_region 1 with fail
    rw [← HW1.out]
    obtain ⟨y0, y1, y2, y3, y4⟩ := HBX.out W1 HH.out.2.2.2.2.2.2.1
    go_wp2_with (first | (go_at_call 29; refine hmay.mono ?_; rintro e9 w2 ⟨rfl, b2⟩))
    go_ret
    rw [HAE.out]
    exact ⟨by simp, HFIN.out _ b2⟩
end Go.Proofs.YtaefddnmldbgiaaDoor

/- The landed mem's Get, Len, Weight, New. -/
namespace Go.Proofs.YtaefddnmldbgiaaDoor
open Go.RowKit
set_option linter.unusedVariables false
set_option linter.unusedSimpArgs false

theorem find_none_key {l : List EntV} {key : List Int} {s : Int} (h : ∀ e ∈ l, cmp e.key key ≠ 0) : (l.find? fun e => decide (cmp e.key key = 0 ∧ e.seq ≤ s)) = none := by
  rw [List.find?_eq_none]
  intro x hx
  have := h x hx
  simp [this]
/-- What Get tells of a key that is there. -/
theorem get_flat {A B : List Nd} {n : Nd} {key : List Int} {s : Int} (hk : n.key = key) (hA : ∀ a ∈ A, cmp a.key key < 0) (hB : ∀ b ∈ B, 0 < cmp b.key key) (ho : n.vs.Pairwise fun a b => a.seq < b.seq) : getE (flat (A ++ n :: B)) key s = (atO n.vs s).map (Vr.ent n.key) := by
  unfold getE
  rw [flat_app, flat_cons, List.find?_append, List.find?_append]
  rw [find_none_key (l := flat A) (fun e he => by
    obtain ⟨a, ha, _, e1⟩ := flat_key he
    have := hA a ha
    rw [e1]; omega), find_none_key (l := flat B) (fun e he => by
    obtain ⟨a, ha, _, e1⟩ := flat_key he
    have := hB a ha
    rw [e1]; omega)]
  rw [Option.none_or, Option.or_none]
  have e2 : (n.ents.find? fun e => decide (cmp e.key key = 0 ∧ e.seq ≤ s)) = n.ents.find? fun e => decide (e.seq ≤ s) := by
    have : ∀ l : List EntV, (∀ e ∈ l, cmp e.key key = 0) → (l.find? fun e => decide (cmp e.key key = 0 ∧ e.seq ≤ s)) = l.find? fun e => decide (e.seq ≤ s) := fun l => by
      induction l with
      | nil => intro _; rfl
      | cons x r ih =>
        intro h
        have hx := h x (by simp)
        rw [List.find?_cons, List.find?_cons, ih fun e he => h e (by simp [he])]
        simp [hx]
    exact this _ fun e he => by rw [(ents_key he).1, hk]; exact cmp_refl _
  rw [e2]
  exact find_at ho s n.key
theorem get_none {ns : List Nd} {key : List Int} {s : Int} (h : ∀ n ∈ ns, n.key ≠ key) : getE (flat ns) key s = none := find_none_key fun e he => by
  obtain ⟨a, ha, _, e1⟩ := flat_key he
  rw [e1]
  exact fun q => h a ha (cmp_zero.1 q)
theorem ok_key {ns : List Nd} (hok : okE (flat ns)) {n : Nd} (hn : n ∈ ns) {v : Vr} (hv : v ∈ n.vs) : n.key.length ≤ 512 ∧ v.val.length ≤ 2048 := by
  have hm : v.ent n.key ∈ flat ns := by
    obtain ⟨A, B, rfl⟩ := List.append_of_mem hn
    rw [flat_app, flat_cons]
    refine List.mem_append.2 (.inr (List.mem_append.2 (.inl ?_)))
    unfold Nd.ents
    rw [List.mem_reverse]
    exact List.mem_map.2 ⟨v, hv, rfl⟩
  have := hok _ hm
  unfold mayE at this
  simp only [decide_eq_true_eq] at this
  exact ⟨this.2.1, this.2.2.2.2.2.2.1⟩
theorem new_m {w : World} (hT : Tab w) : Calls Tryd.prog 24 #[] w fun e w' => ∃ p F, e = .returned (pm p) ∧ RM w' p [] F ∧ (∀ k, F k → w.heap.size ≤ k) ∧ Below w.heap.size w w' := by
  have HT := hid hT
  clear hT
  go_enter Tryd.func24, Tryd.ntmps24
  go_wp2_with fail
  have hb : Below w.heap.size w (w.alloc (.cells #[.slice none 0 0, .slice none 0 0, .pointer none, .pointer none, .pointer none, .pointer none, .pointer none, .pointer none, .pointer none, .pointer none, .pointer none, .pointer none, .pointer none, .pointer none, .int .i64 0, .int .i64 0] 59)) := (Below.refl _ w).alloc (Nat.le_refl _) _
  have hg := heap_alloc_new w (.cells #[.slice none 0 0, .slice none 0 0, .pointer none, .pointer none, .pointer none, .pointer none, .pointer none, .pointer none, .pointer none, .pointer none, .pointer none, .pointer none, .pointer none, .pointer none, .int .i64 0, .int .i64 0] 59)
  refine bodyPost_ret (v := pm w.heap.size) (by simp [results, Tryd.results24, go_sem, pm]) rfl ⟨w.heap.size, FP w.heap.size [], rfl, ⟨[], ⟨⟨HT.out.later hb, ⟨_, hg, rfl, rfl, rfl⟩, (fun n hn => by cases hn), ⟨List.Pairwise.nil, fun n hn => by cases hn⟩, List.nodup_nil, List.Pairwise.nil⟩, fun i hi => ?_⟩, rfl, rfl⟩, fun k hk => ?_, hb⟩
  · show World.cell? _ ⟨w.heap.size, 2 + i, none⟩ = _
    rw [cell_of hg]
    match i, hi with
    | 0, _ => rfl
    | 1, _ => rfl
    | 2, _ => rfl
    | 3, _ => rfl
    | 4, _ => rfl
    | 5, _ => rfl
    | 6, _ => rfl
    | 7, _ => rfl
    | 8, _ => rfl
    | 9, _ => rfl
    | 10, _ => rfl
    | 11, _ => rfl
  · rcases hk with rfl | ⟨n, hn, _⟩
    · exact Nat.le_refl _
    · cases hn
theorem len_m {w : World} {p : Nat} {l : List EntV} {F : Nat → Prop} (h : RM w p l F) : Calls Tryd.prog 11 #[pm p] w fun r w' => r = .returned (.int .i64 (l.length : Nat)) ∧ Below w.heap.size w w' := by
  obtain ⟨ns, hm, rfl, rfl⟩ := h
  have hc : w.cell? ⟨p, 14, none⟩ = some (.int .i64 ((flat ns).length : Nat)) := by
    obtain ⟨C, c1, c2, c3, c4⟩ := hm.bas.head
    rw [cell_of c1]; exact c3
  clear hm
  unfold pm
  generalize (flat ns).length = N at hc ⊢
  go_enter Tryd.func11, Tryd.ntmps11
  go_wp2_with fail
  go_ret
  exact ⟨by simp, Below.refl _ _⟩
theorem weight_m {w : World} {p : Nat} {l : List EntV} {F : Nat → Prop} (h : RM w p l F) : Calls Tryd.prog 12 #[pm p] w fun r w' => r = .returned (.int .i64 (wts l : Nat)) ∧ Below w.heap.size w w' := by
  obtain ⟨ns, hm, rfl, rfl⟩ := h
  have hc : w.cell? ⟨p, 15, none⟩ = some (.int .i64 (wts (flat ns) : Nat)) := by
    obtain ⟨C, c1, c2, c3, c4⟩ := hm.bas.head
    rw [cell_of c1]; exact c4
  clear hm
  unfold pm
  generalize wts (flat ns) = N at hc ⊢
  go_enter Tryd.func12, Tryd.ntmps12
  go_wp2_with fail
  go_ret
  exact ⟨by simp, Below.refl _ _⟩

set_option maxHeartbeats 4000000 in
set_option maxRecDepth 100000 in
theorem get_m {w : World} {p : Nat} {l : List EntV} {F : Nat → Prop} {ka : Option Addr} {kl kc : Nat} {key : List Int} {s : Int} (h : RM w p l F) (hok : okE l) (hl : l.length ≤ 100) (hk : Sl w ka kl kc key) (hs : In64 s) : Calls Tryd.prog 16 #[pm p, .slice ka kl kc, .int .i64 s] w fun r w' => GotE w.heap.size (getE l key s) r w' ∧ Below w.heap.size w w' := by
  obtain ⟨ns, hm, rfl, rfl⟩ := h
  obtain ⟨W, hW⟩ : ∃ W, W = w.alloc (.cells #[.slice none 0 0, .int .i64 0, .bool false, .int .i64 0, .slice none 0 0] 28) := ⟨_, rfl⟩
  have hWb : Below w.heap.size w W := by rw [hW]; exact (Below.refl _ w).alloc (Nat.le_refl _) _
  have hWs : W.heap.size = w.heap.size + 1 := by rw [hW]; simp
  have hWk : W.heap[w.heap.size]? = some (.cells #[.slice none 0 0, .int .i64 0, .bool false, .int .i64 0, .slice none 0 0] 28 (0, 0)) := by rw [hW]; exact heap_alloc_new w _
  have HQ : Hid (∀ wx, Below W.heap.size W wx → wx.heap[w.heap.size]? = some (.cells #[.slice none 0 0, .int .i64 0, .bool false, .int .i64 0, .slice none 0 0] 28 (0, 0))) := fun wx hb => (hb.block _ (by omega)).trans hWk
  have hsk := seek_m (hm.later hWb) (hk.later hWb)
  have HH : Hid (MemAt w p ns ((flat ns).length : Nat) (wts (flat ns) : Nat) ∧ okE (flat ns) ∧ (flat ns).length ≤ 100 ∧ Sl w ka kl kc key ∧ Below w.heap.size w W ∧ W.heap.size = w.heap.size + 1) := ⟨hm, hok, hl, hk, hWb, hWs⟩
  have HW := hid hW
  have HZ : Hid (∀ wx, Below W.heap.size W wx → getE (flat ns) key s = none → ∀ wf, wf = ((((wx.setCell ⟨w.heap.size, 0, none⟩ (.slice none 0 0)).setCell ⟨w.heap.size, 1, none⟩ (.int .i64 0)).setCell ⟨w.heap.size, 2, none⟩ (.bool false)).setCell ⟨w.heap.size, 3, none⟩ (.int .i64 0)).setCell ⟨w.heap.size, 4, none⟩ (.slice none 0 0) → GotE w.heap.size (getE (flat ns) key s) (.returned (.tuple #[ent0, .bool false])) wf ∧ Below w.heap.size w wf) := fun wx hb hg wf hwf => by
    rw [hwf]
    exact ⟨.inl ⟨hg, rfl⟩, below_set5 (HH.out.2.2.2.2.1.trans (hb.mono HH.out.2.2.2.2.1.size)) _ _ _ _ _⟩
  clear hm hok hl hk hWb hWs hWk hW
  unfold pm at hsk ⊢
  unfold ent0 at HZ
  go_enter Tryd.func16, Tryd.ntmps16
  go_upto_region 1 with fail
  rw [← HW.out]
  cases hb : bck ns key with
  | nil =>
    rw [hb] at hsk
    simp only [List.head?_nil, Option.map_none, ptrO] at hsk
    have hno := key_none HH.out.1 (key := key) (fun m r h => by rw [hb] at h; cases h)
    have HG := hid (get_none (s := s) hno)
    clear hno hb
    go_wp2_with (first | (go_at_call 30; refine hsk.mono ?_; rintro e9 w2 ⟨rfl, b2⟩; have hn := @has_nil w2 ka kl kc) | (go_at_call 31; refine hn.mono ?_; rintro e9 w9 ⟨rfl, hw⟩; obtain rfl := hw.symm; clear hn hw; obtain ⟨z0, z1, z2, z3, z4, f0, f1, f2, f3, f4⟩ := ent0_cells (HQ.out _ b2)))
    obtain ⟨o0, o1, o2, o3, o4⟩ := cells_set5 (HQ.out _ b2) (.slice none 0 0) (.int .i64 0) (.bool false) (.int .i64 0) (.slice none 0 0)
    exact bodyPost_ret (v := .tuple #[.agg #[.slice none 0 0, .int .i64 0, .bool false, .int .i64 0, .slice none 0 0], .bool false]) (by simp [results, Tryd.results16, go_sem, o0, o1, o2, o3, o4]) rfl (HZ.out _ b2 HG.out _ rfl)
  | cons m r =>
    rw [hb] at hsk
    simp only [List.head?_cons, Option.map_some, ptrO] at hsk
    unfold ptr at hsk
    have hmm : m ∈ ns := (bck_ge m (by rw [hb]; simp)).1
    by_cases hkey : m.key = key
    · have hgf : getE (flat ns) key s = (atO m.vs s).map (Vr.ent m.key) := by
        obtain ⟨A, n, B, e1, e2, e3, e4, e5, e6, _⟩ := got_there HH.out.1 (Below.refl _ w) hb hkey
        have e := frt_bck HH.out.1.bas.ord.1 key
        rw [hb] at e
        conv => lhs; rw [e]
        refine get_flat hkey (fun a ha => (frt_lt a ha).2) (fun b hb' => ?_) (HH.out.1.bas.ord.2 m hmm)
        have ho := HH.out.1.bas.ord.1
        rw [e] at ho
        have h1 := (List.pairwise_cons.1 (List.pairwise_append.1 ho).2.1).1 b hb'
        have h2 := cmp_neg m.key b.key
        rw [hkey] at h1 h2
        omega
      have hvl : m.vs.length ≤ 100000 := by have := vs_le hmm; have := HH.out.2.2.1; omega
      have HN : Hid (∀ wx, Below W.heap.size W wx → NdAt wx m ∧ Sl wx ka kl kc key) := fun wx hb => by
        have hc := HH.out.2.2.2.2.1.trans (hb.mono HH.out.2.2.2.2.1.size)
        exact ⟨(HH.out.1.later hc).bas.nd m hmm, HH.out.2.2.2.1.later hc⟩
      have HO := hid (HH.out.1.bas.ord.2 m hmm)
      have HVL := hid hvl
      have HHAS : Hid (∀ wx, Below W.heap.size W wx → Calls Tryd.prog 31 #[.pointer (some ⟨m.b, 0, none⟩), .slice ka kl kc] wx fun e w' => e = .returned (.bool true) ∧ w' = wx) := fun wx hb => by
        have := has_m (HN.out _ hb).1 (HN.out _ hb).2
        rw [show decide (m.key = key) = true by simpa using hkey] at this
        exact this
      cases hat : atO m.vs s with
      | none =>
        rw [hat] at hgf
        have HG := hid hgf
        have HAT : Hid (∀ wx, Below W.heap.size W wx → Calls Tryd.prog 32 #[.pointer (some ⟨m.b, 0, none⟩), .int .i64 s] wx fun e w' => e = .returned (.pointer none) ∧ w' = wx) := fun wx hb => by
          have := at_m (HN.out _ hb).1 HVL.out HO.out (s := s)
          rw [hat] at this
          exact this
        clear hb hkey hgf hvl hat
        go_wp2_with (first | (go_at_call 30; refine hsk.mono ?_; rintro e9 w2 ⟨rfl, b2⟩) | (go_at_call 31; refine (HHAS.out _ b2).mono ?_; rintro e9 w9 ⟨rfl, hw⟩; obtain rfl := hw.symm; clear hw) | (go_at_call 32; refine (HAT.out _ b2).mono ?_; rintro e9 w9 ⟨rfl, hw⟩; obtain rfl := hw.symm; clear hw; obtain ⟨z0, z1, z2, z3, z4, f0, f1, f2, f3, f4⟩ := ent0_cells (HQ.out _ b2)))
        obtain ⟨o0, o1, o2, o3, o4⟩ := cells_set5 (HQ.out _ b2) (.slice none 0 0) (.int .i64 0) (.bool false) (.int .i64 0) (.slice none 0 0)
        exact bodyPost_ret (v := .tuple #[.agg #[.slice none 0 0, .int .i64 0, .bool false, .int .i64 0, .slice none 0 0], .bool false]) (by simp [results, Tryd.results16, go_sem, o0, o1, o2, o3, o4]) rfl (HZ.out _ b2 HG.out _ rfl)
      | some v =>
        rw [hat] at hgf
        have HG := hid hgf
        have hvm := atO_mem hat
        have HAT : Hid (∀ wx, Below W.heap.size W wx → Calls Tryd.prog 32 #[.pointer (some ⟨m.b, 0, none⟩), .int .i64 s] wx fun e w' => e = .returned (.pointer (some ⟨v.b, 0, none⟩)) ∧ w' = wx) := fun wx hb => by
          have := at_m (HN.out _ hb).1 HVL.out HO.out (s := s)
          rw [hat] at this
          exact this
        have hlen := ok_key HH.out.2.1 hmm hvm
        have HENT : Hid (∀ wx, Below W.heap.size W wx → Calls Tryd.prog 33 #[.pointer (some ⟨m.b, 0, none⟩), .pointer (some ⟨v.b, 0, none⟩)] wx fun e w' => ToldE wx (v.ent m.key) e w') := fun wx hb => entry_m (HN.out _ hb).1 hvm (by omega) (by omega)
        have HFIN : Hid (∀ wx w5 a5 c5 a6 c6, Below W.heap.size W wx → EntM w5 (entL a5 c5 a6 c6 (v.ent m.key)) (v.ent m.key) → (∀ u ∈ entL a5 c5 a6 c6 (v.ent m.key), ∀ b, Refs u b → wx.heap.size ≤ b) → Below wx.heap.size wx w5 → GotE w.heap.size (getE (flat ns) key s) (.returned (.tuple #[entA a5 c5 a6 c6 (v.ent m.key), .bool true])) (((((w5.setCell ⟨w.heap.size, 0, none⟩ (.slice a5 (v.ent m.key).key.length c5)).setCell ⟨w.heap.size, 1, none⟩ (.int .i64 (v.ent m.key).seq)).setCell ⟨w.heap.size, 2, none⟩ (.bool (v.ent m.key).gone)).setCell ⟨w.heap.size, 3, none⟩ (.int .i64 (v.ent m.key).till)).setCell ⟨w.heap.size, 4, none⟩ (.slice a6 (v.ent m.key).val.length c6)) ∧ Below w.heap.size w (((((w5.setCell ⟨w.heap.size, 0, none⟩ (.slice a5 (v.ent m.key).key.length c5)).setCell ⟨w.heap.size, 1, none⟩ (.int .i64 (v.ent m.key).seq)).setCell ⟨w.heap.size, 2, none⟩ (.bool (v.ent m.key).gone)).setCell ⟨w.heap.size, 3, none⟩ (.int .i64 (v.ent m.key).till)).setCell ⟨w.heap.size, 4, none⟩ (.slice a6 (v.ent m.key).val.length c6))) := fun wx w5 a5 c5 a6 c6 hb hem hnew hb5 => by
          have hc := HH.out.2.2.2.2.1.trans (hb.mono HH.out.2.2.2.2.1.size)
          have hc5 := hc.trans (hb5.mono hc.size)
          have hsz := hb.size
          have hWs := HH.out.2.2.2.2.2
          refine ⟨.inr ⟨v.ent m.key, a5, c5, a6, c6, HG.out, rfl, entE.keep hem fun u hu b hr => ?_, fun u hu b hr => ?_⟩, below_set5 hc5 _ _ _ _ _⟩
          · have h1 := hnew u hu b hr
            have hne : b ≠ w.heap.size := by omega
            rw [heap_ne _ _ _ hne, heap_ne _ _ _ hne, heap_ne _ _ _ hne, heap_ne _ _ _ hne, heap_ne _ _ _ hne]
          · have := hnew u hu b hr
            omega
        clear hb hkey hgf hvl hat hvm hlen
        unfold entA at HFIN
        generalize v.ent m.key = x at HENT HFIN
        unfold ToldE entA at HENT
        go_wp2_with (first | (go_at_call 30; refine hsk.mono ?_; rintro e9 w2 ⟨rfl, b2⟩) | (go_at_call 31; refine (HHAS.out _ b2).mono ?_; rintro e9 w9 ⟨rfl, hw⟩; obtain rfl := hw.symm; clear hw) | (go_at_call 32; refine (HAT.out _ b2).mono ?_; rintro e9 w9 ⟨rfl, hw⟩; obtain rfl := hw.symm; clear hw) | (go_at_call 33; refine (HENT.out _ b2).mono ?_; rintro e9 w5 ⟨a5, c5, a6, c6, rfl, em5, n5, _, _, b5⟩; obtain ⟨z0, z1, z2, z3, z4, f0, f1, f2, f3, f4⟩ := ent0_cells (HQ.out _ (b2.trans (b5.mono b2.size)))))
        obtain ⟨o0, o1, o2, o3, o4⟩ := cells_set5 (HQ.out _ (b2.trans (b5.mono b2.size))) (.slice a5 x.key.length c5) (.int .i64 x.seq) (.bool x.gone) (.int .i64 x.till) (.slice a6 x.val.length c6)
        exact bodyPost_ret (v := .tuple #[.agg #[.slice a5 x.key.length c5, .int .i64 x.seq, .bool x.gone, .int .i64 x.till, .slice a6 x.val.length c6], .bool true]) (by simp [results, Tryd.results16, go_sem, o0, o1, o2, o3, o4]) rfl (HFIN.out _ _ _ _ _ _ b2 em5 n5 b5)
    · have hno := key_none HH.out.1 (key := key) (fun m' r' h => by rw [hb] at h; cases h; exact hkey)
      have HG := hid (get_none (s := s) hno)
      have HHAS : Hid (∀ wx, Below W.heap.size W wx → Calls Tryd.prog 31 #[.pointer (some ⟨m.b, 0, none⟩), .slice ka kl kc] wx fun e w' => e = .returned (.bool false) ∧ w' = wx) := fun wx hb => by
        have hc := HH.out.2.2.2.2.1.trans (hb.mono HH.out.2.2.2.2.1.size)
        have := has_m ((HH.out.1.later hc).bas.nd m hmm) (HH.out.2.2.2.1.later hc)
        rw [show decide (m.key = key) = false by simpa using hkey] at this
        exact this
      clear hno hb hkey
      go_wp2_with (first | (go_at_call 30; refine hsk.mono ?_; rintro e9 w2 ⟨rfl, b2⟩) | (go_at_call 31; refine (HHAS.out _ b2).mono ?_; rintro e9 w9 ⟨rfl, hw⟩; obtain rfl := hw.symm; clear hw; obtain ⟨z0, z1, z2, z3, z4, f0, f1, f2, f3, f4⟩ := ent0_cells (HQ.out _ b2)))
      obtain ⟨o0, o1, o2, o3, o4⟩ := cells_set5 (HQ.out _ b2) (.slice none 0 0) (.int .i64 0) (.bool false) (.int .i64 0) (.slice none 0 0)
      exact bodyPost_ret (v := .tuple #[.agg #[.slice none 0 0, .int .i64 0, .bool false, .int .i64 0, .slice none 0 0], .bool false]) (by simp [results, Tryd.results16, go_sem, o0, o1, o2, o3, o4]) rfl (HZ.out _ b2 HG.out _ rfl)
end Go.Proofs.YtaefddnmldbgiaaDoor
