/- The landed mem's Add. -/
import Derived.Test.YtaefddnmldbgiabDoorNlnk
import Derived.Test.YtaefddnmldbgiabDoorNins
import Derived.Test.YtaefddnmldbgiabDoorNsee
namespace Go.Proofs.YtaefddnmldbgiabDoor
open Go.RowKit
set_option linter.unusedVariables false
set_option linter.unusedSimpArgs false

theorem mem_mid {α : Type} {A B : List α} {n m : α} (h : m ∈ A ++ n :: B) : (m ∈ A ∨ m ∈ B) ∨ m = n := by
  rcases List.mem_append.1 h with q | q
  · exact .inl (.inl q)
  · rcases List.mem_cons.1 q with e | q
    · exact .inr e
    · exact .inl (.inr q)
/-- One more entry of a key. -/
theorem memat_add {w w7 w8 : World} {p : Nat} {A B : List Nd} {n : Nd} {c wt : Int} (h : MemAt w p (A ++ n :: B) c wt) (h7 : Below w.heap.size w w7) {v : Vr} (hv : VrAt w7 v) {i : Nat} {rv' : Value} (hk : Kept (Ows n.rv) w7 w8)
    (hr : w8.ownsRow 0 51 1 rv' (n.vs.length + 1) ((n.vs.take i ++ v :: n.vs.drop i).map fun v => ptr v.b)) (hi : i ≤ n.vs.length) (hnew : ∀ j, Ows rv' j → Ows n.rv j ∨ w.heap.size ≤ j) (hP : ∀ x ∈ n.vs.take i, x.seq < v.seq) (hS : ∀ x ∈ n.vs.drop i, v.seq < x.seq) :
    MemAt (w8.setCell ⟨n.b, 1, none⟩ rv') p (A ++ { n with vs := n.vs.take i ++ v :: n.vs.drop i, rv := rv' } :: B) c wt := by
  have hn : n ∈ A ++ n :: B := by simp
  have h7' := h.later h7
  have hnd := h7'.bas.nd n hn
  obtain ⟨C, c1, c2, c3, c4⟩ := hnd.blk
  -- a block of another type than a row of pointers stays
  have k8 : ∀ {k : Nat} {D : Array Value} {t : TypeId} {f : Nat × Nat}, w7.heap[k]? = some (.cells D t f) → t ≠ 51 → w8.heap[k]? = w7.heap[k]? := fun {k D t f} hk' ht => by
    refine hk.block k (Array.getElem?_eq_some_iff.1 hk').1 fun hO => ?_
    obtain ⟨E, hE⟩ := ownsRow_ty hnd.row hO
    rw [hk'] at hE
    simp only [Option.some.injEq, Obj.cells.injEq] at hE
    exact ht hE.2.1
  have k9 : ∀ {k : Nat} {D : Array Value} {t : TypeId} {f : Nat × Nat}, w7.heap[k]? = some (.cells D t f) → t ≠ 51 → t ≠ 43 → (w8.setCell ⟨n.b, 1, none⟩ rv').heap[k]? = w7.heap[k]? := fun {k D t f} hk' ht ht2 =>
    (heap_ne w8 1 rv' (ty_ne hk' c1 ht2)).trans (k8 hk' ht)
  have r9 : ∀ {B : Nat} {e : TypeId} {sz : Nat} {x : Value} {m : Nat} {us : List Value}, w7.ownsRow B e sz x m us → e ≠ 51 → e ≠ 43 → (w8.setCell ⟨n.b, 1, none⟩ rv').ownsRow B e sz x m us := fun {B e sz x m us} hr' h1 h2 => ownsRow_keep hr' fun k hk' => by
    obtain ⟨E, hE⟩ := ownsRow_ty hr' hk'
    exact k9 hE h1 h2
  have v9 : ∀ {x : Vr}, VrAt w7 x → VrAt (w8.setCell ⟨n.b, 1, none⟩ rv') x := fun {x} hx => ⟨(k9 hx.blk (by decide) (by decide)).trans hx.blk, r9 hx.val (by decide) (by decide), hx.ok, hx.i1, hx.i2⟩
  have c8 : w8.heap[n.b]? = some (.cells C 43 (0, 0)) := (k8 c1 (by decide)).trans c1
  have hpw := List.pairwise_append.1 h.bas.rw
  have hoth : ∀ m, m ∈ A ∨ m ∈ B → ∀ k, Ows m.rv k → ¬ Ows n.rv k := fun m hm k h1 h2 => by
    rcases hm with q | q
    · exact hpw.2.2 m q n (by simp) k h1 h2
    · exact (List.pairwise_cons.1 hpw.2.1).1 m q k h2 h1
  have hnbs := h.bas.nb
  rw [List.map_append, List.map_cons, List.nodup_append] at hnbs
  have hbne : ∀ m, m ∈ A ∨ m ∈ B → m.b ≠ n.b := fun m hm e => by
    rcases hm with q | q
    · exact hnbs.2.2 m.b (List.mem_map.2 ⟨m, q, rfl⟩) n.b (by simp) e
    · exact (List.nodup_cons.1 hnbs.2.1).1 (e ▸ List.mem_map.2 ⟨m, q, rfl⟩)
  have hlen : (n.vs.take i ++ v :: n.vs.drop i).length = n.vs.length + 1 := by simp; omega
  refine ⟨⟨?_, ?_, fun m hm => ?_, ?_, ?_, ?_⟩, fun j hj => ?_⟩
  · obtain ⟨T, t, fr, e1, ⟨e2, e3, e4⟩, _⟩ := h7'.bas.tab
    exact h7'.bas.tab.keep (k9 e1 e2 e3)
  · obtain ⟨D, d1, d2⟩ := h7'.bas.head
    exact ⟨D, (k9 d1 (by decide) (by decide)).trans d1, d2⟩
  · rcases mem_mid hm with q | rfl
    · have hm7 := h7'.bas.nd m (by rcases q with q | q <;> simp [q])
      obtain ⟨D, d1, d2⟩ := hm7.blk
      refine ⟨⟨D, ?_, d2⟩, r9 hm7.key (by decide) (by decide), hm7.ok, ownsRow_keep hm7.row fun k hk' => ?_, fun x hx => v9 (hm7.vs x hx), hm7.h⟩
      · exact (heap_ne w8 1 rv' (hbne m q)).trans ((k8 d1 (by decide)).trans d1)
      · obtain ⟨E, hE⟩ := ownsRow_ty hm7.row hk'
        exact (heap_ne w8 1 rv' (ty_ne hE c1 (by decide))).trans (hk.block k (Array.getElem?_eq_some_iff.1 hE).1 (hoth m q k hk'))
    · refine ⟨⟨_, heap_set c8 1 rv', by simpa using c2, ?_, ?_⟩, r9 hnd.key (by decide) (by decide), hnd.ok, ?_, fun x hx => ?_, hnd.h⟩
      · rw [Array.getElem?_setIfInBounds_ne (by omega)]; exact c3
      · rw [Array.getElem?_setIfInBounds_self, if_pos (by omega)]
      · simp only
        rw [hlen]
        refine ownsRow_keep hr fun k hk' => ?_
        obtain ⟨E, hE⟩ := ownsRow_ty hr hk'
        exact heap_ne w8 1 rv' (ty_ne hE c8 (by decide))
      · simp only at hx
        rcases List.mem_append.1 hx with q | q
        · exact v9 (hnd.vs x (List.mem_of_mem_take q))
        · rcases List.mem_cons.1 q with rfl | q
          · exact v9 hv
          · exact v9 (hnd.vs x (List.mem_of_mem_drop q))
  · have ho := h.bas.ord
    obtain ⟨o1, o2, o3⟩ := List.pairwise_append.1 ho.1
    obtain ⟨o4, o5⟩ := List.pairwise_cons.1 o2
    refine ⟨List.pairwise_append.2 ⟨o1, List.pairwise_cons.2 ⟨o4, o5⟩, fun a ha b hb => ?_⟩, fun m hm => ?_⟩
    · rcases List.mem_cons.1 hb with rfl | q
      · exact o3 a ha n (by simp)
      · exact o3 a ha b (by simp [q])
    · rcases mem_mid hm with q | rfl
      · exact ho.2 m (by rcases q with q | q <;> simp [q])
      · have hs := ho.2 n hn
        simp only
        rw [← List.take_append_drop i n.vs] at hs
        obtain ⟨s1, s2, s3⟩ := List.pairwise_append.1 hs
        refine List.pairwise_append.2 ⟨s1, List.pairwise_cons.2 ⟨hS, s2⟩, fun a ha b hb => ?_⟩
        rcases List.mem_cons.1 hb with rfl | q
        · exact hP a ha
        · exact s3 a ha b q
  · have := h.bas.nb
    simpa using this
  · obtain ⟨o1, o2, o3⟩ := hpw
    obtain ⟨o4, o5⟩ := List.pairwise_cons.1 o2
    have hlt : ∀ m, m ∈ A ∨ m ∈ B → ∀ k, Ows m.rv k → ¬ Ows rv' k := fun m hm k h1 h2 => by
      rcases hnew k h2 with q | q
      · exact hoth m hm k h1 q
      · have := ownsRow_lt (h.bas.nd m (by rcases hm with q | q <;> simp [q])).row h1
        omega
    refine List.pairwise_append.2 ⟨o1, List.pairwise_cons.2 ⟨fun b hb k h1 h2 => hlt b (.inr hb) k h2 h1, o5⟩, fun a ha b hb => ?_⟩
    rcases List.mem_cons.1 hb with rfl | q
    · exact fun k h1 h2 => hlt a (.inl ha) k h1 h2
    · exact o3 a ha b (by simp [q])
  · have hc := h7'.lv j hj
    have e : lev (A ++ { n with vs := n.vs.take i ++ v :: n.vs.drop i, rv := rv' } :: B) j = lev (A ++ n :: B) j := by
      rw [lev_app, lev_app]
      congr 1
      by_cases q : j < n.h <;> simp [lev, q]
    rw [e]
    refine hc.keep fun k hk' => ?_
    have hkb : ∃ D t f, w7.heap[k]? = some (.cells D t f) ∧ t ≠ 51 := by
      rcases hk' with rfl | q
      · obtain ⟨D, d1, _⟩ := h7'.bas.head
        exact ⟨D, _, _, d1, by decide⟩
      · obtain ⟨m, hm, rfl, _⟩ := lev_mem q
        obtain ⟨D, d1, _⟩ := (h7'.bas.nd m hm).blk
        exact ⟨D, _, _, d1, by decide⟩
    obtain ⟨D, t, f, hD, ht⟩ := hkb
    have e8 : w8.cell? ⟨k, 2 + j, none⟩ = w7.cell? ⟨k, 2 + j, none⟩ := World.cell?_of_block (a := ⟨k, 2 + j, none⟩) (k8 hD ht)
    by_cases q : k = n.b
    · subst q
      rw [cell_off (by omega), e8]
    · rw [cell_blk q, e8]
theorem Kept.weak {F G : Nat → Prop} {w w' : World} (h : Kept F w w') (hFG : ∀ k, F k → G k) : Kept G w w' := ⟨h.os, h.tape, h.output, h.size, fun k hk hn => h.block k hk fun q => hn (hFG k q)⟩
theorem ownsRow_slice {w : World} {B : Nat} {e : TypeId} {sz : Nat} {v : Value} {n : Nat} {us : List Value} (h : w.ownsRow B e sz v n us) : ∃ a l c, v = .slice a l c := by
  rcases h.2 with q | ⟨g, cap, cur, q1, _⟩
  · exact ⟨_, _, _, q.1⟩
  · exact ⟨_, _, _, q1⟩
/-- What node.add has done. -/
def AddV (w : World) (p : Nat) (A B : List Nd) (n : Nd) (c wt : Int) (x : EntV) (w' : World) : Prop :=
  ∃ v rv', MemAt w' p (A ++ { n with vs := n.vs.take (plc n.vs x.seq) ++ v :: n.vs.drop (plc n.vs x.seq), rv := rv' } :: B) c wt ∧ v.ent x.key = x ∧ Kept (fun k => k = n.b ∨ Ows n.rv k) w w' ∧ ∀ k, k = v.b ∨ Ows v.vv k ∨ Ows rv' k → Ows n.rv k ∨ w.heap.size ≤ k
set_option maxHeartbeats 4000000 in
set_option maxRecDepth 100000 in
theorem nadd_m {w : World} {p : Nat} {A B : List Nd} {n : Nd} {c wt : Int} (h : MemAt w p (A ++ n :: B) c wt) {ka va : Option Addr} {kc vc : Nat} {x : EntV} (hem : EntM w (entL ka kc va vc x) x) (hl : n.vs.length ≤ 1000) (hvl : x.val.length ≤ 3000) : Calls Tryd.prog 17 #[ptr n.b, entA ka kc va vc x] w fun r w' =>
    (the n.vs x.seq = true ∧ r = .returned (.bool false) ∧ Below w.heap.size w w') ∨ (the n.vs x.seq = false ∧ r = .returned (.bool true) ∧ AddV w p A B n c wt x w') := by
  have hn : n ∈ A ++ n :: B := by simp
  have ho := h.bas.ord.2 n hn
  obtain ⟨ka', kc', va', vc', heq, sk, sv, i1, i2⟩ := hem
  unfold entL at heq
  simp only [List.cons.injEq, Value.slice.injEq, and_true, true_and] at heq
  obtain ⟨⟨rfl, rfl⟩, rfl, rfl⟩ := heq
  obtain ⟨W1, hW1⟩ : ∃ W1, W1 = w.alloc (.cells #[.slice ka x.key.length kc, .int .i64 x.seq, .bool x.gone, .int .i64 x.till, .slice va x.val.length vc] 28) := ⟨_, rfl⟩
  have b1 : Below w.heap.size w W1 := by rw [hW1]; exact (Below.refl _ w).alloc (Nat.le_refl _) _
  have hpl := place_m ((h.later b1).bas.nd n hn) (by omega) ho (s := x.seq)
  have HBX := hid (fun wx hb => box_cells w (.slice ka x.key.length kc) (.int .i64 x.seq) (.bool x.gone) (.int .i64 x.till) (.slice va x.val.length vc) 28 (wx := wx) (by rw [← hW1]; exact hb))
  have HH : Hid (MemAt w p (A ++ n :: B) c wt ∧ Sl w va x.val.length vc x.val ∧ In64 x.seq ∧ In64 x.till ∧ n.vs.length ≤ 1000 ∧ x.val.length ≤ 3000 ∧ n ∈ A ++ n :: B ∧ n.vs.Pairwise (fun a b => a.seq < b.seq) ∧ Below w.heap.size w W1) := ⟨h, sv, i1, i2, hl, hvl, hn, ho, b1⟩
  have HPL := hid (And.intro (plc_le n.vs x.seq) (And.intro (plc_before (vs := n.vs) (s := x.seq)) (the_false ho (s := x.seq))))
  have HW1 := hid hW1
  clear h hn ho sk sv i1 i2 hl hvl b1 hW1
  obtain ⟨key, seq, gone, till, vl⟩ := x
  simp only at *
  unfold entA
  simp only
  generalize hT : the n.vs seq = T at hpl HPL ⊢
  have HPP : ∃ P, P = plc n.vs seq := ⟨_, rfl⟩
  obtain ⟨P, hP⟩ := HPP
  rw [← hP] at hpl HPL
  have HPE := hid hP
  unfold ptr
  unfold ptr at hpl
  cases T with
  | true =>
    have HB := hid HH.out.2.2.2.2.2.2.2.2
    go_enter Tryd.func17, Tryd.ntmps17
    go_upto_region 1 with fail
    rw [← HW1.out]
    obtain ⟨y0, y1, y2, y3, y4⟩ := HBX.out W1 (Below.refl _ _)
    clear HW1 hT hP
    go_wp2_with fail
    refine hpl.mono ?_
    rintro e w' ⟨rfl, hw⟩
    obtain rfl := hw.symm
    clear hpl hw
    go_wp2_with fail
    go_ret
    exact .inl ⟨by simp, by simp, HB.out⟩
  | false =>
    have HCV : Hid (∀ wx, Below W1.heap.size W1 wx → Calls Tryd.prog 26 #[.slice va vl.length vc] wx fun e w' => ∃ v, e = .returned v ∧ Row wx.heap.size w' v vl ∧ Below W1.heap.size W1 w' ∧ Below wx.heap.size wx w') := fun wx hb => by
      have hb' := HH.out.2.2.2.2.2.2.2.2
      refine (clone_n (HH.out.2.1.later (hb'.trans (hb.mono hb'.size))) (by have := HH.out.2.2.2.2.2.1; omega)).mono ?_
      rintro e w' ⟨v', rfl, r, b⟩
      exact ⟨v', rfl, r, hb.trans (b.mono hb.size), b⟩
    have HSZ : Hid (w.heap.size ≤ W1.heap.size) := HH.out.2.2.2.2.2.2.2.2.size
    go_enter Tryd.func17, Tryd.ntmps17
    go_upto_region 1 with fail
    rw [← HW1.out]
    obtain ⟨y0, y1, y2, y3, y4⟩ := HBX.out W1 (Below.refl _ _)
    clear HW1 hT hP
    go_wp2_with fail
    refine hpl.mono ?_
    rintro e w' ⟨rfl, hw⟩
    obtain rfl := hw.symm
    clear hpl hw
    go_wp2_with fail
    have S0 := HBX.out W1.drew (Below.refl _ W1).drew
    have BD := (Below.refl W1.heap.size W1).drew
    have HOK : Hid (Okb vl) := HH.out.2.1.2.1
    go_region_held_law (fun w' => w'.cell? ⟨w.heap.size, 0, none⟩ = some (.slice ka key.length kc) ∧ w'.cell? ⟨w.heap.size, 1, none⟩ = some (.int .i64 seq) ∧ w'.cell? ⟨w.heap.size, 2, none⟩ = some (.bool gone) ∧ w'.cell? ⟨w.heap.size, 3, none⟩ = some (.int .i64 till) ∧ w'.cell? ⟨w.heap.size, 4, none⟩ = some (.slice va vl.length vc)) (first | (with_reducible exact S0) | (with_reducible exact S6) | (with_reducible exact S5) | (go_loud (fail "S"))) (first | (go_at_call 26; refine (HCV.out _ BD).mono ?_; rintro e w5 ⟨v5, rfl, r5, B5, b5⟩; obtain ⟨a5, c5, rfl, s5⟩ := Sl.ofRow r5 HOK.out; have S5 := HBX.out _ B5; have S6 := HBX.out _ (B5.alloc B5.size (.cells #[.int .i64 seq, .bool gone, .int .i64 till, .slice a5 vl.length c5] 56))))
    obtain ⟨W6, hW6⟩ : ∃ W6, W6 = w5.alloc (.cells #[.int .i64 seq, .bool gone, .int .i64 till, .slice a5 vl.length c5] 56) := ⟨_, rfl⟩
    have HW6 := hid hW6
    have b6 : Below w5.heap.size w5 W6 := by rw [hW6]; exact (Below.refl _ w5).alloc (Nat.le_refl _) _
    have B6 : Below W1.heap.size W1 W6 := B5.trans (b6.mono B5.size)
    have BW := HH.out.2.2.2.2.2.2.2.2
    have Bw5 : Below w.heap.size w w5 := BW.trans (B5.mono BW.size)
    have V6 : Hid (VrAt W6 ⟨w5.heap.size, seq, gone, till, .slice a5 vl.length c5, vl⟩) := ⟨by rw [hW6]; exact heap_alloc_new w5 _, (r5.later b6).base (Nat.zero_le _), HOK.out, HH.out.2.2.1, HH.out.2.2.2.1⟩
    obtain ⟨W7, hW7⟩ : ∃ W7, W7 = W6.alloc (.cells #[.pointer (some ⟨w5.heap.size, 0, none⟩)] 51) := ⟨_, rfl⟩
    have HW7 := hid hW7
    have b7 : Below W6.heap.size W6 W7 := by rw [hW7]; exact (Below.refl _ W6).alloc (Nat.le_refl _) _
    have Bw6 : Below w.heap.size w W6 := Bw5.trans (b6.mono Bw5.size)
    have Bw7 : Hid (Below w.heap.size w W7) := Bw6.trans (b7.mono Bw6.size)
    have V7 : Hid (VrAt W7 ⟨w5.heap.size, seq, gone, till, .slice a5 vl.length c5, vl⟩) := V6.out.keep fun k hk => b7.block k (by
      rcases hk with rfl | q
      · exact (Array.getElem?_eq_some_iff.1 V6.out.blk).1
      · exact ownsRow_lt V6.out.val q)
    have hnd7 := (HH.out.1.later Bw7.out).bas.nd n HH.out.2.2.2.2.2.2.1
    have g7 : W7.heap[W6.heap.size]? = some (.cells #[.pointer (some ⟨w5.heap.size, 0, none⟩)] 51 (0, 0)) := by rw [hW7]; exact heap_alloc_new W6 _
    have hnr : ¬ Ows n.rv W6.heap.size := fun hO => by
      have := ownsRow_lt (HH.out.1.bas.nd n HH.out.2.2.2.2.2.2.1).row hO
      have := Bw6.size
      omega
    have hins := ins_m hnd7.row HPL.out.1 (by have := HH.out.2.2.2.2.1; omega) (fun y hy => by obtain ⟨v, _, rfl⟩ := List.mem_map.1 hy; exact ⟨_, rfl⟩) ⟨_, rfl⟩ g7 hnr
    have HC1 : Hid (∀ wx, Below w.heap.size w wx → wx.cell? ⟨n.b, 1, none⟩ = some n.rv) := fun wx hb => ((HH.out.1.later hb).bas.nd n HH.out.2.2.2.2.2.2.1).cells.2
    have z6 := HC1.out W6 Bw6
    obtain ⟨ao, cap, hrv, _⟩ := hnd7.rowv
    have HRV := hid hrv
    have HV5 : Hid (w.heap.size ≤ w5.heap.size ∧ ∀ k, Ows (.slice a5 vl.length c5) k → w.heap.size ≤ k) := ⟨Bw5.size, fun k hk => by
      have := (World.ownsRow.lt r5 k hk).1
      have := BW.size
      have hd : W1.drew.heap.size = W1.heap.size := rfl
      omega⟩
    have HN8 : Hid (∀ w8, Kept (Ows n.rv) W7 w8 → w8.cell? ⟨n.b, 1, none⟩ = some n.rv ∧ w8.frozen? ⟨n.b, 1, none⟩ = false) := fun w8 k8 => by
      have hq := (HH.out.1.later Bw7.out).bas.nd n HH.out.2.2.2.2.2.2.1
      obtain ⟨C, q1, q2, q3, q4⟩ := hq.blk
      have e8 : w8.heap[n.b]? = some (.cells C 43 (0, 0)) := (k8.block n.b (Array.getElem?_eq_some_iff.1 q1).1 (fun hO => by
        obtain ⟨E, hE⟩ := ownsRow_ty hq.row hO
        exact ty_ne q1 hE (by decide) rfl)).trans q1
      exact ⟨by rw [cell_of e8]; exact q4, frozen_ofW e8 1⟩
    clear r5 s5 B5 b5 S0 S5 S6 BD b6 B6 Bw5 b7 Bw6 g7 hnr hnd7 y0 y1 y2 y3 y4 BW hW6 hW7 HCV
    rw [hrv] at z6
    rw [HW7.out] at hins
    have hins2 := hins
    rw [hrv] at hins2
    clear hins hrv
    have HEM : Hid (w.heap.size < W7.heap.size) := by
      have h9 : w5.heap.size < W7.heap.size := (Array.getElem?_eq_some_iff.1 V7.out.blk).1
      have := HV5.out.1
      show _ < _
      omega
    go_upto_region 5 with fail
    rw [← HW6.out]
    go_wp2_with (go_at_call 29; refine hins2.mono ?_; rintro e w8 ⟨v8, rfl, r8, k8, n8⟩; rw [← HRV.out, ← HW7.out] at k8 n8; obtain ⟨a8, l8, c8, rfl⟩ := ownsRow_slice r8; obtain ⟨x1, x2⟩ := HN8.out _ k8)
    have HFIN : Hid (AddV w p A B n c wt ⟨key, seq, gone, till, vl⟩ (w8.setCell ⟨n.b, 1, none⟩ (.slice a8 l8 c8))) := by
      refine ⟨⟨w5.heap.size, seq, gone, till, .slice a5 vl.length c5, vl⟩, .slice a8 l8 c8, ?_, rfl, ?_, fun k hk => ?_⟩
      · have hm := memat_add (i := P) HH.out.1 Bw7.out V7.out k8 (rv' := .slice a8 l8 c8) (by rw [List.map_append, List.map_cons, List.map_take, List.map_drop]; exact r8) HPL.out.1 (fun j hj => by
          rcases n8 j hj with q | q
          · exact .inl q
          · exact .inr (by have := HEM.out; omega)) HPL.out.2.1 (HPL.out.2.2 (by simp))
        rw [HPE.out] at hm
        exact hm
      · exact ((Kept.of_below Bw7.out).trans (k8.weak fun k q => .inr q)).set (.inl (.inl rfl))
      · rcases hk with rfl | q | q
        · exact .inr HV5.out.1
        · exact .inr (HV5.out.2 k q)
        · rcases n8 k q with q | q
          · exact .inl q
          · exact .inr (by have := HEM.out; omega)
    clear r8 k8 n8 x1 x2
    go_wp2_with fail
    go_ret
    exact .inr ⟨by simp, by simp, HFIN.out⟩
/-- How the landed mem lies in memory. -/
def RM (w : World) (p : Nat) (l : List EntV) (F : Nat → Prop) : Prop := ∃ ns, MemAt w p ns ((flat ns).length : Nat) (wts (flat ns) : Nat) ∧ l = flat ns ∧ F = FP p ns
/-- A key that is there now, and all else as it was. -/
def GotN (w : World) (p : Nat) (ns : List Nd) (key : List Int) (c wt : Int) (nb : Nat) (wx : World) : Prop :=
  ∃ A n B, nb = n.b ∧ n.key = key ∧ MemAt wx p (A ++ n :: B) c wt ∧ flat (A ++ n :: B) = flat ns ∧ (∀ a ∈ A, cmp a.key key < 0) ∧ (∀ b ∈ B, 0 < cmp b.key key) ∧ Kept (FP p ns) w wx ∧ ∀ k, FP p (A ++ n :: B) k → FP p ns k ∨ w.heap.size ≤ k
theorem fp_mid {p : Nat} {A B : List Nd} {n : Nd} {k : Nat} : FP p (A ++ n :: B) k ↔ k = p ∨ (∃ m, (m ∈ A ∨ m ∈ B) ∧ NF m k) ∨ NF n k := by
  constructor
  · rintro (q | ⟨m, hm, q⟩)
    · exact .inl q
    · rcases mem_mid hm with r | rfl
      · exact .inr (.inl ⟨m, r, q⟩)
      · exact .inr (.inr q)
  · rintro (q | ⟨m, hm, q⟩ | q)
    · exact .inl q
    · exact .inr ⟨m, by rcases hm with r | r <;> simp [r], q⟩
    · exact .inr ⟨n, by simp, q⟩
theorem bck_gt {w : World} {p : Nat} {ns : List Nd} {c wt : Int} (h : MemAt w p ns c wt) {key : List Int} (hno : ∀ n ∈ ns, n.key ≠ key) : ∀ b ∈ bck ns key, 0 < cmp b.key key := fun b hb => by
  have h1 := bck_ge b hb
  have h2 : cmp b.key key ≠ 0 := fun e => hno b h1.1 (cmp_zero.1 e)
  omega
/-- The key is there already. -/
theorem got_there {w wx : World} {p : Nat} {ns : List Nd} {c wt : Int} (h : MemAt w p ns c wt) (hb : Below w.heap.size w wx) {key : List Int} {m : Nd} {r : List Nd} (hm : bck ns key = m :: r) (hk : m.key = key) : GotN w p ns key c wt m.b wx := by
  have e := frt_bck h.bas.ord.1 key
  rw [hm] at e
  have ho := h.bas.ord.1
  rw [e] at ho
  obtain ⟨o1, o2, o3⟩ := List.pairwise_append.1 ho
  refine ⟨frt ns key, m, r, rfl, hk, by rw [← e]; exact h.later hb, by rw [← e], fun a ha => (frt_lt a ha).2, fun b hb' => ?_, Kept.of_below hb, fun k hk' => .inl (by rw [e]; exact hk')⟩
  have := (List.pairwise_cons.1 o2).1 b hb'
  have h3 := cmp_neg m.key b.key
  rw [hk] at this h3
  omega
/-- No key is like it. -/
theorem key_none {w : World} {p : Nat} {ns : List Nd} {c wt : Int} (h : MemAt w p ns c wt) {key : List Int} (hm : ∀ m r, bck ns key = m :: r → m.key ≠ key) : ∀ n ∈ ns, n.key ≠ key := fun n hn e => by
  have e1 := frt_bck h.bas.ord.1 key
  rw [e1] at hn
  rcases List.mem_append.1 hn with q | q
  · have := (frt_lt n q).2
    rw [e, cmp_refl] at this
    omega
  · cases hb : bck ns key with
    | nil => rw [hb] at q; cases q
    | cons m r =>
      have hmk := hm m r hb
      rw [hb] at q
      rcases List.mem_cons.1 q with rfl | q
      · exact hmk e
      · have ho := h.bas.ord.1
        rw [e1, hb] at ho
        have h1 := (List.pairwise_cons.1 (List.pairwise_append.1 ho).2.1).1 n q
        have h2 := (bck_ge m (by rw [hb]; simp)).2
        rw [e] at h1
        exact h2 h1
theorem got_link {w wx w' : World} {p : Nat} {ns : List Nd} {c wt : Int} (h : MemAt w p ns c wt) (hb : Below w.heap.size w wx) {key : List Int} (hno : ∀ n ∈ ns, n.key ≠ key) {nb hh : Nat} {kv : Value} (hm : MemAt w' p (frt ns key ++ ⟨nb, key, kv, hh, [], .slice none 0 0⟩ :: bck ns key) c wt) (hk : Kept (FP p ns) wx w') (hnew : ∀ k, NF ⟨nb, key, kv, hh, [], .slice none 0 0⟩ k → wx.heap.size ≤ k) : GotN w p ns key c wt nb w' := by
  have e := frt_bck h.bas.ord.1 key
  refine ⟨frt ns key, _, bck ns key, rfl, rfl, hm, ?_, fun a ha => (frt_lt a ha).2, bck_gt h hno, (Kept.of_below hb).trans hk, fun k hk' => ?_⟩
  · rw [flat_app, flat_cons]
    conv => rhs; rw [e, flat_app]
    simp [Nd.ents]
  · rcases fp_mid.1 hk' with q | ⟨m, hm', q⟩ | q
    · exact .inl (.inl q)
    · refine .inl (.inr ⟨m, ?_, q⟩)
      rcases hm' with r | r
      · exact (frt_lt m r).1
      · exact (bck_ge m r).1
    · exact .inr (by have := hnew k q; have := hb.size; omega)
theorem vs_le {ns : List Nd} {n : Nd} (h : n ∈ ns) : n.vs.length ≤ (flat ns).length := by
  obtain ⟨A, B, rfl⟩ := List.append_of_mem h
  rw [flat_app, flat_cons]
  simp [Nd.ents]
  omega
end Go.Proofs.YtaefddnmldbgiabDoor
