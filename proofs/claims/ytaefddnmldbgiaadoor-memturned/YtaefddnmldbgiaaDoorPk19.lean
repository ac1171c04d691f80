import Derived.Deep.RegionLaw
import Derived.Deep.RegionHeldLaw
import Derived.Shelf.Spec.SlicesInsertGrow
import Derived.Test.YtaefddnmldbgiaaDoorPk12
import Derived.Test.YtaefddnmldbgiaaDoorPk13
import Derived.Test.YtaefddnmldbgiaaDoorPk16
import Derived.Test.YtaefddnmldbgiaaDoorPk18
/- The landed mem's link: a new key among the others. -/
namespace Go.Proofs.YtaefddnmldbgiaaDoor
open Go.RowKit
set_option linter.unusedVariables false
set_option linter.unusedSimpArgs false

theorem Kept.trans {F : Nat → Prop} {w w1 w2 : World} (h : Kept F w w1) (h2 : Kept F w1 w2) : Kept F w w2 :=
  ⟨h2.os.trans h.os, h2.tape.trans h.tape, h2.output.trans h.output, Nat.le_trans h.size h2.size, fun k hk hn => (h2.block k (Nat.lt_of_lt_of_le hk h.size) hn).trans (h.block k hk hn)⟩
theorem Kept.set {F : Nat → Prop} {w wx : World} (h : Kept F w wx) {b k : Nat} {v : Value} (hb : F b ∨ w.heap.size ≤ b) : Kept F w (wx.setCell ⟨b, k, none⟩ v) :=
  ⟨h.os, h.tape, h.output, by rw [size_set]; exact h.size, fun j hj hn => by
    rw [heap_ne wx k v (fun e => by rcases hb with q | q; exact hn (e ▸ q); omega)]
    exact h.block j hj hn⟩
theorem Kept.of_below {F : Nat → Prop} {w w' : World} (h : Below w.heap.size w w') : Kept F w w' := ⟨h.os, h.tape, h.output, h.size, fun k hk _ => h.block k hk⟩
theorem cell_off {w : World} {b i j : Nat} {v : Value} (h : i ≠ j) : (w.setCell ⟨b, i, none⟩ v).cell? ⟨b, j, none⟩ = w.cell? ⟨b, j, none⟩ :=
  World.cell?_setCell_other _ _ _ _ (by intro e; simp only [Addr.mk.injEq, and_true, true_and] at e; exact h e)
theorem cell_blk {w : World} {b c i j : Nat} {v : Value} (h : c ≠ b) : (w.setCell ⟨b, i, none⟩ v).cell? ⟨c, j, none⟩ = w.cell? ⟨c, j, none⟩ := World.cell?_of_block (heap_ne w i v h)
/-- One more in a level. -/
theorem chain_put {w : World} {i nb : Nat} : ∀ {X Y : List Nat} {p : Nat}, Chain w i p (X ++ Y) → nb ≠ p → nb ∉ X → nb ∉ Y → (p :: (X ++ Y)).Nodup → (w.cell? ⟨nb, 2 + i, none⟩).isSome = true →
    Chain ((w.setCell ⟨nb, 2 + i, none⟩ (ptrO Y.head?)).setCell ⟨lastB p X, 2 + i, none⟩ (ptr nb)) i p (X ++ nb :: Y)
  | [], Y, p, h, h1, h2, h3, hd, hs => by
    rw [List.nil_append] at h hd ⊢
    have hp : (w.cell? ⟨p, 2 + i, none⟩).isSome = true := by rw [h.next]; rfl
    refine ⟨World.cell?_setCell_same' _ _ _ (by show (World.cell? _ ⟨p, 2 + i, none⟩).isSome = true; rw [cell_blk (Ne.symm h1)]; exact hp), ?_⟩
    have hn : ((w.setCell ⟨nb, 2 + i, none⟩ (ptrO Y.head?)).setCell ⟨lastB p [], 2 + i, none⟩ (ptr nb)).cell? ⟨nb, 2 + i, none⟩ = some (ptrO Y.head?) := by
      show (World.setCell _ ⟨p, 2 + i, none⟩ _).cell? _ = _
      rw [cell_blk h1]
      exact World.cell?_setCell_same' _ _ _ hs
    cases Y with
    | nil => exact hn
    | cons y ys =>
      refine ⟨hn, h.2.keep fun k hk => ?_⟩
      have hk' : k ∈ y :: ys := by rcases hk with rfl | q <;> simp [*]
      have k1 : k ≠ p := fun e => (List.nodup_cons.1 hd).1 (e ▸ hk')
      have k2 : k ≠ nb := fun e => h3 (e ▸ hk')
      show (World.setCell _ ⟨p, 2 + i, none⟩ _).cell? _ = _
      rw [cell_blk k1, cell_blk k2]
  | x :: X, Y, p, h, h1, h2, h3, hd, hs => by
    have hd' := List.nodup_cons.1 hd
    refine ⟨?_, chain_put (X := X) (p := x) h.2 (fun e => h2 (by simp [e])) (fun e => h2 (List.mem_cons_of_mem _ e)) h3 hd'.2 hs⟩
    have k1 : p ≠ lastB x X := fun e => hd'.1 (by
      rcases lastB_mem x X with q | q
      · rw [e, q]; simp
      · rw [e]; exact List.mem_cons_of_mem _ (List.mem_append.2 (.inl q)))
    show (World.setCell _ ⟨lastB x X, 2 + i, none⟩ _).cell? _ = _
    rw [cell_blk k1, cell_blk (Ne.symm h1)]
    exact h.1
/-- Levels alone are turned. -/
theorem Bas.next {w : World} {p : Nat} {ns : List Nd} {c wt : Int} (h : Bas w p ns c wt) {b i : Nat} (hi : i < 12) (hb : b = p ∨ ∃ n ∈ ns, n.b = b) (v : Value) : Bas (w.setCell ⟨b, 2 + i, none⟩ v) p ns c wt := by
  have hty : ∃ C t, w.heap[b]? = some (.cells C t (0, 0)) ∧ (t = 59 ∨ t = 57) := by
    rcases hb with rfl | ⟨n, hn, rfl⟩
    · obtain ⟨C, c1, _⟩ := h.head
      exact ⟨C, _, c1, .inl rfl⟩
    · obtain ⟨C, c1, _⟩ := (h.nd n hn).blk
      exact ⟨C, _, c1, .inr rfl⟩
  obtain ⟨C0, t0, hC0, ht0⟩ := hty
  have hoth : ∀ {k : Nat} {D : Array Value} {t : TypeId} {f : Nat × Nat}, w.heap[k]? = some (.cells D t f) → t ≠ 59 → t ≠ 57 → (w.setCell ⟨b, 2 + i, none⟩ v).heap[k]? = w.heap[k]? := fun {k D t f} hk h1 h2 => by
    refine heap_ne w _ v (ty_ne hk hC0 ?_)
    rcases ht0 with rfl | rfl
    · exact h1
    · exact h2
  have hrow : ∀ {B : Nat} {e : TypeId} {sz : Nat} {x : Value} {n : Nat} {us : List Value}, w.ownsRow B e sz x n us → e ≠ 59 → e ≠ 57 → (w.setCell ⟨b, 2 + i, none⟩ v).ownsRow B e sz x n us := fun {B e sz x n us} hr h1 h2 => ownsRow_keep hr fun k hk => by
    obtain ⟨C, hC⟩ := ownsRow_ty hr hk
    exact hoth hC h1 h2
  refine ⟨?_, ?_, fun n hn => ?_, h.ord, h.nb, h.rw⟩
  · refine h.tab.keep ?_
    obtain ⟨T, t, fr, e1, ⟨e2, e3, e4⟩, _⟩ := h.tab
    exact hoth e1 e4 e3
  · obtain ⟨C, c1, c2, c3, c4⟩ := h.head
    by_cases q : p = b
    · subst q
      refine ⟨_, heap_set c1 _ v, by simpa using c2, ?_, ?_⟩
      · rw [Array.getElem?_setIfInBounds_ne (by omega)]; exact c3
      · rw [Array.getElem?_setIfInBounds_ne (by omega)]; exact c4
    · exact ⟨C, (heap_ne w _ v q).trans c1, c2, c3, c4⟩
  · have hnd := h.nd n hn
    refine ⟨?_, hrow hnd.key (by decide) (by decide), hnd.ok, hrow hnd.row (by decide) (by decide), fun x hx => ?_, hnd.h⟩
    · obtain ⟨C, c1, c2, c3, c4⟩ := hnd.blk
      by_cases q : n.b = b
      · subst q
        refine ⟨_, heap_set c1 _ v, by simpa using c2, ?_, ?_⟩
        · rw [Array.getElem?_setIfInBounds_ne (by omega)]; exact c3
        · rw [Array.getElem?_setIfInBounds_ne (by omega)]; exact c4
      · exact ⟨C, (heap_ne w _ v q).trans c1, c2, c3, c4⟩
    · have hx' := hnd.vs x hx
      exact ⟨(hoth hx'.blk (by decide) (by decide)).trans hx'.blk, hrow hx'.val (by decide) (by decide), hx'.ok, hx'.i1, hx'.i2⟩
theorem Bas.nodup {w : World} {p : Nat} {ns : List Nd} {c wt : Int} (h : Bas w p ns c wt) (i : Nat) : (p :: lev ns i).Nodup := by
  refine List.nodup_cons.2 ⟨fun hm => ?_, ?_⟩
  · obtain ⟨n, hn, e, _⟩ := lev_mem hm
    obtain ⟨C, c1, _⟩ := h.head
    obtain ⟨D, d1, _⟩ := (h.nd n hn).blk
    exact ty_ne c1 d1 (by decide) e
  · unfold lev
    exact h.nb.sublist (List.filter_sublist.map _)
theorem Bas.cellAt {w : World} {p : Nat} {ns : List Nd} {c wt : Int} (h : Bas w p ns c wt) {b i : Nat} (hi : i < 12) (hb : b = p ∨ ∃ n ∈ ns, n.b = b) : (∃ v, w.cell? ⟨b, 2 + i, none⟩ = some v) ∧ w.frozen? ⟨b, 2 + i, none⟩ = false := by
  rcases hb with rfl | ⟨n, hn, rfl⟩
  · obtain ⟨C, c1, c2, _⟩ := h.head
    exact ⟨⟨C[2 + i], by rw [cell_of c1]; exact Array.getElem?_eq_getElem (by omega)⟩, frozen_ofW c1 _⟩
  · obtain ⟨C, c1, c2, _⟩ := (h.nd n hn).blk
    exact ⟨⟨C[2 + i], by rw [cell_of c1]; exact Array.getElem?_eq_getElem (by omega)⟩, frozen_ofW c1 _⟩
/-- A new key that is being put into its levels. -/
structure LkS (w : World) (p : Nat) (ns : List Nd) (key : List Int) (n : Nd) (c wt : Int) (lv : Nat) (wx : World) : Prop where
  bas : Bas wx p (frt ns key ++ n :: bck ns key) c wt
  lvs : ∀ i, i < 12 → Chain wx i p (if i < lv then lev (frt ns key ++ n :: bck ns key) i else lev (frt ns key ++ bck ns key) i)
  pth : wx.heap[w.heap.size]? = some (.cells (pathA p ns key) 55 (0, 0))
  kp : Kept (FP p ns) w wx
  new : w.heap.size < n.b
  pin : pre p ns key lv = p ∨ ∃ m ∈ frt ns key, m.b = pre p ns key lv
theorem pre_in (p : Nat) (ns : List Nd) (key : List Int) (i : Nat) : pre p ns key i = p ∨ ∃ m ∈ frt ns key, m.b = pre p ns key i := by
  unfold pre
  rcases lastB_mem p (lev (frt ns key) i) with q | q
  · exact .inl q
  · obtain ⟨m, hm, e, _⟩ := lev_mem q
    exact .inr ⟨m, hm, e.symm⟩
theorem LkS.reads {w : World} {p : Nat} {ns : List Nd} {key : List Int} {n : Nd} {c wt : Int} {lv : Nat} {wx : World} (h : LkS w p ns key n c wt lv wx) (hl : lv < 12) : wx.cell? ⟨w.heap.size, lv, none⟩ = some (ptr (pre p ns key lv)) ∧ wx.cell? ⟨pre p ns key lv, 2 + lv, none⟩ = some (ptrO (lev (bck ns key) lv).head?) ∧ (∃ v, wx.cell? ⟨n.b, 2 + lv, none⟩ = some v) ∧ wx.frozen? ⟨n.b, 2 + lv, none⟩ = false := by
  refine ⟨?_, ?_, h.bas.cellAt hl (.inr ⟨n, by simp, rfl⟩)⟩
  · rw [cell_of h.pth]
    unfold pathA
    match lv, hl with
    | 0, _ => rfl
    | 1, _ => rfl
    | 2, _ => rfl
    | 3, _ => rfl
    | 4, _ => rfl
    | 5, _ => rfl
    | 6, _ => rfl
    | 7, _ => rfl
    | 8, _ => rfl
    | 9, _ => rfl
    | 10, _ => rfl
    | 11, _ => rfl
  · have := h.lvs lv hl
    rw [if_neg (by omega), lev_app] at this
    exact this.from.next
theorem LkS.step {w : World} {p : Nat} {ns : List Nd} {key : List Int} {n : Nd} {c wt : Int} {lv : Nat} {wx : World} (h : LkS w p ns key n c wt lv wx) (hl : lv < n.h) (hF : ∀ m ∈ ns, m.b < w.heap.size) (hp : p < w.heap.size) : LkS w p ns key n c wt (lv + 1) ((wx.setCell ⟨n.b, 2 + lv, none⟩ (ptrO (lev (bck ns key) lv).head?)).setCell ⟨pre p ns key lv, 2 + lv, none⟩ (ptr n.b)) := by
  have hnn : n ∈ frt ns key ++ n :: bck ns key := by simp
  have h12 : lv < 12 := by have := (h.bas.nd n hnn).h.2; omega
  have hpi := pre_in p ns key lv
  have hpb : pre p ns key lv = p ∨ ∃ m ∈ frt ns key ++ n :: bck ns key, m.b = pre p ns key lv := by
    rcases hpi with q | ⟨m, hm, e⟩
    · exact .inl q
    · exact .inr ⟨m, List.mem_append.2 (.inl hm), e⟩
  have hpF : FP p ns (pre p ns key lv) := by
    rcases hpi with q | ⟨m, hm, e⟩
    · exact .inl q
    · exact .inr ⟨m, (frt_lt m hm).1, .inl e.symm⟩
  have hplt : pre p ns key lv < w.heap.size := by
    rcases hpi with q | ⟨m, hm, e⟩
    · omega
    · have := hF m (frt_lt m hm).1; omega
  have hnew := h.new
  have b1 := (h.bas.next h12 (.inr ⟨n, hnn, rfl⟩) (ptrO (lev (bck ns key) lv).head?)).next h12 hpb (ptr n.b)
  refine ⟨b1, fun i hi => ?_, ?_, (h.kp.set (.inr (by omega))).set (.inl hpF), h.new, pre_in p ns key (lv + 1)⟩
  · have hc := h.lvs i hi
    by_cases q : i = lv
    · subst q
      rw [if_neg (by omega), lev_app] at hc
      rw [if_pos (by omega), lev_app]
      have e : lev (n :: bck ns key) i = n.b :: lev (bck ns key) i := by simp [lev, hl]
      rw [e]
      have hnd := h.bas.nodup i
      rw [lev_app, e] at hnd
      have hnl : ∀ {l : List Nd}, (∀ m ∈ l, m ∈ ns) → n.b ∉ lev l i := fun {l} hl' hm => by
        obtain ⟨m, hm', e', _⟩ := lev_mem hm
        have := hF m (hl' m hm')
        omega
      refine chain_put hc (by omega) (hnl fun m hm => (frt_lt m hm).1) (hnl fun m hm => (bck_ge m hm).1) ?_ ?_
      · exact hnd.sublist (List.Sublist.cons_cons _ (List.Sublist.append (List.Sublist.refl _) (List.sublist_cons_self _ _)))
      · obtain ⟨⟨v, hv⟩, _⟩ := h.bas.cellAt h12 (.inr ⟨n, hnn, rfl⟩)
        rw [hv]; rfl
    · have e : (if i < lv + 1 then lev (frt ns key ++ n :: bck ns key) i else lev (frt ns key ++ bck ns key) i) = (if i < lv then lev (frt ns key ++ n :: bck ns key) i else lev (frt ns key ++ bck ns key) i) := by
        by_cases r : i < lv
        · rw [if_pos r, if_pos (by omega)]
        · rw [if_neg r, if_neg (by omega)]
      rw [e]
      refine hc.keep fun k hk => ?_
      have k1 : ∀ {W : World} {b : Nat} {v : Value}, (W.setCell ⟨b, 2 + lv, none⟩ v).cell? ⟨k, 2 + i, none⟩ = W.cell? ⟨k, 2 + i, none⟩ := fun {W b v} => World.cell?_setCell_other _ _ _ _ (by intro e; simp only [Addr.mk.injEq, and_true] at e; omega)
      rw [k1, k1]
  · have h1 : w.heap.size ≠ n.b := by omega
    have h2 : w.heap.size ≠ pre p ns key lv := by omega
    rw [heap_ne _ _ _ h2, heap_ne _ _ _ h1]
    exact h.pth
theorem LkS.drew {w : World} {p : Nat} {ns : List Nd} {key : List Int} {n : Nd} {c wt : Int} {lv : Nat} {wx : World} (h : LkS w p ns key n c wt lv wx) : LkS w p ns key n c wt lv wx.drew :=
  ⟨h.bas.keep (fun _ _ => rfl) rfl, fun i hi => (h.lvs i hi).keep (fun _ _ => rfl), h.pth, ⟨h.kp.os, h.kp.tape, h.kp.output, h.kp.size, h.kp.block⟩, h.new, h.pin⟩
theorem LkS.done {w : World} {p : Nat} {ns : List Nd} {key : List Int} {n : Nd} {c wt : Int} {wx : World} (h : LkS w p ns key n c wt n.h wx) : MemAt wx p (frt ns key ++ n :: bck ns key) c wt := by
  refine ⟨h.bas, fun i hi => ?_⟩
  have := h.lvs i hi
  by_cases q : i < n.h
  · rw [if_pos q] at this
    exact this
  · rw [if_neg q] at this
    have e : lev (frt ns key ++ n :: bck ns key) i = lev (frt ns key ++ bck ns key) i := by
      rw [lev_app, lev_app]
      congr 1
      simp [lev, q]
    rw [e]
    exact this
theorem ordN_put {ns : List Nd} {key : List Int} (h : ordN ns) (hno : ∀ n ∈ ns, n.key ≠ key) {n : Nd} (hn : n.key = key) (hv : n.vs.Pairwise fun a b => a.seq < b.seq) : ordN (frt ns key ++ n :: bck ns key) := by
  have e := frt_bck h.1 key
  have h1 := h.1
  rw [e] at h1
  obtain ⟨a1, a2, a3⟩ := List.pairwise_append.1 h1
  have hB : ∀ b ∈ bck ns key, cmp key b.key < 0 := fun b hb => by
    have h1 := bck_ge b hb
    have h2 : cmp b.key key ≠ 0 := fun e => hno b h1.1 (cmp_zero.1 e)
    have h3 := cmp_neg b.key key
    omega
  refine ⟨List.pairwise_append.2 ⟨a1, List.pairwise_cons.2 ⟨fun b hb => by rw [hn]; exact hB b hb, a2⟩, fun a ha b hb => ?_⟩, fun m hm => ?_⟩
  · rcases List.mem_cons.1 hb with rfl | hb
    · rw [hn]; exact (frt_lt a ha).2
    · exact a3 a ha b hb
  · rcases List.mem_append.1 hm with q | q
    · exact h.2 m (frt_lt m q).1
    · rcases List.mem_cons.1 q with rfl | q
      · exact hv
      · exact h.2 m (bck_ge m q).1
theorem LkS.begin {w w3 : World} {p : Nat} {ns : List Nd} {c wt : Int} (h : MemAt w p ns c wt) {key : List Int} (hno : ∀ n ∈ ns, n.key ≠ key) {nb hh : Nat} {kv : Value} (hb : Below w.heap.size w w3) (hn : w.heap.size < nb) (hp : w3.heap[w.heap.size]? = some (.cells (pathA p ns key) 55 (0, 0))) (hblk : w3.heap[nb]? = some (.cells #[kv, .slice none 0 0, .pointer none, .pointer none, .pointer none, .pointer none, .pointer none, .pointer none, .pointer none, .pointer none, .pointer none, .pointer none, .pointer none, .pointer none] 57 (0, 0))) (hk : Row 0 w3 kv key) (hok : Okb key) (hh1 : 1 ≤ hh ∧ hh ≤ 12) : LkS w p ns key ⟨nb, key, kv, hh, [], .slice none 0 0⟩ c wt 0 w3 := by
  have hm := h.later hb
  have e := frt_bck h.bas.ord.1 key
  have hin : ∀ m, m ∈ frt ns key ∨ m ∈ bck ns key → m ∈ ns := fun m q => by
    rcases q with q | q
    · exact (frt_lt m q).1
    · exact (bck_ge m q).1
  have hlt : ∀ m ∈ ns, m.b < nb := fun m hm' => by have := h.bas.lt (.inr ⟨m, hm', .inl rfl⟩ : FP p ns m.b); omega
  refine ⟨⟨hm.bas.tab, hm.bas.head, fun m hm' => ?_, ordN_put h.bas.ord hno rfl List.Pairwise.nil, ?_, ?_⟩, fun i hi => ?_, hp, Kept.of_below hb, hn, pre_in _ _ _ _⟩
  · rcases List.mem_append.1 hm' with q | q
    · exact hm.bas.nd m (hin m (.inl q))
    · rcases List.mem_cons.1 q with rfl | q
      · exact ⟨⟨_, hblk, rfl, rfl, rfl⟩, hk, hok, ⟨rfl, .inl ⟨rfl, rfl⟩⟩, (fun v hv => by cases hv), hh1⟩
      · exact hm.bas.nd m (hin m (.inr q))
  · have h1 := h.bas.nb
    rw [e, List.map_append] at h1
    rw [List.map_append, List.map_cons, List.nodup_append] at *
    obtain ⟨n1, n2, n3⟩ := h1
    refine ⟨n1, List.nodup_cons.2 ⟨fun q => ?_, n2⟩, fun a ha b hb' => ?_⟩
    · obtain ⟨m, hm', e'⟩ := List.mem_map.1 q
      have := hlt m (hin m (.inr hm'))
      simp only at e'
      omega
    · rcases List.mem_cons.1 hb' with rfl | q
      · obtain ⟨m, hm', e'⟩ := List.mem_map.1 ha
        have := hlt m (hin m (.inl hm'))
        omega
      · exact n3 a ha b q
  · have h1 := h.bas.rw
    rw [e] at h1
    obtain ⟨n1, n2, n3⟩ := List.pairwise_append.1 h1
    refine List.pairwise_append.2 ⟨n1, List.pairwise_cons.2 ⟨fun b hb' k hk => (by cases hk), n2⟩, fun a ha b hb' => ?_⟩
    rcases List.mem_cons.1 hb' with rfl | q
    · intro k _ hk; cases hk
    · exact n3 a ha b q
  · rw [if_neg (by omega), ← e]
    exact hm.lv i hi

set_option maxHeartbeats 4000000 in
set_option maxRecDepth 100000 in
theorem link_m {w : World} {p : Nat} {ns : List Nd} {c wt : Int} (h : MemAt w p ns c wt) {ka : Option Addr} {kl kc : Nat} {key : List Int} (hk : Sl w ka kl kc key) (hkl : kl ≤ 3000) (hno : ∀ n ∈ ns, n.key ≠ key) : Calls Tryd.prog 39 #[.agg (pathA p ns key), .slice ka kl kc] w fun e w' => ∃ nb kv hh, e = .returned (ptr nb) ∧ MemAt w' p (frt ns key ++ ⟨nb, key, kv, hh, [], .slice none 0 0⟩ :: bck ns key) c wt ∧ Kept (FP p ns) w w' ∧ ∀ k, NF ⟨nb, key, kv, hh, [], .slice none 0 0⟩ k → w.heap.size ≤ k := by
  obtain ⟨W1, hW1⟩ : ∃ W1, W1 = w.alloc (.cells #[.pointer (some ⟨pre p ns key 0, 0, none⟩), .pointer (some ⟨pre p ns key 1, 0, none⟩), .pointer (some ⟨pre p ns key 2, 0, none⟩), .pointer (some ⟨pre p ns key 3, 0, none⟩), .pointer (some ⟨pre p ns key 4, 0, none⟩), .pointer (some ⟨pre p ns key 5, 0, none⟩), .pointer (some ⟨pre p ns key 6, 0, none⟩), .pointer (some ⟨pre p ns key 7, 0, none⟩), .pointer (some ⟨pre p ns key 8, 0, none⟩), .pointer (some ⟨pre p ns key 9, 0, none⟩), .pointer (some ⟨pre p ns key 10, 0, none⟩), .pointer (some ⟨pre p ns key 11, 0, none⟩)] 55) := ⟨_, rfl⟩
  have b1 : Below w.heap.size w W1 := by rw [hW1]; exact (Below.refl _ w).alloc (Nat.le_refl _) _
  have s1 : W1.heap.size = w.heap.size + 1 := by rw [hW1]; simp
  have p1 : W1.heap[w.heap.size]? = some (.cells (pathA p ns key) 55 (0, 0)) := by rw [hW1]; exact heap_alloc_new w _
  have hcl := clone_n (hk.later b1) (by omega)
  have HH : Hid (MemAt w p ns c wt ∧ Sl w ka kl kc key ∧ kl ≤ 3000 ∧ (∀ n ∈ ns, n.key ≠ key) ∧ Below w.heap.size w W1 ∧ W1.heap.size = w.heap.size + 1 ∧ W1.heap[w.heap.size]? = some (.cells (pathA p ns key) 55 (0, 0))) := ⟨h, hk, hkl, hno, b1, s1, p1⟩
  have HW1 := hid hW1
  clear h hk hkl hno b1 s1 p1 hW1
  unfold pathA ptr
  go_enter Tryd.func39, Tryd.ntmps39
  go_upto_region 1 with fail
  rw [← HW1.out]
  go_wp2_with fail
  refine hcl.mono ?_
  rintro e w2 ⟨kv, rfl, r2, b2⟩
  clear hcl
  obtain ⟨a2, c2, hkv, sk2⟩ := Sl.ofRow r2 HH.out.2.1.2.1
  subst hkv
  obtain ⟨W3, hW3⟩ : ∃ W3, W3 = w2.alloc (.cells #[.slice a2 key.length c2, .slice none 0 0, .pointer none, .pointer none, .pointer none, .pointer none, .pointer none, .pointer none, .pointer none, .pointer none, .pointer none, .pointer none, .pointer none, .pointer none] 57) := ⟨_, rfl⟩
  have HW3 := hid hW3
  have b3 : Below w2.heap.size w2 W3 := by rw [hW3]; exact (Below.refl _ w2).alloc (Nat.le_refl _) _
  have B3 : Hid (Below w.heap.size w W3 ∧ w.heap.size + 1 ≤ w2.heap.size ∧ Below W1.heap.size W1 W3) := by
    have hc1 := HH.out.2.2.2.2.1.trans (b2.mono HH.out.2.2.2.2.1.size)
    exact ⟨hc1.trans (b3.mono hc1.size), by have := b2.size; have := HH.out.2.2.2.2.2.1; omega, b2.trans (b3.mono b2.size)⟩
  have K3 : Hid (W3.heap[w2.heap.size]? = some (.cells #[.slice a2 key.length c2, .slice none 0 0, .pointer none, .pointer none, .pointer none, .pointer none, .pointer none, .pointer none, .pointer none, .pointer none, .pointer none, .pointer none, .pointer none, .pointer none] 57 (0, 0)) ∧ Row W1.heap.size W3 (.slice a2 key.length c2) key) := ⟨by rw [hW3]; exact heap_alloc_new w2 _, r2.later b3⟩
  have hht := height_m ((HH.out.1.later B3.out.1).bas.tab) (HH.out.2.1.later B3.out.1)
  clear b2 b3 r2 sk2 hW3
  go_upto_region 2 with fail
  rw [← HW3.out]
  go_wp2_with fail
  refine hht.mono ?_
  rintro e w' ⟨⟨hh, h1, h2, rfl⟩, hw⟩
  obtain rfl := hw.symm
  clear hht
  have H0 : Hid (LkS w p ns key ⟨w2.heap.size, key, .slice a2 key.length c2, hh, [], .slice none 0 0⟩ c wt 0 W3) :=
    LkS.begin HH.out.1 HH.out.2.2.2.1 B3.out.1 (by have := B3.out.2.1; omega) ((B3.out.2.2.block _ (by have := HH.out.2.2.2.2.2.1; omega)).trans HH.out.2.2.2.2.2.2) K3.out.1 (K3.out.2.base (Nat.zero_le _)) HH.out.2.1.2.1 ⟨h1, h2⟩
  have HF : Hid ((∀ m ∈ ns, m.b < w.heap.size) ∧ p < w.heap.size ∧ 1 ≤ hh ∧ hh ≤ 12) := ⟨fun m hm => HH.out.1.bas.lt (.inr ⟨m, hm, .inl rfl⟩), HH.out.1.bas.lt (.inl rfl), h1, h2⟩
  have HO : Hid (w.heap.size < w2.heap.size ∧ ∀ k, Ows (.slice a2 key.length c2) k → w.heap.size ≤ k) := ⟨by have := B3.out.2.1; omega, fun k hk => by
    have := (World.ownsRow.lt K3.out.2 k hk).1
    have := HH.out.2.2.2.2.2.1
    omega⟩
  have h2' : (hh : Int) ≤ 12 := by omega
  generalize w2.heap.size = nb at H0 HO K3 B3 HW3 ⊢
  clear HH HW1 HW3 K3 B3 hw
  go_wp2_with fail
  go_loopg [6, 13] hh (fun g _ i wx => ∃ j : Nat, j + g = hh ∧ i = .int .i64 (j : Int) ∧ Hid (LkS w p ns key ⟨nb, key, .slice a2 key.length c2, hh, [], .slice none 0 0⟩ c wt j wx))
  case atStart => exact ⟨0, by omega, rfl, H0⟩
  case round =>
    obtain ⟨j, hj, rfl, HK⟩ := hrel
    by_cases hlt : j < hh
    · have hlt' : (j : Int) < (hh : Int) := by omega
      have hj12 : (j : Int) < 12 := by omega
      obtain ⟨q0, q1, ⟨x, q2⟩, f2⟩ := HK.out.reads (by omega)
      simp only at q2 f2
      have HST := hid (HK.out.step (show j < _ from hlt) HF.out.1 HF.out.2.1)
      have hplt : pre p ns key j < w.heap.size := by
        rcases pre_in p ns key j with q | ⟨m, hm, e⟩
        · rw [q]; exact HF.out.2.1
        · have := HF.out.1 m (frt_lt m hm).1; omega
      have hnew := HO.out.1
      have hfp : wr.frozen? ⟨pre p ns key j, 2 + j, none⟩ = false := by
        refine (HK.out.bas.cellAt (by omega) ?_).2
        rcases pre_in p ns key j with q | ⟨m, hm, e⟩
        · exact .inl q
        · exact .inr ⟨m, List.mem_append.2 (.inl hm), e⟩
      obtain ⟨o, ho⟩ : ∃ o, ptrO (lev (bck ns key) j).head? = .pointer o := by
        cases (lev (bck ns key) j).head? with
        | none => exact ⟨_, rfl⟩
        | some b => exact ⟨_, rfl⟩
      rw [ho] at q1 HST
      unfold ptr at q0 HST
      generalize pre p ns key j = pb at q0 q1 HST hplt hfp
      have r0 : (wr.drew.setCell ⟨nb, 2 + j, none⟩ (.pointer o)).cell? ⟨w.heap.size, j, none⟩ = some (.pointer (some ⟨pb, 0, none⟩)) := by rw [cell_blk (by omega)]; exact q0
      have r1 : (wr.drew.setCell ⟨nb, 2 + j, none⟩ (.pointer o)).cell? ⟨pb, 2 + j, none⟩ = some (.pointer o) := by rw [cell_blk (by omega)]; exact q1
      have r2 : (wr.drew.setCell ⟨nb, 2 + j, none⟩ (.pointer o)).frozen? ⟨pb, 2 + j, none⟩ = false := by rw [World.frozen?_setCell]; exact hfp
      have hn1 : nb ≠ pb := by omega
      have hn2 : nb ≠ w.heap.size := by omega
      obtain ⟨GK, HG⟩ : ∃ g, Hid (g < gk ∧ j + 1 + g = hh) := ⟨gk - 1, by omega, by omega⟩
      clear ho hplt hnew hj HK
      go_wp2_with fail
      go_region_law (fail)
      go_wp2_with fail
      go_roundg GK
      case measure => exact HG.out.1
      case rel => exact ⟨j + 1, HG.out.2, by go_num, HST.out.drew⟩
    · have hlt' : (hh : Int) ≤ (j : Int) := by omega
      obtain rfl : j = hh := by omega
      have HD := hid HK.out.done
      have HKP := hid HK.out.kp
      clear hj HK hlt
      go_wp2_with fail
      refine bodyPost_ret (v := ptr nb) (by simp [results, Tryd.results39, go_sem, ptr]) rfl ⟨nb, .slice a2 key.length c2, j, rfl, HD.out, HKP.out, fun k hk => ?_⟩
      rcases hk with rfl | q | q | ⟨v, hv, _⟩
      · exact Nat.le_of_lt HO.out.1
      · exact HO.out.2 k q
      · cases q
      · cases hv
end Go.Proofs.YtaefddnmldbgiaaDoor

/- What slices.Insert of one pointer into a row of pointers of one's own answers. -/
namespace Go.Proofs.YtaefddnmldbgiaaDoor
open Go.RowKit Go.Lib
set_option linter.unusedVariables false
set_option linter.unusedSimpArgs false

theorem pver_info : (Tryd.prog.info? 62).map (fun i => (i.zero, i.size, i.bytes)) = some (some (.pointer none), 1, 8) := by kernel_rfl
theorem pver_size : (Tryd.prog.info? 62).map (·.size) = some 1 := by kernel_rfl
/-- The row behind the shift. -/
def sft (cur : Array Value) (i : Nat) (cs : List Value) : Array Value := (cur.toList.take (i + 1) ++ cs.drop i ++ cur.toList.drop (i + 1 + (cs.drop i).length)).toArray
def stt (cur : Array Value) (i : Nat) (u : Value) : Array Value := (cur.toList.take i ++ [u] ++ cur.toList.drop (i + 1)).toArray
theorem sft_size {cur : Array Value} {i : Nat} {cs : List Value} (h : cs.length + 1 ≤ cur.size) (hi : i ≤ cs.length) : (sft cur i cs).size = cur.size := by
  simp [sft]
  omega
theorem stt_size {cur : Array Value} {i : Nat} {u : Value} (h : i + 1 ≤ cur.size) : (stt cur i u).size = cur.size := by
  simp [stt]
  omega
theorem sft_take {cur : Array Value} {i : Nat} {cs : List Value} (u : Value) (ht : cur.toList.take cs.length = cs) (h : cs.length + 1 ≤ cur.size) (hi : i ≤ cs.length) : (stt (sft cur i cs) i u).toList.take (cs.length + 1) = cs.take i ++ u :: cs.drop i := by
  have e1 : cur.toList.take i = cs.take i := by rw [← ht, List.take_take, Nat.min_eq_left hi]
  have hl : (cur.toList.take i).length = i := by rw [List.length_take]; simp; omega
  have e2 : (sft cur i cs).toList.take i = cs.take i := by
    unfold sft
    simp only [List.toList_toArray, List.append_assoc]
    rw [List.take_append_of_le_length (by rw [List.length_take]; simp; omega), List.take_take, Nat.min_eq_left (by omega)]
    exact e1
  have e3 : (sft cur i cs).toList.drop (i + 1) = cs.drop i ++ cur.toList.drop (i + 1 + (cs.drop i).length) := by
    unfold sft
    simp only [List.toList_toArray, List.append_assoc]
    rw [List.drop_left' (by rw [List.length_take]; simp; omega)]
  unfold stt
  rw [e2, e3]
  have : cs.take i ++ [u] ++ (cs.drop i ++ cur.toList.drop (i + 1 + (cs.drop i).length)) = (cs.take i ++ u :: cs.drop i) ++ cur.toList.drop (i + 1 + (cs.drop i).length) := by simp
  rw [this]
  rw [List.take_left' (by simp; omega)]

set_option maxHeartbeats 4000000 in
set_option maxRecDepth 100000 in
/-- There is room. -/
theorem ins_shift {w : World} {b n c i vb : Nat} {cs : List Value} {u : Value} {cur : Array Value} (hi : i < n) (hroom : n + 1 ≤ c) (hc63 : c ≤ 9223372036854775807) (hvb : vb ≠ b) (hcl : cs.length = n)
    (hg : w.heap[b]? = some (.cells cur 62 (0, 0))) (hcur : cur.size = c) (htk : cur.toList.take n = cs) (hgv : w.heap[vb]? = some (.cells #[u] 62 (0, 0))) (h1c : ∀ v ∈ cs, v.oneCell' = true) (h1v : u.oneCell' = true) :
    Calls Tryd.prog 48 #[.slice (some ⟨b, 0, none⟩) n c, .int .i64 (i : Int), .slice (some ⟨vb, 0, none⟩) 1 1] w fun e w' =>
      e = .returned (.slice (some ⟨b, 0, none⟩) (n + 1) c) ∧ w'.heap = ((w.setRow b (sft cur i cs)).setRow b (stt (sft cur i cs) i u)).heap ∧ w'.os = w.os ∧ w'.tape = w.tape ∧ w'.output = w.output := by
  have hz2 : ¬ ((i : Int) = (n : Int)) := by omega
  have hcell : ∀ j v, cs[j]? = some v → w.cell? ⟨b, j, none⟩ = some v := fun j v hj => by
    rw [cell_of hg]
    rw [← htk, List.getElem?_take] at hj
    split at hj
    · simpa using hj
    · cases hj
  have hov : ∀ lb cb, (callFunc 54 #[.slice (some ⟨vb, 0, none⟩) 1 1, .slice (some ⟨b, i + 1, none⟩) lb cb]).run Tryd.prog w = .ok (.value (.bool false)) w := fun lb cb => by
    rw [run_callFunc_extern Tryd.func54 (by kernel_rfl) (by kernel_rfl) (by kernel_rfl) (e := Extern.SlicesOverlaps.overlaps #[53, 53] #[4]) (by kernel_rfl),
      Lib.run_overlaps_apart w 53 4 62 Tryd.underlying53 1 Tryd.sizeOf62 ⟨vb, 0, none⟩ ⟨b, i + 1, none⟩ 1 1 lb cb hvb 62 62 1 c (by simp [World.shape?, hgv]) (by simp [World.shape?, hg, hcur]) (by omega) (by simp [World.frozen?, hgv]) (by simp [World.frozen?, hgv])]
    rfl
  have hdl : (cs.drop i).length = n - i := by rw [List.length_drop, hcl]
  have hcp1 : ∀ ty dc sc, (Builtin.copy_ #[53, 53] ty #[.slice (some ⟨b, i + 1, none⟩) (n - i) dc, .slice (some ⟨b, i, none⟩) (n + 1 - i) sc]).run Tryd.prog w.drew = .ok (goInt (cs.drop i).length) (w.drew.setRow b (sft cur i cs)) := fun ty dc sc =>
    run_copy_row Tryd.prog w.drew _ _ ty 62 b (i + 1) (n - i) dc ⟨b, i, none⟩ (n + 1 - i) sc cur 62 (cs.drop i) Tryd.underlying53 pver_size hg (by rw [hdl]; simp only [Nat.min_def]; split <;> omega)
      (fun j v hj => by rw [Addr.add_lit]; exact hcell (i + j) v (by rwa [List.getElem?_drop] at hj)) (by omega) (fun v hv => h1c v (List.mem_of_mem_drop hv))
  obtain ⟨W1, hW1⟩ : ∃ W1, W1 = w.drew.setRow b (sft cur i cs) := ⟨_, rfl⟩
  have hg1 : W1.heap[b]? = some (.cells (sft cur i cs) 62 (0, 0)) := by rw [hW1]; exact setRow_heap _ _ _ _ _ _ hg
  have hgv1 : W1.heap[vb]? = some (.cells #[u] 62 (0, 0)) := by rw [hW1]; exact (setRow_other w.drew _ _ _ hvb).trans hgv
  have hcp2 : ∀ (W : World), W.heap = W1.heap → ∀ ty dc, (Builtin.copy_ #[53, 53] ty #[.slice (some ⟨b, i, none⟩) (n + 1 - i) dc, .slice (some ⟨vb, 0, none⟩) 1 1]).run Tryd.prog W = .ok (goInt 1) (W.setRow b (stt (sft cur i cs) i u)) := fun W hW ty dc =>
    run_copy_row Tryd.prog W _ _ ty 62 b i (n + 1 - i) dc ⟨vb, 0, none⟩ 1 1 (sft cur i cs) 62 [u] Tryd.underlying53 pver_size (by rw [hW]; exact hg1) (by simp only [Nat.min_def]; split <;> simp <;> omega)
      (fun j v hj => by
        rw [Addr.add_lit, cell_of (show W.heap[vb]? = _ by rw [hW]; exact hgv1)]
        cases j with
        | zero => simpa using hj
        | succ j => simp at hj) (by rw [sft_size (by omega) (by omega)]; simp; omega) (fun v hv => by rw [List.mem_singleton.1 hv]; exact h1v)
  have hb1 : (0 : Int) ≤ (i : Int) + 1 := by omega
  have hin : i ≤ n := by omega
  have htn : ((i : Int) + 1).toNat = i + 1 := by omega
  have hb2 : ¬ (c = i + 1) := by omega
  have hb3 : (i : Int) ≤ (n : Int) + 1 := by omega
  have hb4 : ¬ (c = i) := by omega
  have hw1 : IntKind.i64.wrap ((i : Int) + 1) = (i : Int) + 1 := by rw [IntKind.wrap_i64]; omega
  have mixed : Tryd.prog.follows .mixedOrders = true := by kernel_rfl
  rw [← hW1] at hcp1
  clear hg hcur htk hgv hcell h1c h1v hg1 hgv1
  go_enter Tryd.func48, Tryd.ntmps48
  go_wp2_with (simp only [hov])
  go_region_law_o (refine step_copy_runI rfl _ _ 53 53 rfl _ _ (by simp [Act.eval, Act.put]) (by simp [Act.eval, Act.put]) (hcp1 _ _ _) ?_)
  go_wp2_with (at_builtin; refine wpList_copy_runI _ rfl _ _ 53 53 rfl _ _ rfl rfl (hcp2 _ rfl _ _) ?_)
  go_ret
  exact ⟨rfl, rfl, rfl, rfl, rfl⟩

set_option maxHeartbeats 4000000 in
set_option maxRecDepth 100000 in
/-- There is no room: a new row. -/
theorem ins_grow {w : World} {b n c i vb : Nat} {cs : List Value} {u : Value} {cur : Array Value} (hi : i < n) (hnc : n ≤ c) (hroom : c < n + 1) (hn : n ≤ 100000) (hcl : cs.length = n)
    (hg : w.heap[b]? = some (.cells cur 62 (0, 0))) (hcur : cur.size = c) (htk : cur.toList.take n = cs) (hgv : w.heap[vb]? = some (.cells #[u] 62 (0, 0))) (h1c : ∀ v ∈ cs, v.oneCell' = true) (h1v : u.oneCell' = true) :
    Calls Tryd.prog 48 #[.slice (some ⟨b, 0, none⟩) n c, .int .i64 (i : Int), .slice (some ⟨vb, 0, none⟩) 1 1] w fun e w' =>
      ∃ G ROW, n + 1 ≤ G ∧ G ≤ maxLen ∧ ROW.size = G ∧ ROW.toList.take (n + 1) = cs.take i ++ u :: cs.drop i ∧ e = .returned (.slice (some ⟨w.heap.size, 0, none⟩) (n + 1) G) ∧ w'.heap[w.heap.size]? = some (.cells ROW 62 (0, 0)) ∧ Below w.heap.size w w' := by
  obtain ⟨i0, hi0, hz0, hzs, hzb⟩ := info_parts pver_info
  have hz2 : ¬ ((i : Int) = (n : Int)) := by omega
  have hz3 : (c : Int) < (n : Int) + 1 := by omega
  have hbw : b < w.heap.size := (Array.getElem?_eq_some_iff.1 hg).1
  have hvw : vb < w.heap.size := (Array.getElem?_eq_some_iff.1 hgv).1
  have hcell : ∀ j v, cs[j]? = some v → w.cell? ⟨b, j, none⟩ = some v := fun j v hj => by
    rw [cell_of hg]
    rw [← htk, List.getElem?_take] at hj
    split at hj
    · simpa using hj
    · cases hj
  have hkk : (n : Int) + 1 - (i : Int) = ((n + 1 - i : Nat) : Int) := by omega
  have hik : i + (n + 1 - i) = n + 1 := by omega
  have hold : (Builtin.firstCells i0.size i (.slice (some ⟨b, 0, none⟩) i c)).run Tryd.prog w.drew = .ok (cs.take i).toArray w.drew := by
    rw [hzs]
    exact run_firstCells_some w.drew 1 i ⟨b, 0, none⟩ i c (cs.take i) (by rw [List.length_take]; omega) (fun j v hj => by
      rw [Addr.add_lit, Nat.zero_add]
      rw [List.getElem?_take] at hj
      split at hj
      · exact hcell j v hj
      · cases hj)
  have hrz : ∀ ty, (Builtin.append_ #[53, 3] ty #[.slice (some ⟨b, 0, none⟩) i c, .int .i64 ((n : Int) + 1 - (i : Int))]).run Tryd.prog w =
      .ok (.slice (some ⟨w.heap.size, 0, none⟩) (n + 1) (grownCap w (n + 1) c 62)) (w.drew.alloc (.cells ((cs.take i).toArray ++ Builtin.zeroCells (Value.pointer none).cells (n + 1 - i) ++ Builtin.zeroCells (Value.pointer none).cells (grownCap w (n + 1) c 62 - (n + 1))) 62)) := fun ty => by
    have h := Lib.run_append_grow_zeros w 53 3 ty 62 i0 _ .i64 .i64 Tryd.underlying53 Tryd.underlying3 hi0 hz0 (some ⟨b, 0, none⟩) i c (cs.take i) hold (n + 1 - i) (by omega) (by omega) (by omega) (by omega) (by rw [hzb]; omega) (by rw [hzb, hik]; exact growslice_fits hroom (by omega))
    rw [hik] at h
    rw [hkk]
    exact h
  obtain ⟨G, hG⟩ : ∃ G, G = grownCap w (n + 1) c 62 := ⟨_, rfl⟩
  obtain ⟨ROW, hROW⟩ : ∃ ROW : Array Value, ROW = (cs.take i).toArray ++ Builtin.zeroCells (Value.pointer none).cells (n + 1 - i) ++ Builtin.zeroCells (Value.pointer none).cells (G - (n + 1)) := ⟨_, rfl⟩
  rw [← hG] at hrz
  rw [← hROW] at hrz
  have hGn : n + 1 ≤ G := by rw [hG]; exact grownCap_ge w _ _ _
  have hGm : G ≤ maxLen := by rw [hG]; exact grownCap_le_maxLen w (n + 1) c 62 (by unfold maxLen; omega)
  have hG63 : G ≤ 9223372036854775807 := by unfold maxLen at hGm; omega
  have hRs : ROW.size = G := by
    rw [hROW]
    simp [Builtin.zeroCells, Value.cells]
    omega
  have hRt : ROW.toList.take i = cs.take i := by
    rw [hROW]
    simp only [Array.toList_append, List.append_assoc, List.toList_toArray]
    rw [List.take_left' (by rw [List.length_take]; omega)]
  obtain ⟨R2, hR2⟩ : ∃ R2 : Array Value, R2 = stt ROW i u := ⟨_, rfl⟩
  have hR2s : R2.size = G := by rw [hR2, stt_size (by omega)]; exact hRs
  have hdl : (cs.drop i).length = n - i := by rw [List.length_drop, hcl]
  obtain ⟨R3, hR3⟩ : ∃ R3 : Array Value, R3 = (R2.toList.take (i + 1) ++ cs.drop i ++ R2.toList.drop (i + 1 + (cs.drop i).length)).toArray := ⟨_, rfl⟩
  have hR3s : R3.size = G := by rw [hR3]; simp; omega
  have hR3t : R3.toList.take (n + 1) = cs.take i ++ u :: cs.drop i := by
    have e1 : R2.toList.take (i + 1) = cs.take i ++ [u] := by
      rw [hR2]
      unfold stt
      simp only [List.toList_toArray]
      rw [List.take_left' (by simp; omega), hRt]
    rw [hR3]
    simp only [List.toList_toArray]
    rw [e1, List.take_left' (by simp; omega)]
    simp
  obtain ⟨W1, hW1⟩ : ∃ W1, W1 = w.drew.alloc (.cells ROW 62) := ⟨_, rfl⟩
  rw [← hW1] at hrz
  have hgN : W1.heap[w.heap.size]? = some (.cells ROW 62 (0, 0)) := by rw [hW1]; exact heap_alloc_new w.drew _
  have hgv1 : W1.heap[vb]? = some (.cells #[u] 62 (0, 0)) := by rw [hW1]; exact (Below.heap_alloc w.drew _ vb hvw).trans hgv
  have hgb1 : W1.heap[b]? = some (.cells cur 62 (0, 0)) := by rw [hW1]; exact (Below.heap_alloc w.drew _ b hbw).trans hg
  have hcpA : ∀ (W : World), W.heap = W1.heap → ∀ ty dc, (Builtin.copy_ #[53, 53] ty #[.slice (some ⟨w.heap.size, i, none⟩) (n + 1 - i) dc, .slice (some ⟨vb, 0, none⟩) 1 1]).run Tryd.prog W = .ok (goInt 1) (W.setRow w.heap.size R2) := fun W hW ty dc => by
    have h := run_copy_row Tryd.prog W 53 53 ty 62 w.heap.size i (n + 1 - i) dc ⟨vb, 0, none⟩ 1 1 ROW 62 [u] Tryd.underlying53 pver_size (by rw [hW]; exact hgN) (by simp only [Nat.min_def]; split <;> simp <;> omega)
      (fun j v hj => by
        rw [Addr.add_lit, cell_of (show W.heap[vb]? = _ by rw [hW]; exact hgv1)]
        cases j with
        | zero => simpa using hj
        | succ j => simp at hj) (by simp; omega) (fun v hv => by rw [List.mem_singleton.1 hv]; exact h1v)
    rw [hR2]
    exact h
  have hbN : b ≠ w.heap.size := by omega
  have hcpB : ∀ (W : World), W.heap = (W1.setRow w.heap.size R2).heap → ∀ ty dc sc, (Builtin.copy_ #[53, 53] ty #[.slice (some ⟨w.heap.size, i + 1, none⟩) (n - i) dc, .slice (some ⟨b, i, none⟩) (n - i) sc]).run Tryd.prog W = .ok (goInt (cs.drop i).length) (W.setRow w.heap.size R3) := fun W hW ty dc sc => by
    have h := run_copy_row Tryd.prog W 53 53 ty 62 w.heap.size (i + 1) (n - i) dc ⟨b, i, none⟩ (n - i) sc R2 62 (cs.drop i) Tryd.underlying53 pver_size (by rw [hW]; exact setRow_heap _ _ _ _ _ _ hgN) (by rw [hdl]; simp only [Nat.min_def]; split <;> omega)
      (fun j v hj => by
        rw [Addr.add_lit, cell_of (show W.heap[b]? = some (.cells cur 62 (0, 0)) by rw [hW]; exact (setRow_other W1 _ _ _ hbN).trans hgb1)]
        have := hcell (i + j) v (by rwa [List.getElem?_drop] at hj)
        rwa [cell_of hg] at this) (by omega) (fun v hv => h1c v (List.mem_of_mem_drop hv))
    rw [hR3]
    exact h
  have hGi : ¬ (G = i) := by omega
  have hGim : ¬ (G = i + 1) := by omega
  have hci : ¬ (c = i) := by omega
  have hw1 : IntKind.i64.wrap ((i : Int) + 1) = (i : Int) + 1 := by rw [IntKind.wrap_i64]; omega
  have hb1 : (0 : Int) ≤ (i : Int) + 1 := by omega
  have hin : i ≤ n := by omega
  have htn : ((i : Int) + 1).toNat = i + 1 := by omega
  have hb3 : (i : Int) ≤ (n : Int) := by omega
  have mixed : Tryd.prog.follows .mixedOrders = true := by kernel_rfl
  have HF : Hid (n + 1 ≤ G ∧ G ≤ maxLen ∧ R3.size = G ∧ R3.toList.take (n + 1) = cs.take i ++ u :: cs.drop i ∧ W1 = w.drew.alloc (.cells ROW 62)) := ⟨hGn, hGm, hR3s, hR3t, hW1⟩
  clear hkk hik hold hROW hG hg hgv hcur htk hcell h1c h1v hgN hgv1 hgb1 hR2 hR3 hRs hRt hR2s hR3s hR3t hGm hi0 hz0 hzs hzb
  subst hW1
  have hE1 : ((w.alloc (.cells ROW 62)).drew).heap = (w.drew.alloc (.cells ROW 62)).heap := rfl
  have hE2 : (((w.alloc (.cells ROW 62)).drew.setRow w.heap.size R2).drew).heap = ((w.drew.alloc (.cells ROW 62)).setRow w.heap.size R2).heap := rfl
  go_enter Tryd.func48, Tryd.ntmps48
  go_wp2_with (first
    | (at_builtin; refine Lib.wpList_append_run _ rfl _ _ _ _ rfl _ _ rfl rfl _ _ (hrz _) ?_)
    | (at_builtin; refine wpList_copy_runI _ rfl _ _ 53 53 rfl _ _ rfl rfl (hcpA _ hE1 _ _) ?_))
  go_region_law_o (refine step_copy_runI rfl _ _ 53 53 rfl (.slice (some ⟨w.heap.size, i + 1, none⟩) (n - i) (G - (i + 1))) (.slice (some ⟨b, i, none⟩) (n - i) (c - i)) (by simp [Act.eval, Act.put]) (by simp [Act.eval, Act.put]) (hcpB _ hE2 3 (G - (i + 1)) (c - i)) ?_)
  go_wp2
  go_ret
  refine ⟨G, R3, HF.out.1, HF.out.2.1, HF.out.2.2.1, HF.out.2.2.2.1, rfl, ?_, rfl, rfl, rfl, ?_, fun k hk => ?_⟩
  · exact setRow_heap _ _ _ _ _ _ (setRow_heap _ _ _ _ _ _ (heap_alloc_new w _))
  · simp [World.setRow]
  · have hne : k ≠ w.heap.size := by omega
    exact (setRow_other _ _ _ _ hne).trans ((setRow_other _ _ _ _ hne).trans (Below.heap_alloc w _ k hk))
/-- A pointer as an element of a row. -/
def pE : El Value where
  ty := 62
  size := 1
  M := fun w vs x => vs = [x] ∧ ∃ a, x = .pointer a
  len := fun h => by rw [h.1]; rfl
  one := fun h v hv => by obtain ⟨rfl, a, rfl⟩ := h; rw [List.mem_singleton.1 hv]; rfl
  lt := fun h v hv b hr => by
    obtain ⟨rfl, a, rfl⟩ := h
    rw [List.mem_singleton.1 hv] at hr
    obtain ⟨_, _, _, e, _⟩ := hr
    cases e
  keep := fun h _ => h
theorem lay_p {w : World} : ∀ {us xs : List Value}, Lay pE w us xs → us = xs
  | us, [], h => h
  | us, x :: xs, h => by
    obtain ⟨vs, us', rfl, h1, h2⟩ := h
    rw [h1.1, lay_p h2]
    rfl
theorem p_lay {w : World} : ∀ {xs : List Value}, (∀ x ∈ xs, ∃ a, x = .pointer a) → Lay pE w xs xs
  | [], _ => rfl
  | x :: xs, h => ⟨[x], xs, rfl, ⟨rfl, h x (by simp)⟩, p_lay fun y hy => h y (by simp [hy])⟩
theorem p_refs {u : Value} {b : Nat} (h : ∃ a, u = .pointer a) (hr : Refs u b) : False := by
  obtain ⟨a, rfl⟩ := h
  obtain ⟨_, _, _, e, _⟩ := hr
  cases e
theorem pE_info : (Tryd.prog.info? pE.ty).map (fun i => (i.zero, i.size, i.bytes)) = some (some (.pointer none), pE.size, 8) := by kernel_rfl

set_option maxHeartbeats 4000000 in
set_option maxRecDepth 100000 in
/-- At the end. -/
theorem ins_end {w : World} {v : Value} {k vb : Nat} {us : List Value} {u : Value} (hrow : w.ownsRow 0 62 1 v k us) (hk : k ≤ 100000) (hus : ∀ x ∈ us, ∃ a, x = .pointer a) (hu : ∃ a, u = .pointer a) (hgv : w.heap[vb]? = some (.cells #[u] 62 (0, 0))) :
    Calls Tryd.prog 48 #[v, .int .i64 (k : Int), .slice (some ⟨vb, 0, none⟩) 1 1] w fun e w' => ∃ v', e = .returned v' ∧ w'.ownsRow 0 62 1 v' (k + 1) (us ++ [u]) ∧ w.grownBy w' v.ownBlock ∧ Moved w v v' := by
  obtain ⟨ao, c, rfl, hkc, hnil, hcm⟩ : ∃ ao c, v = .slice ao k c ∧ k ≤ c ∧ (ao = none → k = 0 ∧ c = 0) ∧ c ≤ maxLen := by
    rcases hrow.2 with q | ⟨g, cap, cur, q1, q2, q3, q4, q5, q6⟩
    · exact ⟨none, 0, by rw [q.2]; exact q.1, by omega, fun _ => ⟨q.2, rfl⟩, Nat.zero_le _⟩
    · exact ⟨_, _, q1, q4, (fun e => by cases e), q5⟩
  have hl : us.length = k := by have := hrow.1; omega
  have HR : Hid (RowS pE 0 w (.slice ao k c) us) := ⟨us, by rw [hl]; exact hrow, p_lay hus, fun x hx b hr => (p_refs (hus x hx) hr).elim⟩
  have HS : Hid (RSu pE w (some ⟨vb, 0, none⟩) 1 1 [u] [u]) := ⟨rfl, (fun e => by cases e), Nat.le_refl _, by decide, p_lay (fun x hx => by rw [List.mem_singleton.1 hx]; exact hu), fun j x hj => by
    cases j with
    | zero => exact ⟨vb, 0, rfl, by rw [cell_of hgv]; simpa using hj⟩
    | succ j => simp at hj⟩
  have HU : Hid (∀ x ∈ [u], ∀ b, Refs x b → (Value.slice ao k c).ownBlock ≠ some b) := fun x hx b hr => by rw [List.mem_singleton.1 hx] at hr; exact (p_refs hu hr).elim
  have HL := hid hl
  have hc63 : c ≤ 9223372036854775807 := by unfold maxLen at hcm; omega
  clear hrow hus hu hgv hl hcm
  have hfin : ∀ v' w', RowS pE 0 w' v' (us ++ [u]) → w'.ownsRow 0 62 1 v' (k + 1) (us ++ [u]) := fun v' w' h => by
    obtain ⟨us', h1, h2, h3⟩ := h
    have e := lay_p h2
    subst e
    have := h1
    rw [List.length_append, HL.out] at this
    exact this
  have HFIN := hid hfin
  clear hfin
  cases ao with
  | none =>
    obtain ⟨rfl, rfl⟩ := hnil rfl
    clear hnil
    go_enter Tryd.func48, Tryd.ntmps48
    go_wp2_with (at_builtin; refine wpList_appS pE (t := 53) (z := .pointer none) (bytes := 8) (B := 0) Tryd.underlying53 pE_info rfl (by decide) rfl (.tmp 23) (.tmp 24) rfl rfl HR.out rfl HS.out HU.out (by have := HL.out; omega) (by have := HL.out; omega) (Nat.zero_le _) ?_; intro v9 w9 r9 g9 m9; have H9 := hid (And.intro (HFIN.out _ _ r9) (And.intro g9 m9)); clear r9 g9 m9)
    exact bodyPost_ret (v := v9) (by simp [results, Tryd.results48, go_sem]) rfl ⟨v9, rfl, H9.out⟩
  | some a =>
    obtain ⟨ab, aof, asp⟩ := a
    clear hnil
    go_enter Tryd.func48, Tryd.ntmps48
    go_wp2_with (at_builtin; refine wpList_appS pE (t := 53) (z := .pointer none) (bytes := 8) (B := 0) Tryd.underlying53 pE_info rfl (by decide) rfl (.tmp 23) (.tmp 24) rfl rfl HR.out rfl HS.out HU.out (by have := HL.out; omega) (by have := HL.out; omega) (Nat.zero_le _) ?_; intro v9 w9 r9 g9 m9; have H9 := hid (And.intro (HFIN.out _ _ r9) (And.intro g9 m9)); clear r9 g9 m9)
    all_goals exact bodyPost_ret (v := v9) (by simp [results, Tryd.results48, go_sem]) rfl ⟨v9, rfl, H9.out⟩
/-- One more in a row of one's own, wherever. -/
theorem ins_m {w : World} {v : Value} {k i vb : Nat} {us : List Value} {u : Value} (hrow : w.ownsRow 0 62 1 v k us) (hi : i ≤ k) (hk : k ≤ 100000) (hus : ∀ x ∈ us, ∃ a, x = .pointer a) (hu : ∃ a, u = .pointer a) (hgv : w.heap[vb]? = some (.cells #[u] 62 (0, 0))) (hne : ¬ Ows v vb) :
    Calls Tryd.prog 48 #[v, .int .i64 (i : Int), .slice (some ⟨vb, 0, none⟩) 1 1] w fun e w' => ∃ v', e = .returned v' ∧ w'.ownsRow 0 62 1 v' (k + 1) (us.take i ++ u :: us.drop i) ∧ Kept (Ows v) w w' ∧ ∀ j, Ows v' j → Ows v j ∨ w.heap.size ≤ j := by
  have hl : us.length = k := by have := hrow.1; omega
  have h1c : ∀ x ∈ us, x.oneCell' = true := fun x hx => by obtain ⟨a, rfl⟩ := hus x hx; rfl
  have h1v : u.oneCell' = true := by obtain ⟨a, rfl⟩ := hu; rfl
  rcases Nat.lt_or_ge i k with q | q
  · rcases hrow.2 with z | ⟨g, cap, cur, q1, q2, q3, q4, q5, q6, q7⟩
    · omega
    · subst q1
      have hne' : vb ≠ g := fun e => hne (by rw [e]; rfl)
      rw [Nat.mul_one] at q6 q7
      rcases Nat.lt_or_ge cap (k + 1) with r | r
      · refine (ins_grow (cur := cur) q q4 r hk hl q3 q6 q7 hgv h1c h1v).mono ?_
        rintro e w' ⟨G, ROW, g1, g2, g3, g4, rfl, g5, g6⟩
        refine ⟨_, rfl, ⟨by simp; omega, .inr ⟨_, G, ROW, rfl, Nat.zero_le _, g5, g1, g2, by omega, by rw [Nat.mul_one]; exact g4⟩⟩, ⟨g6.os, g6.tape, g6.output, g6.size, fun j hj _ => g6.block j hj⟩, fun j hj => .inr ?_⟩
        have : w.heap.size = j := by simpa [Ows, Value.ownBlock] using hj
        omega
      · refine (ins_shift (cur := cur) q r (by unfold maxLen at q5; omega) hne' hl q3 q6 q7 hgv h1c h1v).mono ?_
        rintro e w' ⟨rfl, g1, g2, g3, g4⟩
        refine ⟨_, rfl, ⟨by simp; omega, .inr ⟨g, cap, stt (sft cur i us) i u, rfl, Nat.zero_le _, ?_, r, q5, ?_, ?_⟩⟩, ⟨g2, g3, g4, ?_, fun j hj hn => ?_⟩, fun j hj => .inl hj⟩
        · rw [g1]; exact setRow_heap _ _ _ _ _ _ (setRow_heap _ _ _ _ _ _ q3)
        · rw [stt_size (by rw [sft_size (by omega) (by omega)]; omega), sft_size (by omega) (by omega)]; omega
        · have := sft_take (cur := cur) (i := i) (cs := us) u (by rw [hl]; exact q7) (by omega) (by omega)
          rw [hl] at this
          rw [Nat.mul_one]; exact this
        · rw [g1]; simp [World.setRow]
        · have hjg : j ≠ g := fun e => hn (by rw [e]; rfl)
          rw [g1]
          exact (setRow_other _ _ _ _ hjg).trans (setRow_other _ _ _ _ hjg)
  · obtain rfl : i = k := by omega
    refine (ins_end hrow hk hus hu hgv).mono ?_
    rintro e w' ⟨v', rfl, h1, h2, h3⟩
    refine ⟨v', rfl, by rw [List.take_of_length_le (by omega), List.drop_of_length_le (by omega)]; exact h1, ⟨h2.os, h2.tape, h2.output, h2.size, fun j hj hn => h2.block j hj (fun e => hn e.symm)⟩, fun j hj => ?_⟩
    rcases h3 with e | ⟨g, e, he⟩
    · exact .inl (by unfold Ows at hj ⊢; rw [← e]; exact hj)
    · refine .inr ?_
      unfold Ows at hj
      rw [e] at hj
      obtain rfl : g = j := by simpa using hj
      exact he
end Go.Proofs.YtaefddnmldbgiaaDoor

/- What the landed mem's nodes answer: has, ahead, entry. -/
namespace Go.Proofs.YtaefddnmldbgiaaDoor
open Go.RowKit
set_option linter.unusedVariables false
set_option linter.unusedSimpArgs false

theorem has_m {w : World} {n : Nd} (h : NdAt w n) {ka : Option Addr} {kl kc : Nat} {key : List Int} (hk : Sl w ka kl kc key) : Calls Tryd.prog 31 #[ptr n.b, .slice ka kl kc] w fun e w' => e = .returned (.bool (decide (n.key = key))) ∧ w' = w := by
  obtain ⟨a, c, hv, hs⟩ := h.sl
  have hc := h.cells.1
  rw [hv] at hc
  have he := eql_m hs hk
  clear h hs hk hv
  unfold ptr
  generalize decide (n.key = key) = T at he ⊢
  go_enter Tryd.func31, Tryd.ntmps31
  go_wp2_with fail
  refine he.mono ?_
  rintro e w' ⟨rfl, rfl⟩
  clear he
  go_wp2_with fail
  go_ret
  exact ⟨by simp, rfl⟩
theorem has_nil {w : World} {ka : Option Addr} {kl kc : Nat} : Calls Tryd.prog 31 #[.pointer none, .slice ka kl kc] w fun e w' => e = .returned (.bool false) ∧ w' = w := by
  go_enter Tryd.func31, Tryd.ntmps31
  go_wp2_with fail
  go_ret
  exact ⟨by simp, rfl⟩
theorem ahead_nil {w : World} {ka : Option Addr} {kl kc : Nat} : Calls Tryd.prog 35 #[.pointer none, .slice ka kl kc] w fun e w' => e = .returned (.bool false) ∧ w' = w := by
  go_enter Tryd.func35, Tryd.ntmps35
  go_wp2_with fail
  go_ret
  exact ⟨by simp, rfl⟩
theorem ahead_m {w : World} {n : Nd} (h : NdAt w n) {ka : Option Addr} {kl kc : Nat} {key : List Int} (hk : Sl w ka kl kc key) : Calls Tryd.prog 35 #[ptr n.b, .slice ka kl kc] w fun e w' => e = .returned (.bool (decide (key.length = 0 ∨ cmp n.key key < 0))) ∧ w' = w := by
  obtain ⟨a, c, hv, hs⟩ := h.sl
  have hc := h.cells.1
  rw [hv] at hc
  have he := compare_l hs hk
  have hl : key.length = kl := hk.1
  have hl63 : kl ≤ 2 ^ 63 - 1 := by have := hk.2.2.2.2.1; have := hk.2.2.2.1; unfold maxLen at *; omega
  rw [hl]
  clear h hs hk hv hl
  unfold ptr
  by_cases hz : kl = 0
  · subst hz
    go_enter Tryd.func35, Tryd.ntmps35
    go_wp2_with fail
    go_ret
    exact ⟨by simp, rfl⟩
  · have hz' : ((kl : Int) == 0) = false := by simpa using hz
    have e1 : decide (kl = 0 ∨ cmp n.key key < 0) = decide (cmp n.key key < 0) := by simp [hz]
    rw [e1]
    generalize cmp n.key key = S at he ⊢
    go_enter Tryd.func35, Tryd.ntmps35
    go_wp2_with fail
    refine he.mono ?_
    rintro e w' ⟨rfl, rfl⟩
    clear he
    go_wp2_with fail
    go_ret
    exact ⟨by simp, rfl⟩

theorem clone_w {w : World} {ao : Option Addr} {len cap : Nat} {xs : List Int} (h : Sl w ao len cap xs) (hl : len ≤ 3000) : Calls Tryd.prog 44 #[.slice ao len cap] w fun e w' => ∃ a c, e = .returned (.slice a len c) ∧ Sl w' a len c xs ∧ Wr w' a len ∧ (∀ b off, a = some ⟨b, off, none⟩ → w.heap.size ≤ b) ∧ Below w.heap.size w w' := by
  have e := h.1
  refine (clone_n h (by omega)).mono ?_
  rintro e1 w' ⟨v, rfl, r, b⟩
  obtain ⟨a, c, rfl, h1, h2, h3⟩ := wr_row r h.2.1
  rw [e] at h1 h2
  exact ⟨a, c, by rw [e], h1, h2, h3, b⟩
theorem Sl.set5 {w : World} {q : Nat} {a : Option Addr} {n c : Nat} {xs : List Int} (h : Sl w a n c xs) (hq : ∀ b off, a = some ⟨b, off, none⟩ → b ≠ q) (x0 x1 x2 x3 x4 : Value) : Sl (((((w.setCell ⟨q, 0, none⟩ x0).setCell ⟨q, 1, none⟩ x1).setCell ⟨q, 2, none⟩ x2).setCell ⟨q, 3, none⟩ x3).setCell ⟨q, 4, none⟩ x4) a n c xs := by
  refine h.keep fun b hr => ?_
  obtain ⟨off, l, cc, e, h0⟩ := hr
  simp only [Value.slice.injEq] at e
  have hb := hq b off e.1
  rw [heap_ne _ _ _ hb, heap_ne _ _ _ hb, heap_ne _ _ _ hb, heap_ne _ _ _ hb, heap_ne _ _ _ hb]
theorem Wr.set5 {w : World} {q : Nat} {a : Option Addr} {n : Nat} (h : Wr w a n) (hq : ∀ b off, a = some ⟨b, off, none⟩ → b ≠ q) (x0 x1 x2 x3 x4 : Value) : Wr (((((w.setCell ⟨q, 0, none⟩ x0).setCell ⟨q, 1, none⟩ x1).setCell ⟨q, 2, none⟩ x2).setCell ⟨q, 3, none⟩ x3).setCell ⟨q, 4, none⟩ x4) a n := by
  refine h.keep fun b off e hn => ?_
  have hb := hq b off e
  rw [heap_ne _ _ _ hb, heap_ne _ _ _ hb, heap_ne _ _ _ hb, heap_ne _ _ _ hb, heap_ne _ _ _ hb]
theorem ent0_cells {w : World} {q : Nat} (hg : w.heap[q]? = some (.cells #[.slice none 0 0, .int .i64 0, .bool false, .int .i64 0, .slice none 0 0] 28 (0, 0))) : w.cell? ⟨q, 0, none⟩ = some (.slice none 0 0) ∧ w.cell? ⟨q, 1, none⟩ = some (.int .i64 0) ∧ w.cell? ⟨q, 2, none⟩ = some (.bool false) ∧ w.cell? ⟨q, 3, none⟩ = some (.int .i64 0) ∧ w.cell? ⟨q, 4, none⟩ = some (.slice none 0 0) ∧ w.frozen? ⟨q, 0, none⟩ = false ∧ w.frozen? ⟨q, 1, none⟩ = false ∧ w.frozen? ⟨q, 2, none⟩ = false ∧ w.frozen? ⟨q, 3, none⟩ = false ∧ w.frozen? ⟨q, 4, none⟩ = false := by
  refine ⟨?_, ?_, ?_, ?_, ?_, frozen_ofW hg 0, frozen_ofW hg 1, frozen_ofW hg 2, frozen_ofW hg 3, frozen_ofW hg 4⟩ <;> rw [cell_of hg] <;> rfl
/-- What was told of an entry. -/
def ToldE (w : World) (x : EntV) (e : Ending) (w' : World) : Prop :=
  ∃ ka kc va vc, e = .returned (entA ka kc va vc x) ∧ EntM w' (entL ka kc va vc x) x ∧ (∀ u ∈ entL ka kc va vc x, ∀ b, Refs u b → w.heap.size ≤ b) ∧ Wr w' ka x.key.length ∧ Wr w' va x.val.length ∧ Below w.heap.size w w'
theorem told_of {w w' : World} {x : EntV} {ka va : Option Addr} {kc vc : Nat} (h1 : Sl w' ka x.key.length kc x.key) (h2 : Sl w' va x.val.length vc x.val) (i1 : In64 x.seq) (i2 : In64 x.till) (n1 : ∀ b off, ka = some ⟨b, off, none⟩ → w.heap.size ≤ b) (n2 : ∀ b off, va = some ⟨b, off, none⟩ → w.heap.size ≤ b) (r1 : Wr w' ka x.key.length) (r2 : Wr w' va x.val.length) (hb : Below w.heap.size w w') : ToldE w x (.returned (entA ka kc va vc x)) w' := by
  refine ⟨ka, kc, va, vc, rfl, ⟨ka, kc, va, vc, rfl, h1, h2, i1, i2⟩, fun u hu b hr => ?_, r1, r2, hb⟩
  unfold entL at hu
  simp only [List.mem_cons, List.not_mem_nil, or_false] at hu
  rcases hu with rfl | rfl | rfl | rfl | rfl
  · obtain ⟨off, l, c, e, _⟩ := hr
    simp only [Value.slice.injEq] at e
    exact n1 b off e.1
  · exact (refs_int hr).elim
  · exact (refs_bool hr).elim
  · exact (refs_int hr).elim
  · obtain ⟨off, l, c, e, _⟩ := hr
    simp only [Value.slice.injEq] at e
    exact n2 b off e.1

set_option maxHeartbeats 1000000 in
set_option maxRecDepth 100000 in
/-- An entry that is told: memory of the caller's own. -/
theorem entry_m {w : World} {n : Nd} {v : Vr} (h : NdAt w n) (hv : v ∈ n.vs) (hk : n.key.length ≤ 3000) (hl : v.val.length ≤ 3000) : Calls Tryd.prog 33 #[ptr n.b, ptr v.b] w fun e w' => ToldE w (v.ent n.key) e w' := by
  obtain ⟨a, c, hkv, hs⟩ := h.sl
  have hvat := h.vs v hv
  obtain ⟨a2, c2, hvv, hs2⟩ := hvat.sl
  have hc := h.cells.1
  obtain ⟨c0, c1, c3, c4⟩ := hvat.cells
  rw [hkv] at hc
  rw [hvv] at c4
  unfold ptr Vr.ent
  have hI := hid (And.intro hvat.i1 hvat.i2)
  obtain ⟨nb, key, kv, nh, nvs, rv⟩ := n
  obtain ⟨vb, seq, gone, till, vv, vl⟩ := v
  simp only at *
  clear h hv hvat hkv hvv
  have hbn : nb < w.heap.size := World.block_lt_of_cell? _ _ hc
  have hbv : vb < w.heap.size := World.block_lt_of_cell? _ _ c0
  have HX : Hid (∀ wx, Below w.heap.size w wx → wx.cell? ⟨nb, 0, none⟩ = some (.slice a key.length c) ∧ wx.cell? ⟨vb, 0, none⟩ = some (.int .i64 seq) ∧ wx.cell? ⟨vb, 1, none⟩ = some (.bool gone) ∧ wx.cell? ⟨vb, 2, none⟩ = some (.int .i64 till) ∧ wx.cell? ⟨vb, 3, none⟩ = some (.slice a2 vl.length c2)) := fun wx hb => ⟨cell_below hb hbn hc, cell_below hb hbv c0, cell_below hb hbv c1, cell_below hb hbv c3, cell_below hb hbv c4⟩
  obtain ⟨W, hW⟩ : ∃ W, W = w.alloc (.cells #[.slice none 0 0, .int .i64 0, .bool false, .int .i64 0, .slice none 0 0] 28) := ⟨_, rfl⟩
  have hWb : Below w.heap.size w W := by rw [hW]; exact (Below.refl _ w).alloc (Nat.le_refl _) _
  have hWs : W.heap.size = w.heap.size + 1 := by rw [hW]; simp
  have hWk : W.heap[w.heap.size]? = some (.cells #[.slice none 0 0, .int .i64 0, .bool false, .int .i64 0, .slice none 0 0] 28 (0, 0)) := by rw [hW]; exact heap_alloc_new w _
  have HQ : Hid (∀ wx, Below W.heap.size W wx → wx.heap[w.heap.size]? = some (.cells #[.slice none 0 0, .int .i64 0, .bool false, .int .i64 0, .slice none 0 0] 28 (0, 0))) := fun wx hb => (hb.block _ (by omega)).trans hWk
  have HWB := hid (And.intro hWb hWs)
  have HCK : Hid (∀ wx, Below W.heap.size W wx → Calls Tryd.prog 44 #[.slice a key.length c] wx fun e w' => ∃ a' c', e = .returned (.slice a' key.length c') ∧ Sl w' a' key.length c' key ∧ Wr w' a' key.length ∧ (∀ b off, a' = some ⟨b, off, none⟩ → W.heap.size ≤ b) ∧ Below W.heap.size W w' ∧ Below wx.heap.size wx w') := fun wx hb => by
    refine (clone_w (hs.later (HWB.out.1.trans (hb.mono HWB.out.1.size))) hk).mono ?_
    rintro e w' ⟨a', c', rfl, h1, h2, h3, h4⟩
    exact ⟨a', c', rfl, h1, h2, fun b off q => by have := h3 b off q; have := hb.size; omega, hb.trans (h4.mono hb.size), h4⟩
  have HCV : Hid (∀ wx, Below W.heap.size W wx → Calls Tryd.prog 44 #[.slice a2 vl.length c2] wx fun e w' => ∃ a' c', e = .returned (.slice a' vl.length c') ∧ Sl w' a' vl.length c' vl ∧ Wr w' a' vl.length ∧ (∀ b off, a' = some ⟨b, off, none⟩ → W.heap.size ≤ b) ∧ Below W.heap.size W w' ∧ Below wx.heap.size wx w') := fun wx hb => by
    refine (clone_w (hs2.later (HWB.out.1.trans (hb.mono HWB.out.1.size))) hl).mono ?_
    rintro e w' ⟨a', c', rfl, h1, h2, h3, h4⟩
    exact ⟨a', c', rfl, h1, h2, fun b off q => by have := h3 b off q; have := hb.size; omega, hb.trans (h4.mono hb.size), h4⟩
  have HY : Hid (∀ wx, Below W.heap.size W wx → wx.cell? ⟨nb, 0, none⟩ = some (.slice a key.length c) ∧ wx.cell? ⟨vb, 0, none⟩ = some (.int .i64 seq) ∧ wx.cell? ⟨vb, 1, none⟩ = some (.bool gone) ∧ wx.cell? ⟨vb, 2, none⟩ = some (.int .i64 till) ∧ wx.cell? ⟨vb, 3, none⟩ = some (.slice a2 vl.length c2)) := fun wx hb => HX.out wx (HWB.out.1.trans (hb.mono HWB.out.1.size))
  have HS5 : Hid (∀ wx (x0 x1 x2 x3 x4 : Value), Below W.heap.size W wx → (((((wx.setCell ⟨w.heap.size, 0, none⟩ x0).setCell ⟨w.heap.size, 1, none⟩ x1).setCell ⟨w.heap.size, 2, none⟩ x2).setCell ⟨w.heap.size, 3, none⟩ x3).setCell ⟨w.heap.size, 4, none⟩ x4).cell? ⟨nb, 0, none⟩ = some (.slice a key.length c) ∧ (((((wx.setCell ⟨w.heap.size, 0, none⟩ x0).setCell ⟨w.heap.size, 1, none⟩ x1).setCell ⟨w.heap.size, 2, none⟩ x2).setCell ⟨w.heap.size, 3, none⟩ x3).setCell ⟨w.heap.size, 4, none⟩ x4).cell? ⟨vb, 0, none⟩ = some (.int .i64 seq) ∧ (((((wx.setCell ⟨w.heap.size, 0, none⟩ x0).setCell ⟨w.heap.size, 1, none⟩ x1).setCell ⟨w.heap.size, 2, none⟩ x2).setCell ⟨w.heap.size, 3, none⟩ x3).setCell ⟨w.heap.size, 4, none⟩ x4).cell? ⟨vb, 1, none⟩ = some (.bool gone) ∧ (((((wx.setCell ⟨w.heap.size, 0, none⟩ x0).setCell ⟨w.heap.size, 1, none⟩ x1).setCell ⟨w.heap.size, 2, none⟩ x2).setCell ⟨w.heap.size, 3, none⟩ x3).setCell ⟨w.heap.size, 4, none⟩ x4).cell? ⟨vb, 2, none⟩ = some (.int .i64 till) ∧ (((((wx.setCell ⟨w.heap.size, 0, none⟩ x0).setCell ⟨w.heap.size, 1, none⟩ x1).setCell ⟨w.heap.size, 2, none⟩ x2).setCell ⟨w.heap.size, 3, none⟩ x3).setCell ⟨w.heap.size, 4, none⟩ x4).cell? ⟨vb, 3, none⟩ = some (.slice a2 vl.length c2)) := fun wx x0 x1 x2 x3 x4 hb => HX.out _ (below_set5 (HWB.out.1.trans (hb.mono HWB.out.1.size)) x0 x1 x2 x3 x4)
  have BW : Hid (Below W.heap.size W W.drew) := (Below.refl _ W).drew
  have hne1 : vb ≠ w.heap.size := by omega
  have hne2 : nb ≠ w.heap.size := by omega
  have HW := hid hW
  clear hs hs2 hc c0 c1 c3 c4 hbn hbv hWb hWs hWk hk hl HX hW
  go_enter Tryd.func33, Tryd.ntmps33
  go_upto_region 1 with fail
  rw [← HW.out]
  have S0 := HY.out W.drew BW.out
  go_region_held_law (fun w' => w'.cell? ⟨nb, 0, none⟩ = some (.slice a key.length c) ∧ w'.cell? ⟨vb, 0, none⟩ = some (.int .i64 seq) ∧ w'.cell? ⟨vb, 1, none⟩ = some (.bool gone) ∧ w'.cell? ⟨vb, 2, none⟩ = some (.int .i64 till) ∧ w'.cell? ⟨vb, 3, none⟩ = some (.slice a2 vl.length c2)) (first | (with_reducible exact S0) | (with_reducible exact S9) | (with_reducible exact S6) | (with_reducible exact S5) | (go_loud (fail "S"))) (first | (go_at_call 44; refine (HCK.out _ BW.out).mono ?_; rintro e w5 ⟨a5, c5, rfl, s5, k5, n5, B5, b5⟩; have S5 := HY.out _ B5) | (go_at_call 44; refine (HCV.out _ B5).mono ?_; rintro e w6 ⟨a6, c6, rfl, s6, k6, n6, B6, b6⟩; obtain ⟨z0, z1, z2, z3, z4, f0, f1, f2, f3, f4⟩ := ent0_cells (HQ.out _ B6); have S6 := HY.out _ B6; have S9 := HS5.out w6 (.slice a5 key.length c5) (.int .i64 seq) (.bool gone) (.int .i64 till) (.slice a6 vl.length c6) B6))
  have hne5 : ∀ b off, a5 = some ⟨b, off, none⟩ → b ≠ w.heap.size := fun b off e => by have := n5 b off e; have := HWB.out.2; omega
  have hne6 : ∀ b off, a6 = some ⟨b, off, none⟩ → b ≠ w.heap.size := fun b off e => by have := n6 b off e; have := HWB.out.2; omega
  have HF := hid (told_of (w := w) (x := ⟨key, seq, gone, till, vl⟩) ((s5.later b6).set5 hne5 (.slice a5 key.length c5) (.int .i64 seq) (.bool gone) (.int .i64 till) (.slice a6 vl.length c6)) (s6.set5 hne6 (.slice a5 key.length c5) (.int .i64 seq) (.bool gone) (.int .i64 till) (.slice a6 vl.length c6)) hI.out.1 hI.out.2 (fun b off e => by have := n5 b off e; have := HWB.out.2; omega) (fun b off e => by have := n6 b off e; have := HWB.out.2; omega) ((k5.later b6).set5 hne5 (.slice a5 key.length c5) (.int .i64 seq) (.bool gone) (.int .i64 till) (.slice a6 vl.length c6)) (k6.set5 hne6 (.slice a5 key.length c5) (.int .i64 seq) (.bool gone) (.int .i64 till) (.slice a6 vl.length c6)) (below_set5 (HWB.out.1.trans (B6.mono HWB.out.1.size)) (.slice a5 key.length c5) (.int .i64 seq) (.bool gone) (.int .i64 till) (.slice a6 vl.length c6)))
  obtain ⟨o0, o1, o2, o3, o4⟩ := cells_set5 (HQ.out _ B6) (.slice a5 key.length c5) (.int .i64 seq) (.bool gone) (.int .i64 till) (.slice a6 vl.length c6)
  have HO : Hid (_ ∧ _ ∧ _ ∧ _ ∧ _) := ⟨o0, o1, o2, o3, o4⟩
  clear o0 o1 o2 o3 o4 S0 S5 S6 S9 z0 z1 z2 z3 z4 f0 f1 f2 f3 f4 s5 s6 k5 k6 n5 n6 B5 b5 B6 b6 hne5 hne6
  go_wp2_with fail
  obtain ⟨o0, o1, o2, o3, o4⟩ := HO.out
  exact bodyPost_ret (v := entA a5 c5 a6 c6 ⟨key, seq, gone, till, vl⟩) (by simp [results, Tryd.results33, go_sem, o0, o1, o2, o3, o4, entA]) rfl HF.out
end Go.Proofs.YtaefddnmldbgiaaDoor
