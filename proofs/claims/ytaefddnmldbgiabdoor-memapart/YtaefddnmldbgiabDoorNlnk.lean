/- The landed mem's link: a new key among the others. -/
import Derived.Test.YtaefddnmldbgiabDoorNbef
import Derived.Test.YtaefddnmldbgiabDoorNclo
import Derived.Test.YtaefddnmldbgiabDoorRrd
import Derived.Deep.RegionLaw
import Derived.Deep.RegionHeldLaw
namespace Go.Proofs.YtaefddnmldbgiabDoor
open Go.RowKit
set_option linter.unusedVariables false
set_option linter.unusedSimpArgs false

theorem Kept.trans {F : Nat → Prop} {w w1 w2 : World} (h : Kept F w w1) (h2 : Kept F w1 w2) : Kept F w w2 :=
  ⟨h2.os.trans h.os, h2.tape.trans h.tape, h2.output.trans h.output, Nat.le_trans h.size h2.size, fun k hk hn => (h2.block k (Nat.lt_of_lt_of_le hk h.size) hn).trans (h.block k hk hn)⟩
theorem Kept.set {F : Nat → Prop} {w wx : World} (h : Kept F w wx) {b k : Nat} {v : Value} (hb : F b ∨ w.heap.size ≤ b) : Kept F w (wx.setCell ⟨b, k, none⟩ v) :=
  ⟨h.os, h.tape, h.output, by rw [size_set]; exact h.size, fun j hj hn => by
    rw [heap_ne wx k v (fun e => by rcases hb with q | q; exact hn (e ▸ q); omega)]
    exact h.block j hj hn⟩
theorem Kept.of_below {F : Nat → Prop} {w w' : World} (h : Below w.heap.size w w') : Kept F w w' := ⟨h.os, h.tape, h.output, h.size, fun k hk _ => h.block k hk⟩
theorem cell_off {w : World} {b i j : Nat} {v : Value} (h : i ≠ j) : (w.setCell ⟨b, i, none⟩ v).cell? ⟨b, j, none⟩ = w.cell? ⟨b, j, none⟩ :=
  World.cell?_setCell_other _ _ _ _ (by intro e; simp only [Addr.mk.injEq, and_true, true_and] at e; exact h e)
theorem cell_blk {w : World} {b c i j : Nat} {v : Value} (h : c ≠ b) : (w.setCell ⟨b, i, none⟩ v).cell? ⟨c, j, none⟩ = w.cell? ⟨c, j, none⟩ := World.cell?_of_block (heap_ne w i v h)
/-- One more in a level. -/
theorem chain_put {w : World} {i nb : Nat} : ∀ {X Y : List Nat} {p : Nat}, Chain w i p (X ++ Y) → nb ≠ p → nb ∉ X → nb ∉ Y → (p :: (X ++ Y)).Nodup → (w.cell? ⟨nb, 2 + i, none⟩).isSome = true →
    Chain ((w.setCell ⟨nb, 2 + i, none⟩ (ptrO Y.head?)).setCell ⟨lastB p X, 2 + i, none⟩ (ptr nb)) i p (X ++ nb :: Y)
  | [], Y, p, h, h1, h2, h3, hd, hs => by
    rw [List.nil_append] at h hd ⊢
    have hp : (w.cell? ⟨p, 2 + i, none⟩).isSome = true := by rw [h.next]; rfl
    refine ⟨World.cell?_setCell_same' _ _ _ (by show (World.cell? _ ⟨p, 2 + i, none⟩).isSome = true; rw [cell_blk (Ne.symm h1)]; exact hp), ?_⟩
    have hn : ((w.setCell ⟨nb, 2 + i, none⟩ (ptrO Y.head?)).setCell ⟨lastB p [], 2 + i, none⟩ (ptr nb)).cell? ⟨nb, 2 + i, none⟩ = some (ptrO Y.head?) := by
      show (World.setCell _ ⟨p, 2 + i, none⟩ _).cell? _ = _
      rw [cell_blk h1]
      exact World.cell?_setCell_same' _ _ _ hs
    cases Y with
    | nil => exact hn
    | cons y ys =>
      refine ⟨hn, h.2.keep fun k hk => ?_⟩
      have hk' : k ∈ y :: ys := by rcases hk with rfl | q <;> simp [*]
      have k1 : k ≠ p := fun e => (List.nodup_cons.1 hd).1 (e ▸ hk')
      have k2 : k ≠ nb := fun e => h3 (e ▸ hk')
      show (World.setCell _ ⟨p, 2 + i, none⟩ _).cell? _ = _
      rw [cell_blk k1, cell_blk k2]
  | x :: X, Y, p, h, h1, h2, h3, hd, hs => by
    have hd' := List.nodup_cons.1 hd
    refine ⟨?_, chain_put (X := X) (p := x) h.2 (fun e => h2 (by simp [e])) (fun e => h2 (List.mem_cons_of_mem _ e)) h3 hd'.2 hs⟩
    have k1 : p ≠ lastB x X := fun e => hd'.1 (by
      rcases lastB_mem x X with q | q
      · rw [e, q]; simp
      · rw [e]; exact List.mem_cons_of_mem _ (List.mem_append.2 (.inl q)))
    show (World.setCell _ ⟨lastB x X, 2 + i, none⟩ _).cell? _ = _
    rw [cell_blk k1, cell_blk (Ne.symm h1)]
    exact h.1
/-- Levels alone are turned. -/
theorem Bas.next {w : World} {p : Nat} {ns : List Nd} {c wt : Int} (h : Bas w p ns c wt) {b i : Nat} (hi : i < 12) (hb : b = p ∨ ∃ n ∈ ns, n.b = b) (v : Value) : Bas (w.setCell ⟨b, 2 + i, none⟩ v) p ns c wt := by
  have hty : ∃ C t, w.heap[b]? = some (.cells C t (0, 0)) ∧ (t = 45 ∨ t = 43) := by
    rcases hb with rfl | ⟨n, hn, rfl⟩
    · obtain ⟨C, c1, _⟩ := h.head
      exact ⟨C, _, c1, .inl rfl⟩
    · obtain ⟨C, c1, _⟩ := (h.nd n hn).blk
      exact ⟨C, _, c1, .inr rfl⟩
  obtain ⟨C0, t0, hC0, ht0⟩ := hty
  have hoth : ∀ {k : Nat} {D : Array Value} {t : TypeId} {f : Nat × Nat}, w.heap[k]? = some (.cells D t f) → t ≠ 45 → t ≠ 43 → (w.setCell ⟨b, 2 + i, none⟩ v).heap[k]? = w.heap[k]? := fun {k D t f} hk h1 h2 => by
    refine heap_ne w _ v (ty_ne hk hC0 ?_)
    rcases ht0 with rfl | rfl
    · exact h1
    · exact h2
  have hrow : ∀ {B : Nat} {e : TypeId} {sz : Nat} {x : Value} {n : Nat} {us : List Value}, w.ownsRow B e sz x n us → e ≠ 45 → e ≠ 43 → (w.setCell ⟨b, 2 + i, none⟩ v).ownsRow B e sz x n us := fun {B e sz x n us} hr h1 h2 => ownsRow_keep hr fun k hk => by
    obtain ⟨C, hC⟩ := ownsRow_ty hr hk
    exact hoth hC h1 h2
  refine ⟨?_, ?_, fun n hn => ?_, h.ord, h.nb, h.rw⟩
  · refine h.tab.keep ?_
    obtain ⟨T, t, fr, e1, ⟨e2, e3, e4⟩, _⟩ := h.tab
    exact hoth e1 e4 e3
  · obtain ⟨C, c1, c2, c3, c4⟩ := h.head
    by_cases q : p = b
    · subst q
      refine ⟨_, heap_set c1 _ v, by simpa using c2, ?_, ?_⟩
      · rw [Array.getElem?_setIfInBounds_ne (by omega)]; exact c3
      · rw [Array.getElem?_setIfInBounds_ne (by omega)]; exact c4
    · exact ⟨C, (heap_ne w _ v q).trans c1, c2, c3, c4⟩
  · have hnd := h.nd n hn
    refine ⟨?_, hrow hnd.key (by decide) (by decide), hnd.ok, hrow hnd.row (by decide) (by decide), fun x hx => ?_, hnd.h⟩
    · obtain ⟨C, c1, c2, c3, c4⟩ := hnd.blk
      by_cases q : n.b = b
      · subst q
        refine ⟨_, heap_set c1 _ v, by simpa using c2, ?_, ?_⟩
        · rw [Array.getElem?_setIfInBounds_ne (by omega)]; exact c3
        · rw [Array.getElem?_setIfInBounds_ne (by omega)]; exact c4
      · exact ⟨C, (heap_ne w _ v q).trans c1, c2, c3, c4⟩
    · have hx' := hnd.vs x hx
      exact ⟨(hoth hx'.blk (by decide) (by decide)).trans hx'.blk, hrow hx'.val (by decide) (by decide), hx'.ok, hx'.i1, hx'.i2⟩
theorem Bas.nodup {w : World} {p : Nat} {ns : List Nd} {c wt : Int} (h : Bas w p ns c wt) (i : Nat) : (p :: lev ns i).Nodup := by
  refine List.nodup_cons.2 ⟨fun hm => ?_, ?_⟩
  · obtain ⟨n, hn, e, _⟩ := lev_mem hm
    obtain ⟨C, c1, _⟩ := h.head
    obtain ⟨D, d1, _⟩ := (h.nd n hn).blk
    exact ty_ne c1 d1 (by decide) e
  · unfold lev
    exact h.nb.sublist (List.filter_sublist.map _)
theorem Bas.cellAt {w : World} {p : Nat} {ns : List Nd} {c wt : Int} (h : Bas w p ns c wt) {b i : Nat} (hi : i < 12) (hb : b = p ∨ ∃ n ∈ ns, n.b = b) : (∃ v, w.cell? ⟨b, 2 + i, none⟩ = some v) ∧ w.frozen? ⟨b, 2 + i, none⟩ = false := by
  rcases hb with rfl | ⟨n, hn, rfl⟩
  · obtain ⟨C, c1, c2, _⟩ := h.head
    exact ⟨⟨C[2 + i], by rw [cell_of c1]; exact Array.getElem?_eq_getElem (by omega)⟩, frozen_ofW c1 _⟩
  · obtain ⟨C, c1, c2, _⟩ := (h.nd n hn).blk
    exact ⟨⟨C[2 + i], by rw [cell_of c1]; exact Array.getElem?_eq_getElem (by omega)⟩, frozen_ofW c1 _⟩
/-- A new key that is being put into its levels. -/
structure LkS (w : World) (p : Nat) (ns : List Nd) (key : List Int) (n : Nd) (c wt : Int) (lv : Nat) (wx : World) : Prop where
  bas : Bas wx p (frt ns key ++ n :: bck ns key) c wt
  lvs : ∀ i, i < 12 → Chain wx i p (if i < lv then lev (frt ns key ++ n :: bck ns key) i else lev (frt ns key ++ bck ns key) i)
  pth : wx.heap[w.heap.size]? = some (.cells (pathA p ns key) 41 (0, 0))
  kp : Kept (FP p ns) w wx
  new : w.heap.size < n.b
  pin : pre p ns key lv = p ∨ ∃ m ∈ frt ns key, m.b = pre p ns key lv
theorem pre_in (p : Nat) (ns : List Nd) (key : List Int) (i : Nat) : pre p ns key i = p ∨ ∃ m ∈ frt ns key, m.b = pre p ns key i := by
  unfold pre
  rcases lastB_mem p (lev (frt ns key) i) with q | q
  · exact .inl q
  · obtain ⟨m, hm, e, _⟩ := lev_mem q
    exact .inr ⟨m, hm, e.symm⟩
theorem LkS.reads {w : World} {p : Nat} {ns : List Nd} {key : List Int} {n : Nd} {c wt : Int} {lv : Nat} {wx : World} (h : LkS w p ns key n c wt lv wx) (hl : lv < 12) : wx.cell? ⟨w.heap.size, lv, none⟩ = some (ptr (pre p ns key lv)) ∧ wx.cell? ⟨pre p ns key lv, 2 + lv, none⟩ = some (ptrO (lev (bck ns key) lv).head?) ∧ (∃ v, wx.cell? ⟨n.b, 2 + lv, none⟩ = some v) ∧ wx.frozen? ⟨n.b, 2 + lv, none⟩ = false := by
  refine ⟨?_, ?_, h.bas.cellAt hl (.inr ⟨n, by simp, rfl⟩)⟩
  · rw [cell_of h.pth]
    unfold pathA
    match lv, hl with
    | 0, _ => rfl
    | 1, _ => rfl
    | 2, _ => rfl
    | 3, _ => rfl
    | 4, _ => rfl
    | 5, _ => rfl
    | 6, _ => rfl
    | 7, _ => rfl
    | 8, _ => rfl
    | 9, _ => rfl
    | 10, _ => rfl
    | 11, _ => rfl
  · have := h.lvs lv hl
    rw [if_neg (by omega), lev_app] at this
    exact this.from.next
theorem LkS.step {w : World} {p : Nat} {ns : List Nd} {key : List Int} {n : Nd} {c wt : Int} {lv : Nat} {wx : World} (h : LkS w p ns key n c wt lv wx) (hl : lv < n.h) (hF : ∀ m ∈ ns, m.b < w.heap.size) (hp : p < w.heap.size) : LkS w p ns key n c wt (lv + 1) ((wx.setCell ⟨n.b, 2 + lv, none⟩ (ptrO (lev (bck ns key) lv).head?)).setCell ⟨pre p ns key lv, 2 + lv, none⟩ (ptr n.b)) := by
  have hnn : n ∈ frt ns key ++ n :: bck ns key := by simp
  have h12 : lv < 12 := by have := (h.bas.nd n hnn).h.2; omega
  have hpi := pre_in p ns key lv
  have hpb : pre p ns key lv = p ∨ ∃ m ∈ frt ns key ++ n :: bck ns key, m.b = pre p ns key lv := by
    rcases hpi with q | ⟨m, hm, e⟩
    · exact .inl q
    · exact .inr ⟨m, List.mem_append.2 (.inl hm), e⟩
  have hpF : FP p ns (pre p ns key lv) := by
    rcases hpi with q | ⟨m, hm, e⟩
    · exact .inl q
    · exact .inr ⟨m, (frt_lt m hm).1, .inl e.symm⟩
  have hplt : pre p ns key lv < w.heap.size := by
    rcases hpi with q | ⟨m, hm, e⟩
    · omega
    · have := hF m (frt_lt m hm).1; omega
  have hnew := h.new
  have b1 := (h.bas.next h12 (.inr ⟨n, hnn, rfl⟩) (ptrO (lev (bck ns key) lv).head?)).next h12 hpb (ptr n.b)
  refine ⟨b1, fun i hi => ?_, ?_, (h.kp.set (.inr (by omega))).set (.inl hpF), h.new, pre_in p ns key (lv + 1)⟩
  · have hc := h.lvs i hi
    by_cases q : i = lv
    · subst q
      rw [if_neg (by omega), lev_app] at hc
      rw [if_pos (by omega), lev_app]
      have e : lev (n :: bck ns key) i = n.b :: lev (bck ns key) i := by simp [lev, hl]
      rw [e]
      have hnd := h.bas.nodup i
      rw [lev_app, e] at hnd
      have hnl : ∀ {l : List Nd}, (∀ m ∈ l, m ∈ ns) → n.b ∉ lev l i := fun {l} hl' hm => by
        obtain ⟨m, hm', e', _⟩ := lev_mem hm
        have := hF m (hl' m hm')
        omega
      refine chain_put hc (by omega) (hnl fun m hm => (frt_lt m hm).1) (hnl fun m hm => (bck_ge m hm).1) ?_ ?_
      · exact hnd.sublist (List.Sublist.cons_cons _ (List.Sublist.append (List.Sublist.refl _) (List.sublist_cons_self _ _)))
      · obtain ⟨⟨v, hv⟩, _⟩ := h.bas.cellAt h12 (.inr ⟨n, hnn, rfl⟩)
        rw [hv]; rfl
    · have e : (if i < lv + 1 then lev (frt ns key ++ n :: bck ns key) i else lev (frt ns key ++ bck ns key) i) = (if i < lv then lev (frt ns key ++ n :: bck ns key) i else lev (frt ns key ++ bck ns key) i) := by
        by_cases r : i < lv
        · rw [if_pos r, if_pos (by omega)]
        · rw [if_neg r, if_neg (by omega)]
      rw [e]
      refine hc.keep fun k hk => ?_
      have k1 : ∀ {W : World} {b : Nat} {v : Value}, (W.setCell ⟨b, 2 + lv, none⟩ v).cell? ⟨k, 2 + i, none⟩ = W.cell? ⟨k, 2 + i, none⟩ := fun {W b v} => World.cell?_setCell_other _ _ _ _ (by intro e; simp only [Addr.mk.injEq, and_true] at e; omega)
      rw [k1, k1]
  · have h1 : w.heap.size ≠ n.b := by omega
    have h2 : w.heap.size ≠ pre p ns key lv := by omega
    rw [heap_ne _ _ _ h2, heap_ne _ _ _ h1]
    exact h.pth
theorem LkS.drew {w : World} {p : Nat} {ns : List Nd} {key : List Int} {n : Nd} {c wt : Int} {lv : Nat} {wx : World} (h : LkS w p ns key n c wt lv wx) : LkS w p ns key n c wt lv wx.drew :=
  ⟨h.bas.keep (fun _ _ => rfl) rfl, fun i hi => (h.lvs i hi).keep (fun _ _ => rfl), h.pth, ⟨h.kp.os, h.kp.tape, h.kp.output, h.kp.size, h.kp.block⟩, h.new, h.pin⟩
theorem LkS.done {w : World} {p : Nat} {ns : List Nd} {key : List Int} {n : Nd} {c wt : Int} {wx : World} (h : LkS w p ns key n c wt n.h wx) : MemAt wx p (frt ns key ++ n :: bck ns key) c wt := by
  refine ⟨h.bas, fun i hi => ?_⟩
  have := h.lvs i hi
  by_cases q : i < n.h
  · rw [if_pos q] at this
    exact this
  · rw [if_neg q] at this
    have e : lev (frt ns key ++ n :: bck ns key) i = lev (frt ns key ++ bck ns key) i := by
      rw [lev_app, lev_app]
      congr 1
      simp [lev, q]
    rw [e]
    exact this
theorem ordN_put {ns : List Nd} {key : List Int} (h : ordN ns) (hno : ∀ n ∈ ns, n.key ≠ key) {n : Nd} (hn : n.key = key) (hv : n.vs.Pairwise fun a b => a.seq < b.seq) : ordN (frt ns key ++ n :: bck ns key) := by
  have e := frt_bck h.1 key
  have h1 := h.1
  rw [e] at h1
  obtain ⟨a1, a2, a3⟩ := List.pairwise_append.1 h1
  have hB : ∀ b ∈ bck ns key, cmp key b.key < 0 := fun b hb => by
    have h1 := bck_ge b hb
    have h2 : cmp b.key key ≠ 0 := fun e => hno b h1.1 (cmp_zero.1 e)
    have h3 := cmp_neg b.key key
    omega
  refine ⟨List.pairwise_append.2 ⟨a1, List.pairwise_cons.2 ⟨fun b hb => by rw [hn]; exact hB b hb, a2⟩, fun a ha b hb => ?_⟩, fun m hm => ?_⟩
  · rcases List.mem_cons.1 hb with rfl | hb
    · rw [hn]; exact (frt_lt a ha).2
    · exact a3 a ha b hb
  · rcases List.mem_append.1 hm with q | q
    · exact h.2 m (frt_lt m q).1
    · rcases List.mem_cons.1 q with rfl | q
      · exact hv
      · exact h.2 m (bck_ge m q).1
theorem LkS.begin {w w3 : World} {p : Nat} {ns : List Nd} {c wt : Int} (h : MemAt w p ns c wt) {key : List Int} (hno : ∀ n ∈ ns, n.key ≠ key) {nb hh : Nat} {kv : Value} (hb : Below w.heap.size w w3) (hn : w.heap.size < nb) (hp : w3.heap[w.heap.size]? = some (.cells (pathA p ns key) 41 (0, 0))) (hblk : w3.heap[nb]? = some (.cells #[kv, .slice none 0 0, .pointer none, .pointer none, .pointer none, .pointer none, .pointer none, .pointer none, .pointer none, .pointer none, .pointer none, .pointer none, .pointer none, .pointer none] 43 (0, 0))) (hk : Row 0 w3 kv key) (hok : Okb key) (hh1 : 1 ≤ hh ∧ hh ≤ 12) : LkS w p ns key ⟨nb, key, kv, hh, [], .slice none 0 0⟩ c wt 0 w3 := by
  have hm := h.later hb
  have e := frt_bck h.bas.ord.1 key
  have hin : ∀ m, m ∈ frt ns key ∨ m ∈ bck ns key → m ∈ ns := fun m q => by
    rcases q with q | q
    · exact (frt_lt m q).1
    · exact (bck_ge m q).1
  have hlt : ∀ m ∈ ns, m.b < nb := fun m hm' => by have := h.bas.lt (.inr ⟨m, hm', .inl rfl⟩ : FP p ns m.b); omega
  refine ⟨⟨hm.bas.tab, hm.bas.head, fun m hm' => ?_, ordN_put h.bas.ord hno rfl List.Pairwise.nil, ?_, ?_⟩, fun i hi => ?_, hp, Kept.of_below hb, hn, pre_in _ _ _ _⟩
  · rcases List.mem_append.1 hm' with q | q
    · exact hm.bas.nd m (hin m (.inl q))
    · rcases List.mem_cons.1 q with rfl | q
      · exact ⟨⟨_, hblk, rfl, rfl, rfl⟩, hk, hok, ⟨rfl, .inl ⟨rfl, rfl⟩⟩, (fun v hv => by cases hv), hh1⟩
      · exact hm.bas.nd m (hin m (.inr q))
  · have h1 := h.bas.nb
    rw [e, List.map_append] at h1
    rw [List.map_append, List.map_cons, List.nodup_append] at *
    obtain ⟨n1, n2, n3⟩ := h1
    refine ⟨n1, List.nodup_cons.2 ⟨fun q => ?_, n2⟩, fun a ha b hb' => ?_⟩
    · obtain ⟨m, hm', e'⟩ := List.mem_map.1 q
      have := hlt m (hin m (.inr hm'))
      simp only at e'
      omega
    · rcases List.mem_cons.1 hb' with rfl | q
      · obtain ⟨m, hm', e'⟩ := List.mem_map.1 ha
        have := hlt m (hin m (.inl hm'))
        omega
      · exact n3 a ha b q
  · have h1 := h.bas.rw
    rw [e] at h1
    obtain ⟨n1, n2, n3⟩ := List.pairwise_append.1 h1
    refine List.pairwise_append.2 ⟨n1, List.pairwise_cons.2 ⟨fun b hb' k hk => (by cases hk), n2⟩, fun a ha b hb' => ?_⟩
    rcases List.mem_cons.1 hb' with rfl | q
    · intro k _ hk; cases hk
    · exact n3 a ha b q
  · rw [if_neg (by omega), ← e]
    exact hm.lv i hi

set_option maxHeartbeats 4000000 in
set_option maxRecDepth 100000 in
theorem link_m {w : World} {p : Nat} {ns : List Nd} {c wt : Int} (h : MemAt w p ns c wt) {ka : Option Addr} {kl kc : Nat} {key : List Int} (hk : Sl w ka kl kc key) (hkl : kl ≤ 3000) (hno : ∀ n ∈ ns, n.key ≠ key) : Calls Tryd.prog 16 #[.agg (pathA p ns key), .slice ka kl kc] w fun e w' => ∃ nb kv hh, e = .returned (ptr nb) ∧ MemAt w' p (frt ns key ++ ⟨nb, key, kv, hh, [], .slice none 0 0⟩ :: bck ns key) c wt ∧ Kept (FP p ns) w w' ∧ ∀ k, NF ⟨nb, key, kv, hh, [], .slice none 0 0⟩ k → w.heap.size ≤ k := by
  obtain ⟨W1, hW1⟩ : ∃ W1, W1 = w.alloc (.cells #[.pointer (some ⟨pre p ns key 0, 0, none⟩), .pointer (some ⟨pre p ns key 1, 0, none⟩), .pointer (some ⟨pre p ns key 2, 0, none⟩), .pointer (some ⟨pre p ns key 3, 0, none⟩), .pointer (some ⟨pre p ns key 4, 0, none⟩), .pointer (some ⟨pre p ns key 5, 0, none⟩), .pointer (some ⟨pre p ns key 6, 0, none⟩), .pointer (some ⟨pre p ns key 7, 0, none⟩), .pointer (some ⟨pre p ns key 8, 0, none⟩), .pointer (some ⟨pre p ns key 9, 0, none⟩), .pointer (some ⟨pre p ns key 10, 0, none⟩), .pointer (some ⟨pre p ns key 11, 0, none⟩)] 41) := ⟨_, rfl⟩
  have b1 : Below w.heap.size w W1 := by rw [hW1]; exact (Below.refl _ w).alloc (Nat.le_refl _) _
  have s1 : W1.heap.size = w.heap.size + 1 := by rw [hW1]; simp
  have p1 : W1.heap[w.heap.size]? = some (.cells (pathA p ns key) 41 (0, 0)) := by rw [hW1]; exact heap_alloc_new w _
  have hcl := clone_n (hk.later b1) (by omega)
  have HH : Hid (MemAt w p ns c wt ∧ Sl w ka kl kc key ∧ kl ≤ 3000 ∧ (∀ n ∈ ns, n.key ≠ key) ∧ Below w.heap.size w W1 ∧ W1.heap.size = w.heap.size + 1 ∧ W1.heap[w.heap.size]? = some (.cells (pathA p ns key) 41 (0, 0))) := ⟨h, hk, hkl, hno, b1, s1, p1⟩
  have HW1 := hid hW1
  clear h hk hkl hno b1 s1 p1 hW1
  unfold pathA ptr
  go_enter Tryd.func16, Tryd.ntmps16
  go_upto_region 1 with fail
  rw [← HW1.out]
  go_wp2_with fail
  refine hcl.mono ?_
  rintro e w2 ⟨kv, rfl, r2, b2⟩
  clear hcl
  obtain ⟨a2, c2, hkv, sk2⟩ := Sl.ofRow r2 HH.out.2.1.2.1
  subst hkv
  obtain ⟨W3, hW3⟩ : ∃ W3, W3 = w2.alloc (.cells #[.slice a2 key.length c2, .slice none 0 0, .pointer none, .pointer none, .pointer none, .pointer none, .pointer none, .pointer none, .pointer none, .pointer none, .pointer none, .pointer none, .pointer none, .pointer none] 43) := ⟨_, rfl⟩
  have HW3 := hid hW3
  have b3 : Below w2.heap.size w2 W3 := by rw [hW3]; exact (Below.refl _ w2).alloc (Nat.le_refl _) _
  have B3 : Hid (Below w.heap.size w W3 ∧ w.heap.size + 1 ≤ w2.heap.size ∧ Below W1.heap.size W1 W3) := by
    have hc1 := HH.out.2.2.2.2.1.trans (b2.mono HH.out.2.2.2.2.1.size)
    exact ⟨hc1.trans (b3.mono hc1.size), by have := b2.size; have := HH.out.2.2.2.2.2.1; omega, b2.trans (b3.mono b2.size)⟩
  have K3 : Hid (W3.heap[w2.heap.size]? = some (.cells #[.slice a2 key.length c2, .slice none 0 0, .pointer none, .pointer none, .pointer none, .pointer none, .pointer none, .pointer none, .pointer none, .pointer none, .pointer none, .pointer none, .pointer none, .pointer none] 43 (0, 0)) ∧ Row W1.heap.size W3 (.slice a2 key.length c2) key) := ⟨by rw [hW3]; exact heap_alloc_new w2 _, r2.later b3⟩
  have hht := height_m ((HH.out.1.later B3.out.1).bas.tab) (HH.out.2.1.later B3.out.1)
  clear b2 b3 r2 sk2 hW3
  go_upto_region 2 with fail
  rw [← HW3.out]
  go_wp2_with fail
  refine hht.mono ?_
  rintro e w' ⟨⟨hh, h1, h2, rfl⟩, hw⟩
  obtain rfl := hw.symm
  clear hht
  have H0 : Hid (LkS w p ns key ⟨w2.heap.size, key, .slice a2 key.length c2, hh, [], .slice none 0 0⟩ c wt 0 W3) :=
    LkS.begin HH.out.1 HH.out.2.2.2.1 B3.out.1 (by have := B3.out.2.1; omega) ((B3.out.2.2.block _ (by have := HH.out.2.2.2.2.2.1; omega)).trans HH.out.2.2.2.2.2.2) K3.out.1 (K3.out.2.base (Nat.zero_le _)) HH.out.2.1.2.1 ⟨h1, h2⟩
  have HF : Hid ((∀ m ∈ ns, m.b < w.heap.size) ∧ p < w.heap.size ∧ 1 ≤ hh ∧ hh ≤ 12) := ⟨fun m hm => HH.out.1.bas.lt (.inr ⟨m, hm, .inl rfl⟩), HH.out.1.bas.lt (.inl rfl), h1, h2⟩
  have HO : Hid (w.heap.size < w2.heap.size ∧ ∀ k, Ows (.slice a2 key.length c2) k → w.heap.size ≤ k) := ⟨by have := B3.out.2.1; omega, fun k hk => by
    have := (World.ownsRow.lt K3.out.2 k hk).1
    have := HH.out.2.2.2.2.2.1
    omega⟩
  have h2' : (hh : Int) ≤ 12 := by omega
  generalize w2.heap.size = nb at H0 HO K3 B3 HW3 ⊢
  clear HH HW1 HW3 K3 B3 hw
  go_wp2_with fail
  go_loopg [6, 13] hh (fun g _ i wx => ∃ j : Nat, j + g = hh ∧ i = .int .i64 (j : Int) ∧ Hid (LkS w p ns key ⟨nb, key, .slice a2 key.length c2, hh, [], .slice none 0 0⟩ c wt j wx))
  case atStart => exact ⟨0, by omega, rfl, H0⟩
  case round =>
    obtain ⟨j, hj, rfl, HK⟩ := hrel
    by_cases hlt : j < hh
    · have hlt' : (j : Int) < (hh : Int) := by omega
      have hj12 : (j : Int) < 12 := by omega
      obtain ⟨q0, q1, ⟨x, q2⟩, f2⟩ := HK.out.reads (by omega)
      simp only at q2 f2
      have HST := hid (HK.out.step (show j < _ from hlt) HF.out.1 HF.out.2.1)
      have hplt : pre p ns key j < w.heap.size := by
        rcases pre_in p ns key j with q | ⟨m, hm, e⟩
        · rw [q]; exact HF.out.2.1
        · have := HF.out.1 m (frt_lt m hm).1; omega
      have hnew := HO.out.1
      have hfp : wr.frozen? ⟨pre p ns key j, 2 + j, none⟩ = false := by
        refine (HK.out.bas.cellAt (by omega) ?_).2
        rcases pre_in p ns key j with q | ⟨m, hm, e⟩
        · exact .inl q
        · exact .inr ⟨m, List.mem_append.2 (.inl hm), e⟩
      obtain ⟨o, ho⟩ : ∃ o, ptrO (lev (bck ns key) j).head? = .pointer o := by
        cases (lev (bck ns key) j).head? with
        | none => exact ⟨_, rfl⟩
        | some b => exact ⟨_, rfl⟩
      rw [ho] at q1 HST
      unfold ptr at q0 HST
      generalize pre p ns key j = pb at q0 q1 HST hplt hfp
      have r0 : (wr.drew.setCell ⟨nb, 2 + j, none⟩ (.pointer o)).cell? ⟨w.heap.size, j, none⟩ = some (.pointer (some ⟨pb, 0, none⟩)) := by rw [cell_blk (by omega)]; exact q0
      have r1 : (wr.drew.setCell ⟨nb, 2 + j, none⟩ (.pointer o)).cell? ⟨pb, 2 + j, none⟩ = some (.pointer o) := by rw [cell_blk (by omega)]; exact q1
      have r2 : (wr.drew.setCell ⟨nb, 2 + j, none⟩ (.pointer o)).frozen? ⟨pb, 2 + j, none⟩ = false := by rw [World.frozen?_setCell]; exact hfp
      have hn1 : nb ≠ pb := by omega
      have hn2 : nb ≠ w.heap.size := by omega
      obtain ⟨GK, HG⟩ : ∃ g, Hid (g < gk ∧ j + 1 + g = hh) := ⟨gk - 1, by omega, by omega⟩
      clear ho hplt hnew hj HK
      go_wp2_with fail
      go_region_law (fail)
      go_wp2_with fail
      go_roundg GK
      case measure => exact HG.out.1
      case rel => exact ⟨j + 1, HG.out.2, by go_num, HST.out.drew⟩
    · have hlt' : (hh : Int) ≤ (j : Int) := by omega
      obtain rfl : j = hh := by omega
      have HD := hid HK.out.done
      have HKP := hid HK.out.kp
      clear hj HK hlt
      go_wp2_with fail
      refine bodyPost_ret (v := ptr nb) (by simp [results, Tryd.results16, go_sem, ptr]) rfl ⟨nb, .slice a2 key.length c2, j, rfl, HD.out, HKP.out, fun k hk => ?_⟩
      rcases hk with rfl | q | q | ⟨v, hv, _⟩
      · exact Nat.le_of_lt HO.out.1
      · exact HO.out.2 k q
      · cases q
      · cases hv
end Go.Proofs.YtaefddnmldbgiabDoor
