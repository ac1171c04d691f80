/- What the landed mem's before and seek answer. -/
import Derived.Test.YtaefddnmldbgiabDoorNplc
import Derived.Test.YtaefddnmldbgiabDoorMwr
namespace Go.Proofs.YtaefddnmldbgiabDoor
open Go.RowKit
set_option linter.unusedVariables false
set_option linter.unusedSimpArgs false

/-- The keys ahead of one, and the others. -/
def frt (ns : List Nd) (key : List Int) : List Nd := ns.filter fun n => decide (cmp n.key key < 0)
def bck (ns : List Nd) (key : List Int) : List Nd := ns.filter fun n => ! decide (cmp n.key key < 0)
theorem frt_bck {ns : List Nd} (h : ns.Pairwise fun a b => cmp a.key b.key < 0) (key : List Int) : ns = frt ns key ++ bck ns key := by
  induction ns with
  | nil => rfl
  | cons n r ih =>
    rw [List.pairwise_cons] at h
    by_cases q : cmp n.key key < 0
    · have e1 : frt (n :: r) key = n :: frt r key := by simp [frt, q]
      have e2 : bck (n :: r) key = bck r key := by simp [bck, q]
      rw [e1, e2, List.cons_append, ← ih h.2]
    · have hr : ∀ m ∈ r, ¬ cmp m.key key < 0 := fun m hm e => q (cmp_trans (h.1 m hm) e)
      have e1 : frt (n :: r) key = [] := by
        unfold frt
        rw [List.filter_eq_nil_iff]
        intro m hm
        rcases List.mem_cons.1 hm with rfl | hm
        · simpa using q
        · simpa using hr m hm
      have e2 : bck (n :: r) key = n :: r := by
        unfold bck
        rw [List.filter_eq_self]
        intro m hm
        rcases List.mem_cons.1 hm with rfl | hm
        · simpa using q
        · simpa using hr m hm
      rw [e1, e2]
      rfl
theorem frt_lt {ns : List Nd} {key : List Int} : ∀ n ∈ frt ns key, n ∈ ns ∧ cmp n.key key < 0 := fun n hn => by
  unfold frt at hn
  rw [List.mem_filter] at hn
  exact ⟨hn.1, by simpa using hn.2⟩
theorem bck_ge {ns : List Nd} {key : List Int} : ∀ n ∈ bck ns key, n ∈ ns ∧ ¬ cmp n.key key < 0 := fun n hn => by
  unfold bck at hn
  rw [List.mem_filter] at hn
  exact ⟨hn.1, by simpa using hn.2⟩
/-- The last of a level ahead of a key. -/
def pre (p : Nat) (ns : List Nd) (key : List Int) (i : Nat) : Nat := lastB p (lev (frt ns key) i)
/-- Where a level is gone on from, one level down. -/
theorem last_filter {α : Type} (f : α → Nat) (q : α → Bool) (p : Nat) : ∀ (n : Nat) (X : List α), X.length = n → ∃ j, j ≤ X.length ∧ lastB p ((X.filter q).map f) = lastB p ((X.take j).map f)
  | 0, X, h0 => by
    have e := List.eq_nil_of_length_eq_zero h0
    subst e
    exact ⟨0, Nat.le_refl _, rfl⟩
  | n + 1, X, h0 => by
    rcases List.eq_nil_or_concat X with rfl | ⟨X', c, rfl⟩
    · simp at h0
    · rw [List.concat_eq_append] at h0 ⊢
      by_cases h : q c = true
      · refine ⟨(X' ++ [c]).length, Nat.le_refl _, ?_⟩
        rw [List.take_length, List.filter_append, List.map_append, List.map_append]
        simp only [List.filter_cons, h, if_true, List.filter_nil, List.map_cons, List.map_nil]
        rw [lastB_app, lastB_app]
      · obtain ⟨j, hj, e⟩ := last_filter f q p n X' (by simp at h0; omega)
        refine ⟨j, by simp; omega, ?_⟩
        rw [List.filter_append]
        simp only [List.filter_cons, h, Bool.false_eq_true, if_false, List.filter_nil, List.append_nil]
        rw [e, List.take_append_of_le_length hj]
theorem pre_down (p : Nat) (A : List Nd) (i : Nat) : ∃ j, j ≤ (lev A i).length ∧ lastB p (lev A (i + 1)) = lastB p ((lev A i).take j) := by
  obtain ⟨j, hj, e⟩ := last_filter Nd.b (fun n => decide (i + 1 < n.h)) p _ (A.filter fun n => decide (i < n.h)) rfl
  have e1 : (A.filter fun n => decide (i < n.h)).filter (fun n => decide (i + 1 < n.h)) = A.filter fun n => decide (i + 1 < n.h) := by
    rw [List.filter_filter]
    congr 1
    funext n
    rw [Bool.eq_iff_iff]
    simp
    omega
  rw [e1, List.map_take] at e
  exact ⟨j, by unfold lev; simpa using hj, e⟩
/-- One step along a level. -/
theorem bef_next {w : World} {p : Nat} {ns : List Nd} {c wt : Int} (h : MemAt w p ns c wt) {key : List Int} {i : Nat} (hi : i < 12) {j : Nat} (hj : j ≤ (lev (frt ns key) i).length) :
    (∃ m ∈ ns, j < (lev (frt ns key) i).length ∧ w.cell? ⟨lastB p ((lev (frt ns key) i).take j), 2 + i, none⟩ = some (ptr m.b) ∧ lastB p ((lev (frt ns key) i).take (j + 1)) = m.b ∧ cmp m.key key < 0) ∨
    (j = (lev (frt ns key) i).length ∧ (w.cell? ⟨lastB p ((lev (frt ns key) i).take j), 2 + i, none⟩ = some (.pointer none) ∨ ∃ m ∈ ns, w.cell? ⟨lastB p ((lev (frt ns key) i).take j), 2 + i, none⟩ = some (ptr m.b) ∧ ¬ cmp m.key key < 0)) := by
  have hc := h.lv i hi
  rw [frt_bck h.bas.ord.1 key, lev_app] at hc
  have e : lev (frt ns key) i = (lev (frt ns key) i).take j ++ (lev (frt ns key) i).drop j := (List.take_append_drop _ _).symm
  have hc2 : Chain w i p ((lev (frt ns key) i).take j ++ ((lev (frt ns key) i).drop j ++ lev (bck ns key) i)) := by
    rw [← List.append_assoc, List.take_append_drop]
    exact hc
  have hn := hc2.from.next
  rcases Nat.lt_or_ge j (lev (frt ns key) i).length with q | q
  · left
    obtain ⟨m, hm, hb, hh⟩ := lev_mem (List.getElem_mem q)
    have hf := frt_lt m hm
    refine ⟨m, hf.1, q, ?_, ?_, hf.2⟩
    · rw [hn, List.drop_eq_getElem_cons q, hb]
      rfl
    · rw [List.take_add_one, List.getElem?_eq_getElem q]
      simp only [Option.toList]
      rw [lastB_app, hb]
  · right
    have hj2 : j = (lev (frt ns key) i).length := by omega
    refine ⟨hj2, ?_⟩
    rw [List.drop_of_length_le (by omega), List.nil_append] at hn
    cases hY : lev (bck ns key) i with
    | nil => rw [hY] at hn; exact .inl hn
    | cons y ys =>
      rw [hY] at hn
      obtain ⟨m, hm, hb, _⟩ := lev_mem (show y ∈ lev (bck ns key) i by rw [hY]; simp)
      have hf := bck_ge m hm
      exact .inr ⟨m, hf.1, by rw [hn]; simp [ptrO, hb], hf.2⟩
/-- What before has laid down. -/
structure BfS (w : World) (p : Nat) (ns : List Nd) (key : List Int) (L : Nat) (wx : World) : Prop where
  bel : Below w.heap.size w wx
  res : wx.heap[w.heap.size]? = some (.cells #[.pointer none, .pointer none, .pointer none, .pointer none, .pointer none, .pointer none, .pointer none, .pointer none, .pointer none, .pointer none, .pointer none, .pointer none] 41 (0, 0))
  pth : ∃ C, wx.heap[w.heap.size + 1]? = some (.cells C 41 (0, 0)) ∧ C.size = 12 ∧ ∀ i, L ≤ i → i < 12 → C[i]? = some (ptr (pre p ns key i))
theorem BfS.cell {w : World} {p : Nat} {ns : List Nd} {key : List Int} {L i : Nat} {wx : World} (h : BfS w p ns key L wx) (hi : i < 12) : (∃ v, wx.cell? ⟨w.heap.size + 1, i, none⟩ = some v) ∧ wx.frozen? ⟨w.heap.size + 1, i, none⟩ = false := by
  obtain ⟨C, h1, h2, h3⟩ := h.pth
  exact ⟨⟨C[i], by rw [cell_of h1]; exact Array.getElem?_eq_getElem (by omega)⟩, frozen_ofW h1 _⟩
theorem BfS.put {w : World} {p : Nat} {ns : List Nd} {key : List Int} {L : Nat} {wx : World} (h : BfS w p ns key (L + 1) wx) (hL : L < 12) : BfS w p ns key L (wx.setCell ⟨w.heap.size + 1, L, none⟩ (ptr (pre p ns key L))) := by
  obtain ⟨C, h1, h2, h3⟩ := h.pth
  refine ⟨below_set h.bel _ _ _ (by omega), (heap_ne wx _ _ (by omega)).trans h.res, _, heap_set h1 L _, by simpa using h2, fun i hi hi2 => ?_⟩
  rw [Array.getElem?_setIfInBounds]
  by_cases q : L = i
  · subst q
    rw [if_pos rfl, if_pos (by omega)]
  · rw [if_neg q]
    exact h3 i (by omega) hi2
theorem BfS.all {w : World} {p : Nat} {ns : List Nd} {key : List Int} {wx : World} (h : BfS w p ns key 0 wx) : wx.cell? ⟨w.heap.size + 1, 0, none⟩ = some (.pointer (some ⟨pre p ns key 0, 0, none⟩)) ∧ wx.cell? ⟨w.heap.size + 1, 1, none⟩ = some (.pointer (some ⟨pre p ns key 1, 0, none⟩)) ∧ wx.cell? ⟨w.heap.size + 1, 2, none⟩ = some (.pointer (some ⟨pre p ns key 2, 0, none⟩)) ∧ wx.cell? ⟨w.heap.size + 1, 3, none⟩ = some (.pointer (some ⟨pre p ns key 3, 0, none⟩)) ∧ wx.cell? ⟨w.heap.size + 1, 4, none⟩ = some (.pointer (some ⟨pre p ns key 4, 0, none⟩)) ∧ wx.cell? ⟨w.heap.size + 1, 5, none⟩ = some (.pointer (some ⟨pre p ns key 5, 0, none⟩)) ∧ wx.cell? ⟨w.heap.size + 1, 6, none⟩ = some (.pointer (some ⟨pre p ns key 6, 0, none⟩)) ∧ wx.cell? ⟨w.heap.size + 1, 7, none⟩ = some (.pointer (some ⟨pre p ns key 7, 0, none⟩)) ∧ wx.cell? ⟨w.heap.size + 1, 8, none⟩ = some (.pointer (some ⟨pre p ns key 8, 0, none⟩)) ∧ wx.cell? ⟨w.heap.size + 1, 9, none⟩ = some (.pointer (some ⟨pre p ns key 9, 0, none⟩)) ∧ wx.cell? ⟨w.heap.size + 1, 10, none⟩ = some (.pointer (some ⟨pre p ns key 10, 0, none⟩)) ∧ wx.cell? ⟨w.heap.size + 1, 11, none⟩ = some (.pointer (some ⟨pre p ns key 11, 0, none⟩)) := by
  obtain ⟨C, h1, h2, h3⟩ := h.pth
  refine ⟨?_, ?_, ?_, ?_, ?_, ?_, ?_, ?_, ?_, ?_, ?_, ?_⟩ <;> rw [cell_of h1] <;> exact h3 _ (by omega) (by omega)
theorem BfS.zero {w : World} {p : Nat} {ns : List Nd} {key : List Int} {L : Nat} {wx : World} (h : BfS w p ns key L wx) : wx.cell? ⟨w.heap.size, 0, none⟩ = some (.pointer none) ∧ wx.cell? ⟨w.heap.size, 1, none⟩ = some (.pointer none) ∧ wx.cell? ⟨w.heap.size, 2, none⟩ = some (.pointer none) ∧ wx.cell? ⟨w.heap.size, 3, none⟩ = some (.pointer none) ∧ wx.cell? ⟨w.heap.size, 4, none⟩ = some (.pointer none) ∧ wx.cell? ⟨w.heap.size, 5, none⟩ = some (.pointer none) ∧ wx.cell? ⟨w.heap.size, 6, none⟩ = some (.pointer none) ∧ wx.cell? ⟨w.heap.size, 7, none⟩ = some (.pointer none) ∧ wx.cell? ⟨w.heap.size, 8, none⟩ = some (.pointer none) ∧ wx.cell? ⟨w.heap.size, 9, none⟩ = some (.pointer none) ∧ wx.cell? ⟨w.heap.size, 10, none⟩ = some (.pointer none) ∧ wx.cell? ⟨w.heap.size, 11, none⟩ = some (.pointer none) := by
  refine ⟨?_, ?_, ?_, ?_, ?_, ?_, ?_, ?_, ?_, ?_, ?_, ?_⟩ <;> rw [cell_of h.res] <;> rfl
theorem BfS.frz {w : World} {p : Nat} {ns : List Nd} {key : List Int} {L : Nat} {wx : World} (h : BfS w p ns key L wx) (i : Nat) : wx.frozen? ⟨w.heap.size, i, none⟩ = false := frozen_ofW h.res i
def pathA (p : Nat) (ns : List Nd) (key : List Int) : Array Value := #[ptr (pre p ns key 0), ptr (pre p ns key 1), ptr (pre p ns key 2), ptr (pre p ns key 3), ptr (pre p ns key 4), ptr (pre p ns key 5), ptr (pre p ns key 6), ptr (pre p ns key 7), ptr (pre p ns key 8), ptr (pre p ns key 9), ptr (pre p ns key 10), ptr (pre p ns key 11)]
theorem arr12_size : (Tryd.prog.info? 41).map (·.size) = some 12 := by kernel_rfl
theorem path_one (p : Nat) (ns : List Nd) (key : List Int) : (pathA p ns key).all (·.oneCell') = true := by simp [pathA, ptr, Value.oneCell']
theorem below_row {B : Nat} {w0 w : World} (h : Below B w0 w) (q : Nat) (C : Array Value) (hq : B ≤ q) : Below B w0 (w.setRow q C) :=
  ⟨h.os, h.tape, h.output, by have : (w.setRow q C).heap.size = w.heap.size := by simp [World.setRow]
                              rw [this]; exact h.size, fun i hi => (setRow_other w q i C (by omega)).trans (h.block i hi)⟩
def lvv : Value → Nat
  | .int _ n => n.toNat
  | _ => 0

set_option maxHeartbeats 4000000 in
set_option maxRecDepth 100000 in
theorem before_m {w : World} {p : Nat} {ns : List Nd} {c wt : Int} (h : MemAt w p ns c wt) {ka : Option Addr} {kl kc : Nat} {key : List Int} (hk : Sl w ka kl kc key) : Calls Tryd.prog 14 #[pm p, .slice ka kl kc] w fun e w' => e = .returned (.agg (pathA p ns key)) ∧ Below w.heap.size w w' := by
  obtain ⟨W, hW⟩ : ∃ W, W = (w.alloc (.cells #[.pointer none, .pointer none, .pointer none, .pointer none, .pointer none, .pointer none, .pointer none, .pointer none, .pointer none, .pointer none, .pointer none, .pointer none] 41)).alloc (.cells #[.pointer none, .pointer none, .pointer none, .pointer none, .pointer none, .pointer none, .pointer none, .pointer none, .pointer none, .pointer none, .pointer none, .pointer none] 41) := ⟨_, rfl⟩
  have HSZ : Hid (W.heap.size = w.heap.size + 2) := by show _ = _; rw [hW]; simp
  have H0 : Hid (BfS w p ns key 12 W) := by
    have b1 : Below w.heap.size w (w.alloc (.cells #[.pointer none, .pointer none, .pointer none, .pointer none, .pointer none, .pointer none, .pointer none, .pointer none, .pointer none, .pointer none, .pointer none, .pointer none] 41)) := (Below.refl _ w).alloc (Nat.le_refl _) _
    have e1 := heap_alloc_new (w.alloc (.cells #[.pointer none, .pointer none, .pointer none, .pointer none, .pointer none, .pointer none, .pointer none, .pointer none, .pointer none, .pointer none, .pointer none, .pointer none] 41)) (.cells #[.pointer none, .pointer none, .pointer none, .pointer none, .pointer none, .pointer none, .pointer none, .pointer none, .pointer none, .pointer none, .pointer none, .pointer none] 41)
    rw [World.size_alloc] at e1
    refine ⟨by rw [hW]; exact b1.alloc b1.size _, by rw [hW]; exact (Below.heap_alloc _ _ _ (by simp)).trans (heap_alloc_new w _), _, by rw [hW]; exact e1, rfl, fun i hi hi2 => by omega⟩
  have HM : Hid (∀ wx, Below w.heap.size w wx → MemAt wx p ns c wt ∧ Sl wx ka kl kc key) := fun wx hb => ⟨h.later hb, hk.later hb⟩
  have HP : Hid (∃ j, j ≤ (lev (frt ns key) 11).length ∧ p = lastB p ((lev (frt ns key) 11).take j)) := ⟨0, Nat.zero_le _, rfl⟩
  have HW := hid hW
  unfold pm
  clear h hk hW
  go_enter Tryd.func14, Tryd.ntmps14
  go_wp2_with fail
  refine wp_scope_jumps 0 (fun a' w' => ∃ (L N : Nat), Hid (L < 12 ∧ BfS w p ns key (L + 1) w' ∧ ∃ j, j ≤ (lev (frt ns key) L).length ∧ N = lastB p ((lev (frt ns key) L).take j)) ∧ ∃ (u2 u3 u8 u9 u10 u11 u12 u13 u14 u15 u16 u17 u18 u19 u20 u21 u22 u23 u24 u25 u26 u27 u28 u29 u30 u31 u32 u33 u34 u35 u36 u37 u38 u39 u40 u41 u42 u43 u44 u45 : Value), a' = { tmps := #[.pointer (some ⟨p, 0, none⟩), .slice ka kl kc, u2, u3, .pointer (some ⟨w.heap.size, 0, none⟩), .pointer (some ⟨w.heap.size + 1, 0, none⟩), .int .i64 (L : Int), .pointer (some ⟨N, 0, none⟩), u8, u9, u10, u11, u12, u13, u14, u15, u16, u17, u18, u19, u20, u21, u22, u23, u24, u25, u26, u27, u28, u29, u30, u31, u32, u33, u34, u35, u36, u37, u38, u39, u40, u41, u42, u43, u44, u45], defers := [] }) (fun a _ => lvv (a.eval (.tmp 6))) rfl ?_ ?_
  · go_wp2_with fail
    rw [← HW.out]
    have HB : Hid (BfS w p ns key (11 + 1) W) := H0
    obtain ⟨j0, hj0, hp0⟩ := HP.out
    have H1 : Hid (p = lastB p ((lev (frt ns key) 11).take j0)) := hp0
    have hm62 : (lev (frt ns key) 11).length - j0 + j0 = (lev (frt ns key) 11).length := by omega
    clear hp0 HW HP H0
    go_step3
    have HC : Hid (MemAt W p ns c wt ∧ Sl W ka kl kc key) := HM.out _ HB.out.bel
    go_wp2_with fail
    go_loopg [7] ((lev (frt ns key) 11).length - j0) (fun g nv wx => wx = W ∧ ∃ j N : Nat, j + g = (lev (frt ns key) 11).length ∧ nv = .pointer (some ⟨N, 0, none⟩) ∧ Hid (N = lastB p ((lev (frt ns key) 11).take j)))
    case atStart => exact ⟨rfl, j0, _, by omega, rfl, H1⟩
    case round =>
      obtain ⟨rfl, j, N, hj, rfl, HN⟩ := hrel
      rcases bef_next HC.out.1 (key := key) (i := 11) (by omega) (j := j) (by omega) with ⟨m, hm, hlt, hcell, hnext, hcmp⟩ | ⟨hje, hcell | ⟨m, hm, hcell, hcmp⟩⟩
      · obtain ⟨a, cc, hv, hs⟩ := (HC.out.1.bas.nd m hm).sl
        have hkc := (HC.out.1.bas.nd m hm).cells.1
        rw [hv] at hkc
        have hcp := compare_l hs HC.out.2
        rw [← HN.out] at hcell
        unfold ptr at hcell
        simp only [Nat.reduceAdd] at hcell
        have HNX : Hid (m.b = lastB p ((lev (frt ns key) 11).take (j + 1))) := hnext.symm
        generalize cmp m.key key = S at hcp hcmp
        generalize m.b = mb at hcell hkc HNX
        generalize m.key.length = ml at hcp hkc
        clear hs hv hm hnext
        go_wp2_with fail
        refine hcp.mono ?_
        rintro e w' ⟨rfl, hw⟩
        obtain rfl := hw.symm
        clear hcp
        go_wp2_with fail
        go_roundg (gk - 1)
        case measure => omega
        case rel => exact ⟨rfl, j + 1, mb, by omega, rfl, HNX⟩
      · rw [← HN.out] at hcell
        simp only [Nat.reduceAdd] at hcell
        have hpre : N = pre p ns key 11 := by
          rw [HN.out, hje, List.take_length]
          rfl
        obtain ⟨⟨x, hx⟩, hf⟩ := HB.out.cell (i := 11) (by omega)
        have HB2 : Hid (BfS w p ns key 11 (wr.setCell ⟨w.heap.size + 1, 11, none⟩ (.pointer (some ⟨N, 0, none⟩)))) := by
          have := HB.out.put (L := 11) (by omega)
          rw [← hpre] at this
          exact this
        have HPR := hid hpre
        clear hpre HN HB hje hj H1 hm62
        go_wp2_with fail
        go_step3
        obtain ⟨j', hj', e'⟩ := pre_down p (frt ns key) 10
        exact ⟨rfl, 10, N, ⟨by omega, HB2.out, j', hj', HPR.out.trans e'⟩, _, _, _, _, _, _, _, _, _, _, _, _, _, _, _, _, _, _, _, _, _, _, _, _, _, _, _, _, _, _, _, _, _, _, _, _, _, _, _, _, rfl⟩
      · obtain ⟨a, cc, hv, hs⟩ := (HC.out.1.bas.nd m hm).sl
        have hkc := (HC.out.1.bas.nd m hm).cells.1
        rw [hv] at hkc
        have hcp := compare_l hs HC.out.2
        rw [← HN.out] at hcell
        unfold ptr at hcell
        simp only [Nat.reduceAdd] at hcell
        have hcmp' : 0 ≤ cmp m.key key := by omega
        generalize cmp m.key key = S at hcp hcmp hcmp'
        generalize m.b = mb at hcell hkc
        generalize m.key.length = ml at hcp hkc
        clear hs hv hm hcmp
        have hpre : N = pre p ns key 11 := by
          rw [HN.out, hje, List.take_length]
          rfl
        obtain ⟨⟨x, hx⟩, hf⟩ := HB.out.cell (i := 11) (by omega)
        have HB2 : Hid (BfS w p ns key 11 (wr.setCell ⟨w.heap.size + 1, 11, none⟩ (.pointer (some ⟨N, 0, none⟩)))) := by
          have := HB.out.put (L := 11) (by omega)
          rw [← hpre] at this
          exact this
        have HPR := hid hpre
        clear hpre HN HB hje hj H1 hm62
        go_wp2_with (first | (go_at_call 24; refine hcp.mono ?_; rintro e w' ⟨rfl, hw⟩; obtain rfl := hw.symm; clear hcp))
        go_step3
        obtain ⟨j', hj', e'⟩ := pre_down p (frt ns key) 10
        exact ⟨rfl, 10, N, ⟨by omega, HB2.out, j', hj', HPR.out.trans e'⟩, _, _, _, _, _, _, _, _, _, _, _, _, _, _, _, _, _, _, _, _, _, _, _, _, _, _, _, _, _, _, _, _, _, _, _, _, _, _, _, _, rfl⟩
  · rintro a' W ⟨L, N0, HI, u2, u3, u8, u9, u10, u11, u12, u13, u14, u15, u16, u17, u18, u19, u20, u21, u22, u23, u24, u25, u26, u27, u28, u29, u30, u31, u32, u33, u34, u35, u36, u37, u38, u39, u40, u41, u42, u43, u44, u45, rfl⟩
    have HB : Hid (BfS w p ns key (L + 1) W) := HI.out.2.1
    have hL12 : L < 12 := HI.out.1
    have hL12' : (L : Int) < 12 := by omega
    obtain ⟨j0, hj0, hp0⟩ := HI.out.2.2
    have H1 : Hid (N0 = lastB p ((lev (frt ns key) L).take j0)) := hp0
    clear hp0 HI HW HP H0
    have HC : Hid (MemAt W p ns c wt ∧ Sl W ka kl kc key) := HM.out _ HB.out.bel
    go_wp2_with fail
    go_loopg [7] ((lev (frt ns key) L).length - j0) (fun g nv wx => wx = W ∧ ∃ j N : Nat, j + g = (lev (frt ns key) L).length ∧ nv = .pointer (some ⟨N, 0, none⟩) ∧ Hid (N = lastB p ((lev (frt ns key) L).take j)))
    case atStart => exact ⟨rfl, j0, _, by omega, rfl, H1⟩
    case round =>
      obtain ⟨rfl, j, N, hj, rfl, HN⟩ := hrel
      rcases bef_next HC.out.1 (key := key) (i := L) (by omega) (j := j) (by omega) with ⟨m, hm, hlt, hcell, hnext, hcmp⟩ | ⟨hje, hcell | ⟨m, hm, hcell, hcmp⟩⟩
      · obtain ⟨a, cc, hv, hs⟩ := (HC.out.1.bas.nd m hm).sl
        have hkc := (HC.out.1.bas.nd m hm).cells.1
        rw [hv] at hkc
        have hcp := compare_l hs HC.out.2
        rw [← HN.out] at hcell
        unfold ptr at hcell
        have HNX : Hid (m.b = lastB p ((lev (frt ns key) L).take (j + 1))) := hnext.symm
        generalize cmp m.key key = S at hcp hcmp
        generalize m.b = mb at hcell hkc HNX
        generalize m.key.length = ml at hcp hkc
        clear hs hv hm hnext
        go_wp2_with fail
        refine hcp.mono ?_
        rintro e w' ⟨rfl, hw⟩
        obtain rfl := hw.symm
        clear hcp
        go_wp2_with fail
        go_roundg (gk - 1)
        case measure => omega
        case rel => exact ⟨rfl, j + 1, mb, by omega, rfl, HNX⟩
      · rw [← HN.out] at hcell
        have hpre : N = pre p ns key L := by
          rw [HN.out, hje, List.take_length]
          rfl
        obtain ⟨⟨x, hx⟩, hf⟩ := HB.out.cell (i := L) (by omega)
        have HB2 : Hid (BfS w p ns key L (wr.setCell ⟨w.heap.size + 1, L, none⟩ (.pointer (some ⟨N, 0, none⟩)))) := by
          have := HB.out.put (L := L) (by omega)
          rw [← hpre] at this
          exact this
        have HPR := hid hpre
        clear hpre HN HB hje hj H1
        by_cases hz : L = 0
        · subst hz
          have hg := HB2.out.res
          obtain ⟨C, g1, g2, g3⟩ := HB2.out.pth
          have hCA : C = pathA p ns key := by
            apply Array.ext
            · rw [g2]; rfl
            · intro i h1 h2
              have h12 : i < 12 := by omega
              have e1 := g3 i (by omega) h12
              rw [Array.getElem?_eq_getElem h1] at e1
              have e2 : (pathA p ns key)[i]? = some (ptr (pre p ns key i)) := by
                unfold pathA
                match i, h12 with
                | 0, _ => rfl
                | 1, _ => rfl
                | 2, _ => rfl
                | 3, _ => rfl
                | 4, _ => rfl
                | 5, _ => rfl
                | 6, _ => rfl
                | 7, _ => rfl
                | 8, _ => rfl
                | 9, _ => rfl
                | 10, _ => rfl
                | 11, _ => rfl
              rw [Array.getElem?_eq_getElem h2] at e2
              rw [Option.some.inj e1, Option.some.inj e2]
          subst hCA
          have HG := hid (And.intro hg g1)
          clear g3 g2 hg g1
          go_wp2_with (first | (refine wpList_load_row rfl 41 (.tmp 5) rfl (w.heap.size + 1) rfl 41 (pathA p ns key) (0, 0) (.array 12 40) HG.out.2 Tryd.underlying41 rfl arr12_size ?_) | (refine wpList_store_row rfl 41 (.tmp 4) (.tmp 45) rfl w.heap.size (pathA p ns key) rfl rfl 41 #[.pointer none, .pointer none, .pointer none, .pointer none, .pointer none, .pointer none, .pointer none, .pointer none, .pointer none, .pointer none, .pointer none, .pointer none] HG.out.1 arr12_size rfl (path_one p ns key) ?_))
          exact ⟨by simp, _, results_cell_row Tryd.results14 _ _ w.heap.size 41 (pathA p ns key) (0, 0) (.array 12 40) rfl (setRow_heap _ _ _ _ _ _ HG.out.1) Tryd.underlying41 rfl arr12_size, rfl, below_row HB2.out.bel _ _ (Nat.le_refl _)⟩
        · obtain ⟨M, rfl⟩ : ∃ M, L = M + 1 := ⟨L - 1, by omega⟩
          clear hz
          go_wp2_with fail
          go_step3
          obtain ⟨j', hj', e'⟩ := pre_down p (frt ns key) M
          refine ⟨rfl, ⟨M, N, ⟨by omega, HB2.out, j', hj', HPR.out.trans e'⟩, _, _, _, _, _, _, _, _, _, _, _, _, _, _, _, _, _, _, _, _, _, _, _, _, _, _, _, _, _, _, _, _, _, _, _, _, _, _, _, _, rfl⟩, ?_⟩
          simp [lvv, Act.eval]
      · obtain ⟨a, cc, hv, hs⟩ := (HC.out.1.bas.nd m hm).sl
        have hkc := (HC.out.1.bas.nd m hm).cells.1
        rw [hv] at hkc
        have hcp := compare_l hs HC.out.2
        rw [← HN.out] at hcell
        unfold ptr at hcell
        have hcmp' : 0 ≤ cmp m.key key := by omega
        generalize cmp m.key key = S at hcp hcmp hcmp'
        generalize m.b = mb at hcell hkc
        generalize m.key.length = ml at hcp hkc
        clear hs hv hm hcmp
        have hpre : N = pre p ns key L := by
          rw [HN.out, hje, List.take_length]
          rfl
        obtain ⟨⟨x, hx⟩, hf⟩ := HB.out.cell (i := L) (by omega)
        have HB2 : Hid (BfS w p ns key L (wr.setCell ⟨w.heap.size + 1, L, none⟩ (.pointer (some ⟨N, 0, none⟩)))) := by
          have := HB.out.put (L := L) (by omega)
          rw [← hpre] at this
          exact this
        have HPR := hid hpre
        clear hpre HN HB hje hj H1
        by_cases hz : L = 0
        · subst hz
          have hg := HB2.out.res
          obtain ⟨C, g1, g2, g3⟩ := HB2.out.pth
          have hCA : C = pathA p ns key := by
            apply Array.ext
            · rw [g2]; rfl
            · intro i h1 h2
              have h12 : i < 12 := by omega
              have e1 := g3 i (by omega) h12
              rw [Array.getElem?_eq_getElem h1] at e1
              have e2 : (pathA p ns key)[i]? = some (ptr (pre p ns key i)) := by
                unfold pathA
                match i, h12 with
                | 0, _ => rfl
                | 1, _ => rfl
                | 2, _ => rfl
                | 3, _ => rfl
                | 4, _ => rfl
                | 5, _ => rfl
                | 6, _ => rfl
                | 7, _ => rfl
                | 8, _ => rfl
                | 9, _ => rfl
                | 10, _ => rfl
                | 11, _ => rfl
              rw [Array.getElem?_eq_getElem h2] at e2
              rw [Option.some.inj e1, Option.some.inj e2]
          subst hCA
          have HG := hid (And.intro hg g1)
          clear g3 g2 hg g1
          go_wp2_with (first | (go_at_call 24; refine hcp.mono ?_; rintro e w' ⟨rfl, hw⟩; obtain rfl := hw.symm; clear hcp) | (refine wpList_load_row rfl 41 (.tmp 5) rfl (w.heap.size + 1) rfl 41 (pathA p ns key) (0, 0) (.array 12 40) HG.out.2 Tryd.underlying41 rfl arr12_size ?_) | (refine wpList_store_row rfl 41 (.tmp 4) (.tmp 45) rfl w.heap.size (pathA p ns key) rfl rfl 41 #[.pointer none, .pointer none, .pointer none, .pointer none, .pointer none, .pointer none, .pointer none, .pointer none, .pointer none, .pointer none, .pointer none, .pointer none] HG.out.1 arr12_size rfl (path_one p ns key) ?_))
          exact ⟨by simp, _, results_cell_row Tryd.results14 _ _ w.heap.size 41 (pathA p ns key) (0, 0) (.array 12 40) rfl (setRow_heap _ _ _ _ _ _ HG.out.1) Tryd.underlying41 rfl arr12_size, rfl, below_row HB2.out.bel _ _ (Nat.le_refl _)⟩
        · obtain ⟨M, rfl⟩ : ∃ M, L = M + 1 := ⟨L - 1, by omega⟩
          clear hz
          go_wp2_with (first | (go_at_call 24; refine hcp.mono ?_; rintro e w' ⟨rfl, hw⟩; obtain rfl := hw.symm; clear hcp))
          go_step3
          obtain ⟨j', hj', e'⟩ := pre_down p (frt ns key) M
          refine ⟨rfl, ⟨M, N, ⟨by omega, HB2.out, j', hj', HPR.out.trans e'⟩, _, _, _, _, _, _, _, _, _, _, _, _, _, _, _, _, _, _, _, _, _, _, _, _, _, _, _, _, _, _, _, _, _, _, _, _, _, _, _, _, rfl⟩, ?_⟩
          simp [lvv, Act.eval]
theorem lev_zero {ns : List Nd} (h : ∀ n ∈ ns, 1 ≤ n.h) : lev ns 0 = ns.map Nd.b := by
  unfold lev
  rw [List.filter_eq_self.2 (fun n hn => by have := h n hn; simp; omega)]
theorem pre_next {w : World} {p : Nat} {ns : List Nd} {c wt : Int} (h : MemAt w p ns c wt) (key : List Int) : w.cell? ⟨pre p ns key 0, 2, none⟩ = some (ptrO ((bck ns key).head?.map Nd.b)) := by
  have hc := h.lv 0 (by omega)
  rw [frt_bck h.bas.ord.1 key, lev_app] at hc
  have hn := hc.from.next
  rw [lev_zero (fun n hn => (h.bas.nd n (bck_ge n hn).1).h.1), List.head?_map] at hn
  exact hn
theorem seek_nil {w : World} {ka : Option Addr} {kl kc : Nat} : Calls Tryd.prog 19 #[.pointer none, .slice ka kl kc] w fun e w' => e = .returned (.pointer none) ∧ w' = w := by
  go_enter Tryd.func19, Tryd.ntmps19
  go_wp2_with fail
  go_ret
  exact ⟨by simp, rfl⟩
theorem run_ix0 (w : World) (c0 c1 c2 c3 c4 c5 c6 c7 c8 c9 c10 c11 : Option Addr) : (Instr.index 41 (.agg #[.pointer c0, .pointer c1, .pointer c2, .pointer c3, .pointer c4, .pointer c5, .pointer c6, .pointer c7, .pointer c8, .pointer c9, .pointer c10, .pointer c11]) (.int .i64 0)).run Tryd.prog w = .ok (.pointer c0) w := by
  simp [Instr.index, run_underlying Tryd.underlying41, asIntOf, go_sem]
theorem seek_m {w : World} {p : Nat} {ns : List Nd} {c wt : Int} (h : MemAt w p ns c wt) {ka : Option Addr} {kl kc : Nat} {key : List Int} (hk : Sl w ka kl kc key) : Calls Tryd.prog 19 #[pm p, .slice ka kl kc] w fun e w' => e = .returned (ptrO ((bck ns key).head?.map Nd.b)) ∧ Below w.heap.size w w' := by
  have hb := before_m h hk
  have HN : Hid (∀ wx, Below w.heap.size w wx → wx.cell? ⟨pre p ns key 0, 2, none⟩ = some (ptrO ((bck ns key).head?.map Nd.b))) := fun wx hb => pre_next (h.later hb) key
  clear h hk
  obtain ⟨V, hV⟩ : ∃ V, V = ptrO ((bck ns key).head?.map Nd.b) := ⟨_, rfl⟩
  have hV2 : ∃ o, V = .pointer o := by
    rw [hV]
    cases (bck ns key).head?.map Nd.b with
    | none => exact ⟨_, rfl⟩
    | some b => exact ⟨_, rfl⟩
  rw [← hV] at HN ⊢
  unfold pathA at hb
  unfold pm ptr at *
  generalize pre p ns key 0 = b0 at hb HN
  obtain ⟨o, rfl⟩ := hV2
  clear hV
  go_enter Tryd.func19, Tryd.ntmps19
  go_wp2_with fail
  refine hb.mono ?_
  rintro e w' ⟨rfl, b1⟩
  have hc := HN.out _ b1
  have HB := hid b1
  clear hb HN b1
  have hix := run_ix0
  go_wp2_with fail
  go_ret
  exact ⟨by simp, HB.out⟩
end Go.Proofs.YtaefddnmldbgiabDoor
