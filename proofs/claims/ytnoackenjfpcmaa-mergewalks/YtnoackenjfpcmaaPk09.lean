import Derived.Sort.Statements
import Derived.Test.YtnoackenjfpcmaaPk06
import Derived.Test.YtnoackenjfpcmaaPk07
import Derived.Test.YtnoackenjfpcmaaPk08
/- Rows that are put together by a heap, on lists. -/
namespace Go.Proofs.Ytnoackenjfpcmaa
set_option linter.unusedVariables false
set_option linter.unusedSimpArgs false

def noE : EntV := ⟨[], 0, false, 0, []⟩
/-- What is left of a row, and where it lies. -/
structure HpV where
  l : List EntV
  row : Nat
  la : Option Addr
  lc : Nat
def HpV.hd (x : HpV) : EntV × Nat := (x.l.headD noE, x.row)
def cmJ (a b : Int) : Int := if a < b then -1 else if b < a then 1 else 0
theorem cmJ_vals (a b : Int) : (cmJ a b = -1 ∧ a < b) ∨ (cmJ a b = 0 ∧ a = b) ∨ (cmJ a b = 1 ∧ b < a) := by
  unfold cmJ
  by_cases h : a < b
  · rw [if_pos h]; exact .inl ⟨rfl, h⟩
  · rw [if_neg h]
    by_cases h2 : b < a
    · rw [if_pos h2]; exact .inr (.inr ⟨rfl, h2⟩)
    · rw [if_neg h2]; exact .inr (.inl ⟨rfl, by omega⟩)
/-- The first of three that is not 0. -/
def or3 (a b c : Int) : Int := if a ≠ 0 then a else if b ≠ 0 then b else c
/-- How the program compares what is left of two rows. -/
def hpC (x y : HpV) : Int := or3 (cmp x.hd.1.key y.hd.1.key) (cmJ y.hd.1.seq x.hd.1.seq) (cmJ x.row y.row)
theorem hpC_lt {x y : HpV} : hpC x y < 0 ↔ tlt x.hd y.hd := by
  unfold hpC or3 tlt ahead
  have e1 : x.hd.2 = x.row := rfl
  have e2 : y.hd.2 = y.row := rfl
  rw [e1, e2]
  generalize x.hd.1 = a
  generalize y.hd.1 = b
  by_cases q : cmp a.key b.key = 0
  · have q' : ¬ (cmp a.key b.key ≠ 0) := fun h => h q
    rw [if_neg q', if_neg q']
    rcases cmJ_vals b.seq a.seq with ⟨v, h⟩ | ⟨v, h⟩ | ⟨v, h⟩
    · rw [v, if_pos (by omega), if_pos h]; omega
    · rw [v, if_neg (by omega), if_neg (by omega), if_neg (by omega)]
      rcases cmJ_vals x.row y.row with ⟨v2, h2⟩ | ⟨v2, h2⟩ | ⟨v2, h2⟩
      · rw [v2]; omega
      · rw [v2]; omega
      · rw [v2]; omega
    · rw [v, if_pos (by omega), if_neg (by omega), if_pos h]; omega
  · rw [if_pos q, if_pos q]; omega
theorem tlt_left {x y z : EntV × Nat} (h : ahead x.1 y.1 = 0) (hn : x.2 = y.2) (h2 : tlt x z) : tlt y z := by
  unfold tlt at *
  have h' : ahead y.1 x.1 = 0 := by have := ahead_neg x.1 y.1; omega
  rcases h2 with h2 | ⟨h2, h3⟩
  · exact .inl (ahead_eq_lt h' h2)
  · exact .inr ⟨ahead_eq_eq h' h2, by omega⟩
theorem tlt_ntrans {x y z : EntV × Nat} (h1 : ¬ tlt x y) (h2 : ¬ tlt y z) : ¬ tlt x z := fun h => by
  rcases tlt_or x y with q | q | ⟨q1, q2⟩
  · exact h1 q
  · exact h2 (tlt_trans q h)
  · exact h2 (tlt_left q1 q2 h)
theorem hpC_swo {α : Type} (f : α → HpV) : Go.Sort.SWO (fun x y : α => decide (hpC (f x) (f y) < 0)) where
  irrefl x := decide_eq_false fun h => tlt_irrefl _ (hpC_lt.1 h)
  trans x y z h1 h2 := by
    simp only [decide_eq_true_eq, hpC_lt] at *
    exact tlt_trans h1 h2
  ntrans x y z h1 h2 := by
    simp only [decide_eq_false_iff_not, hpC_lt] at *
    exact tlt_ntrans h1 h2
/-- x does not come behind y. -/
def leH (x y : HpV) : Prop := ¬ tlt y.hd x.hd
theorem leH_trans {x y z : HpV} (h1 : leH x y) (h2 : leH y z) : leH x z := tlt_ntrans h2 h1
theorem leH_refl (x : HpV) : leH x x := tlt_irrefl _
theorem leH_of_lt {x y : HpV} (h : tlt x.hd y.hd) : leH x y := tlt_asymm h
/-- A heap, but for what is below top. -/
structure Hp (H : List HpV) (top : Nat) : Prop where
  ok : ∀ i j x y, H[i]? = some x → H[j]? = some y → 0 < j → (j - 1) / 2 = i → i ≠ top → leH x y
  by' : ∀ p j x y, 0 < top → (top - 1) / 2 = p → H[p]? = some x → H[j]? = some y → 0 < j → (j - 1) / 2 = top → leH x y
def HpF (H : List HpV) : Prop := ∀ i j x y, H[i]? = some x → H[j]? = some y → 0 < j → (j - 1) / 2 = i → leH x y
theorem HpF.start {H H' : List HpV} (h : HpF H) (he : ∀ i, 0 < i → i < H'.length → H'[i]? = H[i]?) : Hp H' 0 := by
  refine ⟨fun i j x y hx hy hj hij hi => ?_, fun p j x y h0 => by omega⟩
  have l1 := (List.getElem?_eq_some_iff.1 hx).1
  have l2 := (List.getElem?_eq_some_iff.1 hy).1
  exact h i j x y (by rw [← he i (by omega) l1]; exact hx) (by rw [← he j hj l2]; exact hy) hj hij
theorem HpF.root {H : List HpV} (h : HpF H) {x : HpV} (hx : H[0]? = some x) : ∀ (j : Nat) (y : HpV), H[j]? = some y → leH x y := by
  intro j
  induction j using Nat.strongRecOn with
  | ind j ih =>
    intro y hy
    by_cases q : j = 0
    · subst q
      rw [hx] at hy
      obtain rfl : x = y := by simpa using hy
      exact leH_refl x
    · have hp : (j - 1) / 2 < j := by omega
      have hl := (List.getElem?_eq_some_iff.1 hy).1
      have hz : H[(j - 1) / 2]? = some (H[(j - 1) / 2]'(by omega)) := List.getElem?_eq_getElem (by omega)
      exact leH_trans (ih _ hp _ hz) (h _ j _ y hz hy (by omega) rfl)
/-- The least of top and its children that have been looked at. -/
structure Lst (H : List HpV) (top below least : Nat) : Prop where
  lt : least < H.length ∨ least = top
  is : least = top ∨ (2 * top + 1 ≤ least ∧ least < below)
  le : ∀ x, H[least]? = some x → (∀ y, H[top]? = some y → leH x y) ∧ ∀ j y, 2 * top + 1 ≤ j → j < below → H[j]? = some y → leH x y
theorem Lst.start (H : List HpV) (top : Nat) : Lst H top (2 * top + 1) top :=
  ⟨.inr rfl, .inl rfl, fun x hx => ⟨fun y hy => by rw [hx] at hy; obtain rfl : x = y := by simpa using hy
                                                   exact leH_refl x, fun j y h1 h2 => by omega⟩⟩
theorem Lst.take {H : List HpV} {top below least : Nat} (h : Lst H top below least) {x y : HpV} (hb : 2 * top + 1 ≤ below) (hx : H[below]? = some x) (hy : H[least]? = some y) (hlt : hpC x y < 0) : Lst H top (below + 1) below := by
  have k := leH_of_lt (hpC_lt.1 hlt)
  refine ⟨.inl (List.getElem?_eq_some_iff.1 hx).1, .inr ⟨hb, by omega⟩, fun z hz => ?_⟩
  rw [hx] at hz
  obtain rfl : x = z := by simpa using hz
  have g := h.le y hy
  refine ⟨fun u hu => leH_trans k (g.1 u hu), fun j u h1 h2 hu => ?_⟩
  by_cases q : j = below
  · subst q
    rw [hx] at hu
    obtain rfl : x = u := by simpa using hu
    exact leH_refl x
  · exact leH_trans k (g.2 j u h1 (by omega) hu)
theorem Lst.leave {H : List HpV} {top below least : Nat} (h : Lst H top below least) {x y : HpV} (hx : H[below]? = some x) (hy : H[least]? = some y) (hlt : ¬ hpC x y < 0) : Lst H top (below + 1) least := by
  have k : leH y x := fun q => hlt (hpC_lt.2 q)
  refine ⟨h.lt, ?_, fun z hz => ?_⟩
  · rcases h.is with q | ⟨q1, q2⟩
    · exact .inl q
    · exact .inr ⟨q1, by omega⟩
  · have g := h.le z hz
    rw [hy] at hz
    obtain rfl : y = z := by simpa using hz
    refine ⟨g.1, fun j u h1 h2 hu => ?_⟩
    by_cases q : j = below
    · subst q
      rw [hx] at hu
      obtain rfl : x = u := by simpa using hu
      exact k
    · exact g.2 j u h1 (by omega) hu
/-- Behind the look: both children were looked at, or there are no more. -/
theorem Hp.done {H : List HpV} {top below : Nat} (h : Hp H top) (hl : Lst H top below top) (hb : 2 * top + 2 < below ∨ H.length ≤ below) : HpF H := by
  intro i j x y hx hy hj hij
  by_cases q : i = top
  · subst q
    have l2 := (List.getElem?_eq_some_iff.1 hy).1
    exact (hl.le x hx).2 j y (by omega) (by omega) hy
  · exact h.ok i j x y hx hy hj hij q
def swH (H : List HpV) (i j : Nat) (x y : HpV) : List HpV := (H.set i y).set j x
theorem swH_get {H : List HpV} {i j : Nat} {x y : HpV} (hx : H[i]? = some x) (hy : H[j]? = some y) (k : Nat) : (swH H i j x y)[k]? = if k = j then some x else if k = i then some y else H[k]? := by
  have l1 := (List.getElem?_eq_some_iff.1 hx).1
  have l2 := (List.getElem?_eq_some_iff.1 hy).1
  unfold swH
  by_cases q : k = j
  · subst q
    rw [if_pos rfl, List.getElem?_set_self (by simpa using l2)]
  · rw [if_neg q, List.getElem?_set_ne (fun e => q e.symm)]
    by_cases q2 : k = i
    · subst q2
      rw [if_pos rfl, List.getElem?_set_self l1]
    · rw [if_neg q2, List.getElem?_set_ne (fun e => q2 e.symm)]
theorem swH_len (H : List HpV) (i j : Nat) (x y : HpV) : (swH H i j x y).length = H.length := by unfold swH; simp
theorem Hp.down {H : List HpV} {top below least : Nat} {x y : HpV} (h : Hp H top) (hl : Lst H top below least) (hb : 2 * top + 2 < below ∨ H.length ≤ below) (hb2 : below ≤ 2 * top + 3) (hne : least ≠ top) (hx : H[top]? = some x) (hy : H[least]? = some y) : Hp (swH H top least x y) least := by
  have g := swH_get hx hy
  have hc : least = 2 * top + 1 ∨ least = 2 * top + 2 := by
    rcases hl.is with q | q
    · exact absurd q hne
    · omega
  have hle := hl.le y hy
  refine ⟨fun i j u v hu hv hj hij hi => ?_, fun p j u v h0 hp hu hv hj hij => ?_⟩
  · rw [g] at hu hv
    rw [if_neg hi] at hu
    by_cases q : i = top
    · rw [if_pos q] at hu
      obtain rfl : y = u := by simpa using hu
      by_cases q2 : j = least
      · rw [if_pos q2] at hv
        obtain rfl : x = v := by simpa using hv
        exact hle.1 x hx
      · rw [if_neg q2, if_neg (by omega)] at hv
        have l2 := (List.getElem?_eq_some_iff.1 hv).1
        exact hle.2 j v (by omega) (by omega) hv
    · rw [if_neg q] at hu
      rw [if_neg (show ¬ j = least by omega)] at hv
      by_cases q2 : j = top
      · rw [if_pos q2] at hv
        obtain rfl : y = v := by simpa using hv
        exact h.by' i least u y (by omega) (by rw [← q2]; exact hij) hu hy (by omega) (by omega)
      · rw [if_neg q2] at hv
        exact h.ok i j u v hu hv hj hij q
  · rw [g] at hu hv
    have ep : p = top := by omega
    rw [if_neg (by omega), if_pos ep] at hu
    obtain rfl : y = u := by simpa using hu
    rw [if_neg (by omega), if_neg (by omega)] at hv
    exact h.ok least j y v hy hv hj hij hne
theorem set_perm {α : Type} : ∀ {H : List α} {i : Nat} {x : α} (y : α), H[i]? = some x → (y :: H).Perm (x :: H.set i y)
  | h :: H, 0, x, y, e => by
    obtain rfl : h = x := by simpa using e
    exact List.Perm.swap _ _ _
  | h :: H, i + 1, x, y, e => by
    have ih := set_perm (H := H) (i := i) y (by simpa using e)
    rw [List.set_cons_succ]
    exact (List.Perm.swap _ _ _).trans ((ih.cons h).trans (List.Perm.swap _ _ _))
theorem swH_perm {H : List HpV} {i j : Nat} {x y : HpV} (hx : H[i]? = some x) (hy : H[j]? = some y) (hne : i ≠ j) : (swH H i j x y).Perm H := by
  unfold swH
  have p1 := set_perm y hx
  have p2 := set_perm (H := H.set i y) (i := j) x (by rw [List.getElem?_set_ne hne]; exact hy)
  exact (List.Perm.cons_inv (p1.trans p2)).symm
/-- All entries of a heap. -/
def flatH (H : List HpV) : List (EntV × Nat) := H.flatMap fun x => x.l.map fun e => (e, x.row)
theorem flatH_perm {H H' : List HpV} (h : H.Perm H') : (flatH H).Perm (flatH H') := by
  unfold flatH
  exact h.flatMap_right _
theorem flatH_cons (x : HpV) (H : List HpV) : flatH (x :: H) = (x.l.map fun e => (e, x.row)) ++ flatH H := by unfold flatH; rw [List.flatMap_cons]
theorem flatH_app (H H' : List HpV) : flatH (H ++ H') = flatH H ++ flatH H' := by unfold flatH; rw [List.flatMap_append]
theorem tagR_snoc : ∀ (n : Nat) (rs : List (List EntV)) (l : List EntV), tagR n (rs ++ [l]) = tagR n rs ++ l.map fun e => (e, n + rs.length)
  | n, [], l => by simp [tagR]
  | n, r :: rs, l => by
    rw [List.cons_append, tagR, tagR, tagR_snoc (n + 1) rs l, List.append_assoc, List.length_cons, show n + 1 + rs.length = n + (rs.length + 1) by omega]
/-- What one step takes off. -/
theorem flatH_step {H : List HpV} (h : HpF H) (ho : ∀ x ∈ H, ordE x.l) {x : HpV} {e : EntV} {q : List EntV} (hx : H[0]? = some x) (hl : x.l = e :: q) {R : List (EntV × Nat)} (hR : R.Pairwise tlt) (hp : R.Perm (flatH H)) :
    ∃ R', R = (e, x.row) :: R' ∧ R'.Pairwise tlt ∧ R'.Perm ((q.map fun z => (z, x.row)) ++ flatH (H.drop 1)) := by
  obtain ⟨H2, rfl⟩ : ∃ H2, H = x :: H2 := by
    cases H with
    | nil => simp at hx
    | cons y H2 => obtain rfl : y = x := by simpa using hx
                   exact ⟨H2, rfl⟩
  have ef : flatH (x :: H2) = (e, x.row) :: ((q.map fun z => (z, x.row)) ++ flatH H2) := by rw [flatH_cons, hl]; rfl
  have hmin : ∀ z ∈ flatH (x :: H2), ¬ tlt z (e, x.row) := by
    intro z hz
    unfold flatH at hz
    obtain ⟨y, hy, hz⟩ := List.mem_flatMap.1 hz
    obtain ⟨e', he', rfl⟩ := List.mem_map.1 hz
    obtain ⟨j, hj⟩ := List.getElem?_of_mem hy
    have hle : ¬ tlt y.hd x.hd := h.root hx j y hj
    have ehx : x.hd = (e, x.row) := by unfold HpV.hd; rw [hl]; rfl
    rw [ehx] at hle
    intro ht
    refine hle ?_
    have hoy := ho y hy
    unfold HpV.hd
    cases hyl : y.l with
    | nil => rw [hyl] at he'; cases he'
    | cons a r =>
      rw [hyl] at he' hoy
      show tlt (a, y.row) (e, x.row)
      rcases List.mem_cons.1 he' with q2 | q2
      · rw [← q2]; exact ht
      · exact tlt_trans (.inl ((List.pairwise_cons.1 hoy).1 e' q2)) ht
  rw [ef] at hp
  cases R with
  | nil => have := hp.length_eq; simp at this
  | cons z R' =>
    have hc := List.pairwise_cons.1 hR
    have ez : z = (e, x.row) := by
      rcases List.mem_cons.1 (hp.mem_iff.2 (List.mem_cons_self ..)) with q2 | q2
      · exact q2.symm
      · exact (hmin z (by rw [ef]; exact hp.mem_iff.1 (List.mem_cons_self ..)) (hc.1 _ q2)).elim
    subst ez
    exact ⟨R', rfl, hc.2, List.Perm.cons_inv hp⟩
/-- A row of them that is sorted is a heap. -/
theorem hpF_sorted {H : List HpV} (h : ∀ (i j : Nat) (x y : HpV), i < j → H[i]? = some x → H[j]? = some y → ¬ hpC y x < 0) : HpF H := fun i j x y hx hy hj hij => by
  intro q
  exact h i j x y (by omega) hx hy (hpC_lt.2 q)
end Go.Proofs.Ytnoackenjfpcmaa

/- Rows of structs that lean on some blocks alone; pieces of them. -/
namespace Go.Proofs.Ytnoackenjfpcmaa
open Go.RowKit
set_option linter.unusedVariables false
set_option linter.unusedSimpArgs false

/-- A row that is read; its elements lean on blocks of G alone. -/
def RSG {α : Type} (E : El α) (G : Nat → Prop) (w : World) (ao : Option Addr) (len cap : Nat) (xs : List α) : Prop := ∃ us, RSu E w ao len cap us xs ∧ ∀ u ∈ us, ∀ b, Refs u b → G b
theorem RSG.rs {α : Type} {E : El α} {G : Nat → Prop} {w : World} {ao : Option Addr} {len cap : Nat} {xs : List α} (h : RSG E G w ao len cap xs) : RS E w ao len cap xs := by
  obtain ⟨us, h, _⟩ := h
  exact ⟨us, h⟩
theorem RSG.later {α : Type} {E : El α} {G : Nat → Prop} {w w' : World} {ao : Option Addr} {len cap : Nat} {xs : List α} (h : RSG E G w ao len cap xs) (hb : Below w.heap.size w w') : RSG E G w' ao len cap xs := by
  obtain ⟨us, h, hg⟩ := h
  exact ⟨us, h.later hb, hg⟩
theorem RSG.any {α : Type} {E : El α} {w : World} {ao : Option Addr} {len cap : Nat} {xs : List α} (h : RS E w ao len cap xs) : RSG E (fun b => b < w.heap.size) w ao len cap xs := by
  obtain ⟨us, h⟩ := h
  exact ⟨us, h, fun u hu b hr => h.2.2.2.2.1.lt u hu b hr⟩
theorem RowF.rsg {α : Type} {E : El α} {B : Nat} {F : Nat → Prop} {w : World} {v : Value} {xs : List α} (h : RowF E B F w v xs) : ∃ ao cap, v = .slice ao xs.length cap ∧ RSG E F w ao xs.length cap xs := by
  obtain ⟨us, hown, h2, h3, h4⟩ := h
  have hcells : ∀ g, v.ownBlock = some g → _ := fun g hg => World.ownsRow.cells hown (g := g) hg
  rcases hown.2 with ⟨rfl, h0⟩ | ⟨g, cap, cur, rfl, hbg, hg, hnc, hcm, hcs, htake⟩
  · have hx : xs = [] := List.eq_nil_of_length_eq_zero h0
    subst hx
    have hu : us = [] := h2
    subst hu
    exact ⟨none, 0, rfl, [], ⟨rfl, fun _ => ⟨rfl, rfl⟩, Nat.le_refl _, Nat.zero_le _, rfl, fun j u hu => by simp at hu⟩, fun u hu => by cases hu⟩
  · refine ⟨some ⟨g, 0, none⟩, cap, rfl, us, ⟨rfl, (fun q => by cases q), hnc, hcm, h2, fun j u hu => ⟨g, 0, rfl, ?_⟩⟩, h4⟩
    have := hcells g rfl j u hu
    rw [Addr.add_lit] at this
    exact this
theorem Lay.split' {α : Type} {E : El α} {w : World} : ∀ {us : List Value} {xs ys : List α}, Lay E w us (xs ++ ys) → ∃ u1 u2, us = u1 ++ u2 ∧ Lay E w u1 xs ∧ Lay E w u2 ys
  | us, [], ys, h => ⟨[], us, rfl, rfl, h⟩
  | us, x :: xs, ys, h => by
    obtain ⟨vs, us', rfl, h1, h2⟩ := h
    obtain ⟨u1, u2, rfl, g1, g2⟩ := Lay.split' h2
    exact ⟨vs ++ u1, u2, by rw [List.append_assoc], ⟨vs, u1, rfl, h1, g1⟩, g2⟩
/-- A piece of a row that is read. -/
theorem RSG.cut {α : Type} {E : El α} {G : Nat → Prop} {w : World} {ao : Option Addr} {len cap : Nat} {xs : List α} (h : RSG E G w ao len cap xs) (hp : 0 < E.size) (i j : Nat) (h1 : i ≤ j) (h2 : j ≤ len) :
    RSG E G w (if cap - i = 0 then ao else ao.map (fun a => a.add (i * E.size))) (j - i) (cap - i) ((xs.drop i).take (j - i)) := by
  obtain ⟨us, ⟨e1, e2, e3, e4, e5, e6⟩, hg⟩ := h
  have hus : us = (us.take (i * E.size)) ++ ((us.drop (i * E.size)).take ((j - i) * E.size) ++ (us.drop (i * E.size)).drop ((j - i) * E.size)) := by rw [List.take_append_drop, List.take_append_drop]
  have hxs : xs = xs.take i ++ ((xs.drop i).take (j - i) ++ (xs.drop i).drop (j - i)) := by rw [List.take_append_drop, List.take_append_drop]
  have hl := e5
  rw [hxs] at hl
  obtain ⟨u1, u2, q1, l1, l2⟩ := Lay.split' hl
  obtain ⟨u3, u4, q2, l3, l4⟩ := Lay.split' l2
  have n1 := l1.len
  have n3 := l3.len
  have x1 : (xs.take i).length = i := by rw [List.length_take]; omega
  have x3 : ((xs.drop i).take (j - i)).length = j - i := by rw [List.length_take, List.length_drop]; omega
  rw [x1] at n1
  rw [x3] at n3
  refine ⟨u3, ⟨x3, fun hn => ?_, by omega, by omega, l3, fun k u hk => ?_⟩, fun u hu b hr => hg u (by rw [q1, q2]; exact List.mem_append.2 (.inr (List.mem_append.2 (.inl hu)))) b hr⟩
  · by_cases q : cap - i = 0
    · rw [if_pos q] at hn
      have := e2 hn
      omega
    · rw [if_neg q] at hn
      have := e2 (by simpa using hn)
      omega
  · have hkl : k < u3.length := (List.getElem?_eq_some_iff.1 hk).1
    have hku : us[i * E.size + k]? = some u := by
      rw [q1, q2, List.getElem?_append_right (by omega), n1, Nat.add_sub_cancel_left, List.getElem?_append_left hkl]
      exact hk
    obtain ⟨b, off, rfl, hc⟩ := e6 _ _ hku
    have hji : 0 < j - i := by
      rcases Nat.eq_zero_or_pos (j - i) with q | q
      · rw [q, Nat.zero_mul] at n3
        omega
      · exact q
    refine ⟨b, off + i * E.size, ?_, by rw [Nat.add_assoc]; exact hc⟩
    rw [if_neg (by omega)]
    show some ((⟨b, off, none⟩ : Addr).add (i * E.size)) = _
    rw [Addr.add_lit]
end Go.Proofs.Ytnoackenjfpcmaa

/- What is asked of a program's mem: how it lies in memory is its own. -/
namespace Go.Proofs.Ytnoackenjfpcmaa
open Go.RowKit
set_option linter.unusedVariables false
set_option linter.unusedSimpArgs false

/-- All that is not of F stands. -/
structure Kept (F : Nat → Prop) (w w' : World) : Prop where
  os : w'.os = w.os
  tape : w'.tape = w.tape
  output : w'.output = w.output
  size : w.heap.size ≤ w'.heap.size
  block : ∀ k, k < w.heap.size → ¬ F k → w'.heap[k]? = w.heap[k]?
theorem Kept.below {F : Nat → Prop} {w w' : World} {B : Nat} (h : Kept F w w') (hB : B ≤ w.heap.size) (hF : ∀ k, F k → B ≤ k) : Below B w w' :=
  ⟨h.os, h.tape, h.output, h.size, fun k hk => h.block k (by omega) (fun q => by have := hF k q; omega)⟩
theorem Kept.refl (F : Nat → Prop) (w : World) : Kept F w w := ⟨rfl, rfl, rfl, Nat.le_refl _, fun _ _ _ => rfl⟩
/-- An entry as a value. -/
def entA (ka : Option Addr) (kc : Nat) (va : Option Addr) (vc : Nat) (e : EntV) : Value := .agg #[.slice ka e.key.length kc, .int .i64 e.seq, .bool e.gone, .int .i64 e.till, .slice va e.val.length vc]
def entL (ka : Option Addr) (kc : Nat) (va : Option Addr) (vc : Nat) (e : EntV) : List Value := [.slice ka e.key.length kc, .int .i64 e.seq, .bool e.gone, .int .i64 e.till, .slice va e.val.length vc]
/-- No entry. -/
def ent0 : Value := .agg #[.slice none 0 0, .int .i64 0, .bool false, .int .i64 0, .slice none 0 0]
/-- What a call that tells an entry tells: memory of the caller's own. -/
def GotE (B : Nat) (g : Option EntV) (r : Ending) (w' : World) : Prop :=
  (g = none ∧ r = .returned (.tuple #[ent0, .bool false])) ∨ ∃ x ka kc va vc, g = some x ∧ r = .returned (.tuple #[entA ka kc va vc x, .bool true]) ∧ EntM w' (entL ka kc va vc x) x ∧ ∀ u ∈ entL ka kc va vc x, ∀ b, Refs u b → B ≤ b
/-- The mem's pointer. -/
def pm (p : Nat) : Value := .pointer (some ⟨p, 0, none⟩)
/-- -/
structure PM where
  R : World → Nat → List EntV → (Nat → Prop) → Prop
  G : World → Prop
  N : Nat
  gk : ∀ {w w'}, G w → Below w.heap.size w w' → G w'
  gn : ∀ {w}, G w → N ≤ w.heap.size
  rn : ∀ {w p l F}, R w p l F → N ≤ w.heap.size
  lt : ∀ {w p l F}, R w p l F → ∀ k, F k → k < w.heap.size
  same : ∀ {w w' p l F}, R w p l F → (∀ k, F k → w'.heap[k]? = w.heap[k]?) → (∀ k, k < N → w'.heap[k]? = w.heap[k]?) → R w' p l F
/-- What List and All tell. -/
structure PML (D : PM) : Prop where
theorem PM.later {D : PM} {w w' : World} {p : Nat} {l : List EntV} {F : Nat → Prop} (h : D.R w p l F) (hb : Below w.heap.size w w') : D.R w' p l F := D.same h (fun k hk => hb.block k (D.lt h k hk)) (fun k hk => hb.block k (by have := D.rn h; omega))
end Go.Proofs.Ytnoackenjfpcmaa
