import Derived.Test.YtjgfklbhagcbaabPk10
import Derived.Test.YtjgfklbhagcbaabPk11
import Derived.Test.YtjgfklbhagcbaabPk13
import Derived.Test.YtjgfklbhagcbaabPk14
/- The document's own reader: Number, Bytes, Flag, End. -/
namespace Go.Proofs.Ytjgfklbhagcbaab
open Go.RowKit
set_option linter.unusedVariables false
set_option linter.unusedSimpArgs false

theorem heap_set {w : World} {p : Nat} {C : Array Value} {t : TypeId} {f : Nat × Nat} (h : w.heap[p]? = some (.cells C t f)) (k : Nat) (v : Value) : (w.setCell ⟨p, k, none⟩ v).heap[p]? = some (.cells (C.setIfInBounds k v) t f) := by
  simp only [World.setCell, Array.getElem?_modify, if_true, h]
  rfl
theorem frozen_of {w : World} {p : Nat} {C : Array Value} {t : TypeId} (h : w.heap[p]? = some (.cells C t (0, 0))) (k : Nat) : w.frozen? ⟨p, k, none⟩ = false := by
  simp [World.frozen?, h]
theorem grown_set (w : World) (p k : Nat) (v : Value) : w.grownBy (w.setCell ⟨p, k, none⟩ v) (some p) :=
  ⟨rfl, rfl, rfl, by simp [World.setCell], fun i hi hn => Below.heap_setCell _ _ _ _ (fun e => hn (by rw [e]))⟩
theorem below_grown {w w' : World} (h : Below w.heap.size w w') (r : Option Nat) : w.grownBy w' r := ⟨h.os, h.tape, h.output, h.size, fun k hk _ => h.block k hk⟩
theorem grown_trans {w w' w'' : World} {r : Option Nat} (h : w.grownBy w' r) (g : w'.grownBy w'' r) : w.grownBy w'' r :=
  ⟨g.os.trans h.os, g.tape.trans h.tape, g.output.trans h.output, Nat.le_trans h.size g.size, fun k hk hn => (g.block k (Nat.lt_of_lt_of_le hk h.size) hn).trans (h.block k hk hn)⟩
theorem refs_cut {w : World} {ao : Option Addr} {len cap i j : Nat} {xs : List Int} {b : Nat} (hs : Sl w ao len cap xs) (hj : j ≤ len) (h : Refs (.slice (cutA ao cap i) (j - i) (cap - i)) b) : Refs (.slice ao len cap) b := by
  obtain ⟨off, l, c, e, h0⟩ := h
  simp only [Value.slice.injEq] at e
  obtain ⟨e1, rfl, rfl⟩ := e
  have hl := hs.2.2.2.1
  obtain ⟨_, b', off', e', _⟩ := hs.2.2.2.2.2 0 (by omega)
  subst e'
  unfold cutA at e1
  rw [if_neg (by omega)] at e1
  have e2 : (some ((⟨b', off', none⟩ : Addr).add i)) = some (⟨b, off, none⟩ : Addr) := e1
  rw [Addr.add_lit] at e2
  simp only [Option.some.injEq, Addr.mk.injEq, and_true] at e2
  obtain ⟨rfl, _⟩ := e2
  exact ⟨off', len, cap, rfl, by omega⟩
theorem rdB_okb {most : Nat} {s : Rd} (h : Okb s.1) : Okb (rdB most s).1 := by
  unfold rdB
  split
  · exact fun x hx => by cases hx
  · split
    · exact fun x hx => by cases hx
    · exact tb_okb h
theorem rdN_le {most : Nat} {s : Rd} : (rdN most s).1 ≤ most := by
  unfold rdN
  split
  · exact Nat.zero_le _
  · split
    · exact Nat.zero_le _
    · split
      · exact Nat.zero_le _
      · rename_i h; exact Nat.le_of_not_lt h

end Go.Proofs.Ytjgfklbhagcbaab

/- Lines of tables as a row of one's own is sorted: level.ordered. -/
namespace Go.Proofs.Ytjgfklbhagcbaab
open Go.Shelf Go.RowKit Go.Lib Go.Sort
set_option linter.unusedVariables false
set_option linter.unusedSimpArgs false

/-- A row's lines, cell by cell. -/
def RowL (w : World) (g off : Nat) (its : List ItV) : Prop := ∀ i x, its[i]? = some x → ∀ j v, x.cells[j]? = some v → w.cell? ⟨g, off + i * 5 + j, none⟩ = some v ∧ w.frozen? ⟨g, off + i * 5 + j, none⟩ = false
theorem lay_its {w : World} : ∀ {us : List Value} {xs : List LnV}, Lay lnE w us xs → ∃ its : List ItV, its.map (·.t) = xs ∧ (∀ x ∈ its, LnM w x.cells x.t ∧ ∀ v ∈ x.cells, v ∈ us) ∧ ∀ i x, its[i]? = some x → ∀ j v, x.cells[j]? = some v → us[i * 5 + j]? = some v
  | us, [], h => ⟨[], rfl, (fun x hx => by cases hx), fun i x hx => by simp at hx⟩
  | us, x :: xs, h => by
    obtain ⟨vs, us', rfl, h1, h2⟩ := h
    obtain ⟨its, e, h3, h4⟩ := lay_its h2
    obtain ⟨la, lc, ma, mc, rfl, h5⟩ := h1
    refine ⟨⟨x, la, lc, ma, mc⟩ :: its, by rw [List.map_cons, e], fun y hy => ?_, fun i y hy j v hv => ?_⟩
    · rcases List.mem_cons.1 hy with rfl | hy
      · exact ⟨⟨la, lc, ma, mc, rfl, h5⟩, fun v hv => List.mem_append.2 (.inl hv)⟩
      · exact ⟨(h3 y hy).1, fun v hv => List.mem_append.2 (.inr ((h3 y hy).2 v hv))⟩
    · cases i with
      | zero =>
        obtain rfl : (⟨x, la, lc, ma, mc⟩ : ItV) = y := by simpa using hy
        rw [Nat.zero_mul, Nat.zero_add]
        exact (List.getElem?_append_left (List.getElem?_eq_some_iff.1 hv).1).trans hv
      | succ i =>
        have := h4 i y (by simpa using hy) j v hv
        rw [List.getElem?_append_right (by simp; omega)]
        simp only [List.length_cons, List.length_nil]
        rw [show (i + 1) * 5 + j - (0 + 1 + 1 + 1 + 1 + 1) = i * 5 + j by omega]
        exact this
/-- What is known of a row that is sorted. -/
structure RwI (B : Nat) (w : World) (g off : Nat) (its : List ItV) : Prop where
  row : RowL w g off its
  ok : ∀ x ∈ its, ItOk w g x
  new : B ≤ g
  lt : g < w.heap.size
theorem rwI_of {B : Nat} {w : World} {v : Value} {xs : List LnV} (h : RowS lnE B w v xs) : v = .slice none 0 0 ∧ xs = [] ∨ ∃ g cap its, v = .slice (some ⟨g, 0, none⟩) xs.length cap ∧ its.map (·.t) = xs ∧ RwI B w g 0 its ∧ xs.length ≤ cap ∧ cap ≤ maxLen := by
  obtain ⟨us, hown, h2, h3⟩ := h
  rcases hown.2 with ⟨rfl, h0⟩ | ⟨g, cap, cur, rfl, hbg, hg, hnc, hcm, hcs, htake⟩
  · exact .inl ⟨rfl, List.eq_nil_of_length_eq_zero h0⟩
  · obtain ⟨its, e, h4, h5⟩ := lay_its h2
    refine .inr ⟨g, cap, its, rfl, e, ⟨fun i x hx j v hv => ?_, fun x hx => ⟨(h4 x hx).1, fun v hv hr => h3 v ((h4 x hx).2 v hv) g hr rfl⟩, hbg, (Array.getElem?_eq_some_iff.1 hg).1⟩, hnc, hcm⟩
    have := World.ownsRow.cells hown (g := g) rfl _ _ (h5 i x hx j v hv)
    rw [Addr.add_lit] at this
    refine ⟨by rw [show 0 + i * 5 + j = 0 + (i * 5 + j) by omega]; exact this, by simp [World.frozen?, hg]⟩
theorem RwI.later {B : Nat} {w w' : World} {g off : Nat} {its : List ItV} (h : RwI B w g off its) (hb : Below w.heap.size w w') : RwI B w' g off its where
  row := fun i x hx j v hv => ⟨cell_later hb (h.row i x hx j v hv).1, by have := (h.row i x hx j v hv).2; simp only [World.frozen?] at this ⊢; rw [hb.block _ h.lt]; exact this⟩
  ok := fun x hx => ⟨lnE.later (h.ok x hx).1 hb, (h.ok x hx).2⟩
  new := h.new
  lt := Nat.lt_of_lt_of_le h.lt hb.size
theorem cso (w : World) (g i j : Nat) (v : Value) (h : i ≠ j) : (w.setCell ⟨g, i, none⟩ v).cell? ⟨g, j, none⟩ = w.cell? ⟨g, j, none⟩ := by
  exact World.cell?_setCell_other _ _ _ _ (by simp [h])
theorem css (w : World) (a : Addr) (u v : Value) (h : w.cell? a = some u) : (w.setCell a v).cell? a = some v := World.cell?_setCell_same' w a v (by rw [h]; rfl)
theorem cells_len (x : ItV) : x.cells.length = 5 := rfl
theorem set_heap (w : World) (g k b : Nat) (v : Value) (hb : b < w.heap.size) (hne : b ≠ g) : (w.setCell ⟨g, k, none⟩ v).heap[b]? = w.heap[b]? := (grown_set w g k v).block b hb (fun e => hne (by simpa using e))
/-- One line has keys of its own. -/
theorem RwI.put {B : Nat} {w : World} {g off : Nat} {its : List ItV} (h : RwI B w g off its) {k : Nat} {x : ItV} (hx : its[k]? = some x) {a1 a2 : Option Addr} {c1 c2 : Nat} (h1 : Sl w a1 x.t.least.length c1 x.t.least) (h2 : Sl w a2 x.t.most.length c2 x.t.most)
    (n1 : ¬ Refs (.slice a1 x.t.least.length c1) g) (n2 : ¬ Refs (.slice a2 x.t.most.length c2) g) :
    RwI B ((w.setCell ⟨g, off + k * 5 + 3, none⟩ (.slice a1 x.t.least.length c1)).setCell ⟨g, off + k * 5 + 4, none⟩ (.slice a2 x.t.most.length c2)) g off (its.set k ⟨x.t, a1, c1, a2, c2⟩) := by
  have hkl : k < its.length := (List.getElem?_eq_some_iff.1 hx).1
  have hsz : ∀ (u v : Value) (i j : Nat), ((w.setCell ⟨g, i, none⟩ u).setCell ⟨g, j, none⟩ v).heap.size = w.heap.size := fun u v i j => by simp
  have hh : ∀ (u v : Value) (i j b : Nat), b < w.heap.size → b ≠ g → ((w.setCell ⟨g, i, none⟩ u).setCell ⟨g, j, none⟩ v).heap[b]? = w.heap[b]? := fun u v i j b hb hne => by
    rw [set_heap _ _ _ _ _ (by simpa using hb) hne, set_heap _ _ _ _ _ hb hne]
  have hok : ∀ y : ItV, ItOk w g y → ∀ (u v : Value) (i j : Nat), ItOk ((w.setCell ⟨g, i, none⟩ u).setCell ⟨g, j, none⟩ v) g y := fun y hy u v i j =>
    ⟨lnE.keep (hy.1 : lnE.M w _ _) fun z hz b hr => hh _ _ _ _ _ (lnE.lt (hy.1 : lnE.M w _ _) z hz b hr) fun e => hy.2 z hz (e ▸ hr), hy.2⟩
  have hx2 := h.ok x (List.mem_of_getElem? hx)
  refine ⟨fun i y hy j v hv => ?_, fun y hy => ?_, h.new, by rw [hsz]; exact h.lt⟩
  · have hj : j < 5 := by have := (List.getElem?_eq_some_iff.1 hv).1; rwa [cells_len] at this
    simp only [World.frozen?_setCell]
    by_cases e : i = k
    · subst e
      rw [List.getElem?_set_self hkl] at hy
      obtain rfl : (⟨x.t, a1, c1, a2, c2⟩ : ItV) = y := by simpa using hy
      have g0 := h.row i x hx
      rcases (show j = 0 ∨ j = 1 ∨ j = 2 ∨ j = 3 ∨ j = 4 by omega) with rfl | rfl | rfl | rfl | rfl
      · rw [cso _ _ _ _ _ (by omega), cso _ _ _ _ _ (by omega)]
        exact g0 0 v hv
      · rw [cso _ _ _ _ _ (by omega), cso _ _ _ _ _ (by omega)]
        exact g0 1 v hv
      · rw [cso _ _ _ _ _ (by omega), cso _ _ _ _ _ (by omega)]
        exact g0 2 v hv
      · rw [cso _ _ _ _ _ (by omega)]
        have q := g0 3 _ rfl
        refine ⟨?_, q.2⟩
        rw [css _ _ _ _ q.1]
        exact hv
      · have q := g0 4 _ rfl
        refine ⟨?_, q.2⟩
        rw [css _ _ _ _ ((cso _ _ _ _ _ (by omega)).trans q.1)]
        exact hv
    · rw [List.getElem?_set_ne (fun q => e q.symm)] at hy
      have q := h.row i y hy j v hv
      have : i < k ∨ k < i := by omega
      rw [cso _ _ _ _ _ (by omega), cso _ _ _ _ _ (by omega)]
      exact q
  · rcases List.mem_or_eq_of_mem_set hy with hy | rfl
    · exact hok y (h.ok y hy) _ _ _ _
    · refine hok _ ⟨(show LnM w (ItV.cells ⟨x.t, a1, c1, a2, c2⟩) x.t from ⟨a1, c1, a2, c2, rfl, h1, h2, ?_⟩), fun v hv hr => ?_⟩ _ _ _ _
      · obtain ⟨la, lc, ma, mc, _, _, _, h5⟩ := hx2.1
        exact h5
      · simp only [ItV.cells, List.mem_cons, List.not_mem_nil, or_false] at hv
        rcases hv with rfl | rfl | rfl | rfl | rfl
        · exact refs_int hr
        · exact refs_int hr
        · exact refs_int hr
        · exact n1 hr
        · exact n2 hr
theorem row_refs {B : Nat} {w : World} {v : Value} {xs : List Int} (h : Row B w v xs) {b : Nat} (hr : Refs v b) : B ≤ b := by
  obtain ⟨off, l, c, rfl, h0⟩ := hr
  exact (World.ownsRow.lt h b rfl).1
theorem flat_get : ∀ (l : List ItV) (t : Nat), (l.flatMap ItV.cells)[t]? = (l[t / 5]?).bind fun x => x.cells[t % 5]?
  | [], t => by simp
  | x :: r, t => by
    rw [List.flatMap_cons]
    by_cases q : t < 5
    · rw [List.getElem?_append_left (by rw [cells_len]; exact q), Nat.div_eq_of_lt q, Nat.mod_eq_of_lt q]
      rfl
    · rw [List.getElem?_append_right (by rw [cells_len]; omega), cells_len, flat_get r (t - 5)]
      have e1 : t / 5 = (t - 5) / 5 + 1 := by omega
      have e2 : t % 5 = (t - 5) % 5 := by omega
      rw [e1, e2]
      rfl
theorem lay_of {w : World} : ∀ {l : List ItV}, (∀ x ∈ l, LnM w x.cells x.t) → Lay lnE w (l.flatMap ItV.cells) (l.map (·.t))
  | [], _ => rfl
  | x :: r, h => ⟨x.cells, _, rfl, h x (List.mem_cons_self ..), lay_of fun y hy => h y (List.mem_cons_of_mem _ hy)⟩
/-- Behind the sort. -/
theorem sorted_out {B : Nat} {w4 w5 : World} {g off cap : Nat} [Inhabited (ItS w4 g)] (d d' : Array (ItS w4 g)) (hH : HoldsK (itE w4 g) 5 w4 g off d) (hg : g < w4.heap.size) (hB : B ≤ g) (hc : d.size ≤ cap) (hc2 : cap ≤ maxLen)
    (p : PermIn 0 d.size d d') (s : SortedIn (ltOf itC) 0 d.size d') (S : SWK (itE w4 g) 5 w4 g off d' w5) :
    ∃ ys, (Below B w4 w5 ∧ w4.grownBy w5 (some g)) ∧ RS lnE w5 (some ⟨g, off, none⟩) d.size cap ys ∧ ys.Perm (d.toList.map itT) ∧ Wk ys := by
  have hz : d'.size = d.size := p.1
  have hH' := S.holds hg hH hz
  have hb : ∀ b, b < w4.heap.size → b ≠ g → w5.heap[b]? = w4.heap[b]? := fun b hb hne => by
    obtain ⟨n, os, rfl⟩ := S
    exact heap_sortW _ _ _ _ _ _ _ _ _ hb hne
  have hbel : Below B w4 w5 := by
    refine ⟨?_, ?_, ?_, S.le, fun b hb' => hb b (by omega) (by omega)⟩
    all_goals
      obtain ⟨n, os, rfl⟩ := S
      rfl
  have e0 : (d'.toList.map itT) = (d'.toList.map (·.1)).map (·.t) := by rw [List.map_map]; rfl
  have hgr : w4.grownBy w5 (some g) := ⟨hbel.os, hbel.tape, hbel.output, hbel.size, fun b hb' hne => hb b hb' fun e => hne (by rw [e])⟩
  refine ⟨d'.toList.map itT, ⟨hbel, hgr⟩, ⟨(d'.toList.map (·.1)).flatMap ItV.cells, by simp [hz], (fun q => by cases q), hc, hc2, ?_, fun t u hu => ⟨g, off, rfl, ?_⟩⟩, ?_, ?_⟩
  · rw [e0]
    refine lay_of fun x hx => ?_
    obtain ⟨y, hy, rfl⟩ := List.mem_map.1 hx
    exact lnE.keep (y.2.1 : lnE.M w4 _ _) fun v hv b hr => hb b (lnE.lt (y.2.1 : lnE.M w4 _ _) v hv b hr) fun e => y.2.2 v hv (e ▸ hr)
  · rw [flat_get] at hu
    rw [List.getElem?_map, Array.getElem?_toList] at hu
    by_cases q : t / 5 < d'.size
    · rw [Array.getElem?_eq_getElem q] at hu
      have := (hH'.cell q (Nat.mod_lt t (by decide : 0 < 5))).1
      rw [getElem!_pos d' _ q, show off + t / 5 * 5 + t % 5 = off + t by omega] at this
      rw [this]
      have hu' : (itE w4 g d'[t / 5])[t % 5]? = some u := hu
      obtain ⟨hl, he⟩ := List.getElem?_eq_some_iff.1 hu'
      rw [getElem!_pos (itE w4 g d'[t / 5]) (t % 5) hl, he]
    · rw [Array.getElem?_eq_none (by omega)] at hu
      simp at hu
  · have := p.2.2
    rw [show d'.extract 0 d.size = d' by rw [← hz]; simp, show d.extract 0 d.size = d by simp] at this
    exact this.map _
  · unfold Wk
    rw [List.pairwise_iff_getElem]
    intro i j hi hj hij
    simp only [List.length_map, Array.length_toList] at hi hj
    have := s i j (Nat.zero_le _) hij (by omega)
    rw [getElem!_pos d' i hi, getElem!_pos d' j hj] at this
    have k := of_decide_eq_false this
    simp only [List.getElem_map, Array.getElem_toList]
    have e := ordC_neg (itT d'[i]) (itT d'[j])
    have k' : ¬ ordC (itT d'[j]) (itT d'[i]) < 0 := k
    omega
theorem its_of {w : World} {g : Nat} : ∀ {its : List ItV}, (∀ x ∈ its, ItOk w g x) → ∃ l : List (ItS w g), l.map (·.v) = its
  | [], _ => ⟨[], rfl⟩
  | x :: r, h => by
    obtain ⟨l, e⟩ := its_of fun y hy => h y (List.mem_cons_of_mem _ hy)
    exact ⟨⟨x, h x (List.mem_cons_self ..)⟩ :: l, by rw [List.map_cons, e]⟩
/-- A row of lines as the sort wants it. -/
theorem holds_of {B : Nat} {w : World} {g off : Nat} {its : List ItV} (h : RwI B w g off its) [Inhabited (ItS w g)] : ∃ d : Array (ItS w g), d.size = its.length ∧ d.toList.map itT = its.map (·.t) ∧ HoldsK (itE w g) 5 w g off d := by
  obtain ⟨l, rfl⟩ := its_of h.ok
  refine ⟨l.toArray, by simp, by rw [List.map_map]; rfl, fun t ht => ?_⟩
  have ht' : t < l.length * 5 := by simpa [size_flatK] using ht
  rw [get_flatK _ _ _ _ (by simpa using ht')]
  have hq : t / 5 < l.length := by omega
  have hj : t % 5 < 5 := Nat.mod_lt _ (by decide)
  have hj2 : t % 5 < (itE w g l[t / 5]).length := by rw [itE_len]; exact hj
  have := h.row (t / 5) l[t / 5].v (by rw [List.getElem?_map, List.getElem?_eq_getElem hq]; rfl) (t % 5) ((itE w g l[t / 5])[t % 5]) (List.getElem?_eq_getElem hj2)
  rw [show off + t / 5 * 5 + t % 5 = off + t by omega] at this
  refine ⟨?_, this.2⟩
  rw [this.1, getElem!_pos l.toArray (t / 5) (by simpa using hq)]
  show some ((itE w g l[t / 5])[t % 5]) = some (itE w g l[t / 5])[t % 5]!
  rw [getElem!_pos (itE w g l[t / 5]) (t % 5) hj2]
end Go.Proofs.Ytjgfklbhagcbaab

/- What the landed edit's MayTable answers, and the document's own. -/
namespace Go.Proofs.Ytjgfklbhagcbaab
open Go.RowKit
set_option linter.unusedVariables false
set_option linter.unusedSimpArgs false

set_option maxHeartbeats 1000000 in
set_option maxRecDepth 100000 in
theorem emno_any {w : World} {n : Int} : Calls Try.prog 52 #[.int .i64 n] w fun e w' => e = .returned (.bool (mayNo n)) ∧ w' = w := by
  unfold mayNo
  go_enter Try.func52, Try.ntmps52
  go_wp2_with fail
  all_goals
    go_ret
    refine ⟨congrArg (fun b => Ending.returned (.bool b)) ?_, rfl⟩
    rw [Bool.eq_iff_iff]
    simp
    try omega
set_option maxHeartbeats 1000000 in
set_option maxRecDepth 100000 in
theorem emmk_any {w : World} {n : Int} : Calls Try.prog 41 #[.int .i64 n] w fun e w' => e = .returned (.bool (mayMk n)) ∧ w' = w := by
  unfold mayMk
  go_enter Try.func41, Try.ntmps41
  go_wp2_with fail
  all_goals
    go_ret
    refine ⟨congrArg (fun b => Ending.returned (.bool b)) ?_, rfl⟩
    rw [Bool.eq_iff_iff]
    simp
    try omega
set_option maxHeartbeats 1000000 in
set_option maxRecDepth 100000 in
theorem emky_any {w : World} {a : Option Addr} {c : Nat} {k : List Int} : Calls Try.prog 55 #[.slice a k.length c] w fun e w' => e = .returned (.bool (mayKy k)) ∧ w' = w := by
  unfold mayKy
  generalize k.length = n
  go_enter Try.func55, Try.ntmps55
  go_wp2_with fail
  all_goals
    go_ret
    refine ⟨congrArg (fun b => Ending.returned (.bool b)) ?_, rfl⟩
    rw [Bool.eq_iff_iff]
    simp
    try omega
/-- A line as the program asks it, bit by bit. -/
theorem mayLn_bits (t : LnV) : mayLn t = (mayNo t.num && (decide (0 ≤ t.lvl) && (decide (t.lvl < 4) && (decide (1 ≤ t.size) && (decide (t.size ≤ 4194304) && (mayKy t.least && (mayKy t.most && decide (cmp t.least t.most ≤ 0)))))))) := by
  unfold mayLn mayNo mayKy
  rw [Bool.eq_iff_iff]
  simp only [Bool.and_eq_true, decide_eq_true_eq]
  constructor
  · rintro ⟨a, b, c, d, e, f⟩; exact ⟨a, b.1, b.2, c.1, c.2, d, e, f⟩
  · rintro ⟨a, b, b', c, c', d, e, f⟩; exact ⟨a, ⟨b, b'⟩, ⟨c, c'⟩, d, e, f⟩
set_option maxHeartbeats 4000000 in
set_option maxRecDepth 100000 in
theorem emtab_any {w : World} {la ma : Option Addr} {lc mc : Nat} {t : LnV} (hl : Sl w la t.least.length lc t.least) (hm : Sl w ma t.most.length mc t.most) :
    Calls Try.prog 50 #[.agg #[.int .i64 t.num, .int .i64 t.lvl, .int .i64 t.size, .slice la t.least.length lc, .slice ma t.most.length mc]] w fun e w' => e = .returned (.bool (mayLn t)) ∧ Below w.heap.size w w' := by
  rw [mayLn_bits]
  obtain ⟨num, lvl, size, least, most⟩ := t
  simp only at hl hm ⊢
  have hb : Below w.heap.size w (w.alloc (.cells #[.int .i64 num, .int .i64 lvl, .int .i64 size, .slice la least.length lc, .slice ma most.length mc] 30)) := (Below.refl _ w).alloc (Nat.le_refl _) _
  have hC := compare_l (hl.later hb) (hm.later hb)
  have hN := fun wx => emno_any (w := wx) (n := num)
  have hK := fun wx => emky_any (w := wx) (a := la) (c := lc) (k := least)
  have hL := fun wx => emky_any (w := wx) (a := ma) (c := mc) (k := most)
  have HB := hidE hb
  obtain ⟨X, hX⟩ : ∃ X, X = cmp least most := ⟨_, rfl⟩
  rw [← hX] at hC ⊢
  obtain ⟨b1, h1⟩ : ∃ b, b = mayNo num := ⟨_, rfl⟩
  obtain ⟨b2, h2⟩ : ∃ b, b = mayKy least := ⟨_, rfl⟩
  obtain ⟨b3, h3⟩ : ∃ b, b = mayKy most := ⟨_, rfl⟩
  rw [← h1] at hN ⊢
  rw [← h2] at hK ⊢
  rw [← h3] at hL ⊢
  clear h1 h2 h3 hX
  generalize least.length = nl at hC hK HB
  generalize most.length = nm at hC hL HB
  clear hl hm hb
  cases b1
  · go_enter Try.func50, Try.ntmps50
    go_wp2_with (go_at_call 52; refine (hN _).mono ?_; rintro e w2 ⟨rfl, hw⟩; obtain rfl := hw.symm)
    exact bodyPost_ret (v := .bool false) (by simp [results, Try.results50, go_sem]) rfl ⟨by simp, HB.out⟩
  by_cases q1 : lvl < 0
  · go_enter Try.func50, Try.ntmps50
    go_wp2_with (go_at_call 52; refine (hN _).mono ?_; rintro e w2 ⟨rfl, hw⟩; obtain rfl := hw.symm)
    exact bodyPost_ret (v := .bool false) (by simp [results, Try.results50, go_sem]) rfl ⟨by have : decide (0 ≤ lvl) = false := decide_eq_false (by omega); simp [this], HB.out⟩
  have q1' : 0 ≤ lvl := by omega
  by_cases q2 : 4 ≤ lvl
  · go_enter Try.func50, Try.ntmps50
    go_wp2_with (go_at_call 52; refine (hN _).mono ?_; rintro e w2 ⟨rfl, hw⟩; obtain rfl := hw.symm)
    exact bodyPost_ret (v := .bool false) (by simp [results, Try.results50, go_sem]) rfl ⟨by have : decide (lvl < 4) = false := decide_eq_false (by omega); simp [this], HB.out⟩
  have q2' : lvl < 4 := by omega
  by_cases q3 : size < 1
  · go_enter Try.func50, Try.ntmps50
    go_wp2_with (go_at_call 52; refine (hN _).mono ?_; rintro e w2 ⟨rfl, hw⟩; obtain rfl := hw.symm)
    exact bodyPost_ret (v := .bool false) (by simp [results, Try.results50, go_sem]) rfl ⟨by have : decide (1 ≤ size) = false := decide_eq_false (by omega); simp [this], HB.out⟩
  have q3' : 1 ≤ size := by omega
  by_cases q4 : 4194304 < size
  · go_enter Try.func50, Try.ntmps50
    go_wp2_with (go_at_call 52; refine (hN _).mono ?_; rintro e w2 ⟨rfl, hw⟩; obtain rfl := hw.symm)
    exact bodyPost_ret (v := .bool false) (by simp [results, Try.results50, go_sem]) rfl ⟨by have : decide (size ≤ 4194304) = false := decide_eq_false (by omega); simp [this], HB.out⟩
  have q4' : size ≤ 4194304 := by omega
  have e1 : decide (0 ≤ lvl) = true := decide_eq_true q1'
  have e2 : decide (lvl < 4) = true := decide_eq_true q2'
  have e3 : decide (1 ≤ size) = true := decide_eq_true q3'
  have e4 : decide (size ≤ 4194304) = true := decide_eq_true q4'
  rw [e1, e2, e3, e4]
  simp only [Bool.true_and]
  clear e1 e2 e3 e4
  cases b2
  · go_enter Try.func50, Try.ntmps50
    go_wp2_with (first | (go_at_call 52; refine (hN _).mono ?_; rintro e w2 ⟨rfl, hw⟩; obtain rfl := hw.symm) | (go_at_call 55; refine (hK _).mono ?_; rintro e w2 ⟨rfl, hw⟩; obtain rfl := hw.symm))
    exact bodyPost_ret (v := .bool false) (by simp [results, Try.results50, go_sem]) rfl ⟨by simp, HB.out⟩
  cases b3
  · go_enter Try.func50, Try.ntmps50
    go_wp2_with (first | (go_at_call 52; refine (hN _).mono ?_; rintro e w2 ⟨rfl, hw⟩; obtain rfl := hw.symm) | (go_at_call_of 55 (Value.slice la nl lc); refine (hK _).mono ?_; rintro e w2 ⟨rfl, hw⟩; obtain rfl := hw.symm; clear hK) | (go_at_call_of 55 (Value.slice ma nm mc); refine (hL _).mono ?_; rintro e w2 ⟨rfl, hw⟩; obtain rfl := hw.symm))
    exact bodyPost_ret (v := .bool false) (by simp [results, Try.results50, go_sem]) rfl ⟨by simp, HB.out⟩
  by_cases q5 : X ≤ 0
  · go_enter Try.func50, Try.ntmps50
    go_wp2_with (first | (go_at_call 52; refine (hN _).mono ?_; rintro e w2 ⟨rfl, hw⟩; obtain rfl := hw.symm) | (go_at_call_of 55 (Value.slice la nl lc); refine (hK _).mono ?_; rintro e w2 ⟨rfl, hw⟩; obtain rfl := hw.symm; clear hK) | (go_at_call_of 55 (Value.slice ma nm mc); refine (hL _).mono ?_; rintro e w2 ⟨rfl, hw⟩; obtain rfl := hw.symm) | (go_at_call 26; refine hC.mono ?_; rintro e w2 ⟨rfl, hw⟩; obtain rfl := hw.symm))
    exact bodyPost_ret (v := .bool true) (by simp [results, Try.results50, go_sem, q5]) rfl ⟨by simp [q5], HB.out⟩
  · have q5' : 0 < X := by omega
    go_enter Try.func50, Try.ntmps50
    go_wp2_with (first | (go_at_call 52; refine (hN _).mono ?_; rintro e w2 ⟨rfl, hw⟩; obtain rfl := hw.symm) | (go_at_call_of 55 (Value.slice la nl lc); refine (hK _).mono ?_; rintro e w2 ⟨rfl, hw⟩; obtain rfl := hw.symm; clear hK) | (go_at_call_of 55 (Value.slice ma nm mc); refine (hL _).mono ?_; rintro e w2 ⟨rfl, hw⟩; obtain rfl := hw.symm) | (go_at_call 26; refine hC.mono ?_; rintro e w2 ⟨rfl, hw⟩; obtain rfl := hw.symm))
    exact bodyPost_ret (v := .bool false) (by simp [results, Try.results50, go_sem, q5']) rfl ⟨by simp [q5'], HB.out⟩
set_option maxHeartbeats 4000000 in
set_option maxRecDepth 100000 in
theorem rmtab_any {w : World} {la ma : Option Addr} {lc mc : Nat} {t : LnV} (hl : Sl w la t.least.length lc t.least) (hm : Sl w ma t.most.length mc t.most) :
    Calls Try.prog 33 #[.agg #[.int .i64 t.num, .int .i64 t.lvl, .int .i64 t.size, .slice la t.least.length lc, .slice ma t.most.length mc]] w fun e w' => e = .returned (.bool (mayLn t)) ∧ Below w.heap.size w w' := by
  rw [mayLn_bits]
  obtain ⟨num, lvl, size, least, most⟩ := t
  simp only at hl hm ⊢
  have hb : Below w.heap.size w (w.alloc (.cells #[.int .i64 num, .int .i64 lvl, .int .i64 size, .slice la least.length lc, .slice ma most.length mc] 30)) := (Below.refl _ w).alloc (Nat.le_refl _) _
  have hC := rcmp_any (hl.later hb) (hm.later hb)
  have HB := hidE hb
  have hX := cmp_vals least most
  obtain ⟨X, hXX⟩ : ∃ X, X = cmp least most := ⟨_, rfl⟩
  rw [← hXX] at hC hX ⊢
  unfold mayNo mayKy
  have hnl := hl.2.2.2
  have hnm := hm.2.2.2
  generalize least.length = nl at hC HB ⊢
  generalize most.length = nm at hC HB ⊢
  clear hl hm hb hXX hnl hnm
  go_enter Try.func33, Try.ntmps33
  go_wp2_with (go_at_call 6; refine hC.mono ?_; rintro e w2 ⟨rfl, hb2⟩)
  all_goals
    go_ret
    refine ⟨congrArg (fun b => Ending.returned (.bool b)) ?_, by first | exact HB.out | exact HB.out.trans (hb2.mono HB.out.size)⟩
    rw [Bool.eq_iff_iff]
    simp
    try omega
end Go.Proofs.Ytjgfklbhagcbaab
