import Derived.Test.YtjgfklbhagcbaabPk12
import Derived.Test.YtjgfklbhagcbaabPk20
/- What an edit makes of a version, on lists. -/
namespace Go.Proofs.Ytjgfklbhagcbaab
set_option linter.unusedVariables false
set_option linter.unusedSimpArgs false

/-- A line in its place. -/
def putL : List LnV → LnV → List LnV
  | [], t => [t]
  | x :: r, t => if aheadL x t = true then x :: putL r t else t :: x :: r
theorem putL_perm : ∀ (l : List LnV) (t : LnV), (putL l t).Perm (t :: l)
  | [], t => List.Perm.refl _
  | x :: r, t => by
    unfold putL
    split
    · exact ((putL_perm r t).cons x).trans (List.Perm.swap t x r)
    · exact List.Perm.refl _
theorem putL_wk : ∀ {l : List LnV} (t : LnV), Wk l → Wk (putL l t)
  | [], t, _ => by simp [Wk, putL]
  | x :: r, t, h => by
    have h' := h
    unfold Wk at h
    rw [List.pairwise_cons] at h
    unfold putL
    by_cases q : aheadL x t = true
    · rw [if_pos q]
      unfold Wk
      rw [List.pairwise_cons]
      refine ⟨fun y hy => ?_, putL_wk t h.2⟩
      rcases List.mem_cons.1 ((putL_perm r t).mem_iff.1 hy) with rfl | hy
      · have := of_decide_eq_true q; omega
      · exact h.1 y hy
    · rw [if_neg q]
      have q' : ¬ ordC x t < 0 := fun z => q (decide_eq_true z)
      have e := ordC_neg x t
      unfold Wk
      rw [List.pairwise_cons]
      refine ⟨fun y hy => ?_, h'⟩
      rcases List.mem_cons.1 hy with rfl | hy
      · omega
      · exact ordC_le (b := x) (by omega) (h.1 y hy)
def stayL (v : VrV) (e : EdV) : List LnV := v.tabs.filter fun t => !decide (t.num ∈ e.rem)
def apT (v : VrV) (e : EdV) : List LnV := e.add.foldl putL (stayL v e)
theorem foldl_put : ∀ (add l : List LnV), (add.foldl putL l).Perm (l ++ add) ∧ (Wk l → Wk (add.foldl putL l))
  | [], l => ⟨by simp, fun h => h⟩
  | t :: r, l => by
    rw [List.foldl_cons]
    obtain ⟨h1, h2⟩ := foldl_put r (putL l t)
    refine ⟨h1.trans ?_, fun h => h2 (putL_wk t h)⟩
    refine ((putL_perm l t).append_right r).trans ?_
    show (t :: (l ++ r)).Perm (l ++ t :: r)
    exact List.perm_middle.symm
def noVr : VrV := ⟨0, 0, 0, []⟩
/-- The error of an edit of a version. -/
def apE (v : VrV) (e : EdV) : Nat :=
  if mayVr v = true ∧ mayEd e = true then
    if (∃ n ∈ e.rem, n ∉ nosL v.tabs) then 7
    else if (∃ t ∈ e.add, t.num ∈ nosL v.tabs ∧ t.num ∉ e.rem) then 6
    else if e.log < v.log ∨ e.next < v.next ∨ e.seq < v.seq then 11
    else if 200 < (stayL v e).length + e.add.length then 13
    else if mayVr ⟨e.log, e.next, e.seq, apT v e⟩ = true then 0 else 1
  else 1
def apV (v : VrV) (e : EdV) : VrV := if apE v e = 0 then ⟨e.log, e.next, e.seq, apT v e⟩ else noVr
theorem mem_nosL {l : List LnV} {n : Int} : n ∈ nosL l ↔ ∃ t ∈ l, t.num = n := by unfold nosL; rw [List.mem_map]
/-- How many stay. -/
theorem stay_len {tabs : List LnV} {rem : List Int} (h : (nosL tabs).Nodup) : (tabs.filter fun t => !decide (t.num ∈ rem)).length + ((nosL tabs).filter fun n => decide (n ∈ rem)).length = tabs.length := by
  induction tabs with
  | nil => rfl
  | cons t r ih =>
    have ih := ih (List.nodup_cons.1 h).2
    unfold nosL at ih ⊢
    rw [List.map_cons]
    by_cases q : t.num ∈ rem
    · rw [List.filter_cons_of_neg (by simp [q]), List.filter_cons_of_pos (by simp [q]), List.length_cons, List.length_cons]; omega
    · rw [List.filter_cons_of_pos (by simp [q]), List.filter_cons_of_neg (by simp [q]), List.length_cons, List.length_cons]; omega
theorem nodup_sub_len : ∀ {a b : List Int}, a.Nodup → (∀ x ∈ a, x ∈ b) → a.length ≤ b.length
  | [], b, _, _ => Nat.zero_le _
  | x :: r, b, h, hs => by
    have hx := hs x (List.mem_cons_self ..)
    rw [List.nodup_cons] at h
    have := nodup_sub_len (a := r) (b := b.erase x) h.2 fun y hy => (List.mem_erase_of_ne (show y ≠ x from fun e => h.1 (e ▸ hy))).2 (hs y (List.mem_cons_of_mem _ hy))
    rw [List.length_erase_of_mem hx] at this
    have : 0 < b.length := List.length_pos_of_mem hx
    rw [List.length_cons]; omega
theorem none_iff {tabs : List LnV} {rem : List Int} (h : (nosL tabs).Nodup) (hr : rem.Nodup) : (tabs.length < (tabs.filter fun t => !decide (t.num ∈ rem)).length + rem.length) ↔ ∃ n ∈ rem, n ∉ nosL tabs := by
  have h1 := stay_len (rem := rem) h
  constructor
  · intro hlt
    apply Classical.byContradiction
    intro hn
    have : rem.length ≤ ((nosL tabs).filter fun n => decide (n ∈ rem)).length := nodup_sub_len hr fun x hx => List.mem_filter.2 ⟨Classical.byContradiction fun z => hn ⟨x, hx, z⟩, by simpa using hx⟩
    omega
  · rintro ⟨n, hn, hz⟩
    have h2 : ((nosL tabs).filter fun n => decide (n ∈ rem)).length ≤ (rem.erase n).length := nodup_sub_len (h.filter _) fun x hx => by
      have hx' := List.mem_filter.1 hx
      exact (List.mem_erase_of_ne (show x ≠ n from fun e => hz (e ▸ hx'.1))).2 (by simpa using hx'.2)
    rw [List.length_erase_of_mem hn] at h2
    have : 0 < rem.length := List.length_pos_of_mem hn
    omega
theorem share_iff {tabs add : List LnV} {rem : List Int} : ((tabs.filter fun t => !decide (t.num ∈ rem)).any fun t => add.any fun u => decide (u.num = t.num)) = true ↔ ∃ t ∈ add, t.num ∈ nosL tabs ∧ t.num ∉ rem := by
  rw [List.any_eq_true]
  constructor
  · rintro ⟨t, ht, h2⟩
    obtain ⟨u, hu, h3⟩ := List.any_eq_true.1 h2
    have h3 := of_decide_eq_true h3
    have h4 := List.mem_filter.1 ht
    exact ⟨u, hu, mem_nosL.2 ⟨t, h4.1, h3.symm⟩, by rw [h3]; simpa using h4.2⟩
  · rintro ⟨u, hu, h1, h2⟩
    obtain ⟨t, ht, e⟩ := mem_nosL.1 h1
    exact ⟨t, List.mem_filter.2 ⟨ht, by simp [e, h2]⟩, List.any_eq_true.2 ⟨u, hu, by simp [e]⟩⟩
/-- Whatever row of the same lines, weakly in order, is told: it may be as the document's may, and then is it. -/
theorem ap_same {v : VrV} {e : EdV} {ys : List LnV} (hv : mayVr v = true) (p : ys.Perm (stayL v e ++ e.add)) (hw : Wk ys) : mayVr ⟨e.log, e.next, e.seq, ys⟩ = mayVr ⟨e.log, e.next, e.seq, apT v e⟩ ∧ (mayVr ⟨e.log, e.next, e.seq, ys⟩ = true → ys = apT v e) := by
  obtain ⟨h1, h2⟩ := foldl_put e.add (stayL v e)
  have h3 : Wk (stayL v e) := (st_wk (mayVr_st hv)).sublist List.filter_sublist
  exact mayVr_same hw (h2 h3) (p.trans h1.symm)
end Go.Proofs.Ytjgfklbhagcbaab

/- The landed level: Apply. -/
namespace Go.Proofs.Ytjgfklbhagcbaab
open Go.RowKit
set_option linter.unusedVariables false
set_option linter.unusedSimpArgs false

theorem old_alloc (w : World) (o : Obj) (k : Nat) (h : k < w.heap.size) : (w.alloc o).heap[k]? = w.heap[k]? := ((Below.refl w.heap.size w).alloc (Nat.le_refl _) o).block k h
theorem blk_cells {w wx : World} {b B : Nat} {cs : Array Value} {t : TypeId} (h : w.heap[b]? = some (.cells cs t (0, 0))) (hB : b < B) (hb : Below B w wx) : ∀ i v, cs[i]? = some v → wx.cell? ⟨b, i, none⟩ = some v ∧ wx.frozen? ⟨b, i, none⟩ = false := fun i v hv => by
  have h2 : wx.heap[b]? = some (.cells cs t (0, 0)) := (hb.block b hB).trans h
  exact ⟨by rw [cell_of h2]; exact hv, by simp [World.frozen?, h2]⟩
theorem below_set4 {B : Nat} {a w : World} {g : Nat} (h : Below B a w) (hB : B ≤ g) (hs : B ≤ a.heap.size) (v0 v1 v2 v3 : Value) : Below B a ((((w.setCell ⟨g, 0, none⟩ v0).setCell ⟨g, 1, none⟩ v1).setCell ⟨g, 2, none⟩ v2).setCell ⟨g, 3, none⟩ v3) := by
  have q := Nat.le_trans hs h.size
  have one : ∀ (w : World) k (v : Value), Below B a w → Below B a (w.setCell ⟨g, k, none⟩ v) := fun w k v h => h.grown (grown_set w g k v) (Nat.le_trans hs h.size) fun z hz => by simp at hz; omega
  exact one _ _ _ (one _ _ _ (one _ _ _ (one _ _ _ h)))
theorem set4_cells {w : World} {g : Nat} {u0 u1 u2 u3 : Value} (z0 : w.cell? ⟨g, 0, none⟩ = some u0) (z1 : w.cell? ⟨g, 1, none⟩ = some u1) (z2 : w.cell? ⟨g, 2, none⟩ = some u2) (z3 : w.cell? ⟨g, 3, none⟩ = some u3) (v0 v1 v2 v3 : Value) :
    ((((w.setCell ⟨g, 0, none⟩ v0).setCell ⟨g, 1, none⟩ v1).setCell ⟨g, 2, none⟩ v2).setCell ⟨g, 3, none⟩ v3).cell? ⟨g, 0, none⟩ = some v0 ∧
    ((((w.setCell ⟨g, 0, none⟩ v0).setCell ⟨g, 1, none⟩ v1).setCell ⟨g, 2, none⟩ v2).setCell ⟨g, 3, none⟩ v3).cell? ⟨g, 1, none⟩ = some v1 ∧
    ((((w.setCell ⟨g, 0, none⟩ v0).setCell ⟨g, 1, none⟩ v1).setCell ⟨g, 2, none⟩ v2).setCell ⟨g, 3, none⟩ v3).cell? ⟨g, 2, none⟩ = some v2 ∧
    ((((w.setCell ⟨g, 0, none⟩ v0).setCell ⟨g, 1, none⟩ v1).setCell ⟨g, 2, none⟩ v2).setCell ⟨g, 3, none⟩ v3).cell? ⟨g, 3, none⟩ = some v3 := by
  refine ⟨?_, ?_, ?_, ?_⟩
  · rw [cso _ _ _ _ _ (by decide), cso _ _ _ _ _ (by decide), cso _ _ _ _ _ (by decide), css _ _ _ _ z0]
  · rw [cso _ _ _ _ _ (by decide), cso _ _ _ _ _ (by decide), css _ _ _ _ ((cso _ _ _ _ _ (by decide)).trans z1)]
  · rw [cso _ _ _ _ _ (by decide), css _ _ _ _ ((cso _ _ _ _ _ (by decide)).trans ((cso _ _ _ _ _ (by decide)).trans z2))]
  · rw [css _ _ _ _ ((cso _ _ _ _ _ (by decide)).trans ((cso _ _ _ _ _ (by decide)).trans ((cso _ _ _ _ _ (by decide)).trans z3)))]
theorem lay_far {w : World} {P : Nat} {cs : Array Value} {t : TypeId} (hk : w.heap[P]? = some (.cells cs t (0, 0))) (hc : ∀ (i : Nat) (v : Value), cs[i]? = some v → ∀ n : Int, v ≠ Value.int .u8 n) : ∀ {us : List Value} {xs : List LnV}, Lay lnE w us xs → ∀ u ∈ us, ∀ b, Refs u b → b ≠ P
  | us, [], h, u, hu, b, hr => by rw [show us = [] from h] at hu; cases hu
  | us, x :: xs, h, u, hu, b, hr => by
    obtain ⟨vs, us', rfl, h1, h2⟩ := h
    rcases List.mem_append.1 hu with q | q
    · have key : ∀ {ao : Option Addr} {l c : Nat} {zs : List Int}, Sl w ao l c zs → Refs (.slice ao l c) b → b ≠ P := fun {ao l c zs} hs hr e => by
        obtain ⟨off, l', c', e1, h0⟩ := hr
        simp only [Value.slice.injEq] at e1
        obtain ⟨rfl, rfl, rfl⟩ := e1
        obtain ⟨_, b', off', e', hcell⟩ := hs.2.2.2.2.2 0 h0
        simp only [Option.some.injEq, Addr.mk.injEq, and_true] at e'
        obtain ⟨rfl, rfl⟩ := e'
        subst e
        rw [cell_of hk] at hcell
        exact hc _ _ hcell _ rfl
      obtain ⟨la, lc, ma, mc, rfl, q1, q2, _⟩ := h1
      simp only [List.mem_cons, List.not_mem_nil, or_false] at q
      rcases q with rfl | rfl | rfl | rfl | rfl
      · exact (refs_int hr).elim
      · exact (refs_int hr).elim
      · exact (refs_int hr).elim
      · exact key q1 hr
      · exact key q2 hr
    · exact lay_far hk hc h2 u q b hr
/-- A row stays where another block alone is changed, one that holds no bytes. -/
theorem rs_other {w w' : World} {P : Nat} {cs : Array Value} {t : TypeId} (hk : w.heap[P]? = some (.cells cs t (0, 0))) (hc : ∀ (i : Nat) (v : Value), cs[i]? = some v → ∀ n : Int, v ≠ Value.int .u8 n) (hh : ∀ b, b < w.heap.size → b ≠ P → w'.heap[b]? = w.heap[b]?) {ao : Option Addr} {n c : Nat} {xs : List LnV} (h : RS lnE w ao n c xs) (hne : ∀ b off, ao = some ⟨b, off, none⟩ → b ≠ P) : RS lnE w' ao n c xs := by
  obtain ⟨us, h1, h2, h3, h4, h5, h6⟩ := h
  refine ⟨us, h1, h2, h3, h4, h5.keep fun x hx b hr => hh b (h5.lt x hx b hr) (lay_far hk hc h5 x hx b hr), fun j x hx => ?_⟩
  obtain ⟨b, off, e, hcell⟩ := h6 j x hx
  exact ⟨b, off, e, by rw [World.cell?_of_block (w := w) (a := ⟨b, off + j, none⟩) (hh b (World.block_lt_of_cell? _ _ hcell) (hne b off e))]; exact hcell⟩
theorem set4_heap (w : World) (g b : Nat) (v0 v1 v2 v3 : Value) (hb : b < w.heap.size) (hne : b ≠ g) : ((((w.setCell ⟨g, 0, none⟩ v0).setCell ⟨g, 1, none⟩ v1).setCell ⟨g, 2, none⟩ v2).setCell ⟨g, 3, none⟩ v3).heap[b]? = w.heap[b]? := by
  rw [set_heap _ _ _ _ _ (by simpa using hb) hne, set_heap _ _ _ _ _ (by simpa using hb) hne, set_heap _ _ _ _ _ (by simpa using hb) hne, set_heap _ _ _ _ _ hb hne]
theorem no_u8 {l n s : Int} {x : Option Addr} {m c : Nat} : ∀ (i : Nat) (v : Value), (#[Value.int .i64 l, .int .i64 n, .int .i64 s, .slice x m c] : Array Value)[i]? = some v → ∀ k : Int, v ≠ Value.int .u8 k := fun i v hv k e => by
  subst e
  match i, hv with
  | 0, hv => simp at hv
  | 1, hv => simp at hv
  | 2, hv => simp at hv
  | 3, hv => simp at hv
  | i + 4, hv => simp at hv
theorem own_of {a : Option Addr} {m c : Nat} {v : Value} (h : Value.slice a m c = v) {b off : Nat} (e : a = some ⟨b, off, none⟩) : v.ownBlock = some b := by subst h; subst e; rfl
set_option maxHeartbeats 16000000 in
set_option maxRecDepth 100000 in
theorem apply_t {w : World} {v : VrV} {a : Option Addr} {c : Nat} {ed : EdV} {aa ra : Option Addr} {ac rc : Nat} (hv : VrM w v a c) (he : EdM w ed aa ac ra rc) (hn : v.tabs.length ≤ 2 ^ 45) (hn2 : ed.add.length ≤ 2 ^ 45) (hn3 : ed.rem.length ≤ 2 ^ 45) :
    Calls Try.prog 14 #[vrV v a c, edV ed aa ac ra rc] w fun e w' => ∃ a' c', e = .returned (.tuple #[vrV (apV v ed) a' c', .int .i64 (apE v ed : Nat)]) ∧ VrM w' (apV v ed) a' c' ∧ Below w.heap.size w w' := by
  obtain ⟨W, hW⟩ : ∃ W, W = ((w.alloc (.cells #[.int .i64 v.log, .int .i64 v.next, .int .i64 v.seq, .slice a v.tabs.length c] 26)).alloc (.cells #[.int .i64 ed.log, .int .i64 ed.next, .int .i64 ed.seq, .slice aa ed.add.length ac, .slice ra ed.rem.length rc] 37)).alloc (.cells #[.int .i64 0, .int .i64 0, .int .i64 0, .slice none 0 0] 26) := ⟨_, rfl⟩
  have hWs : W.heap.size = w.heap.size + 1 + 1 + 1 := by rw [hW]; simp
  have hWb : Below w.heap.size w W := by rw [hW]; exact (((Below.refl _ w).alloc (Nat.le_refl _) _).alloc (by simp) _).alloc (by simp <;> omega) _
  have k0 : W.heap[w.heap.size]? = some (.cells #[.int .i64 v.log, .int .i64 v.next, .int .i64 v.seq, .slice a v.tabs.length c] 26 (0, 0)) := by
    rw [hW, old_alloc _ _ _ (by simp <;> omega), old_alloc _ _ _ (by simp)]; exact heap_alloc_new _ _
  have k1 : W.heap[w.heap.size + 1]? = some (.cells #[.int .i64 ed.log, .int .i64 ed.next, .int .i64 ed.seq, .slice aa ed.add.length ac, .slice ra ed.rem.length rc] 37 (0, 0)) := by
    have e : w.heap.size + 1 = (w.alloc (.cells #[.int .i64 v.log, .int .i64 v.next, .int .i64 v.seq, .slice a v.tabs.length c] 26)).heap.size := by simp
    rw [hW, old_alloc _ _ _ (by simp <;> omega), e]; exact heap_alloc_new _ _
  have k2 : W.heap[w.heap.size + 1 + 1]? = some (.cells #[.int .i64 0, .int .i64 0, .int .i64 0, .slice none 0 0] 26 (0, 0)) := by
    have e : w.heap.size + 1 + 1 = ((w.alloc (.cells #[.int .i64 v.log, .int .i64 v.next, .int .i64 v.seq, .slice a v.tabs.length c] 26)).alloc (.cells #[.int .i64 ed.log, .int .i64 ed.next, .int .i64 ed.seq, .slice aa ed.add.length ac, .slice ra ed.rem.length rc] 37)).heap.size := by simp
    rw [hW, e]; exact heap_alloc_new _ _
  have F0 : Hid (∀ wx, Below W.heap.size W wx → wx.cell? ⟨w.heap.size, 0, none⟩ = some (.int .i64 v.log) ∧ wx.cell? ⟨w.heap.size, 1, none⟩ = some (.int .i64 v.next) ∧ wx.cell? ⟨w.heap.size, 2, none⟩ = some (.int .i64 v.seq) ∧ wx.cell? ⟨w.heap.size, 3, none⟩ = some (.slice a v.tabs.length c)) := fun wx hb => by
    have z := blk_cells k0 (by omega) hb
    exact ⟨(z 0 _ rfl).1, (z 1 _ rfl).1, (z 2 _ rfl).1, (z 3 _ rfl).1⟩
  have F1 : Hid (∀ wx, Below W.heap.size W wx → wx.cell? ⟨w.heap.size + 1, 0, none⟩ = some (.int .i64 ed.log) ∧ wx.cell? ⟨w.heap.size + 1, 1, none⟩ = some (.int .i64 ed.next) ∧ wx.cell? ⟨w.heap.size + 1, 2, none⟩ = some (.int .i64 ed.seq) ∧ wx.cell? ⟨w.heap.size + 1, 3, none⟩ = some (.slice aa ed.add.length ac) ∧ wx.cell? ⟨w.heap.size + 1, 4, none⟩ = some (.slice ra ed.rem.length rc)) := fun wx hb => by
    have z := blk_cells k1 (by omega) hb
    exact ⟨(z 0 _ rfl).1, (z 1 _ rfl).1, (z 2 _ rfl).1, (z 3 _ rfl).1, (z 4 _ rfl).1⟩
  have F2 : Hid (∀ wx, Below W.heap.size W wx → (wx.cell? ⟨w.heap.size + 1 + 1, 0, none⟩ = some (.int .i64 0) ∧ wx.cell? ⟨w.heap.size + 1 + 1, 1, none⟩ = some (.int .i64 0) ∧ wx.cell? ⟨w.heap.size + 1 + 1, 2, none⟩ = some (.int .i64 0) ∧ wx.cell? ⟨w.heap.size + 1 + 1, 3, none⟩ = some (.slice none 0 0)) ∧ wx.frozen? ⟨w.heap.size + 1 + 1, 0, none⟩ = false ∧ wx.frozen? ⟨w.heap.size + 1 + 1, 1, none⟩ = false ∧ wx.frozen? ⟨w.heap.size + 1 + 1, 2, none⟩ = false ∧ wx.frozen? ⟨w.heap.size + 1 + 1, 3, none⟩ = false) := fun wx hb => by
    have z := blk_cells k2 (by omega) hb
    exact ⟨⟨(z 0 _ rfl).1, (z 1 _ rfl).1, (z 2 _ rfl).1, (z 3 _ rfl).1⟩, (z 0 _ rfl).2, (z 1 _ rfl).2, (z 2 _ rfl).2, (z 3 _ rfl).2⟩
  have HTR : Hid (∀ wx wy, Below W.heap.size W wx → Below wx.heap.size wx wy → Below W.heap.size W wy) := fun wx wy h1 h2 => h1.trans (h2.mono h1.size)
  have HVV : Hid (∀ wx, Below W.heap.size W wx → VrM wx v a c ∧ EdM wx ed aa ac ra rc) := fun wx hb => ⟨hv.later (hWb.trans (hb.mono hWb.size)), he.later (hWb.trans (hb.mono hWb.size))⟩
  have HEND : Hid (∀ wx, Below W.heap.size W wx → ∀ v0 v1 v2 v3, Below w.heap.size w ((((wx.setCell ⟨w.heap.size + 1 + 1, 0, none⟩ v0).setCell ⟨w.heap.size + 1 + 1, 1, none⟩ v1).setCell ⟨w.heap.size + 1 + 1, 2, none⟩ v2).setCell ⟨w.heap.size + 1 + 1, 3, none⟩ v3)) := fun wx hb v0 v1 v2 v3 => below_set4 (hWb.trans (hb.mono hWb.size)) (by omega) (Nat.le_refl _) _ _ _ _
  have M1 : Hid (∀ wx, Below W.heap.size W wx → Calls Try.prog 27 #[vrV v a c] wx fun e w' => e = .returned (.bool (mayVr v)) ∧ Below W.heap.size W w') := fun wx hb => (may_t (HVV.out wx hb).1 (by omega)).mono fun e w' hh => ⟨hh.1, HTR.out _ _ hb hh.2⟩
  have M2 : Hid (∀ wx, Below W.heap.size W wx → Calls Try.prog 28 #[edV ed aa ac ra rc] wx fun e w' => e = .returned (.bool (mayEd ed)) ∧ Below W.heap.size W w') := fun wx hb => (emay_any (HVV.out wx hb).2).mono fun e w' hh => ⟨hh.1, HTR.out _ _ hb hh.2⟩
  have HW0 : Hid (Below W.heap.size W W) := Below.refl _ _
  have HNO : Hid (∀ wx : World, VrM wx noVr none 0) := fun wx => ⟨by unfold In64 noVr; simp, by unfold In64 noVr; simp, by unfold In64 noVr; simp, RS.nil _⟩
  unfold vrV at M1
  unfold edV at M2
  have HW := hidS hW
  obtain ⟨m1, hm1⟩ : ∃ m, m = mayVr v := ⟨_, rfl⟩
  obtain ⟨m2, hm2⟩ : ∃ m, m = mayEd ed := ⟨_, rfl⟩
  rw [← hm1] at M1
  rw [← hm2] at M2
  have HM := hidS (And.intro hm1 hm2)
  have HLT : Hid (w.heap.size < W.heap.size ∧ Below w.heap.size w W) := ⟨by omega, hWb⟩
  have HLT2 : Hid (W.heap.size = w.heap.size + 1 + 1 + 1) := hWs
  have F2H : Hid (∀ wx, Below W.heap.size W wx → wx.heap[w.heap.size + 1 + 1]? = some (.cells #[.int .i64 0, .int .i64 0, .int .i64 0, .slice none 0 0] 26 (0, 0))) := fun wx hb => (hb.block _ (by omega)).trans k2
  clear hW hWs hWb k0 k1 k2 hm1 hm2
  have HVE := hidS (And.intro hv he)
  clear hv he
  obtain ⟨P0, hP0⟩ : ∃ P, P = w.heap.size := ⟨_, rfl⟩
  by_cases hm : m1 = true
  · subst hm
    have hmv : mayVr v = true := HM.out.1.symm
    by_cases hm' : m2 = true
    · subst hm'
      have hme : mayEd ed = true := HM.out.2.symm
      have eg : ∀ args w, (callFunc 29 args).run Try.prog w = .ok (.enter 29 args) w := enters_of Try.func29 (by kernel_rfl) rfl
      obtain ⟨L3, hL3⟩ : ∃ L, L = (stayL v ed).length := ⟨_, rfl⟩
      have hL3b : L3 ≤ v.tabs.length := by rw [hL3]; exact List.length_filter_le _ _
      have htl : v.tabs.length ≤ 200 := (mayAd_ok (mayVr_ok hmv).2.1).1
      have hal : ed.add.length ≤ 200 := (mayAd_ok (mayEd_ok hme).2.2.2.1).1
      have hrl : ed.rem.length ≤ 200 := (mayRm_ok (mayEd_ok hme).2.2.2.2).1
      have HSM : Hid (∀ t ∈ stayL v ed ++ ed.add, t.least.length ≤ 1000000 ∧ t.most.length ≤ 1000000) := fun t ht => by
        have : mayLn t = true := by
          rcases List.mem_append.1 ht with q | q
          · exact (mayAd_ok (mayVr_ok hmv).2.1).2.1 t (List.mem_filter.1 q).1
          · exact (mayAd_ok (mayEd_ok hme).2.2.2.1).2.1 t q
        have := mayLn_ok this
        omega
      have CH : Hid (∀ wx, Below W.heap.size W wx → Calls Try.prog 11 #[.slice a v.tabs.length c, .func (.func 29) #[] #[.pointer (some ⟨w.heap.size + 1, 0, none⟩)]] wx fun e w' => ∃ a3 c3, e = .returned (.slice a3 L3 c3) ∧ RowS lnE wx.heap.size w' (.slice a3 L3 c3) (stayL v ed) ∧ Below W.heap.size W w' ∧ Below wx.heap.size wx w') := fun wx hb => by
        refine (chosen_any (HVV.out wx hb).1.tabs (by omega) eg (p := fun t => !decide (t.num ∈ ed.rem)) ?_).mono ?_
        · intro wy hby vs t hM
          exact apply1_t (cell_later hby (F1.out wx hb).2.2.2.2) ((HVV.out wx hb).2.rem.later hby) (by omega) hM
        · rintro e w' ⟨v3, rfl, r3, b3⟩
          obtain ⟨a3, c3, e3, _⟩ := r3.rs
          subst e3
          have e4 : (List.filter (fun t => !decide (t.num ∈ ed.rem)) v.tabs).length = L3 := hL3.symm
          rw [e4] at r3 ⊢
          exact ⟨a3, c3, rfl, r3, HTR.out _ _ hb b3, b3⟩
      have H7 : Hid ((v.tabs.length < L3 + ed.rem.length) ↔ ∃ n ∈ ed.rem, n ∉ nosL v.tabs) := by
        show _ ↔ _
        rw [hL3]; exact none_iff (mayAd_ok (mayVr_ok hmv).2.1).2.2 (mayRm_ok (mayEd_ok hme).2.2.2.2).2.2
      obtain ⟨S6, hS6⟩ : ∃ b : Bool, b = ((stayL v ed).any fun t => ed.add.any fun u => decide (u.num = t.num)) := ⟨_, rfl⟩
      have H6 : Hid (S6 = true ↔ ∃ t ∈ ed.add, t.num ∈ nosL v.tabs ∧ t.num ∉ ed.rem) := by
        show _ ↔ _
        rw [hS6]; exact share_iff
      have SHC : Hid (∀ a3 c3 w3 B3, RowS lnE B3 w3 (.slice a3 L3 c3) (stayL v ed) → Below W.heap.size W w3 → ∀ o, Calls Try.prog 31 #[.slice a3 L3 c3, .slice aa ed.add.length ac] (w3.alloc o) fun e w' => e = .returned (.bool S6) ∧ Below (w3.alloc o).heap.size (w3.alloc o) w') := fun a3 c3 w3 B3 r3 b3 o => by
        have hb := (Below.refl w3.heap.size w3).alloc (Nat.le_refl _) o
        obtain ⟨a4, c4, e4, h4⟩ := r3.rs
        rw [← hL3] at e4 h4
        simp only [Value.slice.injEq, true_and] at e4
        obtain ⟨rfl, rfl⟩ := e4
        rw [hS6]
        exact share_t (h4.later hb) ((HVV.out w3 b3).2.add.later hb) (by omega) (by omega)
      obtain ⟨S11, hS11⟩ : ∃ b : Bool, b = decide (ed.log < v.log ∨ ed.next < v.next ∨ ed.seq < v.seq) := ⟨_, rfl⟩
      have H11 : Hid (S11 = true ↔ (ed.log < v.log ∨ ed.next < v.next ∨ ed.seq < v.seq)) := by
        show _ ↔ _
        rw [hS11]; exact decide_eq_true_iff
      have FAC : Hid (∀ wx, Calls Try.prog 32 #[.agg #[.int .i64 v.log, .int .i64 v.next, .int .i64 v.seq, .slice a v.tabs.length c], .agg #[.int .i64 ed.log, .int .i64 ed.next, .int .i64 ed.seq, .slice none 0 0]] wx fun e w' => e = .returned (.bool S11) ∧ Below wx.heap.size wx w') := fun wx => by rw [hS11]; exact falls_t
      have HLL : Hid ((stayL v ed).length = L3 ∧ L3 ≤ 200 ∧ ed.add.length ≤ 200) := ⟨hL3.symm, by omega, hal⟩
      have HIF : Hid (mayVr v = true ∧ mayEd ed = true) := ⟨hmv, hme⟩
      clear hmv hme hS6 hS11 eg hL3
      by_cases c7 : v.tabs.length < L3 + ed.rem.length
      · have c7z : (v.tabs.length : Int) < (L3 : Int) + (ed.rem.length : Int) := by omega
        have HE : Hid (apE v ed = 7 ∧ apV v ed = noVr) := by
          have e : apE v ed = 7 := by
            unfold apE
            rw [if_pos HIF.out, if_pos (H7.out.1 c7)]
          exact ⟨e, by unfold apV; rw [e]; rfl⟩
        rw [HE.out.1, HE.out.2]
        unfold vrV edV
        obtain ⟨x0, x1, x2, x3⟩ := F0.out _ HW0.out
        obtain ⟨y0, y1, y2, y3, y4⟩ := F1.out _ HW0.out
        obtain ⟨⟨z0, z1, z2, z3⟩, f0, f1, f2, f3⟩ := F2.out _ HW0.out
        have hc1 := M1.out _ HW0.out
        rw [HW.out] at x0 x1 x2 x3 y0 y1 y2 y3 y4 z0 z1 z2 z3 f0 f1 f2 f3 hc1
        go_enter Try.func14, Try.ntmps14
        go_wp2_with (first | (go_at_call 27; refine hc1.mono ?_; rintro e w1 ⟨rfl, b1⟩; rw [← HW.out] at b1; clear hc1; clear x0 x1 x2 x3 y0 y1 y2 y3 y4 z0 z1 z2 z3 f0 f1 f2 f3; obtain ⟨x0, x1, x2, x3⟩ := F0.out _ b1; obtain ⟨y0, y1, y2, y3, y4⟩ := F1.out _ b1; obtain ⟨⟨z0, z1, z2, z3⟩, f0, f1, f2, f3⟩ := F2.out _ b1) | (go_at_call 28; refine (M2.out _ b1).mono ?_; rintro e w2 ⟨rfl, b2⟩; clear x0 x1 x2 x3 y0 y1 y2 y3 y4 z0 z1 z2 z3 f0 f1 f2 f3; obtain ⟨x0, x1, x2, x3⟩ := F0.out _ b2; obtain ⟨y0, y1, y2, y3, y4⟩ := F1.out _ b2; obtain ⟨⟨z0, z1, z2, z3⟩, f0, f1, f2, f3⟩ := F2.out _ b2) | (go_at_call 11; refine (CH.out _ b2).mono ?_; rintro e w3 ⟨a3, c3, rfl, r3, b3, b23⟩; clear x0 x1 x2 x3 y0 y1 y2 y3 y4 z0 z1 z2 z3 f0 f1 f2 f3; obtain ⟨x0, x1, x2, x3⟩ := F0.out _ b3; obtain ⟨y0, y1, y2, y3, y4⟩ := F1.out _ b3; obtain ⟨⟨z0, z1, z2, z3⟩, f0, f1, f2, f3⟩ := F2.out _ b3; have b4 := b3.alloc b3.size (.cells #[.int .i64 ed.log, .int .i64 ed.next, .int .i64 ed.seq, .slice none 0 0] 26); obtain ⟨xx0, xx1, xx2, xx3⟩ := F0.out _ b4; obtain ⟨yy0, yy1, yy2, yy3, yy4⟩ := F1.out _ b4; obtain ⟨⟨zz0, zz1, zz2, zz3⟩, ff0, ff1, ff2, ff3⟩ := F2.out _ b4))
        have S4 := set4_cells zz0 zz1 zz2 zz3 (.int .i64 0) (.int .i64 0) (.int .i64 0) (.slice none 0 0)
        exact bodyPost_ret (v := .tuple #[.agg #[.int .i64 0, .int .i64 0, .int .i64 0, .slice none 0 0], .int .i64 7]) (by simp [results, Try.results14, go_sem, S4.1, S4.2.1, S4.2.2.1, S4.2.2.2]) rfl ⟨none, 0, rfl, HNO.out _, HEND.out _ b4 _ _ _ _⟩
      · have c7z : ¬ (v.tabs.length : Int) < (L3 : Int) + (ed.rem.length : Int) := by omega
        have HC7 : Hid (¬ ∃ n ∈ ed.rem, n ∉ nosL v.tabs) := fun z => c7 (H7.out.2 z)
        clear c7
        cases S6 with
        | true =>
          have HE : Hid (apE v ed = 6 ∧ apV v ed = noVr) := by
            have e : apE v ed = 6 := by
              unfold apE
              rw [if_pos HIF.out, if_neg HC7.out, if_pos (H6.out.1 rfl)]
            exact ⟨e, by unfold apV; rw [e]; rfl⟩
          rw [HE.out.1, HE.out.2]
          unfold vrV edV
          obtain ⟨x0, x1, x2, x3⟩ := F0.out _ HW0.out
          obtain ⟨y0, y1, y2, y3, y4⟩ := F1.out _ HW0.out
          obtain ⟨⟨z0, z1, z2, z3⟩, f0, f1, f2, f3⟩ := F2.out _ HW0.out
          have hc1 := M1.out _ HW0.out
          rw [HW.out] at x0 x1 x2 x3 y0 y1 y2 y3 y4 z0 z1 z2 z3 f0 f1 f2 f3 hc1
          go_enter Try.func14, Try.ntmps14
          go_wp2_with (first | (go_at_call 27; refine hc1.mono ?_; rintro e w1 ⟨rfl, b1⟩; rw [← HW.out] at b1; clear hc1; clear x0 x1 x2 x3 y0 y1 y2 y3 y4 z0 z1 z2 z3 f0 f1 f2 f3; obtain ⟨x0, x1, x2, x3⟩ := F0.out _ b1; obtain ⟨y0, y1, y2, y3, y4⟩ := F1.out _ b1; obtain ⟨⟨z0, z1, z2, z3⟩, f0, f1, f2, f3⟩ := F2.out _ b1) | (go_at_call 28; refine (M2.out _ b1).mono ?_; rintro e w2 ⟨rfl, b2⟩; clear x0 x1 x2 x3 y0 y1 y2 y3 y4 z0 z1 z2 z3 f0 f1 f2 f3; obtain ⟨x0, x1, x2, x3⟩ := F0.out _ b2; obtain ⟨y0, y1, y2, y3, y4⟩ := F1.out _ b2; obtain ⟨⟨z0, z1, z2, z3⟩, f0, f1, f2, f3⟩ := F2.out _ b2) | (go_at_call 11; refine (CH.out _ b2).mono ?_; rintro e w3 ⟨a3, c3, rfl, r3, b3, b23⟩; clear x0 x1 x2 x3 y0 y1 y2 y3 y4 z0 z1 z2 z3 f0 f1 f2 f3; obtain ⟨x0, x1, x2, x3⟩ := F0.out _ b3; obtain ⟨y0, y1, y2, y3, y4⟩ := F1.out _ b3; obtain ⟨⟨z0, z1, z2, z3⟩, f0, f1, f2, f3⟩ := F2.out _ b3; have b4 := b3.alloc b3.size (.cells #[.int .i64 ed.log, .int .i64 ed.next, .int .i64 ed.seq, .slice none 0 0] 26); obtain ⟨xx0, xx1, xx2, xx3⟩ := F0.out _ b4; obtain ⟨yy0, yy1, yy2, yy3, yy4⟩ := F1.out _ b4; obtain ⟨⟨zz0, zz1, zz2, zz3⟩, ff0, ff1, ff2, ff3⟩ := F2.out _ b4) | (go_at_call 31; refine (SHC.out _ _ _ _ r3 b3 (.cells #[.int .i64 ed.log, .int .i64 ed.next, .int .i64 ed.seq, .slice none 0 0] 26)).mono ?_; rintro e w5 ⟨rfl, b45⟩; have b5 := HTR.out _ _ b4 b45; clear x0 x1 x2 x3 y0 y1 y2 y3 y4 z0 z1 z2 z3 f0 f1 f2 f3; clear xx0 xx1 xx2 xx3 yy0 yy1 yy2 yy3 yy4 zz0 zz1 zz2 zz3 ff0 ff1 ff2 ff3; obtain ⟨x0, x1, x2, x3⟩ := F0.out _ b5; obtain ⟨y0, y1, y2, y3, y4⟩ := F1.out _ b5; obtain ⟨⟨z0, z1, z2, z3⟩, f0, f1, f2, f3⟩ := F2.out _ b5; obtain ⟨q0, q1, q2, q3⟩ := box4 w3 _ _ _ _ _ b45))
          have S4 := set4_cells z0 z1 z2 z3 (.int .i64 0) (.int .i64 0) (.int .i64 0) (.slice none 0 0)
          exact bodyPost_ret (v := .tuple #[.agg #[.int .i64 0, .int .i64 0, .int .i64 0, .slice none 0 0], .int .i64 6]) (by simp [results, Try.results14, go_sem, S4.1, S4.2.1, S4.2.2.1, S4.2.2.2]) rfl ⟨none, 0, rfl, HNO.out _, HEND.out _ b5 _ _ _ _⟩
        | false =>
          have HC6 : Hid (¬ ∃ t ∈ ed.add, t.num ∈ nosL v.tabs ∧ t.num ∉ ed.rem) := fun z => absurd (H6.out.2 z) (by simp)
          cases S11 with
          | true =>
            have HE : Hid (apE v ed = 11 ∧ apV v ed = noVr) := by
              have e : apE v ed = 11 := by
                unfold apE
                rw [if_pos HIF.out, if_neg HC7.out, if_neg HC6.out, if_pos (H11.out.1 rfl)]
              exact ⟨e, by unfold apV; rw [e]; rfl⟩
            rw [HE.out.1, HE.out.2]
            unfold vrV edV
            obtain ⟨x0, x1, x2, x3⟩ := F0.out _ HW0.out
            obtain ⟨y0, y1, y2, y3, y4⟩ := F1.out _ HW0.out
            obtain ⟨⟨z0, z1, z2, z3⟩, f0, f1, f2, f3⟩ := F2.out _ HW0.out
            have hc1 := M1.out _ HW0.out
            rw [HW.out] at x0 x1 x2 x3 y0 y1 y2 y3 y4 z0 z1 z2 z3 f0 f1 f2 f3 hc1
            go_enter Try.func14, Try.ntmps14
            go_wp2_with (first | (go_at_call 27; refine hc1.mono ?_; rintro e w1 ⟨rfl, b1⟩; rw [← HW.out] at b1; clear hc1; clear x0 x1 x2 x3 y0 y1 y2 y3 y4 z0 z1 z2 z3 f0 f1 f2 f3; obtain ⟨x0, x1, x2, x3⟩ := F0.out _ b1; obtain ⟨y0, y1, y2, y3, y4⟩ := F1.out _ b1; obtain ⟨⟨z0, z1, z2, z3⟩, f0, f1, f2, f3⟩ := F2.out _ b1) | (go_at_call 28; refine (M2.out _ b1).mono ?_; rintro e w2 ⟨rfl, b2⟩; clear x0 x1 x2 x3 y0 y1 y2 y3 y4 z0 z1 z2 z3 f0 f1 f2 f3; obtain ⟨x0, x1, x2, x3⟩ := F0.out _ b2; obtain ⟨y0, y1, y2, y3, y4⟩ := F1.out _ b2; obtain ⟨⟨z0, z1, z2, z3⟩, f0, f1, f2, f3⟩ := F2.out _ b2) | (go_at_call 11; refine (CH.out _ b2).mono ?_; rintro e w3 ⟨a3, c3, rfl, r3, b3, b23⟩; clear x0 x1 x2 x3 y0 y1 y2 y3 y4 z0 z1 z2 z3 f0 f1 f2 f3; obtain ⟨x0, x1, x2, x3⟩ := F0.out _ b3; obtain ⟨y0, y1, y2, y3, y4⟩ := F1.out _ b3; obtain ⟨⟨z0, z1, z2, z3⟩, f0, f1, f2, f3⟩ := F2.out _ b3; have b4 := b3.alloc b3.size (.cells #[.int .i64 ed.log, .int .i64 ed.next, .int .i64 ed.seq, .slice none 0 0] 26); obtain ⟨xx0, xx1, xx2, xx3⟩ := F0.out _ b4; obtain ⟨yy0, yy1, yy2, yy3, yy4⟩ := F1.out _ b4; obtain ⟨⟨zz0, zz1, zz2, zz3⟩, ff0, ff1, ff2, ff3⟩ := F2.out _ b4) | (go_at_call 31; refine (SHC.out _ _ _ _ r3 b3 (.cells #[.int .i64 ed.log, .int .i64 ed.next, .int .i64 ed.seq, .slice none 0 0] 26)).mono ?_; rintro e w5 ⟨rfl, b45⟩; have b5 := HTR.out _ _ b4 b45; clear x0 x1 x2 x3 y0 y1 y2 y3 y4 z0 z1 z2 z3 f0 f1 f2 f3; clear xx0 xx1 xx2 xx3 yy0 yy1 yy2 yy3 yy4 zz0 zz1 zz2 zz3 ff0 ff1 ff2 ff3; obtain ⟨x0, x1, x2, x3⟩ := F0.out _ b5; obtain ⟨y0, y1, y2, y3, y4⟩ := F1.out _ b5; obtain ⟨⟨z0, z1, z2, z3⟩, f0, f1, f2, f3⟩ := F2.out _ b5; obtain ⟨q0, q1, q2, q3⟩ := box4 w3 _ _ _ _ _ b45) | (go_at_call 32; refine (FAC.out w5).mono ?_; rintro e w6 ⟨rfl, b56⟩; have b6 := HTR.out _ _ b5 b56; have b46 := b45.trans (b56.mono b45.size); clear x0 x1 x2 x3 y0 y1 y2 y3 y4 z0 z1 z2 z3 f0 f1 f2 f3; clear q0 q1 q2 q3; obtain ⟨x0, x1, x2, x3⟩ := F0.out _ b6; obtain ⟨y0, y1, y2, y3, y4⟩ := F1.out _ b6; obtain ⟨⟨z0, z1, z2, z3⟩, f0, f1, f2, f3⟩ := F2.out _ b6; obtain ⟨q0, q1, q2, q3⟩ := box4 w3 _ _ _ _ _ b46))
            have S4 := set4_cells z0 z1 z2 z3 (.int .i64 0) (.int .i64 0) (.int .i64 0) (.slice none 0 0)
            exact bodyPost_ret (v := .tuple #[.agg #[.int .i64 0, .int .i64 0, .int .i64 0, .slice none 0 0], .int .i64 11]) (by simp [results, Try.results14, go_sem, S4.1, S4.2.1, S4.2.2.1, S4.2.2.2]) rfl ⟨none, 0, rfl, HNO.out _, HEND.out _ b6 _ _ _ _⟩
          | false =>
            have HC11 : Hid (¬ (ed.log < v.log ∨ ed.next < v.next ∨ ed.seq < v.seq)) := fun z => absurd (H11.out.2 z) (by simp)
            by_cases c13 : 200 < L3 + ed.add.length
            · have c13z : (200 : Int) < (L3 : Int) + (ed.add.length : Int) := by omega
              have HE : Hid (apE v ed = 13 ∧ apV v ed = noVr) := by
                have e : apE v ed = 13 := by
                  unfold apE
                  rw [if_pos HIF.out, if_neg HC7.out, if_neg HC6.out, if_neg HC11.out, if_pos (by rw [HLL.out.1]; exact c13)]
                exact ⟨e, by unfold apV; rw [e]; rfl⟩
              rw [HE.out.1, HE.out.2]
              unfold vrV edV
              obtain ⟨x0, x1, x2, x3⟩ := F0.out _ HW0.out
              obtain ⟨y0, y1, y2, y3, y4⟩ := F1.out _ HW0.out
              obtain ⟨⟨z0, z1, z2, z3⟩, f0, f1, f2, f3⟩ := F2.out _ HW0.out
              have hc1 := M1.out _ HW0.out
              rw [HW.out] at x0 x1 x2 x3 y0 y1 y2 y3 y4 z0 z1 z2 z3 f0 f1 f2 f3 hc1
              go_enter Try.func14, Try.ntmps14
              go_wp2_with (first | (go_at_call 27; refine hc1.mono ?_; rintro e w1 ⟨rfl, b1⟩; rw [← HW.out] at b1; clear hc1; clear x0 x1 x2 x3 y0 y1 y2 y3 y4 z0 z1 z2 z3 f0 f1 f2 f3; obtain ⟨x0, x1, x2, x3⟩ := F0.out _ b1; obtain ⟨y0, y1, y2, y3, y4⟩ := F1.out _ b1; obtain ⟨⟨z0, z1, z2, z3⟩, f0, f1, f2, f3⟩ := F2.out _ b1) | (go_at_call 28; refine (M2.out _ b1).mono ?_; rintro e w2 ⟨rfl, b2⟩; clear x0 x1 x2 x3 y0 y1 y2 y3 y4 z0 z1 z2 z3 f0 f1 f2 f3; obtain ⟨x0, x1, x2, x3⟩ := F0.out _ b2; obtain ⟨y0, y1, y2, y3, y4⟩ := F1.out _ b2; obtain ⟨⟨z0, z1, z2, z3⟩, f0, f1, f2, f3⟩ := F2.out _ b2) | (go_at_call 11; refine (CH.out _ b2).mono ?_; rintro e w3 ⟨a3, c3, rfl, r3, b3, b23⟩; clear x0 x1 x2 x3 y0 y1 y2 y3 y4 z0 z1 z2 z3 f0 f1 f2 f3; obtain ⟨x0, x1, x2, x3⟩ := F0.out _ b3; obtain ⟨y0, y1, y2, y3, y4⟩ := F1.out _ b3; obtain ⟨⟨z0, z1, z2, z3⟩, f0, f1, f2, f3⟩ := F2.out _ b3; have b4 := b3.alloc b3.size (.cells #[.int .i64 ed.log, .int .i64 ed.next, .int .i64 ed.seq, .slice none 0 0] 26); obtain ⟨xx0, xx1, xx2, xx3⟩ := F0.out _ b4; obtain ⟨yy0, yy1, yy2, yy3, yy4⟩ := F1.out _ b4; obtain ⟨⟨zz0, zz1, zz2, zz3⟩, ff0, ff1, ff2, ff3⟩ := F2.out _ b4) | (go_at_call 31; refine (SHC.out _ _ _ _ r3 b3 (.cells #[.int .i64 ed.log, .int .i64 ed.next, .int .i64 ed.seq, .slice none 0 0] 26)).mono ?_; rintro e w5 ⟨rfl, b45⟩; have b5 := HTR.out _ _ b4 b45; clear x0 x1 x2 x3 y0 y1 y2 y3 y4 z0 z1 z2 z3 f0 f1 f2 f3; clear xx0 xx1 xx2 xx3 yy0 yy1 yy2 yy3 yy4 zz0 zz1 zz2 zz3 ff0 ff1 ff2 ff3; obtain ⟨x0, x1, x2, x3⟩ := F0.out _ b5; obtain ⟨y0, y1, y2, y3, y4⟩ := F1.out _ b5; obtain ⟨⟨z0, z1, z2, z3⟩, f0, f1, f2, f3⟩ := F2.out _ b5; obtain ⟨q0, q1, q2, q3⟩ := box4 w3 _ _ _ _ _ b45) | (go_at_call 32; refine (FAC.out w5).mono ?_; rintro e w6 ⟨rfl, b56⟩; have b6 := HTR.out _ _ b5 b56; have b46 := b45.trans (b56.mono b45.size); clear x0 x1 x2 x3 y0 y1 y2 y3 y4 z0 z1 z2 z3 f0 f1 f2 f3; clear q0 q1 q2 q3; obtain ⟨x0, x1, x2, x3⟩ := F0.out _ b6; obtain ⟨y0, y1, y2, y3, y4⟩ := F1.out _ b6; obtain ⟨⟨z0, z1, z2, z3⟩, f0, f1, f2, f3⟩ := F2.out _ b6; obtain ⟨q0, q1, q2, q3⟩ := box4 w3 _ _ _ _ _ b46))
              have S4 := set4_cells z0 z1 z2 z3 (.int .i64 0) (.int .i64 0) (.int .i64 0) (.slice none 0 0)
              exact bodyPost_ret (v := .tuple #[.agg #[.int .i64 0, .int .i64 0, .int .i64 0, .slice none 0 0], .int .i64 13]) (by simp [results, Try.results14, go_sem, S4.1, S4.2.1, S4.2.2.1, S4.2.2.2]) rfl ⟨none, 0, rfl, HNO.out _, HEND.out _ b6 _ _ _ _⟩
            · have c13z : ¬ (200 : Int) < (L3 : Int) + (ed.add.length : Int) := by omega
              have HC13 : Hid (¬ 200 < (stayL v ed).length + ed.add.length) := by rw [HLL.out.1]; exact c13
              clear c13
              obtain ⟨us, hus⟩ := HVE.out.2.add
              have HUS := hidS hus
              have HOL : Hid ((stayL v ed ++ ed.add).length ≤ 1000000) := by
                have := HLL.out
                show _ ≤ _
                rw [List.length_append]; omega
              have APC : Hid (∀ (a3 : Option Addr) (c3 : Nat) (w2 w3 w6 : World), RowS lnE w2.heap.size w3 (.slice a3 L3 c3) (stayL v ed) → Below W.heap.size W w3 → Below w2.heap.size w2 w3 → Below W.heap.size W w2 → Below (w3.alloc (.cells #[.int .i64 ed.log, .int .i64 ed.next, .int .i64 ed.seq, .slice none 0 0] 26)).heap.size (w3.alloc (.cells #[.int .i64 ed.log, .int .i64 ed.next, .int .i64 ed.seq, .slice none 0 0] 26)) w6 →
                  RowS lnE w2.heap.size w6 (.slice a3 L3 c3) (stayL v ed) ∧ RSu lnE w6 aa ed.add.length ac us ed.add ∧ (∀ u ∈ us, ∀ b, Refs u b → (Value.slice a3 L3 c3).ownBlock ≠ some b) ∧ w2.heap.size ≤ w6.heap.size ∧
                  ∀ (v7 : Value) (w7 : World), RowS lnE w2.heap.size w7 v7 (stayL v ed ++ ed.add) → w6.grownBy w7 (Value.slice a3 L3 c3).ownBlock → Moved w6 (.slice a3 L3 c3) v7 →
                    Below W.heap.size W w7 ∧ w7.heap[w3.heap.size]? = some (.cells #[.int .i64 ed.log, .int .i64 ed.next, .int .i64 ed.seq, .slice none 0 0] 26 (0, 0)) ∧ v7.ownBlock ≠ some w3.heap.size ∧ w2.heap.size ≤ w7.heap.size) := fun a3 c3 w2 w3 w6 r3 b3 b23 b2 b46 => by
                have ha : Below w3.heap.size w3 (w3.alloc (.cells #[.int .i64 ed.log, .int .i64 ed.next, .int .i64 ed.seq, .slice none 0 0] 26)) := (Below.refl _ w3).alloc (Nat.le_refl _) _
                have b36 : Below w3.heap.size w3 w6 := ha.trans (b46.mono ha.size)
                have r6 := r3.later b36
                have b6 : Below W.heap.size W w6 := HTR.out _ _ b3 b36
                have hP : w6.heap[w3.heap.size]? = some (.cells #[.int .i64 ed.log, .int .i64 ed.next, .int .i64 ed.seq, .slice none 0 0] 26 (0, 0)) := (b46.block _ (by simp)).trans (heap_alloc_new w3 _)
                have hP6 : w3.heap.size < w6.heap.size := by have := b46.size; simp at this; omega
                have hlt := HLT.out
                have hs23 := b23.size
                have hs2 := b2.size
                refine ⟨r6, HUS.out.later (hlt.2.trans (b6.mono hlt.2.size)), fun u hu b hr e => ?_, by omega, fun v7 w7 r7 g7 m7 => ⟨b6.grown g7 b6.size fun z hz => ?_, ?_, ?_, by have := g7.size; omega⟩⟩
                · have q1 := HUS.out.2.2.2.2.1.lt u hu b hr
                  have q2 := (r3.own_lt e).1
                  have := hlt.1
                  omega
                · have := (r6.own_lt hz).1
                  omega
                · rw [g7.block _ hP6 (fun e => by have := (r3.own_lt e.symm).2; omega)]; exact hP
                · rcases m7 with e1 | ⟨gg, e1, e2⟩
                  · rw [e1]; intro e; have := (r3.own_lt e).2; omega
                  · rw [e1]; intro e; simp only [Option.some.injEq] at e; omega
              have ORC : Hid (∀ (w2 w3 w7 : World) (v7 : Value) (w8 : World), (Below W.heap.size W w7 ∧ w7.heap[w3.heap.size]? = some (.cells #[.int .i64 ed.log, .int .i64 ed.next, .int .i64 ed.seq, .slice none 0 0] 26 (0, 0)) ∧ v7.ownBlock ≠ some w3.heap.size ∧ w2.heap.size ≤ w7.heap.size) → Below W.heap.size W w2 → Below w2.heap.size w7 w8 → w7.grownBy w8 v7.ownBlock →
                  Below W.heap.size W w8 ∧ w8.heap[w3.heap.size]? = some (.cells #[.int .i64 ed.log, .int .i64 ed.next, .int .i64 ed.seq, .slice none 0 0] 26 (0, 0)) ∧ w8.cell? ⟨w3.heap.size, 0, none⟩ = some (.int .i64 ed.log) ∧ w8.cell? ⟨w3.heap.size, 1, none⟩ = some (.int .i64 ed.next) ∧ w8.cell? ⟨w3.heap.size, 2, none⟩ = some (.int .i64 ed.seq) ∧ w8.cell? ⟨w3.heap.size, 3, none⟩ = some (.slice none 0 0) ∧ w8.frozen? ⟨w3.heap.size, 3, none⟩ = false) := fun w2 w3 w7 v7 w8 k7 b2 b78 g8 => by
                have hP7 : w3.heap.size < w7.heap.size := (Array.getElem?_eq_some_iff.1 k7.2.1).1
                have h8 : w8.heap[w3.heap.size]? = some (.cells #[.int .i64 ed.log, .int .i64 ed.next, .int .i64 ed.seq, .slice none 0 0] 26 (0, 0)) := (g8.block _ hP7 fun e => k7.2.2.1 e.symm).trans k7.2.1
                exact ⟨k7.1.trans (b78.mono b2.size), h8, by rw [cell_of h8]; rfl, by rw [cell_of h8]; rfl, by rw [cell_of h8]; rfl, by rw [cell_of h8]; rfl, by simp [World.frozen?, h8]⟩
              have SET : Hid (∀ (w8 : World) (g : Nat) (u0 u1 u2 u3 : Value), w8.cell? ⟨g, 0, none⟩ = some u0 → w8.cell? ⟨g, 1, none⟩ = some u1 → w8.cell? ⟨g, 2, none⟩ = some u2 → w8.cell? ⟨g, 3, none⟩ = some u3 → ∀ x : Value,
                  (w8.setCell ⟨g, 3, none⟩ x).cell? ⟨g, 0, none⟩ = some u0 ∧ (w8.setCell ⟨g, 3, none⟩ x).cell? ⟨g, 1, none⟩ = some u1 ∧ (w8.setCell ⟨g, 3, none⟩ x).cell? ⟨g, 2, none⟩ = some u2 ∧ (w8.setCell ⟨g, 3, none⟩ x).cell? ⟨g, 3, none⟩ = some x) := fun w8 g u0 u1 u2 u3 h0 h1 h2 h3 x =>
                ⟨by rw [cso _ _ _ _ _ (by decide)]; exact h0, by rw [cso _ _ _ _ _ (by decide)]; exact h1, by rw [cso _ _ _ _ _ (by decide)]; exact h2, css _ _ _ _ h3⟩
              obtain ⟨M3, hM3⟩ : ∃ M, M = mayVr ⟨ed.log, ed.next, ed.seq, apT v ed⟩ := ⟨_, rfl⟩
              have HM3 := hidS hM3
              clear hM3
              have MAC : Hid (∀ (w2 w3 w7 : World) (v7 : Value) (w8 : World) (a8 : Option Addr) (c8 : Nat) (ys : List LnV), RowS lnE w2.heap.size w7 v7 (stayL v ed ++ ed.add) → v7.ownBlock ≠ some w3.heap.size → Below W.heap.size W w8 ∧ w8.heap[w3.heap.size]? = some (.cells #[.int .i64 ed.log, .int .i64 ed.next, .int .i64 ed.seq, .slice none 0 0] 26 (0, 0)) → w8.cell? ⟨w3.heap.size, 0, none⟩ = some (.int .i64 ed.log) ∧ w8.cell? ⟨w3.heap.size, 1, none⟩ = some (.int .i64 ed.next) ∧ w8.cell? ⟨w3.heap.size, 2, none⟩ = some (.int .i64 ed.seq) ∧ w8.cell? ⟨w3.heap.size, 3, none⟩ = some (.slice none 0 0) → Below W.heap.size W w2 → Below W.heap.size W w3 → RS lnE w8 a8 ys.length c8 ys → ys.Perm (stayL v ed ++ ed.add) → Wk ys → Value.slice a8 ys.length c8 = v7 →
                  Calls Try.prog 27 #[.agg #[.int .i64 ed.log, .int .i64 ed.next, .int .i64 ed.seq, .slice a8 ys.length c8]] (w8.setCell ⟨w3.heap.size, 3, none⟩ (.slice a8 ys.length c8)) fun e w10 => e = .returned (.bool M3) ∧ Below W.heap.size W w10 ∧
                    (w10.cell? ⟨w3.heap.size, 0, none⟩ = some (.int .i64 ed.log) ∧ w10.cell? ⟨w3.heap.size, 1, none⟩ = some (.int .i64 ed.next) ∧ w10.cell? ⟨w3.heap.size, 2, none⟩ = some (.int .i64 ed.seq) ∧ w10.cell? ⟨w3.heap.size, 3, none⟩ = some (.slice a8 ys.length c8)) ∧
                    VrM w10 ⟨ed.log, ed.next, ed.seq, ys⟩ a8 c8 ∧ (∀ b off, a8 = some ⟨b, off, none⟩ → b ≠ w.heap.size + 1 + 1) ∧ (M3 = true → ys = apT v ed)) := fun w2 w3 w7 v7 w8 a8 c8 ys r7 k7 k8 kc b2 b3 rs8 p8 wk8 ev8 => by
                have hap := ap_same HIF.out.1 p8 wk8
                have hP8 : w3.heap.size < w8.heap.size := (Array.getElem?_eq_some_iff.1 k8.2).1
                have hs3 := b3.size
                have hs2 := b2.size
                have hne3 : ∀ b off, a8 = some ⟨b, off, none⟩ → b ≠ w3.heap.size := fun b off e z => k7 (by rw [own_of ev8 e, z])
                have hne2 : ∀ b off, a8 = some ⟨b, off, none⟩ → b ≠ w.heap.size + 1 + 1 := fun b off e z => by
                  have := (r7.own_lt (own_of ev8 e)).1
                  have := HLT.out.1
                  have := HLT2.out
                  omega
                have rs9 := rs_other k8.2 no_u8 (w' := w8.setCell ⟨w3.heap.size, 3, none⟩ (.slice a8 ys.length c8)) (fun b hb hne => set_heap _ _ _ _ _ hb hne) rs8 hne3
                have hve := HVE.out.2
                have hvm : VrM (w8.setCell ⟨w3.heap.size, 3, none⟩ (.slice a8 ys.length c8)) ⟨ed.log, ed.next, ed.seq, ys⟩ a8 c8 := ⟨hve.log, hve.next, hve.seq, rs9⟩
                have hyl : ys.length ≤ 1000000 := by rw [p8.length_eq]; exact HOL.out
                have b9 : Below W.heap.size W (w8.setCell ⟨w3.heap.size, 3, none⟩ (.slice a8 ys.length c8)) := k8.1.grown (grown_set _ _ _ _) k8.1.size fun z hz => by simp at hz; omega
                have t9 := SET.out w8 w3.heap.size _ _ _ _ kc.1 kc.2.1 kc.2.2.1 kc.2.2.2 (.slice a8 ys.length c8)
                refine (may_t hvm (show ys.length ≤ 2 ^ 50 by omega)).mono ?_
                rintro e w10 ⟨rfl, b10⟩
                refine ⟨by rw [hap.1, HM3.out], HTR.out _ _ b9 b10, ⟨cell_later b10 t9.1, cell_later b10 t9.2.1, cell_later b10 t9.2.2.1, cell_later b10 t9.2.2.2⟩, hvm.later b10, hne2, fun z => hap.2 (by rw [hap.1, ← HM3.out]; exact z)⟩
              cases M3 with
              | false =>
                have HE : Hid (apE v ed = 1 ∧ apV v ed = noVr) := by
                  have e : apE v ed = 1 := by
                    unfold apE
                    rw [if_pos HIF.out, if_neg HC7.out, if_neg HC6.out, if_neg HC11.out, if_neg HC13.out, if_neg (by rw [← HM3.out]; simp)]
                  exact ⟨e, by unfold apV; rw [e]; rfl⟩
                rw [HE.out.1, HE.out.2]
                unfold vrV edV
                obtain ⟨x0, x1, x2, x3⟩ := F0.out _ HW0.out
                obtain ⟨y0, y1, y2, y3, y4⟩ := F1.out _ HW0.out
                obtain ⟨⟨z0, z1, z2, z3⟩, f0, f1, f2, f3⟩ := F2.out _ HW0.out
                have hc1 := M1.out _ HW0.out
                rw [HW.out] at x0 x1 x2 x3 y0 y1 y2 y3 y4 z0 z1 z2 z3 f0 f1 f2 f3 hc1
                go_enter Try.func14, Try.ntmps14
                go_wp2_with (first | (go_at_call 27; refine hc1.mono ?_; rintro e w1 ⟨rfl, b1⟩; rw [← HW.out] at b1; clear hc1; clear x0 x1 x2 x3 y0 y1 y2 y3 y4 z0 z1 z2 z3 f0 f1 f2 f3; obtain ⟨x0, x1, x2, x3⟩ := F0.out _ b1; obtain ⟨y0, y1, y2, y3, y4⟩ := F1.out _ b1; obtain ⟨⟨z0, z1, z2, z3⟩, f0, f1, f2, f3⟩ := F2.out _ b1) | (go_at_call 28; refine (M2.out _ b1).mono ?_; rintro e w2 ⟨rfl, b2⟩; clear x0 x1 x2 x3 y0 y1 y2 y3 y4 z0 z1 z2 z3 f0 f1 f2 f3; obtain ⟨x0, x1, x2, x3⟩ := F0.out _ b2; obtain ⟨y0, y1, y2, y3, y4⟩ := F1.out _ b2; obtain ⟨⟨z0, z1, z2, z3⟩, f0, f1, f2, f3⟩ := F2.out _ b2) | (go_at_call 11; refine (CH.out _ b2).mono ?_; rintro e w3 ⟨a3, c3, rfl, r3, b3, b23⟩; clear x0 x1 x2 x3 y0 y1 y2 y3 y4 z0 z1 z2 z3 f0 f1 f2 f3; obtain ⟨x0, x1, x2, x3⟩ := F0.out _ b3; obtain ⟨y0, y1, y2, y3, y4⟩ := F1.out _ b3; obtain ⟨⟨z0, z1, z2, z3⟩, f0, f1, f2, f3⟩ := F2.out _ b3; have b4 := b3.alloc b3.size (.cells #[.int .i64 ed.log, .int .i64 ed.next, .int .i64 ed.seq, .slice none 0 0] 26); obtain ⟨xx0, xx1, xx2, xx3⟩ := F0.out _ b4; obtain ⟨yy0, yy1, yy2, yy3, yy4⟩ := F1.out _ b4; obtain ⟨⟨zz0, zz1, zz2, zz3⟩, ff0, ff1, ff2, ff3⟩ := F2.out _ b4) | (go_at_call 31; refine (SHC.out _ _ _ _ r3 b3 (.cells #[.int .i64 ed.log, .int .i64 ed.next, .int .i64 ed.seq, .slice none 0 0] 26)).mono ?_; rintro e w5 ⟨rfl, b45⟩; have b5 := HTR.out _ _ b4 b45; clear x0 x1 x2 x3 y0 y1 y2 y3 y4 z0 z1 z2 z3 f0 f1 f2 f3; clear xx0 xx1 xx2 xx3 yy0 yy1 yy2 yy3 yy4 zz0 zz1 zz2 zz3 ff0 ff1 ff2 ff3; obtain ⟨x0, x1, x2, x3⟩ := F0.out _ b5; obtain ⟨y0, y1, y2, y3, y4⟩ := F1.out _ b5; obtain ⟨⟨z0, z1, z2, z3⟩, f0, f1, f2, f3⟩ := F2.out _ b5; obtain ⟨q0, q1, q2, q3⟩ := box4 w3 _ _ _ _ _ b45) | (go_at_call 32; refine (FAC.out w5).mono ?_; rintro e w6 ⟨rfl, b56⟩; have b6 := HTR.out _ _ b5 b56; have b46 := b45.trans (b56.mono b45.size); clear x0 x1 x2 x3 y0 y1 y2 y3 y4 z0 z1 z2 z3 f0 f1 f2 f3; clear q0 q1 q2 q3; obtain ⟨x0, x1, x2, x3⟩ := F0.out _ b6; obtain ⟨y0, y1, y2, y3, y4⟩ := F1.out _ b6; obtain ⟨⟨z0, z1, z2, z3⟩, f0, f1, f2, f3⟩ := F2.out _ b6; obtain ⟨q0, q1, q2, q3⟩ := box4 w3 _ _ _ _ _ b46) | (at_builtin; refine wpList_appS lnE (t := 24) (z := .agg #[.int .i64 0, .int .i64 0, .int .i64 0, .slice none 0 0, .slice none 0 0]) (bytes := 72) Try.underlying24 lnE_info rfl (by decide) rfl (.tmp 60) (.tmp 62) rfl rfl (APC.out _ _ _ _ _ r3 b3 b23 b2 b46).1 rfl (APC.out _ _ _ _ _ r3 b3 b23 b2 b46).2.1 (APC.out _ _ _ _ _ r3 b3 b23 b2 b46).2.2.1 (by have := HLL.out; omega) (by have := HLL.out; omega) (APC.out _ _ _ _ _ r3 b3 b23 b2 b46).2.2.2.1 ?_; intro v7 w7 r7 g7 m7; have k7 := hidS ((APC.out _ _ _ _ _ r3 b3 b23 b2 b46).2.2.2.2 v7 w7 r7 g7 m7); clear x0 x1 x2 x3 y0 y1 y2 y3 y4 z0 z1 z2 z3 f0 f1 f2 f3; clear q0 q1 q2 q3) | (go_at_call 10; refine (ordered_any r7 k7.out.2.2.2 HOL.out HSM.out).mono ?_; rintro e w8 ⟨a8, c8, ys, rfl, b78, rs8, p8, e8, g8, ev8⟩; have k8 := hidS (ORC.out _ _ _ _ _ k7.out b2 b78 g8); have EV := hidS ev8; clear ev8; obtain ⟨q0, q1, q2, q3, g3⟩ := k8.out.2.2; obtain ⟨x0, x1, x2, x3⟩ := F0.out _ k8.out.1; obtain ⟨y0, y1, y2, y3, y4⟩ := F1.out _ k8.out.1; obtain ⟨⟨z0, z1, z2, z3⟩, f0, f1, f2, f3⟩ := F2.out _ k8.out.1; obtain ⟨t0, t1, t2, t3⟩ := SET.out w8 w3.heap.size _ _ _ _ q0 q1 q2 q3 (.slice a8 ys.length c8)) | (go_at_call 27; refine (MAC.out _ _ _ _ _ _ _ _ r7 k7.out.2.2.1 ⟨k8.out.1, k8.out.2.1⟩ ⟨q0, q1, q2, q3⟩ b2 b3 rs8 p8 e8 EV.out).mono ?_; rintro e w10 ⟨rfl, b10, ht, hvr, hne, heq⟩; have HEQ := hidS heq; clear heq; clear x0 x1 x2 x3 y0 y1 y2 y3 y4 z0 z1 z2 z3 f0 f1 f2 f3; clear t0 t1 t2 t3 q0 q1 q2 q3 g3; obtain ⟨x0, x1, x2, x3⟩ := F0.out _ b10; obtain ⟨y0, y1, y2, y3, y4⟩ := F1.out _ b10; obtain ⟨⟨z0, z1, z2, z3⟩, f0, f1, f2, f3⟩ := F2.out _ b10; obtain ⟨t0, t1, t2, t3⟩ := ht))
                have S4 := set4_cells z0 z1 z2 z3 (.int .i64 0) (.int .i64 0) (.int .i64 0) (.slice none 0 0)
                exact bodyPost_ret (v := .tuple #[.agg #[.int .i64 0, .int .i64 0, .int .i64 0, .slice none 0 0], .int .i64 1]) (by simp [results, Try.results14, go_sem, S4.1, S4.2.1, S4.2.2.1, S4.2.2.2]) rfl ⟨none, 0, rfl, HNO.out _, HEND.out _ b10 _ _ _ _⟩
              | true =>
                have HE : Hid (apE v ed = 0 ∧ apV v ed = ⟨ed.log, ed.next, ed.seq, apT v ed⟩) := by
                  have e : apE v ed = 0 := by
                    unfold apE
                    rw [if_pos HIF.out, if_neg HC7.out, if_neg HC6.out, if_neg HC11.out, if_neg HC13.out, if_pos HM3.out.symm]
                  exact ⟨e, by unfold apV; rw [e]; rfl⟩
                rw [HE.out.1, HE.out.2]
                unfold vrV edV
                obtain ⟨x0, x1, x2, x3⟩ := F0.out _ HW0.out
                obtain ⟨y0, y1, y2, y3, y4⟩ := F1.out _ HW0.out
                obtain ⟨⟨z0, z1, z2, z3⟩, f0, f1, f2, f3⟩ := F2.out _ HW0.out
                have hc1 := M1.out _ HW0.out
                rw [HW.out] at x0 x1 x2 x3 y0 y1 y2 y3 y4 z0 z1 z2 z3 f0 f1 f2 f3 hc1
                go_enter Try.func14, Try.ntmps14
                go_wp2_with (first | (go_at_call 27; refine hc1.mono ?_; rintro e w1 ⟨rfl, b1⟩; rw [← HW.out] at b1; clear hc1; clear x0 x1 x2 x3 y0 y1 y2 y3 y4 z0 z1 z2 z3 f0 f1 f2 f3; obtain ⟨x0, x1, x2, x3⟩ := F0.out _ b1; obtain ⟨y0, y1, y2, y3, y4⟩ := F1.out _ b1; obtain ⟨⟨z0, z1, z2, z3⟩, f0, f1, f2, f3⟩ := F2.out _ b1) | (go_at_call 28; refine (M2.out _ b1).mono ?_; rintro e w2 ⟨rfl, b2⟩; clear x0 x1 x2 x3 y0 y1 y2 y3 y4 z0 z1 z2 z3 f0 f1 f2 f3; obtain ⟨x0, x1, x2, x3⟩ := F0.out _ b2; obtain ⟨y0, y1, y2, y3, y4⟩ := F1.out _ b2; obtain ⟨⟨z0, z1, z2, z3⟩, f0, f1, f2, f3⟩ := F2.out _ b2) | (go_at_call 11; refine (CH.out _ b2).mono ?_; rintro e w3 ⟨a3, c3, rfl, r3, b3, b23⟩; clear x0 x1 x2 x3 y0 y1 y2 y3 y4 z0 z1 z2 z3 f0 f1 f2 f3; obtain ⟨x0, x1, x2, x3⟩ := F0.out _ b3; obtain ⟨y0, y1, y2, y3, y4⟩ := F1.out _ b3; obtain ⟨⟨z0, z1, z2, z3⟩, f0, f1, f2, f3⟩ := F2.out _ b3; have b4 := b3.alloc b3.size (.cells #[.int .i64 ed.log, .int .i64 ed.next, .int .i64 ed.seq, .slice none 0 0] 26); obtain ⟨xx0, xx1, xx2, xx3⟩ := F0.out _ b4; obtain ⟨yy0, yy1, yy2, yy3, yy4⟩ := F1.out _ b4; obtain ⟨⟨zz0, zz1, zz2, zz3⟩, ff0, ff1, ff2, ff3⟩ := F2.out _ b4) | (go_at_call 31; refine (SHC.out _ _ _ _ r3 b3 (.cells #[.int .i64 ed.log, .int .i64 ed.next, .int .i64 ed.seq, .slice none 0 0] 26)).mono ?_; rintro e w5 ⟨rfl, b45⟩; have b5 := HTR.out _ _ b4 b45; clear x0 x1 x2 x3 y0 y1 y2 y3 y4 z0 z1 z2 z3 f0 f1 f2 f3; clear xx0 xx1 xx2 xx3 yy0 yy1 yy2 yy3 yy4 zz0 zz1 zz2 zz3 ff0 ff1 ff2 ff3; obtain ⟨x0, x1, x2, x3⟩ := F0.out _ b5; obtain ⟨y0, y1, y2, y3, y4⟩ := F1.out _ b5; obtain ⟨⟨z0, z1, z2, z3⟩, f0, f1, f2, f3⟩ := F2.out _ b5; obtain ⟨q0, q1, q2, q3⟩ := box4 w3 _ _ _ _ _ b45) | (go_at_call 32; refine (FAC.out w5).mono ?_; rintro e w6 ⟨rfl, b56⟩; have b6 := HTR.out _ _ b5 b56; have b46 := b45.trans (b56.mono b45.size); clear x0 x1 x2 x3 y0 y1 y2 y3 y4 z0 z1 z2 z3 f0 f1 f2 f3; clear q0 q1 q2 q3; obtain ⟨x0, x1, x2, x3⟩ := F0.out _ b6; obtain ⟨y0, y1, y2, y3, y4⟩ := F1.out _ b6; obtain ⟨⟨z0, z1, z2, z3⟩, f0, f1, f2, f3⟩ := F2.out _ b6; obtain ⟨q0, q1, q2, q3⟩ := box4 w3 _ _ _ _ _ b46) | (at_builtin; refine wpList_appS lnE (t := 24) (z := .agg #[.int .i64 0, .int .i64 0, .int .i64 0, .slice none 0 0, .slice none 0 0]) (bytes := 72) Try.underlying24 lnE_info rfl (by decide) rfl (.tmp 60) (.tmp 62) rfl rfl (APC.out _ _ _ _ _ r3 b3 b23 b2 b46).1 rfl (APC.out _ _ _ _ _ r3 b3 b23 b2 b46).2.1 (APC.out _ _ _ _ _ r3 b3 b23 b2 b46).2.2.1 (by have := HLL.out; omega) (by have := HLL.out; omega) (APC.out _ _ _ _ _ r3 b3 b23 b2 b46).2.2.2.1 ?_; intro v7 w7 r7 g7 m7; have k7 := hidS ((APC.out _ _ _ _ _ r3 b3 b23 b2 b46).2.2.2.2 v7 w7 r7 g7 m7); clear x0 x1 x2 x3 y0 y1 y2 y3 y4 z0 z1 z2 z3 f0 f1 f2 f3; clear q0 q1 q2 q3) | (go_at_call 10; refine (ordered_any r7 k7.out.2.2.2 HOL.out HSM.out).mono ?_; rintro e w8 ⟨a8, c8, ys, rfl, b78, rs8, p8, e8, g8, ev8⟩; have k8 := hidS (ORC.out _ _ _ _ _ k7.out b2 b78 g8); have EV := hidS ev8; clear ev8; obtain ⟨q0, q1, q2, q3, g3⟩ := k8.out.2.2; obtain ⟨x0, x1, x2, x3⟩ := F0.out _ k8.out.1; obtain ⟨y0, y1, y2, y3, y4⟩ := F1.out _ k8.out.1; obtain ⟨⟨z0, z1, z2, z3⟩, f0, f1, f2, f3⟩ := F2.out _ k8.out.1; obtain ⟨t0, t1, t2, t3⟩ := SET.out w8 w3.heap.size _ _ _ _ q0 q1 q2 q3 (.slice a8 ys.length c8)) | (go_at_call 27; refine (MAC.out _ _ _ _ _ _ _ _ r7 k7.out.2.2.1 ⟨k8.out.1, k8.out.2.1⟩ ⟨q0, q1, q2, q3⟩ b2 b3 rs8 p8 e8 EV.out).mono ?_; rintro e w10 ⟨rfl, b10, ht, hvr, hne, heq⟩; have HEQ := hidS heq; clear heq; clear x0 x1 x2 x3 y0 y1 y2 y3 y4 z0 z1 z2 z3 f0 f1 f2 f3; clear t0 t1 t2 t3 q0 q1 q2 q3 g3; obtain ⟨x0, x1, x2, x3⟩ := F0.out _ b10; obtain ⟨y0, y1, y2, y3, y4⟩ := F1.out _ b10; obtain ⟨⟨z0, z1, z2, z3⟩, f0, f1, f2, f3⟩ := F2.out _ b10; obtain ⟨t0, t1, t2, t3⟩ := ht))
                have hy := HEQ.out trivial
                have S4 := set4_cells z0 z1 z2 z3 (.int .i64 ed.log) (.int .i64 ed.next) (.int .i64 ed.seq) (.slice a8 ys.length c8)
                refine bodyPost_ret (v := .tuple #[.agg #[.int .i64 ed.log, .int .i64 ed.next, .int .i64 ed.seq, .slice a8 ys.length c8], .int .i64 0]) (by simp [results, Try.results14, go_sem, S4.1, S4.2.1, S4.2.2.1, S4.2.2.2]) rfl ?_
                have hF2 := F2H.out _ b10
                have hend := HEND.out _ b10 (.int .i64 ed.log) (.int .i64 ed.next) (.int .i64 ed.seq) (.slice a8 ys.length c8)
                have hrs : RS lnE ((((w10.setCell ⟨w.heap.size + 1 + 1, 0, none⟩ (.int .i64 ed.log)).setCell ⟨w.heap.size + 1 + 1, 1, none⟩ (.int .i64 ed.next)).setCell ⟨w.heap.size + 1 + 1, 2, none⟩ (.int .i64 ed.seq)).setCell ⟨w.heap.size + 1 + 1, 3, none⟩ (.slice a8 ys.length c8)) a8 ys.length c8 ys := rs_other hF2 no_u8 (fun b hb hne => set4_heap _ _ _ _ _ _ _ hb hne) hvr.tabs hne
                subst hy
                exact ⟨a8, c8, rfl, ⟨hvr.log, hvr.next, hvr.seq, hrs⟩, hend⟩
    · obtain rfl : m2 = false := by simpa using hm'
      clear hm'
      have HE : Hid (apE v ed = 1 ∧ apV v ed = noVr) := by
        have e : apE v ed = 1 := by
          unfold apE
          rw [← HM.out.2, if_neg (by simp)]
        exact ⟨e, by unfold apV; rw [e]; rfl⟩
      rw [HE.out.1, HE.out.2]
      unfold vrV edV
      obtain ⟨x0, x1, x2, x3⟩ := F0.out _ HW0.out
      obtain ⟨y0, y1, y2, y3, y4⟩ := F1.out _ HW0.out
      obtain ⟨⟨z0, z1, z2, z3⟩, f0, f1, f2, f3⟩ := F2.out _ HW0.out
      have hc1 := M1.out _ HW0.out
      rw [HW.out] at x0 x1 x2 x3 y0 y1 y2 y3 y4 z0 z1 z2 z3 f0 f1 f2 f3 hc1
      go_enter Try.func14, Try.ntmps14
      go_wp2_with (first | (go_at_call 27; refine hc1.mono ?_; rintro e w1 ⟨rfl, b1⟩; rw [← HW.out] at b1; clear hc1; clear x0 x1 x2 x3 y0 y1 y2 y3 y4 z0 z1 z2 z3 f0 f1 f2 f3; obtain ⟨x0, x1, x2, x3⟩ := F0.out _ b1; obtain ⟨y0, y1, y2, y3, y4⟩ := F1.out _ b1; obtain ⟨⟨z0, z1, z2, z3⟩, f0, f1, f2, f3⟩ := F2.out _ b1) | (go_at_call 28; refine (M2.out _ b1).mono ?_; rintro e w2 ⟨rfl, b2⟩; clear x0 x1 x2 x3 y0 y1 y2 y3 y4 z0 z1 z2 z3 f0 f1 f2 f3; obtain ⟨x0, x1, x2, x3⟩ := F0.out _ b2; obtain ⟨y0, y1, y2, y3, y4⟩ := F1.out _ b2; obtain ⟨⟨z0, z1, z2, z3⟩, f0, f1, f2, f3⟩ := F2.out _ b2))
      have S4 := set4_cells z0 z1 z2 z3 (.int .i64 0) (.int .i64 0) (.int .i64 0) (.slice none 0 0)
      exact bodyPost_ret (v := .tuple #[.agg #[.int .i64 0, .int .i64 0, .int .i64 0, .slice none 0 0], .int .i64 1]) (by simp [results, Try.results14, go_sem, S4.1, S4.2.1, S4.2.2.1, S4.2.2.2]) rfl ⟨none, 0, rfl, HNO.out _, HEND.out _ b2 _ _ _ _⟩
  · obtain rfl : m1 = false := by simpa using hm
    have HE : Hid (apE v ed = 1 ∧ apV v ed = noVr) := by
      have e : apE v ed = 1 := by unfold apE; rw [← HM.out.1, if_neg (by simp)]
      exact ⟨e, by unfold apV; rw [e]; rfl⟩
    rw [HE.out.1, HE.out.2]
    unfold vrV edV
    obtain ⟨x0, x1, x2, x3⟩ := F0.out _ HW0.out
    obtain ⟨y0, y1, y2, y3, y4⟩ := F1.out _ HW0.out
    obtain ⟨⟨z0, z1, z2, z3⟩, f0, f1, f2, f3⟩ := F2.out _ HW0.out
    have hc1 := M1.out _ HW0.out
    rw [HW.out] at x0 x1 x2 x3 y0 y1 y2 y3 y4 z0 z1 z2 z3 f0 f1 f2 f3 hc1
    clear hm
    go_enter Try.func14, Try.ntmps14
    go_wp2_with (go_at_call 27; refine hc1.mono ?_; rintro e w1 ⟨rfl, b1⟩; rw [← HW.out] at b1; clear z0 z1 z2 z3 f0 f1 f2 f3; obtain ⟨⟨z0, z1, z2, z3⟩, f0, f1, f2, f3⟩ := F2.out _ b1)
    have S4 := set4_cells z0 z1 z2 z3 (.int .i64 0) (.int .i64 0) (.int .i64 0) (.slice none 0 0)
    exact bodyPost_ret (v := .tuple #[.agg #[.int .i64 0, .int .i64 0, .int .i64 0, .slice none 0 0], .int .i64 1]) (by simp [results, Try.results14, go_sem, S4.1, S4.2.1, S4.2.2.1, S4.2.2.2]) rfl ⟨none, 0, rfl, HNO.out _, HEND.out _ b1 _ _ _ _⟩
end Go.Proofs.Ytjgfklbhagcbaab

/- A version in a box of its own. -/
namespace Go.Proofs.Ytjgfklbhagcbaab
open Go.RowKit
set_option linter.unusedVariables false
set_option linter.unusedSimpArgs false

/-- The world behind a store of four cells. -/
def s4 (w : World) (P : Nat) (v0 v1 v2 v3 : Value) : World := (((w.setCell ⟨P, 0, none⟩ v0).setCell ⟨P, 1, none⟩ v1).setCell ⟨P, 2, none⟩ v2).setCell ⟨P, 3, none⟩ v3
theorem s4_size (w : World) (P : Nat) (v0 v1 v2 v3 : Value) : (s4 w P v0 v1 v2 v3).heap.size = w.heap.size := by simp [s4, World.setCell]
theorem s4_heap (w : World) {P b : Nat} (v0 v1 v2 v3 : Value) (h : b ≠ P) : (s4 w P v0 v1 v2 v3).heap[b]? = w.heap[b]? := by
  unfold s4
  rw [Below.heap_setCell _ ⟨P, 3, none⟩ _ _ h, Below.heap_setCell _ ⟨P, 2, none⟩ _ _ h, Below.heap_setCell _ ⟨P, 1, none⟩ _ _ h, Below.heap_setCell _ ⟨P, 0, none⟩ _ _ h]
theorem s4_blk {w : World} {P : Nat} {c0 c1 c2 c3 : Value} {t : TypeId} (h : w.heap[P]? = some (.cells #[c0, c1, c2, c3] t (0, 0))) (v0 v1 v2 v3 : Value) : (s4 w P v0 v1 v2 v3).heap[P]? = some (.cells #[v0, v1, v2, v3] t (0, 0)) := by
  unfold s4
  rw [heap_set (heap_set (heap_set (heap_set h 0 v0) 1 v1) 2 v2) 3 v3]; rfl
/-- A version's rows stay where another version's box alone is changed. -/
theorem vr_other {w w' : World} {R : VrV} {a : Option Addr} {c P : Nat} {x0 x1 x2 : Int} {a2 : Option Addr} {n2 c2 : Nat} {t : TypeId} (h : VrM w R a c) (hk : w.heap[P]? = some (.cells #[.int .i64 x0, .int .i64 x1, .int .i64 x2, .slice a2 n2 c2] t (0, 0))) (hh : ∀ b, b ≠ P → w'.heap[b]? = w.heap[b]?) : VrM w' R a c := by
  obtain ⟨h1, h2, h3, h4⟩ := h
  refine ⟨h1, h2, h3, ?_⟩
  generalize R.tabs = l at h4 ⊢
  cases l with
  | nil =>
    obtain ⟨us, q1, q2, q3, q4, q5, q6⟩ := h4
    obtain rfl : us = [] := q5
    exact ⟨[], q1, q2, q3, q4, rfl, fun j u hu => by simp at hu⟩
  | cons x l =>
    refine rs_other hk no_u8 (fun b _ hne => hh b hne) h4 fun b off e z => ?_
    obtain ⟨b', off', la, lc, ma, mc, e', -, -, -, -, r4, -⟩ := RS.ln h4 (i := 0) (o := x) rfl
    rw [e] at e'
    simp only [Option.some.injEq, Addr.mk.injEq, and_true] at e'
    obtain ⟨rfl, rfl⟩ := e'
    subst z
    rw [cell_of hk] at r4
    have hs : (#[Value.int .i64 x0, .int .i64 x1, .int .i64 x2, .slice a2 n2 c2] : Array Value)[off + 0 * 5 + 4]? = none := by
      rw [Array.getElem?_eq_none]
      simp
    rw [hs] at r4
    cases r4
def BoxV (P : Nat) (R : VrV) (a : Option Addr) (c : Nat) (wx : World) : Prop := wx.heap[P]? = some (.cells #[.int .i64 R.log, .int .i64 R.next, .int .i64 R.seq, .slice a R.tabs.length c] 26 (0, 0)) ∧ VrM wx R a c
theorem BoxV.lt {P : Nat} {R : VrV} {a : Option Addr} {c : Nat} {wx : World} (h : BoxV P R a c wx) : P < wx.heap.size := (Array.getElem?_eq_some_iff.1 h.1).1
theorem BoxV.later {P : Nat} {R : VrV} {a : Option Addr} {c : Nat} {wx wy : World} (h : BoxV P R a c wx) (hb : Below wx.heap.size wx wy) : BoxV P R a c wy := ⟨(hb.block P h.lt).trans h.1, h.2.later hb⟩
theorem BoxV.cells {P : Nat} {R : VrV} {a : Option Addr} {c : Nat} {wx : World} (h : BoxV P R a c wx) :
    (wx.cell? ⟨P, 0, none⟩ = some (.int .i64 R.log) ∧ wx.cell? ⟨P, 1, none⟩ = some (.int .i64 R.next) ∧ wx.cell? ⟨P, 2, none⟩ = some (.int .i64 R.seq) ∧ wx.cell? ⟨P, 3, none⟩ = some (.slice a R.tabs.length c)) ∧ wx.frozen? ⟨P, 0, none⟩ = false ∧ wx.frozen? ⟨P, 1, none⟩ = false ∧ wx.frozen? ⟨P, 2, none⟩ = false ∧ wx.frozen? ⟨P, 3, none⟩ = false := by
  have q := fun i z hz => blk_cells (wx := wx) h.1 h.lt (Below.refl _ _) i z hz
  exact ⟨⟨(q 0 _ rfl).1, (q 1 _ rfl).1, (q 2 _ rfl).1, (q 3 _ rfl).1⟩, (q 0 _ rfl).2, (q 1 _ rfl).2, (q 2 _ rfl).2, (q 3 _ rfl).2⟩
theorem BoxV.set {P : Nat} {R R' : VrV} {a a' : Option Addr} {c c' : Nat} {wx : World} (h : BoxV P R a c wx) (hm : VrM wx R' a' c') : BoxV P R' a' c' (s4 wx P (.int .i64 R'.log) (.int .i64 R'.next) (.int .i64 R'.seq) (.slice a' R'.tabs.length c')) :=
  ⟨s4_blk h.1 _ _ _ _, vr_other hm h.1 fun b hb => s4_heap _ _ _ _ _ hb⟩
theorem BoxV.other {P P2 : Nat} {R R2 : VrV} {a a2 : Option Addr} {c c2 : Nat} {wx : World} (h : BoxV P R a c wx) (h2 : BoxV P2 R2 a2 c2 wx) (hne : P ≠ P2) (v0 v1 v2 v3 : Value) : BoxV P R a c (s4 wx P2 v0 v1 v2 v3) :=
  ⟨(s4_heap _ _ _ _ _ hne).trans h.1, vr_other h.2 h2.1 fun b hb => s4_heap _ _ _ _ _ hb⟩
theorem vr_s4 {P2 : Nat} {R R2 : VrV} {a a2 : Option Addr} {c c2 : Nat} {wx : World} (h : VrM wx R a c) (h2 : BoxV P2 R2 a2 c2 wx) (v0 v1 v2 v3 : Value) : VrM (s4 wx P2 v0 v1 v2 v3) R a c := vr_other h h2.1 fun b hb => s4_heap _ _ _ _ _ hb
theorem s4_below {B P : Nat} {a w : World} (h : Below B a w) (hP : B ≤ P) (hs : B ≤ a.heap.size) (v0 v1 v2 v3 : Value) : Below B a (s4 w P v0 v1 v2 v3) := below_set4 h hP hs v0 v1 v2 v3
theorem box_new (w : World) {R : VrV} {a : Option Addr} {c : Nat} (h : VrM w R a c) : BoxV w.heap.size R a c (w.alloc (.cells #[.int .i64 R.log, .int .i64 R.next, .int .i64 R.seq, .slice a R.tabs.length c] 26)) := ⟨heap_alloc_new w _, h.later ((Below.refl _ _).alloc (Nat.le_refl _) _)⟩
theorem noVr_m (w : World) : VrM w noVr none 0 := ⟨by unfold In64 noVr; simp, by unfold In64 noVr; simp, by unfold In64 noVr; simp, RS.nil _⟩
/-- The version that edits make, each as far as it is taken. -/
def stepV (v : VrV) (e : EdV) : VrV := if apE v e = 0 then apV v e else v
theorem stepV_may {v : VrV} (h : mayVr v = true) (e : EdV) : mayVr (stepV v e) = true := by
  unfold stepV
  by_cases q : apE v e = 0
  · rw [if_pos q]
    unfold apV
    rw [if_pos q]
    unfold apE at q
    split at q
    · split at q
      · omega
      · split at q
        · omega
        · split at q
          · omega
          · split at q
            · omega
            · split at q
              · assumption
              · omega
    · omega
  · rw [if_neg q]; exact h
end Go.Proofs.Ytjgfklbhagcbaab
