import Derived.Test.YtimpaindbbjieaaPk08
import Derived.Test.YtimpaindbbjieaaPk34
/- The landed block: an entry, taken from bytes. -/
namespace Go.Proofs.Ytimpaindbbjieaa
open Go.RowKit
set_option linter.unusedVariables false
set_option linter.unusedSimpArgs false

/-- As Q; by a goto: J of its label. -/
def jumpsE (J : Nat → Act → World → Prop) (Q : Exit → Act → World → Prop) : Exit → Act → World → Prop
  | .goto l, a, w => J l a w
  | e, a, w => Q e a w
/-- A scope out of which the run jumps forward, to labels of its own. -/
theorem wp_scope_fwd {P : Program} {a : Act} {w : World} {Q : Exit → Act → World → Prop} {c : Code} (J : Nat → Act → World → Prop) (first : c.wp P (jumpsE J Q) a w)
    (pass : ∀ l a w, J l a w → ∃ r, findLabel c l = some r ∧ r.wp P (Exit.noGoto Q) a w) : (Code.scope c).wp P Q a w := by
  intro b k cs
  obtain ⟨e, a₁, w₁, hq, harr⟩ := first b (.inScope c :: k) cs
  cases e with
  | normal => exact ⟨.normal, a₁, w₁, hq, .head step_scope (Steps.trans harr (.one step_inScope))⟩
  | exit id => exact ⟨.exit id, a₁, w₁, hq, fun k' hk => .head step_scope (harr k' (by simp [exitTo, hk]))⟩
  | goto l' =>
    obtain ⟨r, hf, hr⟩ := pass l' a₁ w₁ hq
    have hg : gotoIn l' (.inScope c :: k) = some (.code r :: .inScope c :: k) := by simp [gotoIn, hf]
    have key : ∃ e a' w', Q e a' w' ∧ Arrives P (lone (b.at a₁ (.code r :: .inScope c :: k)) cs w₁) b k cs e a' w' := by
      obtain ⟨e₂, a₂, w₂, hq₂, harr₂⟩ := hr b (.inScope c :: k) cs
      cases e₂ with
      | normal => exact ⟨.normal, a₂, w₂, hq₂, Steps.trans harr₂ (.one step_inScope)⟩
      | exit id => exact ⟨.exit id, a₂, w₂, hq₂, fun k' hk => harr₂ k' (by simp [exitTo, hk])⟩
      | goto l => exact hq₂.elim
      | ret => exact ⟨_, a₂, w₂, hq₂, harr₂⟩
      | panic ch => exact ⟨_, a₂, w₂, hq₂, harr₂⟩
      | outgrown => exact ⟨_, a₂, w₂, hq₂, harr₂⟩
    obtain ⟨e₂, a₂, w₂, hq₂, harr₂⟩ := key
    exact ⟨e₂, a₂, w₂, hq₂, .of_steps (.head step_scope (harr _ hg)) harr₂⟩
  | ret => exact ⟨_, a₁, w₁, hq, .of_steps (.one step_scope) harr⟩
  | panic ch => exact ⟨_, a₁, w₁, hq, .of_steps (.one step_scope) harr⟩
  | outgrown => exact ⟨_, a₁, w₁, hq, .of_steps (.one step_scope) harr⟩

section
variable {key l l1 l2 l3 l4 : List Int} {n1 n3 e1 e2 e3 e4 : Nat} {g : Bool} {v : List Int}
theorem deV_1 (h : nmL l = (n1, (l1, e1))) (he : e1 ≠ 0) : (deV key (l, 0)).2.2 = e1 := by
  have h' : rdN 4611686018427387904 (l, 0) = (n1, (l1, e1)) := h
  unfold deV
  rw [h']
  simp only
  have r1 : rdF (l1, e1) = (false, (l1, e1)) := by unfold rdF; rw [if_pos he]
  rw [r1]
  simp only [Bool.false_eq_true, if_false]
  rw [rdN_err (s := (l1, e1)) he]
  simp only
  unfold rdB
  rw [if_pos he]
theorem rdF_false {d : List Int} (h2 : rdF (d, 0) = (g, (l2, e2))) (he : e2 ≠ 0) : g = false := by
  unfold rdF at h2
  simp only [ne_eq, not_true_eq_false, if_false] at h2
  split at h2
  · simp only [Prod.mk.injEq] at h2; exact h2.1.symm
  · rename_i c r
    simp only [Prod.mk.injEq] at h2
    obtain ⟨a, b, c'⟩ := h2
    by_cases q : 1 < c
    · rw [← a]; simp; omega
    · rw [if_neg q] at c'; exact absurd c'.symm he
theorem deV_2 (h : nmL l = (n1, (l1, 0))) (h2 : rdF (l1, 0) = (g, (l2, e2))) (he : e2 ≠ 0) : (deV key (l, 0)).2.2 = e2 := by
  have h' : rdN 4611686018427387904 (l, 0) = (n1, (l1, 0)) := h
  obtain rfl := rdF_false h2 he
  unfold deV
  rw [h']
  simp only
  rw [h2]
  simp only [Bool.false_eq_true, if_false]
  rw [rdN_err (s := (l2, e2)) he]
  simp only
  unfold rdB
  rw [if_pos he]
theorem deV_g (h : nmL l = (n1, (l1, 0))) (h2 : rdF (l1, 0) = (true, (l2, 0))) : deV key (l, 0) = (⟨key, (n1 : Int), true, 0, []⟩, (l2, 0)) := by
  have h' : rdN 4611686018427387904 (l, 0) = (n1, (l1, 0)) := h
  unfold deV
  rw [h']
  simp only
  rw [h2]
  simp
theorem deV_3 (h : nmL l = (n1, (l1, 0))) (h2 : rdF (l1, 0) = (false, (l2, 0))) (h3 : nmL l2 = (n3, (l3, e3))) (he : e3 ≠ 0) : (deV key (l, 0)).2.2 = e3 := by
  have h' : rdN 4611686018427387904 (l, 0) = (n1, (l1, 0)) := h
  have h3' : rdN 4611686018427387904 (l2, 0) = (n3, (l3, e3)) := h3
  unfold deV
  rw [h']
  simp only
  rw [h2]
  simp only [Bool.false_eq_true, if_false]
  rw [h3']
  simp only
  unfold rdB
  rw [if_pos he]
theorem deV_4 (h : nmL l = (n1, (l1, 0))) (h2 : rdF (l1, 0) = (false, (l2, 0))) (h3 : nmL l2 = (n3, (l3, 0))) (h4 : rdB 2048 (l3, 0) = (v, (l4, e4))) : deV key (l, 0) = (⟨key, (n1 : Int), false, (n3 : Int), v⟩, (l4, e4)) := by
  have h' : rdN 4611686018427387904 (l, 0) = (n1, (l1, 0)) := h
  have h3' : rdN 4611686018427387904 (l2, 0) = (n3, (l3, 0)) := h3
  unfold deV
  rw [h']
  simp only
  rw [h2]
  simp only [Bool.false_eq_true, if_false]
  rw [h3']
  simp only
  rw [h4]
end
theorem tE_k {key d : List Int} (h : (kE key d).1 ≠ 0) : tE key d = ((kE key d).1, noE, []) := by unfold tE; rw [if_pos h]
theorem tE_e {key d kk l : List Int} {e : Nat} (h0 : kE key d = (0, kk, l)) (he : (deV kk (l, 0)).2.2 = e) (hne : e ≠ 0) : tE key d = (e, noE, []) := by
  unfold tE
  rw [h0]
  simp only [ne_eq, not_true_eq_false, if_false]
  rw [he, if_pos hne]
theorem tE_o {key d kk l r : List Int} {x : EntV} (h0 : kE key d = (0, kk, l)) (he : deV kk (l, 0) = (x, (r, 0))) : tE key d = (0, x, r) := by
  unfold tE
  rw [h0]
  simp only [ne_eq, not_true_eq_false, if_false]
  rw [he]
  simp
theorem kE_okb {key d : List Int} (hk : Okb key) (hd : Okb d) : Okb (kE key d).2.1 := by
  have h1 : ∀ d, Okb d → Okb (nmL d).2.1 := fun d hd => by
    rw [nmL_def]
    split
    · exact hd
    · split
      · exact hd
      · exact fun x hx => hd x (List.mem_of_mem_drop hx)
  unfold kE
  split
  · exact fun x hx => by cases hx
  split
  · exact fun x hx => by cases hx
  split
  · exact fun x hx => by cases hx
  split
  · exact fun x hx => by cases hx
  split
  · exact fun x hx => by cases hx
  · exact Okb.app (fun x hx => hk x (List.mem_of_mem_take hx)) (fun x hx => h1 _ (h1 _ hd) x (List.mem_of_mem_take hx))

theorem kE_left (key d : List Int) : (kE key d).2.2.length ≤ d.length := by
  have h1 := rdN_len (most := 4611686018427387904) (s := (d, 0))
  have h2 := rdN_len (most := 4611686018427387904) (s := ((nmL d).2.1, 0))
  have h3 : (nmL (nmL d).2.1).2.1.length ≤ (nmL d).2.1.length := h2
  have h4 : (nmL d).2.1.length ≤ d.length := h1
  unfold kE
  split
  · simp
  split
  · simp
  split
  · simp
  split
  · simp
  split
  · simp
  · simp only [List.length_drop]; omega

/-- Where the walk stands: the answer's place, the entry under way. -/
structure TEk (w wx : World) (C : Array Value) : Prop where
  bR : wx.heap[w.heap.size]? = some (.cells #[.slice none 0 0, .int .i64 0, .bool false, .int .i64 0, .slice none 0 0] 34 (0, 0))
  bo : wx.heap[w.heap.size + 1]? = some (.cells C 34 (0, 0))
  bel : Below w.heap.size w wx
theorem TEk.later {w wx wy : World} {C : Array Value} (h : TEk w wx C) (hb : Below wx.heap.size wx wy) : TEk w wy C :=
  ⟨(hb.block _ (Array.getElem?_eq_some_iff.1 h.bR).1).trans h.bR, (hb.block _ (Array.getElem?_eq_some_iff.1 h.bo).1).trans h.bo, h.bel.trans (hb.mono h.bel.size)⟩
theorem TEk.set {w wx : World} {C : Array Value} (h : TEk w wx C) (k : Nat) (u : Value) : TEk w (wx.setCell ⟨w.heap.size + 1, k, none⟩ u) (C.setIfInBounds k u) := by
  have hg := grown_set wx (w.heap.size + 1) k u
  refine ⟨?_, heap_set h.bo k u, Below.grown h.bel hg h.bel.size fun k e => ?_⟩
  · rw [hg.block _ (Array.getElem?_eq_some_iff.1 h.bR).1 (fun e => by simp only [Option.some.injEq] at e; omega)]; exact h.bR
  · simp only [Option.some.injEq] at e
    omega
theorem TEk.facts {w wx : World} {c0 c1 c2 c3 c4 : Value} (h : TEk w wx #[c0, c1, c2, c3, c4]) :
    wx.cell? ⟨w.heap.size + 1, 0, none⟩ = some c0 ∧ wx.cell? ⟨w.heap.size + 1, 1, none⟩ = some c1 ∧ wx.cell? ⟨w.heap.size + 1, 2, none⟩ = some c2 ∧ wx.cell? ⟨w.heap.size + 1, 3, none⟩ = some c3 ∧ wx.cell? ⟨w.heap.size + 1, 4, none⟩ = some c4 ∧
    wx.frozen? ⟨w.heap.size + 1, 0, none⟩ = false ∧ wx.frozen? ⟨w.heap.size + 1, 1, none⟩ = false ∧ wx.frozen? ⟨w.heap.size + 1, 2, none⟩ = false ∧ wx.frozen? ⟨w.heap.size + 1, 3, none⟩ = false ∧ wx.frozen? ⟨w.heap.size + 1, 4, none⟩ = false :=
  ⟨by rw [cell_of h.bo]; rfl, by rw [cell_of h.bo]; rfl, by rw [cell_of h.bo]; rfl, by rw [cell_of h.bo]; rfl, by rw [cell_of h.bo]; rfl, frozen_of h.bo 0, frozen_of h.bo 1, frozen_of h.bo 2, frozen_of h.bo 3, frozen_of h.bo 4⟩
theorem TEk.res {w wx : World} {C : Array Value} (h : TEk w wx C) :
    wx.cell? ⟨w.heap.size, 0, none⟩ = some (.slice none 0 0) ∧ wx.cell? ⟨w.heap.size, 1, none⟩ = some (.int .i64 0) ∧ wx.cell? ⟨w.heap.size, 2, none⟩ = some (.bool false) ∧ wx.cell? ⟨w.heap.size, 3, none⟩ = some (.int .i64 0) ∧ wx.cell? ⟨w.heap.size, 4, none⟩ = some (.slice none 0 0) ∧
    wx.frozen? ⟨w.heap.size, 0, none⟩ = false ∧ wx.frozen? ⟨w.heap.size, 1, none⟩ = false ∧ wx.frozen? ⟨w.heap.size, 2, none⟩ = false ∧ wx.frozen? ⟨w.heap.size, 3, none⟩ = false ∧ wx.frozen? ⟨w.heap.size, 4, none⟩ = false :=
  ⟨by rw [cell_of h.bR]; rfl, by rw [cell_of h.bR]; rfl, by rw [cell_of h.bR]; rfl, by rw [cell_of h.bR]; rfl, by rw [cell_of h.bR]; rfl, frozen_of h.bR 0, frozen_of h.bR 1, frozen_of h.bR 2, frozen_of h.bR 3, frozen_of h.bR 4⟩
/-- The answer is laid. -/
def lay5 (p : Nat) (wx : World) (x0 x1 x2 x3 x4 : Value) : World := ((((wx.setCell ⟨p, 0, none⟩ x0).setCell ⟨p, 1, none⟩ x1).setCell ⟨p, 2, none⟩ x2).setCell ⟨p, 3, none⟩ x3).setCell ⟨p, 4, none⟩ x4
theorem lay5_grown (p : Nat) (wx : World) (x0 x1 x2 x3 x4 : Value) : wx.grownBy (lay5 p wx x0 x1 x2 x3 x4) (some p) :=
  grown_trans (grown_trans (grown_trans (grown_trans (grown_set _ _ _ _) (grown_set _ _ _ _)) (grown_set _ _ _ _)) (grown_set _ _ _ _)) (grown_set _ _ _ _)
theorem lay5_block {p : Nat} {wx : World} {y0 y1 y2 y3 y4 : Value} (h : wx.heap[p]? = some (.cells #[y0, y1, y2, y3, y4] 34 (0, 0))) (x0 x1 x2 x3 x4 : Value) : (lay5 p wx x0 x1 x2 x3 x4).heap[p]? = some (.cells #[x0, x1, x2, x3, x4] 34 (0, 0)) := by
  have hb := heap_set (heap_set (heap_set (heap_set (heap_set h 0 x0) 1 x1) 2 x2) 3 x3) 4 x4
  unfold lay5
  rw [hb]
  rfl
theorem in64_nat {n : Nat} (h : n ≤ 4611686018427387904) : In64 (n : Int) := ⟨by omega, by omega⟩
theorem in64_nil : In64 0 := ⟨by decide, by decide⟩
theorem TEk.fin {w wx : World} {C : Array Value} (h : TEk w wx C) (x0 x1 x2 x3 x4 : Value) :
    (lay5 w.heap.size wx x0 x1 x2 x3 x4).cell? ⟨w.heap.size, 0, none⟩ = some x0 ∧ (lay5 w.heap.size wx x0 x1 x2 x3 x4).cell? ⟨w.heap.size, 1, none⟩ = some x1 ∧ (lay5 w.heap.size wx x0 x1 x2 x3 x4).cell? ⟨w.heap.size, 2, none⟩ = some x2 ∧ (lay5 w.heap.size wx x0 x1 x2 x3 x4).cell? ⟨w.heap.size, 3, none⟩ = some x3 ∧ (lay5 w.heap.size wx x0 x1 x2 x3 x4).cell? ⟨w.heap.size, 4, none⟩ = some x4 ∧ Below w.heap.size w (lay5 w.heap.size wx x0 x1 x2 x3 x4) := by
  have hb := lay5_block h.bR x0 x1 x2 x3 x4
  refine ⟨?_, ?_, ?_, ?_, ?_, Below.grown h.bel (lay5_grown _ wx x0 x1 x2 x3 x4) h.bel.size fun k e => ?_⟩
  · rw [cell_of hb]; rfl
  · rw [cell_of hb]; rfl
  · rw [cell_of hb]; rfl
  · rw [cell_of hb]; rfl
  · rw [cell_of hb]; rfl
  · simp only [Option.some.injEq] at e
    omega
theorem tek_begin (w : World) : TEk w ((w.alloc (.cells #[.slice none 0 0, .int .i64 0, .bool false, .int .i64 0, .slice none 0 0] 34)).alloc (.cells #[.slice none 0 0, .int .i64 0, .bool false, .int .i64 0, .slice none 0 0] 34)) #[.slice none 0 0, .int .i64 0, .bool false, .int .i64 0, .slice none 0 0] := by
  have b1 : Below w.heap.size w (w.alloc (.cells #[.slice none 0 0, .int .i64 0, .bool false, .int .i64 0, .slice none 0 0] 34)) := (Below.refl _ _).alloc (Nat.le_refl _) _
  have hs : (w.alloc (.cells #[.slice none 0 0, .int .i64 0, .bool false, .int .i64 0, .slice none 0 0] 34)).heap.size = w.heap.size + 1 := by simp
  have b2 := (Below.refl _ (w.alloc (.cells #[.slice none 0 0, .int .i64 0, .bool false, .int .i64 0, .slice none 0 0] 34))).alloc (Nat.le_refl _) (.cells #[.slice none 0 0, .int .i64 0, .bool false, .int .i64 0, .slice none 0 0] 34)
  refine ⟨?_, ?_, b1.trans (b2.mono (by omega))⟩
  · rw [b2.block w.heap.size (by omega)]; exact heap_alloc_new w _
  · rw [← hs]; exact heap_alloc_new _ _
/-- An entry under way that is done. -/
structure DnE (w : World) (ao : Option Addr) (len cap : Nat) (key d : List Int) (wx : World) (ka : Option Addr) (kc : Nat) (va : Option Addr) (vc : Nat) (e : EntV) (rv : Value) : Prop where
  te : TEk w wx #[.slice ka e.key.length kc, .int .i64 e.seq, .bool e.gone, .int .i64 e.till, .slice va e.val.length vc]
  sk : Sg (fun b => w.heap.size + 2 ≤ b) wx ka kc e.key
  sv : Sg (fun b => w.heap.size + 2 ≤ b) wx va vc e.val
  i1 : In64 e.seq
  i2 : In64 e.till
  eq : ∃ r, tE key d = (0, e, r) ∧ Rests ao len cap d rv r
/-- What takeEntry answers. -/
def ToldK (w : World) (ao : Option Addr) (len cap : Nat) (key d : List Int) (r : Ending) (w' : World) : Prop :=
  ∃ ka kc va vc rv, r = .returned (.tuple #[entA ka kc va vc (tE key d).2.1, rv, .int .i64 ((tE key d).1 : Nat)]) ∧ Sg (fun b => w.heap.size ≤ b) w' ka kc (tE key d).2.1.key ∧ Sg (fun b => w.heap.size ≤ b) w' va vc (tE key d).2.1.val ∧ In64 (tE key d).2.1.seq ∧ In64 (tE key d).2.1.till ∧ Rests ao len cap d rv (tE key d).2.2 ∧ Below w.heap.size w w'
theorem DnE.told {w : World} {ao : Option Addr} {len cap : Nat} {key d : List Int} {wx : World} {ka : Option Addr} {kc : Nat} {va : Option Addr} {vc : Nat} {e : EntV} {rv : Value} (h : DnE w ao len cap key d wx ka kc va vc e rv) :
    ToldK w ao len cap key d (.returned (.tuple #[.agg #[.slice ka e.key.length kc, .int .i64 e.seq, .bool e.gone, .int .i64 e.till, .slice va e.val.length vc], rv, .int .i64 0])) (lay5 w.heap.size wx (.slice ka e.key.length kc) (.int .i64 e.seq) (.bool e.gone) (.int .i64 e.till) (.slice va e.val.length vc)) := by
  obtain ⟨r, he, hr⟩ := h.eq
  have hg := lay5_grown w.heap.size wx (.slice ka e.key.length kc) (.int .i64 e.seq) (.bool e.gone) (.int .i64 e.till) (.slice va e.val.length vc)
  unfold ToldK
  rw [he]
  exact ⟨ka, kc, va, vc, rv, rfl, (h.sk.grown hg fun b hb e => by simp only [Option.some.injEq] at e; omega).weak fun b _ hb => by omega, (h.sv.grown hg fun b hb e => by simp only [Option.some.injEq] at e; omega).weak fun b _ hb => by omega, h.i1, h.i2, hr, (h.te.fin _ _ _ _ _).2.2.2.2.2⟩
theorem told_no {w : World} {ao : Option Addr} {len cap : Nat} {key d : List Int} {wx : World} {C : Array Value} {E : Nat} (h : TEk w wx C) (he : tE key d = (E, noE, [])) :
    ToldK w ao len cap key d (.returned (.tuple #[.agg #[.slice none 0 0, .int .i64 0, .bool false, .int .i64 0, .slice none 0 0], .slice none 0 0, .int .i64 (E : Nat)])) (lay5 w.heap.size wx (.slice none 0 0) (.int .i64 0) (.bool false) (.int .i64 0) (.slice none 0 0)) := by
  unfold ToldK
  rw [he]
  exact ⟨none, 0, none, 0, .slice none 0 0, rfl, Sg.nil _ _, Sg.nil _ _, in64_nil, in64_nil, Rests.nil _ _ _ _, (h.fin _ _ _ _ _).2.2.2.2.2⟩

/-- An entry under way, with its key. -/
structure UWk (w wx : World) (ka : Option Addr) (kc : Nat) (kk : List Int) (C : Array Value) : Prop where
  te : TEk w wx C
  sk : Sg (fun b => w.heap.size + 2 ≤ b) wx ka kc kk
theorem UWk.later {w wx wy : World} {ka : Option Addr} {kc : Nat} {kk : List Int} {C : Array Value} (h : UWk w wx ka kc kk C) (hb : Below wx.heap.size wx wy) : UWk w wy ka kc kk C := ⟨h.te.later hb, h.sk.later hb⟩
theorem UWk.set {w wx : World} {ka : Option Addr} {kc : Nat} {kk : List Int} {C : Array Value} (h : UWk w wx ka kc kk C) (k : Nat) (u : Value) : UWk w (wx.setCell ⟨w.heap.size + 1, k, none⟩ u) ka kc kk (C.setIfInBounds k u) :=
  ⟨h.te.set k u, h.sk.grown (grown_set wx (w.heap.size + 1) k u) fun b hb e => by simp only [Option.some.injEq] at e; omega⟩
theorem Rests.form {w : World} {ao : Option Addr} {len cap : Nat} {d xs : List Int} {r : Value} (h : Rests ao len cap d r xs) (hs : Sl w ao len cap d) : ∃ a c, r = .slice a xs.length c := by
  obtain ⟨a, c, e, _⟩ := h w hs
  exact ⟨a, c, e⟩

set_option maxHeartbeats 8000000 in
set_option maxRecDepth 100000 in
theorem tent_k {w : World} {ao pa : Option Addr} {len cap pl pc : Nat} {d key : List Int} (h : Sl w ao len cap d) (hl : len ≤ 175921860444160) (hk : Sl w pa pl pc key) (hkl : pl ≤ 512) :
    Calls Try.prog 100 #[.slice ao len cap, .slice pa pl pc] w (ToldK w ao len cap key d) := by
  have HT0 : Hid (TEk w _ _) := tek_begin w
  have HS0 : Hid (Sl w ao len cap d ∧ len ≤ 175921860444160 ∧ d.length = len) := ⟨h, hl, h.1⟩
  obtain ⟨W, hW⟩ : ∃ W, W = ((w.alloc (.cells #[.slice none 0 0, .int .i64 0, .bool false, .int .i64 0, .slice none 0 0] 34)).alloc (.cells #[.slice none 0 0, .int .i64 0, .bool false, .int .i64 0, .slice none 0 0] 34)) := ⟨_, rfl⟩
  rw [← hW] at HT0
  have HW := hid hW
  have hk0 := tkey_k (h.later HT0.out.bel) hl (hk.later HT0.out.bel) hkl
  have hok := kE_okb hk.2.1 h.2.1
  obtain ⟨⟨e0, kk, l0⟩, hF⟩ : ∃ x, kE key d = x := ⟨_, rfl⟩
  rw [hF] at hk0 hok
  have HF := hid hF
  have HOK := hid hok
  have HSZ : Hid (w.heap.size + 2 ≤ W.heap.size) := by show _ ≤ _; rw [hW]; simp
  simp only at hk0
  clear h hl hF hW hk hkl hok
  go_enter Try.func100, Try.ntmps100
  go_wp2_with fail
  refine wp_scope_fwd (fun l a' w' => (l = 0 ∧ ∃ (E : Nat) (C : Array Value), Hid (tE key d = (E, noE, []) ∧ TEk w w' C) ∧ ∃ (u0 u1 u2 u3 u5 u6 u7 u8 u9 u11 u12 u13 u14 u15 u16 u17 u18 u19 u20 u21 u22 u23 u24 u25 u26 u27 u28 u29 u30 u31 u32 u33 u34 u35 u36 u37 u38 u39 u40 u41 u42 u43 u44 u45 u46 u47 u48 u49 u50 u51 u52 u53 u54 u55 u56 u57 u58 u59 u60 u61 u62 u63 : Value), a' = { tmps := #[u0, u1, u2, u3, .pointer (some ⟨w.heap.size, 0, none⟩), u5, u6, u7, u8, u9, .int .i64 (E : Nat), u11, u12, u13, u14, u15, u16, u17, u18, u19, u20, u21, u22, u23, u24, u25, u26, u27, u28, u29, u30, u31, u32, u33, u34, u35, u36, u37, u38, u39, u40, u41, u42, u43, u44, u45, u46, u47, u48, u49, u50, u51, u52, u53, u54, u55, u56, u57, u58, u59, u60, u61, u62, u63], defers := [] }) ∨ (l = 1 ∧ ∃ ka kc va vc e rv, Hid (DnE w ao len cap key d w' ka kc va vc e rv) ∧ ∃ (u0 u1 u2 u3 u5 u6 u8 u10 u11 u12 u13 u14 u15 u16 u17 u18 u19 u20 u21 u22 u23 u24 u25 u26 u27 u28 u29 u30 u31 u32 u33 u34 u35 u36 u37 u38 u39 u40 u41 u42 u43 u44 u45 u46 u47 u48 u49 u50 u51 u52 u53 u54 u55 u56 u57 u58 u59 u60 u61 u62 u63 : Value), a' = { tmps := #[u0, u1, u2, u3, .pointer (some ⟨w.heap.size, 0, none⟩), u5, u6, .pointer (some ⟨w.heap.size + 1, 0, none⟩), u8, rv, u10, u11, u12, u13, u14, u15, u16, u17, u18, u19, u20, u21, u22, u23, u24, u25, u26, u27, u28, u29, u30, u31, u32, u33, u34, u35, u36, u37, u38, u39, u40, u41, u42, u43, u44, u45, u46, u47, u48, u49, u50, u51, u52, u53, u54, u55, u56, u57, u58, u59, u60, u61, u62, u63], defers := [] })) ?_ ?_
  · go_upto_region 2 with fail
    rw [← HW.out]
    by_cases q0 : e0 = 0
    · subst q0
      go_upto_region 4 with (go_at_call 110; refine hk0.mono ?_; rintro e w1 ⟨v1, r1, rfl, R1, s1, b1⟩)
      obtain ⟨a1, c1, hv1, K1⟩ := sg_row R1 HOK.out
      obtain ⟨a2, c2, hr1⟩ := s1.form HS0.out.1
      subst hv1 hr1
      have U1 : UWk w w1 a1 c1 kk #[.slice none 0 0, .int .i64 0, .bool false, .int .i64 0, .slice none 0 0] := ⟨HT0.out.later b1, K1.weak fun b _ hb => by have := HSZ.out; omega⟩
      have U1' : UWk w (w1.setCell ⟨w.heap.size + 1, 0, none⟩ (.slice a1 kk.length c1)) a1 c1 kk #[.slice a1 kk.length c1, .int .i64 0, .bool false, .int .i64 0, .slice none 0 0] := U1.set 0 (.slice a1 kk.length c1)
      obtain ⟨y0, y1, y2, y3, y4, f0, f1, f2, f3, f4⟩ := U1.te.facts
      go_upto_region 5 with fail
      obtain ⟨W1, hW1⟩ : ∃ W1, W1 = w1.setCell ⟨w.heap.size + 1, 0, none⟩ (.slice a1 kk.length c1) := ⟨_, rfl⟩
      rw [← hW1] at U1' ⊢
      have HU1 := hid U1'
      have HR1 := hid s1
      have hN1 := tnum_k ((s1 w HS0.out.1).sl.later U1'.te.bel)
      have m1 := nmL_le l0
      have m2 := nmL_len l0
      obtain ⟨⟨n1, l1, e1⟩, hF1⟩ : ∃ x, nmL l0 = x := ⟨_, rfl⟩
      rw [hF1] at hN1 m1 m2
      simp only at hN1 m1 m2
      have HF1 := hid hF1
      have HL0 : Hid (l0.length ≤ d.length) := by
        obtain ⟨_, _, e, hs⟩ := s1 w HS0.out.1
        show _ ≤ _
        have h5 : (kE key d).2.2.length ≤ d.length := kE_left key d
        rw [HF.out] at h5
        exact h5
      have HM : Hid (n1 ≤ 4611686018427387904 ∧ l1.length ≤ l0.length) := ⟨m1, m2⟩
      have hn163 : n1 ≤ 2 ^ 63 - 1 := by omega
      clear U1 U1' hW1 hF1 s1 b1 K1 R1 hk0 y0 y1 y2 y3 y4 f0 f1 f2 f3 f4 m1 m2 HT0
      obtain ⟨y0, y1, y2, y3, y4, f0, f1, f2, f3, f4⟩ := HU1.out.te.facts
      by_cases q1 : e1 = 0
      · subst q1
        rw [show rst (l1, 0) = l1 from rfl] at hN1
        go_upto_region 7 with (go_at_call 111; refine hN1.mono ?_; rintro e w2 ⟨r2, rfl, s2, b2⟩; have U2 := HU1.out.later b2; clear y0 y1 y2 y3 y4 f0 f1 f2 f3 f4; obtain ⟨y0, y1, y2, y3, y4, f0, f1, f2, f3, f4⟩ := U2.te.facts)
        have U2' : UWk w (w2.setCell ⟨w.heap.size + 1, 1, none⟩ (.int .i64 (n1 : Nat))) a1 c1 kk #[.slice a1 kk.length c1, .int .i64 (n1 : Nat), .bool false, .int .i64 0, .slice none 0 0] := U2.set 1 (.int .i64 (n1 : Nat))
        have hr12 := HR1.out.trans s2
        obtain ⟨a3, c3, hr2⟩ := hr12.form HS0.out.1
        subst hr2
        obtain ⟨W2, hW2⟩ : ∃ W2, W2 = w2.setCell ⟨w.heap.size + 1, 1, none⟩ (.int .i64 (n1 : Nat)) := ⟨_, rfl⟩
        rw [← hW2] at U2' ⊢
        have HU2 := hid U2'
        have HR2 := hid hr12
        have hG := tgone_k ((hr12 w HS0.out.1).sl.later U2'.te.bel)
        have m3 := rdF_len (s := (l1, 0))
        obtain ⟨⟨g, l2, e2⟩, hF2⟩ : ∃ x, rdF (l1, 0) = x := ⟨_, rfl⟩
        rw [hF2] at hG m3
        simp only at hG m3
        have HF2 := hid hF2
        have HM2 : Hid (l2.length ≤ l1.length) := m3
        clear U2 U2' hW2 hF2 s2 b2 hN1 y0 y1 y2 y3 y4 f0 f1 f2 f3 f4 m3 HU1 hr12
        obtain ⟨y0, y1, y2, y3, y4, f0, f1, f2, f3, f4⟩ := HU2.out.te.facts
        by_cases q2 : e2 = 0
        · subst q2
          rw [show rst (l2, 0) = l2 from rfl] at hG
          go_upto_region 9 with (go_at_call 112; refine hG.mono ?_; rintro e w3 ⟨r3, rfl, s3, b3⟩; have U3 := HU2.out.later b3; clear y0 y1 y2 y3 y4 f0 f1 f2 f3 f4; obtain ⟨y0, y1, y2, y3, y4, f0, f1, f2, f3, f4⟩ := U3.te.facts)
          have U3' : UWk w (w3.setCell ⟨w.heap.size + 1, 2, none⟩ (.bool g)) a1 c1 kk #[.slice a1 kk.length c1, .int .i64 (n1 : Nat), .bool g, .int .i64 0, .slice none 0 0] := U3.set 2 (.bool g)
          have hr13 := HR2.out.trans s3
          obtain ⟨a4, c4, hr3⟩ := hr13.form HS0.out.1
          subst hr3
          obtain ⟨W3, hW3⟩ : ∃ W3, W3 = w3.setCell ⟨w.heap.size + 1, 2, none⟩ (.bool g) := ⟨_, rfl⟩
          rw [← hW3] at U3' ⊢
          have HU3 := hid U3'
          have HR3 := hid hr13
          clear U3 U3' hW3 s3 b3 hG y0 y1 y2 y3 y4 f0 f1 f2 f3 f4 HU2 hr13
          obtain ⟨y0, y1, y2, y3, y4, f0, f1, f2, f3, f4⟩ := HU3.out.te.facts
          cases g with
          | true =>
            have HD : Hid (DnE w ao len cap key d W3 a1 c1 none 0 ⟨kk, (n1 : Nat), true, 0, []⟩ (.slice a4 l2.length c4)) := ⟨HU3.out.te, HU3.out.sk, Sg.nil _ _, in64_nat HM.out.1, in64_nil, l2, tE_o HF.out (deV_g HF1.out HF2.out), HR3.out⟩
            go_wp2_with fail
            go_step3
            exact Or.inr ⟨rfl, a1, c1, none, 0, ⟨kk, (n1 : Nat), true, 0, []⟩, .slice a4 l2.length c4, HD, _, _, _, _, _, _, _, _, _, _, _, _, _, _, _, _, _, _, _, _, _, _, _, _, _, _, _, _, _, _, _, _, _, _, _, _, _, _, _, _, _, _, _, _, _, _, _, _, _, _, _, _, _, _, _, _, _, _, _, _, _, rfl⟩
          | false =>
            have hN3 := tnum_k ((HR3.out w HS0.out.1).sl.later HU3.out.te.bel)
            have m1 := nmL_le l2
            have m2 := nmL_len l2
            obtain ⟨⟨n3, l3, e3⟩, hF3⟩ : ∃ x, nmL l2 = x := ⟨_, rfl⟩
            rw [hF3] at hN3 m1 m2
            simp only at hN3 m1 m2
            have HF3 := hid hF3
            have HM3 : Hid (n3 ≤ 4611686018427387904 ∧ l3.length ≤ l2.length) := ⟨m1, m2⟩
            have hn363 : n3 ≤ 2 ^ 63 - 1 := by omega
            clear hF3 m1 m2
            by_cases q3 : e3 = 0
            · subst q3
              rw [show rst (l3, 0) = l3 from rfl] at hN3
              go_upto_region 12 with (go_at_call 111; refine hN3.mono ?_; rintro e w4 ⟨r4, rfl, s4, b4⟩; have U4 := HU3.out.later b4; clear y0 y1 y2 y3 y4 f0 f1 f2 f3 f4; obtain ⟨y0, y1, y2, y3, y4, f0, f1, f2, f3, f4⟩ := U4.te.facts)
              have U4' : UWk w (w4.setCell ⟨w.heap.size + 1, 3, none⟩ (.int .i64 (n3 : Nat))) a1 c1 kk #[.slice a1 kk.length c1, .int .i64 (n1 : Nat), .bool false, .int .i64 (n3 : Nat), .slice none 0 0] := U4.set 3 (.int .i64 (n3 : Nat))
              have hr14 := HR3.out.trans s4
              obtain ⟨a5, c5, hr4⟩ := hr14.form HS0.out.1
              subst hr4
              obtain ⟨W4, hW4⟩ : ∃ W4, W4 = w4.setCell ⟨w.heap.size + 1, 3, none⟩ (.int .i64 (n3 : Nat)) := ⟨_, rfl⟩
              rw [← hW4] at U4' ⊢
              have HU4 := hid U4'
              have HR4 := hid hr14
              have hV := tval_k ((hr14 w HS0.out.1).sl.later U4'.te.bel) (by have := HM3.out; have := HM2.out; have := HM.out; have := HL0.out; have := HS0.out; omega)
              have hov : Okb (rdB 2048 (l3, 0)).1 := rdB_okb (hr14 w HS0.out.1).sl.2.1
              obtain ⟨⟨vv, l4, e4⟩, hF4⟩ : ∃ x, rdB 2048 (l3, 0) = x := ⟨_, rfl⟩
              rw [hF4] at hV hov
              simp only at hV hov
              have HF4 := hid hF4
              have HOV := hid hov
              have HSZ4 : Hid (w.heap.size + 2 ≤ W4.heap.size) := by
                have := (Array.getElem?_eq_some_iff.1 U4'.te.bo).1
                show _ ≤ _
                omega
              clear U4 U4' hW4 hF4 s4 b4 hN3 y0 y1 y2 y3 y4 f0 f1 f2 f3 f4 HU3 hr14 hov
              obtain ⟨y0, y1, y2, y3, y4, f0, f1, f2, f3, f4⟩ := HU4.out.te.facts
              by_cases q4 : e4 = 0
              · subst q4
                rw [show rst (l4, 0) = l4 from rfl] at hV
                go_upto_region 13 with (go_at_call 113; refine hV.mono ?_; rintro e w5 ⟨v5, r5, rfl, R5, s5, b5⟩; obtain ⟨a6, c6, rfl, K5⟩ := sg_row R5 HOV.out; have U5 := HU4.out.later b5; clear y0 y1 y2 y3 y4 f0 f1 f2 f3 f4; obtain ⟨y0, y1, y2, y3, y4, f0, f1, f2, f3, f4⟩ := U5.te.facts)
                have U5' : UWk w (w5.setCell ⟨w.heap.size + 1, 4, none⟩ (.slice a6 vv.length c6)) a1 c1 kk #[.slice a1 kk.length c1, .int .i64 (n1 : Nat), .bool false, .int .i64 (n3 : Nat), .slice a6 vv.length c6] := U5.set 4 (.slice a6 vv.length c6)
                have K5' : Sg (fun b => w.heap.size + 2 ≤ b) (w5.setCell ⟨w.heap.size + 1, 4, none⟩ (.slice a6 vv.length c6)) a6 c6 vv := (K5.weak fun b _ hb => by have := HSZ4.out; omega).grown (grown_set w5 (w.heap.size + 1) 4 (.slice a6 vv.length c6)) fun b hb e => by simp only [Option.some.injEq] at e; omega
                have HD : Hid (DnE w ao len cap key d (w5.setCell ⟨w.heap.size + 1, 4, none⟩ (.slice a6 vv.length c6)) a1 c1 a6 c6 ⟨kk, (n1 : Nat), false, (n3 : Nat), vv⟩ r5) := ⟨U5'.te, U5'.sk, K5', in64_nat HM.out.1, in64_nat HM3.out.1, l4, tE_o HF.out (deV_4 HF1.out HF2.out HF3.out HF4.out), HR4.out.trans s5⟩
                obtain ⟨W5, hW5⟩ : ∃ W5, W5 = w5.setCell ⟨w.heap.size + 1, 4, none⟩ (.slice a6 vv.length c6) := ⟨_, rfl⟩
                rw [← hW5] at HD ⊢
                clear U5 U5' K5 K5' hW5 s5 b5 R5 hV y0 y1 y2 y3 y4 f0 f1 f2 f3 f4 HU4
                obtain ⟨x0, x1, x2, x3, x4, g0, g1, g2, g3, g4⟩ := HD.out.te.facts
                obtain ⟨z0, z1, z2, z3, z4, h0, h1, h2, h3, h4⟩ := HD.out.te.res
                obtain ⟨o0, o1, o2, o3, o4, ob⟩ := HD.out.te.fin (.slice a1 kk.length c1) (.int .i64 (n1 : Nat)) (.bool false) (.int .i64 (n3 : Nat)) (.slice a6 vv.length c6)
                have HO := hid HD.out.told
                unfold lay5 at o0 o1 o2 o3 o4 HO
                clear ob
                go_wp2_with fail
                refine wp_label ?_
                go_wp2_with fail
                try simp only [jumpsE]
                exact bodyPost_ret (v := .tuple #[.agg #[.slice a1 kk.length c1, .int .i64 (n1 : Nat), .bool false, .int .i64 (n3 : Nat), .slice a6 vv.length c6], r5, .int .i64 0]) (by simp [results, Try.results100, go_sem, o0, o1, o2, o3, o4]) rfl HO.out
              · have hne : ((e4 : Int) != 0) = true := by simp; omega
                have HQ : Hid (tE key d = (e4, noE, [])) := tE_e HF.out (by rw [deV_4 HF1.out HF2.out HF3.out HF4.out]) q4
                clear q4
                go_wp2_with (go_at_call 113; refine hV.mono ?_; rintro e w5 ⟨v5, r5, rfl, R5, s5, b5⟩; obtain ⟨a6, c6, rfl, K5⟩ := sg_row R5 HOV.out; have U5 := HU4.out.later b5; clear y0 y1 y2 y3 y4 f0 f1 f2 f3 f4; obtain ⟨y0, y1, y2, y3, y4, f0, f1, f2, f3, f4⟩ := U5.te.facts)
                go_step3
                exact Or.inl ⟨rfl, e4, _, ⟨HQ.out, (U5.set 4 (.slice a6 vv.length c6)).te⟩, _, _, _, _, _, _, _, _, _, _, _, _, _, _, _, _, _, _, _, _, _, _, _, _, _, _, _, _, _, _, _, _, _, _, _, _, _, _, _, _, _, _, _, _, _, _, _, _, _, _, _, _, _, _, _, _, _, _, _, _, _, _, rfl⟩
            · have hne : ((e3 : Int) != 0) = true := by simp; omega
              have HQ : Hid (tE key d = (e3, noE, [])) := tE_e HF.out (deV_3 HF1.out HF2.out HF3.out q3) q3
              clear q3
              go_wp2_with (go_at_call 111; refine hN3.mono ?_; rintro e w4 ⟨r4, rfl, s4, b4⟩; have U4 := HU3.out.later b4; clear y0 y1 y2 y3 y4 f0 f1 f2 f3 f4; obtain ⟨y0, y1, y2, y3, y4, f0, f1, f2, f3, f4⟩ := U4.te.facts)
              go_step3
              exact Or.inl ⟨rfl, e3, _, ⟨HQ.out, (U4.set 3 (.int .i64 (n3 : Nat))).te⟩, _, _, _, _, _, _, _, _, _, _, _, _, _, _, _, _, _, _, _, _, _, _, _, _, _, _, _, _, _, _, _, _, _, _, _, _, _, _, _, _, _, _, _, _, _, _, _, _, _, _, _, _, _, _, _, _, _, _, _, _, _, _, rfl⟩
        · have hne : ((e2 : Int) != 0) = true := by simp; omega
          have HQ : Hid (tE key d = (e2, noE, [])) := tE_e HF.out (deV_2 HF1.out HF2.out q2) q2
          clear q2
          go_wp2_with (go_at_call 112; refine hG.mono ?_; rintro e w3 ⟨r3, rfl, s3, b3⟩; have U3 := HU2.out.later b3; clear y0 y1 y2 y3 y4 f0 f1 f2 f3 f4; obtain ⟨y0, y1, y2, y3, y4, f0, f1, f2, f3, f4⟩ := U3.te.facts)
          go_step3
          exact Or.inl ⟨rfl, e2, _, ⟨HQ.out, (U3.set 2 (.bool g)).te⟩, _, _, _, _, _, _, _, _, _, _, _, _, _, _, _, _, _, _, _, _, _, _, _, _, _, _, _, _, _, _, _, _, _, _, _, _, _, _, _, _, _, _, _, _, _, _, _, _, _, _, _, _, _, _, _, _, _, _, _, _, _, _, rfl⟩
      · have hne : ((e1 : Int) != 0) = true := by simp; omega
        have HQ : Hid (tE key d = (e1, noE, [])) := tE_e HF.out (deV_1 HF1.out q1) q1
        clear q1
        go_wp2_with (go_at_call 111; refine hN1.mono ?_; rintro e w2 ⟨r2, rfl, s2, b2⟩; have U2 := HU1.out.later b2; clear y0 y1 y2 y3 y4 f0 f1 f2 f3 f4; obtain ⟨y0, y1, y2, y3, y4, f0, f1, f2, f3, f4⟩ := U2.te.facts)
        go_step3
        exact Or.inl ⟨rfl, e1, _, ⟨HQ.out, (U2.set 1 (.int .i64 (n1 : Nat))).te⟩, _, _, _, _, _, _, _, _, _, _, _, _, _, _, _, _, _, _, _, _, _, _, _, _, _, _, _, _, _, _, _, _, _, _, _, _, _, _, _, _, _, _, _, _, _, _, _, _, _, _, _, _, _, _, _, _, _, _, _, _, _, _, rfl⟩
    · have hne : ((e0 : Int) != 0) = true := by simp; omega
      have HQ : Hid (tE key d = (e0, noE, [])) := by
        show _ = _
        rw [tE_k (by rw [HF.out]; exact q0), HF.out]
      clear q0
      go_wp2_with (go_at_call 110; refine hk0.mono ?_; rintro e w1 ⟨v1, r1, rfl, R1, s1, b1⟩)
      go_step3
      exact Or.inl ⟨rfl, e0, _, ⟨HQ.out, HT0.out.later b1⟩, _, _, _, _, _, _, _, _, _, _, _, _, _, _, _, _, _, _, _, _, _, _, _, _, _, _, _, _, _, _, _, _, _, _, _, _, _, _, _, _, _, _, _, _, _, _, _, _, _, _, _, _, _, _, _, _, _, _, _, _, _, _, rfl⟩
  · rintro l a' w' (⟨rfl, E, C, HX, u0, u1, u2, u3, u5, u6, u7, u8, u9, u11, u12, u13, u14, u15, u16, u17, u18, u19, u20, u21, u22, u23, u24, u25, u26, u27, u28, u29, u30, u31, u32, u33, u34, u35, u36, u37, u38, u39, u40, u41, u42, u43, u44, u45, u46, u47, u48, u49, u50, u51, u52, u53, u54, u55, u56, u57, u58, u59, u60, u61, u62, u63, rfl⟩ | ⟨rfl, ka, kc, va, vc, e, rv, HX, u0, u1, u2, u3, u5, u6, u8, u10, u11, u12, u13, u14, u15, u16, u17, u18, u19, u20, u21, u22, u23, u24, u25, u26, u27, u28, u29, u30, u31, u32, u33, u34, u35, u36, u37, u38, u39, u40, u41, u42, u43, u44, u45, u46, u47, u48, u49, u50, u51, u52, u53, u54, u55, u56, u57, u58, u59, u60, u61, u62, u63, rfl⟩)
    · refine ⟨_, rfl, ?_⟩
      obtain ⟨z0, z1, z2, z3, z4, h0, h1, h2, h3, h4⟩ := HX.out.2.res
      obtain ⟨o0, o1, o2, o3, o4, ob⟩ := HX.out.2.fin (.slice none 0 0) (.int .i64 0) (.bool false) (.int .i64 0) (.slice none 0 0)
      have HO := hid (told_no (ao := ao) (len := len) (cap := cap) HX.out.2 HX.out.1)
      unfold lay5 at o0 o1 o2 o3 o4 HO
      clear ob
      go_wp2_with fail
      simp only [Exit.noGoto]
      exact bodyPost_ret (v := .tuple #[.agg #[.slice none 0 0, .int .i64 0, .bool false, .int .i64 0, .slice none 0 0], .slice none 0 0, .int .i64 (E : Nat)]) (by simp [results, Try.results100, go_sem, o0, o1, o2, o3, o4]) rfl HO.out
    · refine ⟨_, rfl, ?_⟩
      obtain ⟨x0, x1, x2, x3, x4, g0, g1, g2, g3, g4⟩ := HX.out.te.facts
      obtain ⟨z0, z1, z2, z3, z4, h0, h1, h2, h3, h4⟩ := HX.out.te.res
      obtain ⟨o0, o1, o2, o3, o4, ob⟩ := HX.out.te.fin (.slice ka e.key.length kc) (.int .i64 e.seq) (.bool e.gone) (.int .i64 e.till) (.slice va e.val.length vc)
      have HO := hid HX.out.told
      unfold lay5 at o0 o1 o2 o3 o4 HO
      clear ob
      go_wp2_with fail
      simp only [Exit.noGoto]
      exact bodyPost_ret (v := .tuple #[.agg #[.slice ka e.key.length kc, .int .i64 e.seq, .bool e.gone, .int .i64 e.till, .slice va e.val.length vc], rv, .int .i64 0]) (by simp [results, Try.results100, go_sem, o0, o1, o2, o3, o4]) rfl HO.out
end Go.Proofs.Ytimpaindbbjieaa

/- The landed table: the foot. -/
namespace Go.Proofs.Ytimpaindbbjieaa
open Go.RowKit
set_option linter.unusedVariables false
set_option linter.unusedSimpArgs false

/-- The two answers of takeFoot, under way. -/
structure TFt (w wx : World) (x0 x1 y0 y1 : Value) : Prop where
  b0 : wx.heap[w.heap.size]? = some (.cells #[x0, x1] 74 (0, 0))
  b1 : wx.heap[w.heap.size + 1]? = some (.cells #[y0, y1] 74 (0, 0))
  bel : Below w.heap.size w wx
theorem TFt.later {w wx wy : World} {x0 x1 y0 y1 : Value} (h : TFt w wx x0 x1 y0 y1) (hb : Below wx.heap.size wx wy) : TFt w wy x0 x1 y0 y1 :=
  ⟨(hb.block _ (Array.getElem?_eq_some_iff.1 h.b0).1).trans h.b0, (hb.block _ (Array.getElem?_eq_some_iff.1 h.b1).1).trans h.b1, h.bel.trans (hb.mono h.bel.size)⟩
theorem TFt.facts {w wx : World} {x0 x1 y0 y1 : Value} (h : TFt w wx x0 x1 y0 y1) :
    wx.cell? ⟨w.heap.size, 0, none⟩ = some x0 ∧ wx.cell? ⟨w.heap.size, 1, none⟩ = some x1 ∧ wx.cell? ⟨w.heap.size + 1, 0, none⟩ = some y0 ∧ wx.cell? ⟨w.heap.size + 1, 1, none⟩ = some y1 ∧
    wx.frozen? ⟨w.heap.size, 0, none⟩ = false ∧ wx.frozen? ⟨w.heap.size, 1, none⟩ = false ∧ wx.frozen? ⟨w.heap.size + 1, 0, none⟩ = false ∧ wx.frozen? ⟨w.heap.size + 1, 1, none⟩ = false :=
  ⟨by rw [cell_of h.b0]; rfl, by rw [cell_of h.b0]; rfl, by rw [cell_of h.b1]; rfl, by rw [cell_of h.b1]; rfl, frozen_of h.b0 0, frozen_of h.b0 1, frozen_of h.b1 0, frozen_of h.b1 1⟩
theorem TFt.set0 {w wx : World} {x0 x1 y0 y1 : Value} (h : TFt w wx x0 x1 y0 y1) (u0 u1 : Value) : TFt w (lay2 w.heap.size wx u0 u1) u0 u1 y0 y1 :=
  ⟨lay2_block h.b0 u0 u1, by rw [(lay2_grown w.heap.size wx u0 u1).block _ (Array.getElem?_eq_some_iff.1 h.b1).1 (fun e => by simp only [Option.some.injEq] at e; omega)]; exact h.b1, lay2_below h.bel (Nat.le_refl _) (Nat.le_refl _) _ _⟩
theorem TFt.set1 {w wx : World} {x0 x1 y0 y1 : Value} (h : TFt w wx x0 x1 y0 y1) (u0 u1 : Value) : TFt w (lay2 (w.heap.size + 1) wx u0 u1) x0 x1 u0 u1 :=
  ⟨by rw [(lay2_grown (w.heap.size + 1) wx u0 u1).block _ (Array.getElem?_eq_some_iff.1 h.b0).1 (fun e => by simp only [Option.some.injEq] at e; omega)]; exact h.b0, lay2_block h.b1 u0 u1, lay2_below h.bel (Nat.le_refl _) (by omega) _ _⟩
theorem tft_begin (w : World) : TFt w ((w.alloc (.cells #[.int .i64 0, .int .i64 0] 74)).alloc (.cells #[.int .i64 0, .int .i64 0] 74)) (.int .i64 0) (.int .i64 0) (.int .i64 0) (.int .i64 0) := by
  have b1 : Below w.heap.size w (w.alloc (.cells #[.int .i64 0, .int .i64 0] 74)) := (Below.refl _ _).alloc (Nat.le_refl _) _
  have hs : (w.alloc (.cells #[.int .i64 0, .int .i64 0] 74)).heap.size = w.heap.size + 1 := by simp
  have b2 := (Below.refl _ (w.alloc (.cells #[.int .i64 0, .int .i64 0] 74))).alloc (Nat.le_refl _) (.cells #[.int .i64 0, .int .i64 0] 74)
  refine ⟨?_, ?_, b1.trans (b2.mono (by omega))⟩
  · rw [b2.block w.heap.size (by omega)]; exact heap_alloc_new w _
  · rw [← hs]; exact heap_alloc_new _ _
def spT (t : Nat × (Nat × Nat) × (Nat × Nat)) : Value := .tuple #[.agg #[.int .i64 (t.2.1.1 : Int), .int .i64 (t.2.1.2 : Int)], .agg #[.int .i64 (t.2.2.1 : Int), .int .i64 (t.2.2.2 : Int)], .int .i64 (t.1 : Int)]
theorem spR_is (o : Option (Nat × Nat)) : ∃ (A : Nat × Nat) (f : Bool), spR o = .tuple #[.agg #[.int .i64 (A.1 : Int), .int .i64 (A.2 : Int)], .bool f] ∧ (f = true → o = some A) ∧ (f = false → o = none) := by
  cases o with
  | none => exact ⟨(0, 0), false, rfl, (fun q => by cases q), fun _ => rfl⟩
  | some s => exact ⟨s, true, rfl, (fun _ => rfl), fun q => by cases q⟩
theorem spn_one (w : World) (p n : Nat) : RS spnE (w.alloc (.cells #[.int .i64 (p : Int), .int .i64 (n : Int)] 74)) (some ⟨w.heap.size, 0, none⟩) 1 1 [(p, n)] := ⟨_, rs_one (E := spnE) (w := w) (vs := [.int .i64 (p : Int), .int .i64 (n : Int)]) (x := (p, n)) rfl⟩
theorem str_mag {xs : List Int} (h : Okb xs) : ((strOfNums xs).toList == [104, 97, 108, 121, 97, 114, 100, 49]) = decide (xs = magT) := by
  have : ([104, 97, 108, 121, 97, 114, 100, 49] : List UInt8) = (strOfNums magT).toList := by
    rw [show strOfNums magT = ⟨#[104, 97, 108, 121, 97, 114, 100, 49]⟩ from rfl]
    simp [go_sem]
  rw [this]
  exact str_eq h (fun x hx => by simp [magT] at hx; omega)
end Go.Proofs.Ytimpaindbbjieaa

/- The landed table: takeFoot. -/
namespace Go.Proofs.Ytimpaindbbjieaa
open Go.RowKit
set_option linter.unusedVariables false
set_option linter.unusedSimpArgs false

set_option maxHeartbeats 4000000 in
set_option maxRecDepth 100000 in
theorem foot_t {w : World} {ao : Option Addr} {len cap : Nat} {xs : List Int} (h : Sl w ao len cap xs) (hl : len ≤ 5000000) :
    Calls Try.prog 44 #[.slice ao len cap] w fun e w' => e = .returned (spT (ftE xs)) ∧ Below w.heap.size w w' := by
  have hln : xs.length = len := h.1
  have hlc := h.2.2.2.1
  have hl62 : len ≤ 2 ^ 61 := by omega
  have HZ : Hid (Below w.heap.size w ((w.alloc (.cells #[.int .i64 0, .int .i64 0] 74)).alloc (.cells #[.int .i64 0, .int .i64 0] 74))) := (tft_begin w).bel
  by_cases q1 : len < 32
  · have HT : Hid (ftE xs = (5, (0, 0), (0, 0))) := by show _ = _; unfold ftE; rw [if_pos (by omega)]
    have q1' : (len : Int) < 32 := by omega
    have q1'' : (len : Int) - 32 < 0 := by omega
    clear h hl hln hlc q1
    go_enter Try.func44, Try.ntmps44
    go_wp2_with fail
    exact bodyPost_ret (v := .tuple #[.agg #[.int .i64 0, .int .i64 0], .agg #[.int .i64 0, .int .i64 0], .int .i64 5]) (by simp [results, Try.results44, go_sem]) rfl ⟨by rw [HT.out]; rfl, HZ.out⟩
  · obtain ⟨m, hm⟩ : ∃ m, len = m + 32 := ⟨len - 32, by omega⟩
    obtain ⟨P, hP⟩ : ∃ P, len = P + 8 := ⟨len - 8, by omega⟩
    have hs8 := h.from P (by omega)
    have hcf := fun w => run_from w ao len cap P (by omega) hlc
    have hst := fun wx (hb : Below w.heap.size w wx) => str_l ((hs8).later hb)
    have hmag := str_mag hs8.2.1
    have hd8 : xs.drop (xs.length - 8) = xs.drop P := by rw [hln, show len - 8 = P by omega]
    have HST : Hid (∀ wx, Below w.heap.size w wx → (convert 25 9 (.slice (cutA ao cap P) (len - P) (cap - P))).run Try.prog wx = .ok (.string (strOfNums (xs.drop P))) wx) := hst
    generalize cutA ao cap P = a8 at hcf HST
    generalize len - P = n8 at hcf HST
    generalize cap - P = c8 at hcf HST
    have hst0 := HST.out _ HZ.out
    have e1 : (len : Int) - 8 = (P : Int) := by omega
    have e2 : (len : Int) - 32 = (m : Int) := by omega
    have e3 : wrap64 ((len : Int) - 8) = (P : Int) := by unfold wrap64; omega
    have e4 : wrap64 ((len : Int) - 32) = (m : Int) := by unfold wrap64; omega
    have e5 : IntKind.i64.wrap ((len : Int) - 8) = (P : Int) := by rw [IntKind.wrap_i64]; omega
    have e6 : IntKind.i64.wrap ((len : Int) - 32) = (m : Int) := by rw [IntKind.wrap_i64]; omega
    have hm62 : m ≤ 2 ^ 60 := by omega
    have hP62 : P ≤ 2 ^ 60 := by omega
    by_cases q2 : xs.drop P = magT
    · rw [decide_eq_true q2] at hmag
      have HS := hid (And.intro h hl)
      obtain ⟨W2, hW2⟩ : ∃ W, (w.alloc (.cells #[.int .i64 0, .int .i64 0] 74)).alloc (.cells #[.int .i64 0, .int .i64 0] 74) = W := ⟨_, rfl⟩
      have hsz2 : W2.heap.size = w.heap.size + 1 + 1 := by rw [← hW2]; simp
      have T2 : TFt w W2 (.int .i64 0) (.int .i64 0) (.int .i64 0) (.int .i64 0) := by rw [← hW2]; exact tft_begin w
      have bA : Below W2.heap.size W2 (W2.alloc (.cells #[.int .i64 (m : Int), .int .i64 ((20 : Nat) : Int)] 74)) := (Below.refl _ _).alloc (Nat.le_refl _) _
      have TA := T2.later bA
      obtain ⟨C, hC⟩ : ∃ C : Int, C = if [(m, 20)].all (okS xs) = true then 0 else 4 := ⟨_, rfl⟩
      have hcs := csum_t (h.later TA.bel) hl (spn_one W2 m 20) (by omega) (fun s hs => by rw [List.mem_singleton.1 hs]; show m + 20 + 4 ≤ len; omega) hC
      rw [show ((20 : Nat) : Int) = 20 from rfl] at hcs TA
      have hall : [(m, 20)].all (okS xs) = okS xs (m, 20) := by simp
      rw [hall] at hC
      have hm32 : xs.length - 32 = m := by omega
      have HTA := hid TA
      rw [hW2] at hst0
      cases q3 : okS xs (m, 20) with
      | false =>
        have HT : Hid (ftE xs = (4, (0, 0), (0, 0))) := by show _ = _; unfold ftE; rw [if_neg (by omega), if_neg (by rw [hd8]; exact not_not_intro q2), hm32, if_pos q3]
        rw [q3, if_neg (by decide)] at hC
        subst hC
        clear h hl hln hlc q1 hs8 hst hd8 q2 HST hm hP T2 bA TA hall q3 hm32 hsz2
        generalize strOfNums (xs.drop P) = D at hst0 hmag
        go_enter Try.func44, Try.ntmps44
        go_wp2_with (go_at_call 45; refine hcs.mono ?_; rintro e w1 ⟨rfl, b1⟩; have T1 := HTA.out.later b1; obtain ⟨y0, y1, y2, y3, f0, f1, f2, f3⟩ := T1.facts)
        have TF := (T1.set0 (.int .i64 0) (.int .i64 0)).set1 (.int .i64 0) (.int .i64 0)
        obtain ⟨z0, z1, z2, z3, -, -, -, -⟩ := TF.facts
        have HB := hid TF.bel
        unfold lay2 at z0 z1 z2 z3 HB
        exact bodyPost_ret (v := .tuple #[.agg #[.int .i64 0, .int .i64 0], .agg #[.int .i64 0, .int .i64 0], .int .i64 4]) (by simp [results, Try.results44, go_sem, z0, z1, z2, z3]) rfl ⟨by rw [HT.out]; rfl, HB.out⟩
      | true =>
        rw [q3, if_pos rfl] at hC
        subst hC
        have HFT : Hid (∀ o1 o2, o1 = spO (wd xs m) (wd xs (m + 4)) m → o2 = spO (wd xs (m + 8)) (wd xs (m + 12)) m → ftE xs = match o1, o2 with | some i, some f => (0, i, f) | _, _ => (3, (0, 0), (0, 0))) := fun o1 o2 h1 h2 => by
          unfold ftE
          rw [if_neg (by omega), if_neg (by rw [hd8]; exact not_not_intro q2), hm32, if_neg (by rw [q3]; decide), show xs.length - 28 = m + 4 by omega, show xs.length - 24 = m + 8 by omega, show xs.length - 20 = m + 12 by omega, ← h1, ← h2]
          rfl
        have HW : Hid (∀ (i : Nat), i ≤ m + 12 → ∀ wx, Below w.heap.size w wx → Calls Try.prog 74 #[.slice ao len cap, .int .i64 (i : Int)] wx fun e w' => e = .returned (.int .u64 ((wd xs i : Nat) : Int)) ∧ w' = wx) := fun i hi wx hb => word_t (h.later hb) (by omega) (by omega)
        have HWL : Hid (∀ i, i ≤ m + 12 → wd xs i < 18446744073709551616) := fun i hi => by
          have := fv4_lt (xs := xs.drop i) (fun x hx => h.2.1 x (List.mem_of_mem_drop hx)) (by rw [List.length_drop]; omega)
          unfold wd
          omega
        have HSP : Hid (∀ i j, i ≤ m + 12 → j ≤ m + 12 → ∀ wx, Calls Try.prog 73 #[.int .u64 ((wd xs i : Nat) : Int), .int .u64 ((wd xs j : Nat) : Int), .int .i64 (m : Int)] wx fun e w' => e = .returned (spR (spO (wd xs i) (wd xs j) m)) ∧ Below wx.heap.size wx w') := fun i j hi hj wx => spw_t (HWL.out i hi) (HWL.out j hj) (by omega)
        obtain ⟨A, f1, hA, hA1, hA2⟩ := spR_is (spO (wd xs m) (wd xs (m + 4)) m)
        obtain ⟨B, f2, hB, hB1, hB2⟩ := spR_is (spO (wd xs (m + 8)) (wd xs (m + 12)) m)
        have s1 := fun wx => HSP.out m (m + 4) (by omega) (by omega) wx
        have s2 := fun wx => HSP.out (m + 8) (m + 12) (by omega) (by omega) wx
        rw [hA] at s1
        rw [hB] at s2
        have HT := hid (HFT.out _ _ rfl rfl)
        have HAB : Hid ((f1 = true → spO (wd xs m) (wd xs (m + 4)) m = some A) ∧ (f1 = false → spO (wd xs m) (wd xs (m + 4)) m = none) ∧ (f2 = true → spO (wd xs (m + 8)) (wd xs (m + 12)) m = some B) ∧ (f2 = false → spO (wd xs (m + 8)) (wd xs (m + 12)) m = none)) := ⟨hA1, hA2, hB1, hB2⟩
        have k0 := fun wx hb => HW.out m (by omega) wx hb
        have k1 := fun wx hb => HW.out (m + 4) (by omega) wx hb
        have k2 := fun wx hb => HW.out (m + 8) (by omega) wx hb
        have k3 := fun wx hb => HW.out (m + 12) (by omega) wx hb
        rw [show ((m + 4 : Nat) : Int) = (m : Int) + 4 by omega] at k1
        rw [show ((m + 8 : Nat) : Int) = (m : Int) + 8 by omega] at k2
        rw [show ((m + 12 : Nat) : Int) = (m : Int) + 12 by omega] at k3
        generalize spO (wd xs m) (wd xs (m + 4)) m = o1 at HT HAB
        generalize spO (wd xs (m + 8)) (wd xs (m + 12)) m = o2 at HT HAB
        generalize wd xs m = V0 at k0 s1
        generalize wd xs (m + 4) = V1 at k1 s1
        generalize wd xs (m + 8) = V2 at k2 s2
        generalize wd xs (m + 12) = V3 at k3 s2
        obtain ⟨A0, A1⟩ := A
        obtain ⟨B0, B1⟩ := B
        simp only at s1 s2
        have K0 := hid k0
        have K1 := hid k1
        have K2 := hid k2
        have K3 := hid k3
        have S1 := hid s1
        have S2 := hid s2
        clear h hl hln hlc q1 hs8 hst hd8 q2 HST hm hP T2 bA TA hall q3 hm32 hsz2 HFT HW HWL HSP hA hA1 hA2 hB hB1 hB2 k0 k1 k2 k3 s1 s2 HS
        generalize strOfNums (xs.drop P) = D at hst0 hmag
        go_enter Try.func44, Try.ntmps44
        go_upto_region 9 with (go_at_call 45; refine hcs.mono ?_; rintro e w1 ⟨rfl, b1⟩)
        have T1 := hid (HTA.out.later b1)
        clear b1 hcs hst0 hmag
        have k0 := K0.out _ T1.out.bel
        have k1 := K1.out _ T1.out.bel
        have s1 := S1.out w1
        go_upto_region 10 with (first | (go_at_call 74; refine k0.mono ?_; clear k0; rintro e w' ⟨rfl, hw⟩; obtain rfl := hw.symm) | (go_at_call 74; refine k1.mono ?_; clear k1; rintro e w' ⟨rfl, hw⟩; obtain rfl := hw.symm) | (go_at_call 73; refine s1.mono ?_; clear s1; rintro e w3 ⟨rfl, b3⟩; have T3 := T1.out.later b3; obtain ⟨y0, y1, y2, y3, f0, f1', f2', f3⟩ := T3.facts))
        have T4 := hid (T3.set0 (.int .i64 (A0 : Int)) (.int .i64 (A1 : Int)))
        unfold lay2 at T4
        generalize (w3.setCell ⟨w.heap.size, 0, none⟩ (.int .i64 (A0 : Int))).setCell ⟨w.heap.size, 1, none⟩ (.int .i64 (A1 : Int)) = w4 at T4 ⊢
        clear y0 y1 y2 y3 f0 f1' f2' f3 T3 b3 T1
        have k2 := K2.out _ T4.out.bel
        have k3 := K3.out _ T4.out.bel
        have s2 := S2.out w4
        go_upto_region 11 with (first | (go_at_call 74; refine k2.mono ?_; clear k2; rintro e w' ⟨rfl, hw⟩; obtain rfl := hw.symm) | (go_at_call 74; refine k3.mono ?_; clear k3; rintro e w' ⟨rfl, hw⟩; obtain rfl := hw.symm) | (go_at_call 73; refine s2.mono ?_; clear s2; rintro e w5 ⟨rfl, b5⟩; have T5 := T4.out.later b5; obtain ⟨y0, y1, y2, y3, f0, f1', f2', f3⟩ := T5.facts))
        have T6 := hid (T5.set1 (.int .i64 (B0 : Int)) (.int .i64 (B1 : Int)))
        unfold lay2 at T6
        generalize (w5.setCell ⟨w.heap.size + 1, 0, none⟩ (.int .i64 (B0 : Int))).setCell ⟨w.heap.size + 1, 1, none⟩ (.int .i64 (B1 : Int)) = w6 at T6 ⊢
        clear y0 y1 y2 y3 f0 f1' f2' f3 T5 b5 T4 K0 K1 K2 K3 S1 S2
        obtain ⟨y0, y1, y2, y3, f0, f1', f2', f3⟩ := T6.out.facts
        have TF := (T6.out.set0 (.int .i64 0) (.int .i64 0)).set1 (.int .i64 0) (.int .i64 0)
        obtain ⟨z0, z1, z2, z3, -, -, -, -⟩ := TF.facts
        have HB := hid TF.bel
        have HFZ := hid (And.intro z0 (And.intro z1 (And.intro z2 z3)))
        unfold lay2 at HFZ HB
        clear TF z0 z1 z2 z3
        cases f1 with
        | false =>
          have HV : Hid (ftE xs = (3, (0, 0), (0, 0))) := by
            have := HT.out
            rw [HAB.out.2.1 rfl] at this
            exact this
          clear HT HAB
          go_wp2_with fail
          obtain ⟨z0, z1, z2, z3⟩ := HFZ.out
          exact bodyPost_ret (v := .tuple #[.agg #[.int .i64 0, .int .i64 0], .agg #[.int .i64 0, .int .i64 0], .int .i64 3]) (by simp [results, Try.results44, go_sem, z0, z1, z2, z3]) rfl ⟨by rw [HV.out]; rfl, HB.out⟩
        | true =>
          cases f2 with
          | false =>
            have HV : Hid (ftE xs = (3, (0, 0), (0, 0))) := by
              have := HT.out
              rw [HAB.out.1 rfl, HAB.out.2.2.2 rfl] at this
              exact this
            clear HT HAB
            go_wp2_with fail
            obtain ⟨z0, z1, z2, z3⟩ := HFZ.out
            exact bodyPost_ret (v := .tuple #[.agg #[.int .i64 0, .int .i64 0], .agg #[.int .i64 0, .int .i64 0], .int .i64 3]) (by simp [results, Try.results44, go_sem, z0, z1, z2, z3]) rfl ⟨by rw [HV.out]; rfl, HB.out⟩
          | true =>
            have HV : Hid (ftE xs = (0, (A0, A1), (B0, B1))) := by
              have := HT.out
              rw [HAB.out.1 rfl, HAB.out.2.2.1 rfl] at this
              exact this
            clear HT HAB HFZ HB
            go_upto_region 13 with fail
            go_region
            all_goals go_wp2_with fail
            all_goals
              have TF := ((T6.out.set0 (.int .i64 (A0 : Int)) (.int .i64 (A1 : Int))).set1 (.int .i64 (B0 : Int)) (.int .i64 (B1 : Int))).later (Below.refl _ _).drew
              obtain ⟨z0, z1, z2, z3, -, -, -, -⟩ := TF.facts
              have HB := hid TF.bel
              unfold lay2 at z0 z1 z2 z3 HB
              exact bodyPost_ret (v := .tuple #[.agg #[.int .i64 (A0 : Int), .int .i64 (A1 : Int)], .agg #[.int .i64 (B0 : Int), .int .i64 (B1 : Int)], .int .i64 0]) (by simp [results, Try.results44, go_sem, z0, z1, z2, z3]) rfl ⟨by rw [HV.out]; rfl, HB.out⟩
    · rw [decide_eq_false q2] at hmag
      have HT : Hid (ftE xs = (3, (0, 0), (0, 0))) := by show _ = _; unfold ftE; rw [if_neg (by omega), if_pos (by rw [hd8]; exact q2)]
      clear h hl hln hlc q1 hs8 hst hd8 q2 HST hm hP
      generalize strOfNums (xs.drop P) = D at hst0 hmag
      go_enter Try.func44, Try.ntmps44
      go_wp2_with fail
      exact bodyPost_ret (v := .tuple #[.agg #[.int .i64 0, .int .i64 0], .agg #[.int .i64 0, .int .i64 0], .int .i64 3]) (by simp [results, Try.results44, go_sem]) rfl ⟨by rw [HT.out]; rfl, HZ.out⟩
end Go.Proofs.Ytimpaindbbjieaa
