import Derived.BigQuiet
import Derived.Deep.RegionHeldLaw
import Derived.Test.YtimpaindbbjieabPk04
import Derived.Test.YtimpaindbbjieabPk05
import Derived.Test.YtimpaindbbjieabPk06
import Derived.Test.YtimpaindbbjieabPk07
import Derived.Test.YtimpaindbbjieabPk12
import Derived.Test.YtimpaindbbjieabPk20
import Derived.Test.YtimpaindbbjieabPk21
import Derived.Test.YtimpaindbbjieabPk27
import Derived.Test.YtimpaindbbjieabPk28
import Derived.Test.YtimpaindbbjieabPk35
import Derived.Test.YtimpaindbbjieabPk38
/- What the landed batch takes from bytes: a number, bytes, a kind. -/
namespace Go.Proofs.Ytimpaindbbjieab
open Go.RowKit
set_option linter.unusedVariables false
set_option linter.unusedSimpArgs false

end Go.Proofs.Ytimpaindbbjieab

/- What the landed batch takes from bytes: a change. -/
namespace Go.Proofs.Ytimpaindbbjieab
open Go.RowKit
set_option linter.unusedVariables false
set_option linter.unusedSimpArgs false

/-- The answer is laid. -/
def lay4 (w wx : World) (x0 x1 x2 x3 : Value) : World := (((wx.setCell ⟨w.heap.size, 0, none⟩ x0).setCell ⟨w.heap.size, 1, none⟩ x1).setCell ⟨w.heap.size, 2, none⟩ x2).setCell ⟨w.heap.size, 3, none⟩ x3
theorem lay4_grown (w wx : World) (x0 x1 x2 x3 : Value) : wx.grownBy (lay4 w wx x0 x1 x2 x3) (some w.heap.size) :=
  grown_trans (grown_trans (grown_trans (grown_set _ _ _ _) (grown_set _ _ _ _)) (grown_set _ _ _ _)) (grown_set _ _ _ _)
theorem Sb.later {ob : Nat} {w w' : World} {a : Option Addr} {c : Nat} {xs : List Int} (h : Sb ob w a c xs) (hb : Below w.heap.size w w') : Sb ob w' a c xs := ⟨h.1.later hb, h.2⟩
theorem tb_ok {d : List Int} {most : Nat} (h : Okb d) : Okb (tb d most).2.1 := by
  unfold tb
  split
  · exact fun x hx => by cases hx
  · split
    · exact fun x hx => by cases hx
    · split
      · exact fun x hx => by cases hx
      · exact fun x hx => h x (List.mem_of_mem_drop (List.mem_of_mem_take hx))
theorem rdB_ok {most : Nat} {d key : List Int} {st : Rd} (h : rdB most (d, 0) = (key, st)) (hd : Okb d) : Okb key := by
  have e : (rdB most (d, 0)).1 = key := by rw [h]
  rw [← e]
  unfold rdB
  simp only [ne_eq, not_true_eq_false, if_false]
  split
  · exact fun x hx => by cases hx
  · exact tb_ok hd
theorem rdB_okr {most : Nat} {d key l : List Int} {er : Nat} (h : rdB most (d, 0) = (key, l, er)) (hd : Okb d) : Okb l := by
  have e : (rdB most (d, 0)).2.1 = l := by rw [h]
  rw [← e]
  unfold rdB
  simp only [ne_eq, not_true_eq_false, if_false]
  split
  · exact hd
  · exact fun x hx => hd x (List.mem_of_mem_drop hx)
/-- A change, taken; none where something is wrong. -/
def noOp : OpV := ⟨[], false, 0, []⟩
def tkO (d : List Int) : OpV := if (deO (d, 0)).2.2 ≠ 0 then noOp else (deO (d, 0)).1

end Go.Proofs.Ytimpaindbbjieab

/- What the landed batch's Entries answers. -/
namespace Go.Proofs.Ytimpaindbbjieab
open Go.RowKit
set_option linter.unusedVariables false
set_option linter.unusedSimpArgs false

set_option maxHeartbeats 1000000 in
set_option maxRecDepth 100000 in
theorem clone_l {w : World} {ao : Option Addr} {len cap : Nat} {xs : List Int} (h : Sl w ao len cap xs) (hl : len ≤ 140737488355328) :
    Calls Try.prog 39 #[.slice ao len cap] w fun e w' => ∃ v, e = .returned v ∧ Row w.heap.size w' v xs ∧ Below w.heap.size w w' := by
  have q22 : ∀ (w : World) (a : Option Addr) (n c n' c' : Nat), (binOp .eql 24 (.slice a n c) (.slice none n' c')).run Try.prog w = .ok (.bool a.isNone) w := fun w a n c n' c' => Lib.run_eql_slice_nil w _ _ a n c n' c' Try.underlying24
  cases ao with
  | none =>
    obtain ⟨rfl, rfl⟩ := h.2.2.1 rfl
    have hx : xs = [] := List.eq_nil_of_length_eq_zero h.1
    subst hx
    clear h hl
    go_enter Try.func39, Try.ntmps39
    go_wp2_with fail
    exact bodyPost_ret (v := .slice none 0 0) (by simp [results, Try.results39, go_sem]) rfl ⟨_, rfl, Row.nil _ _, Below.refl _ _⟩
  | some a =>
    have b1 : Below w.heap.size w (w.alloc (.cells #[] 5)) := (Below.refl _ _).alloc (Nat.le_refl _) _
    have HS : Hid (Sl (w.alloc (.cells #[] 5)) (some a) len cap xs ∧ len ≤ 140737488355328 ∧ Below w.heap.size w (w.alloc (.cells #[] 5)) ∧ Row w.heap.size (w.alloc (.cells #[] 5)) (.slice (some ⟨w.heap.size, 0, none⟩) 0 0) []) := ⟨h.later b1, hl, b1, World.ownsRow_made w #[] 0 (Nat.le_refl _) (Nat.zero_le _) rfl⟩
    clear h hl b1
    go_enter Try.func39, Try.ntmps39
    go_wp2_with (at_builtin; refine wpList_appl (B := w.heap.size) rfl (.tmp 5) (.tmp 6) rfl rfl HS.out.2.2.2 rfl HS.out.1 (by have := HS.out.2.1; simp; omega) HS.out.2.2.1.size ?_; intro v2 w2 r2 g2 m2)
    exact bodyPost_ret (v := v2) (by simp [results, Try.results39, go_sem]) rfl ⟨v2, rfl, r2, HS.out.2.2.1.trans (grown_below HS.out.2.2.2 g2 HS.out.2.2.1.size)⟩

/-- An element behind a row of one's own, as a step of a region that draws. -/
theorem step_appS {α : Type} (E : El α) {t : TypeId} {z : Value} {bytes : Nat} (ht : Try.prog.underlying t = some (.slice E.ty)) (hinfo : (Try.prog.info? E.ty).map (fun i => (i.zero, i.size, i.bytes)) = some (some z, E.size, bytes)) (hz1 : z.cells.size = E.size) (hp : 0 < E.size)
    {ops : Array Oper} {w : World} {o : Oper} {a : Act} {K : Act → World → Prop} {Q : Exit → Act → World → Prop} {G : Prop} (hgd : o.guard = none) (s x : Operand)
    (ho : o.op = .call { callee := .builtin .append, args := #[s, x], argTypes := #[t, t] }) {B : Nat} {v : Value} {xs ys : List α} (hs : a.eval s = v) (hrow : RowS E B w v xs) {ao : Option Addr} {m c : Nat} {us : List Value} (hx : a.eval x = .slice ao m c)
    (hr : RSu E w ao m c us ys) (hsep : ∀ u ∈ us, ∀ b, Refs u b → v.ownBlock ≠ some b) (h63 : xs.length + m ≤ 140737488355328) (hb : (xs.length + m) * bytes ≤ 140737488355328) (hbase : B ≤ w.heap.size)
    (h : ∀ v' w', RowS E B w' v' (xs ++ ys) → w.grownBy w' v.ownBlock → Moved w v v' → K (a.put o.dst v') w') :
    if Region.wanted o (yielded ops a.tmps) = true then Oper.wp Try.prog o a w K Q else G := by
  have hw : Region.wanted o (yielded ops a.tmps) = true := by simp [Region.wanted, hgd]
  rw [if_pos hw]
  obtain ⟨v', w', hr, h2, h3, h4⟩ := run_appS E t z bytes ht hinfo hz1 hp o.type hrow hr hsep h63 hb hbase
  unfold Oper.wp execOp
  simp only [ho, resolve, invoke, builtin, Sem.run_bind, Sem.run_pure, Result.andThen_ok, List.map_toArray, List.map_cons, List.map_nil, hs, hx, hr]
  exact h _ _ h2 h3 h4
/-- What the region reads. -/
def Rdz (p ob : Nat) (s : Int) (c0 c1 c2 c3 : Value) (w : World) : Prop := w.cell? ⟨ob, 0, none⟩ = some c0 ∧ w.cell? ⟨ob, 1, none⟩ = some c1 ∧ w.cell? ⟨ob, 2, none⟩ = some c2 ∧ w.cell? ⟨ob, 3, none⟩ = some c3 ∧ w.cell? ⟨p, 0, none⟩ = some (.int .i64 s)
end Go.Proofs.Ytimpaindbbjieab
