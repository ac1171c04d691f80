import Derived.Deep.QuietTactic
import Derived.BigQuiet
import Derived.Test.YtimpaindbbjieabPk03
import Derived.Test.YtimpaindbbjieabPk12
import Derived.Test.YtimpaindbbjieabPk15
/- bytes.Clone. -/
namespace Go.Proofs.Ytimpaindbbjieab
open Go.RowKit
set_option linter.unusedVariables false
set_option linter.unusedSimpArgs false

theorem wpList_applN {w : World} {ops : Array Oper} {rest : List Oper} {o : Oper} {a : Act} {Q : Exit → Act → World → Prop} {B : Nat} {v : Value} {xs ys : List Int} {ao : Option Addr} {m c : Nat} (hgd : o.guard = none) (s x : Operand)
    (ho : o.op = .call { callee := .builtin .append, args := #[s, x], argTypes := #[24, 24] }) (hs : a.eval s = v) (hrow : Row B w v xs) (hx : a.eval x = .slice ao m c) (hsl : Sl w ao m c ys) (hb : xs.length + m ≤ 140737488355328) (hB : B ≤ w.heap.size)
    (h : ∀ v' w', Row B w' v' (xs ++ ys) → w.grownBy w' v.ownBlock → Moved w v v' → wpList Try.prog ops Q rest (a.put o.dst v') w') : wpList Try.prog ops Q (o :: rest) a w :=
  wpList_plain hgd fun K hK => by
    obtain ⟨v', w', hr, h2, h3, h4⟩ := run_app B w o.type v xs hrow ao m c (xof ys) hsl.2.2.1 hsl.2.2.2.2.2 hb hB
    rw [← hsl.1, bs_xof hsl.2.1] at h2
    unfold Oper.wp execOp
    simp only [ho, resolve, invoke, builtin, Sem.run_bind, Sem.run_pure, Result.andThen_ok, List.map_toArray, List.map_cons, List.map_nil, hs, hx, hr]
    exact hK _ _ (h v' w' h2 h3 h4)
set_option maxHeartbeats 1000000 in
set_option maxRecDepth 100000 in
theorem clone_n {w : World} {ao : Option Addr} {len cap : Nat} {xs : List Int} (h : Sl w ao len cap xs) (hl : len ≤ 140737488355328) :
    Calls Try.prog 39 #[.slice ao len cap] w fun e w' => ∃ v, e = .returned v ∧ Row w.heap.size w' v xs ∧ Below w.heap.size w w' := by
  have q22 : ∀ (w : World) (a : Option Addr) (n c n' c' : Nat), (binOp .eql 24 (.slice a n c) (.slice none n' c')).run Try.prog w = .ok (.bool a.isNone) w := fun w a n c n' c' => Lib.run_eql_slice_nil w _ _ a n c n' c' Try.underlying24
  cases ao with
  | none =>
    obtain ⟨rfl, rfl⟩ := h.2.2.1 rfl
    have hx : xs = [] := List.eq_nil_of_length_eq_zero h.1
    subst hx
    clear h hl
    go_enter Try.func39, Try.ntmps39
    go_wp2_with fail
    exact bodyPost_ret (v := .slice none 0 0) (by simp [results, Try.results39, go_sem]) rfl ⟨_, rfl, Row.nil _ _, Below.refl _ _⟩
  | some a =>
    have b1 : Below w.heap.size w (w.alloc (.cells #[] 5)) := (Below.refl _ _).alloc (Nat.le_refl _) _
    have HS : Hid (Sl (w.alloc (.cells #[] 5)) (some a) len cap xs ∧ len ≤ 140737488355328 ∧ Below w.heap.size w (w.alloc (.cells #[] 5)) ∧ Row w.heap.size (w.alloc (.cells #[] 5)) (.slice (some ⟨w.heap.size, 0, none⟩) 0 0) []) := ⟨h.later b1, hl, b1, World.ownsRow_made w #[] 0 (Nat.le_refl _) (Nat.zero_le _) rfl⟩
    clear h hl b1
    go_enter Try.func39, Try.ntmps39
    go_wp2_with (at_builtin; refine wpList_applN (B := w.heap.size) rfl (.tmp 5) (.tmp 6) rfl rfl HS.out.2.2.2 rfl HS.out.1 (by have := HS.out.2.1; simp; omega) HS.out.2.2.1.size ?_; intro v2 w2 r2 g2 m2)
    exact bodyPost_ret (v := v2) (by simp [results, Try.results39, go_sem]) rfl ⟨v2, rfl, r2, HS.out.2.2.1.trans (grown_below HS.out.2.2.2 g2 HS.out.2.2.1.size)⟩

end Go.Proofs.Ytimpaindbbjieab

/- The document's own Block: what it gives. -/
namespace Go.Proofs.Ytimpaindbbjieab
open Go.RowKit
set_option linter.unusedVariables false
set_option linter.unusedSimpArgs false

theorem fxs4b (n : Nat) : fxs n 4 = fx n 4 := by unfold fxs; rw [if_pos (by unfold InSize; decide)]; rfl
theorem below_gb {w0 w w' : World} {v : Value} {xs : List Int} (hr : Row w0.heap.size w v xs) (h : Below w0.heap.size w0 w) (hg : w.grownBy w' v.ownBlock) : Below w0.heap.size w0 w' := by
  refine ⟨hg.os.trans h.os, hg.tape.trans h.tape, hg.output.trans h.output, Nat.le_trans h.size hg.size, fun k hk => ?_⟩
  have h1 := h.size
  rw [hg.block k (by omega) (fun e => by have := (World.ownsRow.lt hr _ e.symm).1; omega)]
  exact h.block k hk
end Go.Proofs.Ytimpaindbbjieab

/- The document's own TakeBatch: bytes as a batch. -/
namespace Go.Proofs.Ytimpaindbbjieab
open Go.RowKit
set_option linter.unusedVariables false
set_option linter.unusedSimpArgs false

/-- The places: the answer's, the reader's, the batch's; all ahead of B, behind what was there. -/
structure Pl (w0 : World) (R p q B : Nat) : Prop where
  hR : w0.heap.size ≤ R
  hp : R < p
  hq : p < q
  hB : q < B
/-- Bytes behind ob. -/
def Sb (ob : Nat) (w : World) (a : Option Addr) (c : Nat) (xs : List Int) : Prop := Sl w a xs.length c xs ∧ ∀ b, Refs (.slice a xs.length c) b → ob < b
theorem Sb.grown {ob r : Nat} {w w' : World} {a : Option Addr} {c : Nat} {xs : List Int} (h : Sb ob w a c xs) (hg : w.grownBy w' (some r)) (hr : r ≤ ob) : Sb ob w' a c xs :=
  ⟨h.1.keep fun b hb => hg.block b (h.1.lt hb) (fun e => by simp only [Option.some.injEq] at e; have := h.2 b hb; omega), h.2⟩
theorem Sb.nil (ob : Nat) (w : World) : Sb ob w none 0 [] := ⟨Sl.nil w, fun b hr => by obtain ⟨_, _, _, e, h0⟩ := hr; cases e⟩
theorem sb_row {ob : Nat} {w w' : World} {v : Value} {xs : List Int} (h : Row w.heap.size w' v xs) (hob : ob < w.heap.size) (hok : Okb xs) : ∃ a c, v = .slice a xs.length c ∧ Sb ob w' a c xs := by
  obtain ⟨a, c, e, hs⟩ := Sl.ofRow h hok
  subst e
  refine ⟨a, c, rfl, hs, fun b hr => ?_⟩
  obtain ⟨off, l, c', e, h0⟩ := hr
  simp only [Value.slice.injEq] at e
  obtain ⟨rfl, rfl, rfl⟩ := e
  have := (World.ownsRow.lt h b rfl).1
  omega
theorem deOs_step {n : Nat} {st : Rd} {T : List OpV × Rd} {acc : List OpV} (h : T = (acc ++ (deOs (n + 1) st).1, (deOs (n + 1) st).2)) :
    ((deO st).2.2 ≠ 0 → T = (acc ++ [(deO st).1], (deO st).2)) ∧ ((deO st).2.2 = 0 → T = (acc ++ [(deO st).1] ++ (deOs n (deO st).2).1, (deOs n (deO st).2).2)) := by
  rw [deOs] at h
  constructor
  · intro q
    rw [if_pos q] at h
    exact h
  · intro q
    rw [if_neg (by simpa using q)] at h
    rw [h]
    simp
end Go.Proofs.Ytimpaindbbjieab
