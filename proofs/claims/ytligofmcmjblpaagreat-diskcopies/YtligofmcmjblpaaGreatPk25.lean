import Derived.LaidEql
import Derived.Test.YtligofmcmjblpaaGreatPk24
/- The landed disk: a map from files to their twins. -/
namespace Go.Proofs.YtligofmcmjblpaaGreat
open Go.RowKit Go.Maps
set_option linter.unusedVariables false
set_option linter.unusedSimpArgs false

def twL : List (Nat × Nat) → Nat → Option Nat
  | [], _ => none
  | x :: r, a => if a = x.1 then some x.2 else twL r a
theorem twL_snoc (tw : List (Nat × Nat)) (a b c : Nat) : twL (tw ++ [(a, b)]) c = match twL tw c with | some d => some d | none => if c = a then some b else none := by
  induction tw with
  | nil => rfl
  | cons x r ih =>
    simp only [List.cons_append, twL, ih]
    split <;> rfl
/-- The map of the twins, entry by entry. -/
def TwM (w : World) (tb : Nat) (tw : List (Nat × Nat)) : Prop := ∃ es clock, w.heap[tb]? = some (.map es clock) ∧ es.toList.map (fun e => (e.key, e.val)) = tw.map fun x => (ptr x.1, ptr x.2)
/-- Cells that are not a constant's. -/
def FB (w : World) (a : Nat) : Prop := ∃ c t, w.heap[a]? = some (.cells c t (0, 0))
theorem sizeFL (w : World) : (sizeOf 72).run Tryz.prog w = .ok 2 w := by kernel_rfl
theorem eq_same (w : World) (a : Nat) : (Op.equal 68 (ptr a) (ptr a)).run Tryz.prog w = .ok true w := by
  have h : ∀ d, (Op.equalIn (d + 1) 68 (.pointer (some ⟨a, 0, none⟩)) (.pointer (some ⟨a, 0, none⟩))).run Tryz.prog w = .ok true w := fun d => by
    simp [Op.equalIn, run_underlying Tryz.underlying68, sizeFL, run_sameAddr_same, Result.andThen]
  exact h 9999
theorem eq_other (w : World) (a b : Nat) (hne : a ≠ b) (ha : FB w a) (hb : FB w b) : (Op.equal 68 (ptr a) (ptr b)).run Tryz.prog w = .ok false w := by
  obtain ⟨ca, ta, ha⟩ := ha
  obtain ⟨cb, tb, hb⟩ := hb
  have hs := run_sameAddr_other (P := Tryz.prog) w (a := ⟨a, 0, none⟩) (b := ⟨b, 0, none⟩) (by simp [hne]) ha hb
  have h : ∀ d, (Op.equalIn (d + 1) 68 (.pointer (some ⟨a, 0, none⟩)) (.pointer (some ⟨b, 0, none⟩))).run Tryz.prog w = .ok false w := fun d => by
    simp [Op.equalIn, run_underlying Tryz.underlying68, sizeFL, hs, Result.andThen]
  exact h 9999
theorem eq_nil (w : World) (b : Nat) : (Op.equal 68 (.pointer none) (ptr b)).run Tryz.prog w = .ok false w := by
  have h : ∀ d, (Op.equalIn (d + 1) 68 (.pointer none) (.pointer (some ⟨b, 0, none⟩))).run Tryz.prog w = .ok false w := fun d => by
    simp [Op.equalIn, run_underlying Tryz.underlying68, Result.andThen]
  exact h 9999
theorem ask_run (w : World) (a : Nat) (ha : FB w a) : ∀ (es : List MapEntry) (tw : List (Nat × Nat)) (i : Nat), es.map (fun e => (e.key, e.val)) = tw.map (fun x => (ptr x.1, ptr x.2)) → (∀ x ∈ tw, FB w x.1) →
    ∃ o, (Instr.findAsking 68 (ptr a) es i).run Tryz.prog w = .ok o w ∧ o.map (·.2) = (twL tw a).map ptr
  | [], [], i, _, _ => ⟨none, rfl, rfl⟩
  | [], x :: r, i, h, _ => by cases h
  | e :: r, [], i, h, _ => by cases h
  | e :: r, x :: q, i, h, hf => by
    simp only [List.map_cons, List.cons.injEq, Prod.mk.injEq] at h
    obtain ⟨⟨h1, h2⟩, h3⟩ := h
    rw [Instr.findAsking, h1, h2]
    by_cases hq : a = x.1
    · subst hq
      refine ⟨some (i, ptr x.2), ?_, ?_⟩
      · simp [eq_same, Result.andThen]
      · simp [twL]
    · obtain ⟨o, ho, ho2⟩ := ask_run w a ha r q (i + 1) h3 fun y hy => hf y (by simp [hy])
      refine ⟨o, ?_, ?_⟩
      · simp [eq_other w a x.1 hq ha (hf x (by simp)), Result.andThen, ho]
      · simp only [twL, if_neg hq]
        exact ho2
theorem ask_nil (w : World) : ∀ (es : List MapEntry) (tw : List (Nat × Nat)) (i : Nat), es.map (fun e => (e.key, e.val)) = tw.map (fun x => (ptr x.1, ptr x.2)) → (Instr.findAsking 68 (.pointer none) es i).run Tryz.prog w = .ok none w
  | [], _, _, _ => rfl
  | e :: r, [], i, h => by cases h
  | e :: r, x :: q, i, h => by
    simp only [List.map_cons, List.cons.injEq, Prod.mk.injEq] at h
    obtain ⟨⟨h1, h2⟩, h3⟩ := h
    rw [Instr.findAsking, h1]
    simp [eq_nil, Result.andThen, ask_nil w r q (i + 1) h3]
theorem now_none (k : Value) (hk : ∃ o, k = .pointer o) (t : TypeId) (es : List MapEntry) (i : Nat) : Instr.findNow (.pointer t) k es i = none ∨ (es = [] ∧ Instr.findNow (.pointer t) k es i = some none) := by
  obtain ⟨o, rfl⟩ := hk
  cases es with
  | nil => exact .inr ⟨rfl, rfl⟩
  | cons e r => exact .inl (by simp [Instr.findNow, Instr.sameNow])
theorem key_run (w : World) (a : Nat) (ha : FB w a) (es : List MapEntry) (tw : List (Nat × Nat)) (h : es.map (fun e => (e.key, e.val)) = tw.map (fun x => (ptr x.1, ptr x.2))) (hf : ∀ x ∈ tw, FB w x.1) :
    ∃ o, (Instr.findKey 68 (ptr a) es).run Tryz.prog w = .ok o w ∧ o.map (·.2) = (twL tw a).map ptr := by
  rcases now_none (ptr a) ⟨_, rfl⟩ 72 es 0 with hn | ⟨rfl, hn⟩
  · obtain ⟨o, h1, h2⟩ := ask_run w a ha es tw 0 h hf
    exact ⟨o, by simp [Instr.findKey, run_underlying Tryz.underlying68, hn, Result.andThen, h1], h2⟩
  · cases tw with
    | nil => exact ⟨none, by simp [Instr.findKey, run_underlying Tryz.underlying68, hn, Result.andThen], rfl⟩
    | cons x r => cases h
theorem key_nil (w : World) (es : List MapEntry) (tw : List (Nat × Nat)) (h : es.map (fun e => (e.key, e.val)) = tw.map (fun x => (ptr x.1, ptr x.2))) :
    (Instr.findKey 68 (.pointer none) es).run Tryz.prog w = .ok none w := by
  rcases now_none (.pointer none) ⟨_, rfl⟩ 72 es 0 with hn | ⟨rfl, hn⟩
  · simp [Instr.findKey, run_underlying Tryz.underlying68, hn, Result.andThen, ask_nil w es tw 0 h]
  · simp [Instr.findKey, run_underlying Tryz.underlying68, hn, Result.andThen]
theorem check_ptr (w : World) (o : Option Addr) (e : Bool) : (Instr.checkKey e 10000 68 (.pointer o)).run Tryz.prog w = .ok () w := by
  have h : ∀ d, (Instr.checkKey e (d + 1) 68 (.pointer o)).run Tryz.prog w = .ok () w := fun d => by
    simp [Instr.checkKey, run_underlying Tryz.underlying68, Result.andThen]
  exact h 9999
theorem TwM.look {w : World} {tb : Nat} {tw : List (Nat × Nat)} (h : TwM w tb tw) (hf : ∀ x ∈ tw, FB w x.1) {a : Nat} (ha : FB w a) :
    (Instr.lookup 103 (.map (some tb)) (ptr a) false).run Tryz.prog w = .ok (pv id (twL tw a)) w := by
  obtain ⟨es, clock, hb, he⟩ := h
  obtain ⟨o, h1, h2⟩ := key_run w a ha es.toList tw he hf
  cases hl : twL tw a with
  | none =>
    rw [hl] at h2
    cases o with
    | some x => cases h2
    | none =>
      unfold ptr at *
      simp [Instr.lookup, run_underlying Tryz.underlying103, MapKept.run_getObj_map hb, check_ptr, h1, zeroL, Result.andThen, pv]
  | some c =>
    rw [hl] at h2
    cases o with
    | none => cases h2
    | some x =>
      simp only [Option.map_some, Option.some.injEq] at h2
      obtain ⟨x1, x2⟩ := x
      simp only at h2
      subst h2
      unfold ptr at *
      simp [Instr.lookup, run_underlying Tryz.underlying103, MapKept.run_getObj_map hb, check_ptr, h1, Result.andThen, pv, ptr]
theorem TwM.lookNil {w : World} {tb : Nat} {tw : List (Nat × Nat)} (h : TwM w tb tw) : (Instr.lookup 103 (.map (some tb)) (.pointer none) false).run Tryz.prog w = .ok (.pointer none) w := by
  obtain ⟨es, clock, hb, he⟩ := h
  simp [Instr.lookup, run_underlying Tryz.underlying103, MapKept.run_getObj_map hb, check_ptr, key_nil w es.toList tw he, zeroL, Result.andThen]
theorem TwM.put {w : World} {tb : Nat} {tw : List (Nat × Nat)} (h : TwM w tb tw) (hf : ∀ x ∈ tw, FB w x.1) {a : Nat} (ha : FB w a) (hn : twL tw a = none) (b : Nat) :
    ∃ w', (Instr.mapUpdate 103 (.map (some tb)) (ptr a) (ptr b)).run Tryz.prog w = .ok () w' ∧ TwM w' tb (tw ++ [(a, b)]) ∧ w.grownBy w' (some tb) := by
  obtain ⟨es, clock, hb, he⟩ := h
  obtain ⟨o, h1, h2⟩ := key_run w a ha es.toList tw he hf
  rw [hn] at h2
  cases o with
  | some x => cases h2
  | none =>
    refine ⟨{ w with heap := w.heap.setIfInBounds tb (.map (es.push { key := ptr a, val := ptr b, born := clock }) (clock + 1)) }, ?_, ⟨_, _, (MapKept.heap_set hb).1, by simp [he]⟩, ⟨rfl, rfl, rfl, by simp, fun k hk hne => (MapKept.heap_set hb).2 k fun e => hne (by rw [e])⟩⟩
    unfold ptr at *
    simp [Instr.mapUpdate, run_underlying Tryz.underlying103, MapKept.run_getObj_map hb, check_ptr, h1, MapKept.run_setObj_map _ hb, Result.andThen]
theorem TwM.same {w w' : World} {tb : Nat} {tw : List (Nat × Nat)} (h : TwM w tb tw) (hs : w'.heap[tb]? = w.heap[tb]?) : TwM w' tb tw := by
  obtain ⟨es, clock, hb, he⟩ := h
  exact ⟨es, clock, hs.trans hb, he⟩
theorem TwM.ne {w : World} {tb g : Nat} {tw : List (Nat × Nat)} {t : TypeId} (h : TwM w tb tw) (k : TyOf w g t) : tb ≠ g := fun e => by
  obtain ⟨es, clock, hb, he⟩ := h
  obtain ⟨c, f, hc⟩ := k
  rw [e, hc] at hb
  cases hb
theorem wpList_putT {w : World} {ops : Array Oper} {rest : List Oper} {o : Oper} {a : Act} {Q : Exit → Act → World → Prop} (hg : o.guard = none) (m x v : Operand) (hop : o.op = Op.mapUpdate 103 m x v)
    (tb : Nat) (tw : List (Nat × Nat)) (hm : a.eval m = .map (some tb)) (h : TwM w tb tw) (hf : ∀ x ∈ tw, FB w x.1) (k : Nat) (hk : FB w k) (hx : a.eval x = ptr k) (hn : twL tw k = none) (b : Nat) (hv : a.eval v = ptr b)
    (hK : ∀ w', TwM w' tb (tw ++ [(k, b)]) → w.grownBy w' (some tb) → wpList Tryz.prog ops Q rest (a.put o.dst undef) w') : wpList Tryz.prog ops Q (o :: rest) a w := by
  refine wpList_plain hg fun K' hK' => ?_
  obtain ⟨w', hrun, r1, r2⟩ := h.put hf hk hn b
  unfold Oper.wp
  simp [execOp, hop, hm, hx, hv, hrun, Result.andThen]
  exact hK' _ _ (hK w' r1 r2)
end Go.Proofs.YtligofmcmjblpaaGreat
