/- The same, as it is used: a list of kinds, and one step for each operation. -/
import Derived.Test.YtgfkjbckhgndcaaOwn
namespace Go.Proofs.Ytgfkjbckhgndcaa
open Go.RowKit

def afterB (o : Oper) (j : Nat) : Bool := o.after.toList.any fun e => Region.binds .any e && e.on == j
theorem afterB_spec {o : Oper} {j : Nat} (h : afterB o j = true) : ∃ e ∈ o.after, Region.binds .any e = true ∧ e.on = j := by
  unfold afterB at h
  obtain ⟨e, he, h2⟩ := List.any_eq_true.1 h
  simp only [Bool.and_eq_true, beq_iff_eq] at h2
  exact ⟨e, by simpa using he, h2.1, h2.2⟩
def freeB (ops : Array Oper) (s : Nat) : Bool := (List.range ops.size).all fun i => dstOf ops i != s
theorem freeB_spec {ops : Array Oper} {s : Nat} (h : freeB ops s = true) : ∀ i, i < ops.size → dstOf ops i ≠ s := by
  intro i hi
  unfold freeB at h
  have := List.all_eq_true.1 h i (List.mem_range.2 hi)
  simpa using this
def kOf (ks : List Kind) (i : Nat) : Kind := (ks[i]?).getD (.val undef)
def Kind.used : Kind → Option Nat
  | .val _ => none
  | .own _ u => u
def okKind (B n : Nat) : Kind → Prop
  | .val _ => True
  | .own r u => Keeps B r ∧ ∀ j, u = some j → j < n
def usedB (ops : Array Oper) (ks : List Kind) : Bool := (List.range ks.length).all fun j => match (kOf ks j).used with
  | none => true
  | some i => match ops[i]? with
    | some o => afterB o j
    | none => false

/-- What is known when an operation comes up. -/
structure Ctx (W : World) (A : Act) (ops : Array Oper) (ks : List Kind) (i : Nat) (o : Oper) (a : Act) (w : World) : Prop where
  below : Below W.heap.size W w
  old : ∀ s, freeB ops s = true → a.eval (.tmp s) = A.eval (.tmp s)
  val : ∀ j v, afterB o j = true → kOf ks j = .val v → a.eval (.tmp (dstOf ops j)) = v
  row : ∀ j r u, afterB o j = true → kOf ks j = .own r u → (u = none ∨ u = some i) → r w (a.eval (.tmp (dstOf ops j)))
  want0 : o.guard = none → Region.wanted o (yielded ops a.tmps) = true
  want : ∀ j b, afterB o j = true → o.guard = some (j, b) → kOf ks j = .val (.bool b) → Region.wanted o (yielded ops a.tmps) = true
  skip : ∀ j b c, afterB o j = true → o.guard = some (j, b) → kOf ks j = .val (.bool c) → c ≠ b → Region.wanted o (yielded ops a.tmps) = false

def Step (P : Program) (Q : Exit → Act → World → Prop) (W : World) (A : Act) (ops : Array Oper) (ks : List Kind) (i : Nat) (o : Oper) : Prop :=
  ∀ (a : Act) (w : World), Ctx W A ops ks i o a w →
    (Region.wanted o (yielded ops a.tmps) = true ∧ ∀ Kk : Act → World → Prop, (∀ v w', Out ops (kOf ks) i a w v w' → Kk (a.put o.dst v) w') → o.wp P a w Kk Q) ∨ (Region.wanted o (yielded ops a.tmps) = false ∧ kOf ks i = .val undef)

def Steps (P : Program) (Q : Exit → Act → World → Prop) (W : World) (A : Act) (ops : Array Oper) (ks : List Kind) : Nat → List Oper → Prop
  | _, [] => True
  | i, o :: rest => Step P Q W A ops ks i o ∧ Steps P Q W A ops ks (i + 1) rest

theorem steps_get {P : Program} {Q : Exit → Act → World → Prop} {W : World} {A : Act} {ops : Array Oper} {ks : List Kind} : ∀ (l : List Oper) (n i : Nat) (o : Oper), Steps P Q W A ops ks n l → l[i]? = some o → Step P Q W A ops ks (n + i) o
  | [], _, _, _, _, h => by simp at h
  | x :: l, n, 0, o, hs, h => by simp at h; subst h; exact hs.1
  | x :: l, n, i + 1, o, hs, h => by
    have := steps_get l (n + 1) i o hs.2 (by simpa using h)
    rw [show n + (i + 1) = n + 1 + i by omega]
    exact this

theorem wp_region_steps {P : Program} {id : Nat} {Q : Exit → Act → World → Prop} {A : Act} {W : World} {l : List Oper} (hm : P.follows .mixedOrders = true) (hl : lowB l.toArray = true) (n : Nat) (hn : A.tmps.size = n) (hd0 : dstB l.toArray n = true)
    (ks : List Kind) (hK : ∀ k ∈ ks, okKind W.heap.size l.length k) (hu : usedB l.toArray ks = true) (hstep : Steps P Q W A l.toArray ks 0 l)
    (hend : ∀ (a : Act) (w : World), a.defers = A.defers → Below W.heap.size W w → (∀ i v, i < l.length → kOf ks i = .val v → a.eval (.tmp (dstOf l.toArray i)) = v) → Q .normal a w) :
    (Code.region id l.toArray true).wp P Q A W := by
  have hd : dstB l.toArray A.tmps.size = true := by rw [hn]; exact hd0
  have hks : ∀ i, (∃ k ∈ ks, kOf ks i = k) ∨ kOf ks i = .val undef := fun i => by
    unfold kOf
    cases h : ks[i]? with
    | none => exact .inr rfl
    | some k => exact .inl ⟨k, List.mem_of_getElem? h, rfl⟩
  refine wp_region_own hm hl hd (kOf ks) ?_ ?_ ?_ ?_
  · intro i r u h
    rcases hks i with ⟨k, hk, e⟩ | e
    · rw [e] at h
      subst h
      have := hK _ hk
      exact ⟨this.1, fun j hj => by simpa using this.2 j hj⟩
    · rw [e] at h; cases h
  · intro i o ho j rj hj hKj
    have hjl : j < ks.length := by
      rcases Nat.lt_or_ge j ks.length with q | q
      · exact q
      · unfold kOf at hKj; rw [List.getElem?_eq_none q] at hKj; cases hKj
    unfold usedB at hu
    have := List.all_eq_true.1 hu j (List.mem_range.2 hjl)
    rw [hKj] at this
    simp only [Kind.used, ho] at this
    exact afterB_spec this
  · intro i o L a w ho hM hi hafter
    have hs := steps_get l 0 i o hstep (by simpa using ho)
    rw [Nat.zero_add] at hs
    obtain ⟨d1, d2, d3⟩ := dstB_spec hd
    have low := lowB_spec hl i o ho
    have his : i < l.toArray.size := by
      rcases Nat.lt_or_ge i l.toArray.size with k | k
      · exact k
      · rw [Array.getElem?_eq_none k] at ho; cases ho
    have hLj : ∀ j, afterB o j = true → j < l.toArray.size ∧ L j = true := fun j hj => by
      obtain ⟨e, he, hb, rfl⟩ := afterB_spec hj
      exact ⟨by have := low e he hb; omega, hafter e he hb⟩
    have hy : ∀ j b, afterB o j = true → kOf ks j = .val (.bool b) → yielded l.toArray a.tmps j = some b := fun j b hj hKj => by
      obtain ⟨h1, h2⟩ := hLj j hj
      have hv := hM.vals j _ h1 h2 hKj
      have ho' : l.toArray[j]? = some l.toArray[j] := Array.getElem?_eq_getElem h1
      have hdj := d1 j _ ho'
      have hsz : dstOf l.toArray j < a.tmps.size := by rw [hM.size]; exact d3 j h1
      unfold yielded
      rw [ho', Option.bind_some, hdj, Option.bind_some, Array.getElem?_eq_getElem hsz]
      unfold slot at hv
      simp only [Act.eval, Array.getD_eq_getD_getElem?, Array.getElem?_eq_getElem hsz, Option.getD_some] at hv
      rw [hv]
    refine hs a w ⟨hM.below, fun s h => hM.old s (freeB_spec h), fun j v hj hKj => ?_, fun j r u hj hKj huu => ?_, fun hg => ?_, fun j b hj hg hKj => ?_, fun j b c hj hg hKj hne => ?_⟩
    · exact hM.vals j v (hLj j hj).1 (hLj j hj).2 hKj
    · refine hM.rows j r u (hLj j hj).1 (hLj j hj).2 hKj fun q hq => ?_
      rcases huu with e | e
      · rw [e] at hq; cases hq
      · rw [e] at hq; cases hq; exact hi
    · unfold Region.wanted; rw [hg]
    · unfold Region.wanted; rw [hg]; simp only [hy j b hj hKj]; simp
    · unfold Region.wanted; rw [hg]; simp only [hy j c hj hKj]; simpa using hne
  · intro a w hM
    exact hend a w hM.defers hM.below fun i v hi hKi => hM.vals i v (by simpa using hi) rfl hKi

section
variable {P : Program} {Q : Exit → Act → World → Prop} {ops : Array Oper} {ks : List Kind} {i : Nat} {o : Oper} {a : Act} {w : World}

def Goal (P : Program) (Q : Exit → Act → World → Prop) (ops : Array Oper) (ks : List Kind) (i : Nat) (o : Oper) (a : Act) (w : World) : Prop :=
  (Region.wanted o (yielded ops a.tmps) = true ∧ ∀ Kk : Act → World → Prop, (∀ v w', Out ops (kOf ks) i a w v w' → Kk (a.put o.dst v) w') → o.wp P a w Kk Q) ∨ (Region.wanted o (yielded ops a.tmps) = false ∧ kOf ks i = .val undef)

theorem goal_run {v : Value} {w' : World} (hw : Region.wanted o (yielded ops a.tmps) = true) (hrun : (execOp a.eval o).run P w = .ok (.value v) w') (hout : Out ops (kOf ks) i a w v w') : Goal P Q ops ks i o a w :=
  .inl ⟨hw, fun Kk hKk => by unfold Oper.wp; rw [hrun]; exact hKk v w' hout⟩
theorem goal_val {v : Value} (hw : Region.wanted o (yielded ops a.tmps) = true) (hrun : (execOp a.eval o).run P w = .ok (.value v) w) (hv : kOf ks i = .val v) : Goal P Q ops ks i o a w :=
  goal_run hw hrun (.inl ⟨hv, grow_refl _ _⟩)
theorem goal_move {v : Value} (hw : Region.wanted o (yielded ops a.tmps) = true) (x : Operand) (h : o.op = .move x ∨ o.op = .assign x) (hx : a.eval x = v) (hv : kOf ks i = .val v) : Goal P Q ops ks i o a w := by
  refine goal_val hw ?_ hv
  rw [← hx]
  rcases h with h | h
  · exact BigFrame.run_move x h w
  · exact BigFrame.run_assign x h w
theorem goal_call {f : FuncId} {args : Array Value} (hw : Region.wanted o (yielded ops a.tmps) = true) (hrun : (execOp a.eval o).run P w = .ok (.enter f args) w)
    (hc : Calls P f args w fun e w' => ∃ v, e = .returned v ∧ Out ops (kOf ks) i a w v w') : Goal P Q ops ks i o a w :=
  .inl ⟨hw, fun Kk hKk => by
    unfold Oper.wp
    rw [hrun]
    exact hc.mono fun e w' ⟨v, he, hout⟩ => by subst he; exact hKk v w' hout⟩
theorem goal_fn {f : FuncId} {xs : Array Operand} {ts : Array TypeId} {args : Array Value} (hw : Region.wanted o (yielded ops a.tmps) = true) (hop : o.op = .call { callee := .value (.func f), args := xs, argTypes := ts }) (hargs : xs.map a.eval = args) (hf : (callFunc f args).run P w = .ok (.enter f args) w)
    (hc : Calls P f args w fun e w' => ∃ v, e = .returned v ∧ Out ops (kOf ks) i a w v w') : Goal P Q ops ks i o a w := by
  refine goal_call hw ?_ hc
  unfold execOp
  rw [hop]
  simp [resolve, invoke, Act.eval, go_sem, hargs, hf]
theorem goal_skip (hw : Region.wanted o (yielded ops a.tmps) = false) (hv : kOf ks i = .val undef) : Goal P Q ops ks i o a w := .inr ⟨hw, hv⟩
theorem below_grown {w w' : World} (h : Below w.heap.size w w') : w.grownBy w' none := ⟨h.os, h.tape, h.output, h.size, fun k hk _ => h.block k hk⟩
theorem out_call {v : Value} {w' : World} (hv : kOf ks i = .val v) (h : Below w.heap.size w w') : Out ops (kOf ks) i a w v w' := .inl ⟨hv, below_grown h⟩
/-- A new row. -/
theorem out_new {B : Nat} {v : Value} {w' : World} {xs : List Int} {u : Option Nat} (hv : kOf ks i = .own (fun w v => Row B w v xs) u) (hB : B ≤ w.heap.size) (h : Below w.heap.size w w') (hr : Row w.heap.size w' v xs) : Out ops (kOf ks) i a w v w' := by
  refine .inr ⟨_, u, hv, ?_, .inl ⟨below_grown h, fun k hk => (World.ownsRow.lt hr k hk).1⟩⟩
  refine ⟨hr.1, ?_⟩
  rcases hr.2 with q | ⟨g, cap, cur, h1, h2, h3⟩
  · exact .inl q
  · exact .inr ⟨g, cap, cur, h1, by omega, h3⟩
/-- A row taken over. -/
theorem out_over {B j : Nat} {v : Value} {w' : World} {xs ys : List Int} {u : Option Nat} (hv : kOf ks i = .own (fun w v => Row B w v xs) u) (hj : j < i) (hKj : kOf ks j = .own (fun w v => Row B w v ys) (some i)) (hy : Row B w (slot ops a j) ys)
    (hr : Row B w' v xs) (hg : w.grownBy w' (slot ops a j).ownBlock) (hm : Moved w (slot ops a j) v) : Out ops (kOf ks) i a w v w' :=
  .inr ⟨_, u, hv, hr, .inr ⟨j, _, hj, hKj, hy, hg, hm⟩⟩
end
end Go.Proofs.Ytgfkjbckhgndcaa
