import Derived.Test.YtjgfklbhagcbaaaPk04
import Derived.Test.YtjgfklbhagcbaaaPk23
import Derived.Test.YtjgfklbhagcbaaaPk24
import Derived.Test.YtjgfklbhagcbaaaPk29
import Derived.Test.YtjgfklbhagcbaaaPk30
/- A region that draws its order, of which each operation yields what is told of it in every later world: told once, whatever the order. -/
namespace Go.Proofs.Ytjgfklbhagcbaaa
open Go.RowKit
set_option linter.unusedVariables false
set_option linter.unusedSimpArgs false

/-- Every edge that binds leads backwards: by reckoning. -/
def lowBR (ops : Array Oper) : Bool := (List.range ops.size).all fun i => match ops[i]? with
  | some o => o.after.all fun e => !Region.binds .any e || decide (e.on < i)
  | none => true

theorem lowBR_spec {ops : Array Oper} (h : lowBR ops = true) : ∀ (i : Nat) o, ops[i]? = some o → ∀ e ∈ o.after, Region.binds .any e = true → e.on < i := by
  intro i o ho e he hb
  have hi : i < ops.size := by
    rcases Nat.lt_or_ge i ops.size with k | k
    · exact k
    · simp [k] at ho
  unfold lowBR at h
  have h1 := List.all_eq_true.1 h i (List.mem_range.2 hi)
  rw [ho] at h1
  have h2 := (Array.all_eq_true_iff_forall_mem.1 h1) e he
  rw [hb] at h2
  simpa using h2

/-- The places that the operations write: one each, unlike one another, within the frame. -/
def dstOfR (ops : Array Oper) (i : Nat) : Nat := ((ops[i]?).bind (·.dst)).getD 0
def dstBR (ops : Array Oper) (n : Nat) : Bool := (ops.toList.all fun o => o.dst.isSome) && decide (((List.range ops.size).map (dstOfR ops)).Nodup) && ((List.range ops.size).all fun i => decide (dstOfR ops i < n))
theorem dstBR_spec {ops : Array Oper} {n : Nat} (h : dstBR ops n = true) : (∀ i o, ops[i]? = some o → o.dst = some (dstOfR ops i)) ∧ (∀ i j, i < ops.size → j < ops.size → i ≠ j → dstOfR ops i ≠ dstOfR ops j) ∧ (∀ i, i < ops.size → dstOfR ops i < n) := by
  unfold dstBR at h
  simp only [Bool.and_eq_true, decide_eq_true_eq, List.all_eq_true, List.mem_range] at h
  obtain ⟨⟨h1, h2⟩, h3⟩ := h
  refine ⟨fun i o ho => ?_, fun i j hi hj hne e => ?_, h3⟩
  · have hm : o ∈ ops.toList := by
      have := Array.getElem?_eq_some_iff.1 ho
      obtain ⟨hi, e⟩ := this
      rw [← e]
      exact Array.getElem_mem_toList hi
    have := h1 o hm
    unfold dstOfR
    rw [ho]
    cases hd : o.dst with
    | none => rw [hd] at this; cases this
    | some d => simp [hd]
  · have hi' : i < ((List.range ops.size).map (dstOfR ops)).length := by simpa using hi
    have hj' : j < ((List.range ops.size).map (dstOfR ops)).length := by simpa using hj
    have := (List.getElem_inj (h₀ := hi') (h₁ := hj') h2).1 (by simpa using e)
    exact hne this


def slotR (ops : Array Oper) (a : Act) (i : Nat) : Value := a.eval (.tmp (dstOfR ops i))

theorem evalR_put_same {a : Act} {d : Nat} {v : Value} (h : d < a.tmps.size) : (a.put (some d) v).eval (.tmp d) = v := by
  simp [Act.put, Act.eval, h]
theorem evalR_put_other {a : Act} {d s : Nat} {v : Value} (h : d ≠ s) : (a.put (some d) v).eval (.tmp s) = a.eval (.tmp s) := by
  simp [Act.put, Act.eval, h]


def afterBR (o : Oper) (j : Nat) : Bool := o.after.toList.any fun e => Region.binds .any e && e.on == j
theorem afterBR_spec {o : Oper} {j : Nat} (h : afterBR o j = true) : ∃ e ∈ o.after, Region.binds .any e = true ∧ e.on = j := by
  unfold afterBR at h
  obtain ⟨e, he, h2⟩ := List.any_eq_true.1 h
  simp only [Bool.and_eq_true, beq_iff_eq] at h2
  exact ⟨e, by simpa using he, h2.1, h2.2⟩
def freeBR (ops : Array Oper) (s : Nat) : Bool := (List.range ops.size).all fun i => dstOfR ops i != s
theorem freeBR_spec {ops : Array Oper} {s : Nat} (h : freeBR ops s = true) : ∀ i, i < ops.size → dstOfR ops i ≠ s := by
  intro i hi
  unfold freeBR at h
  have := List.all_eq_true.1 h i (List.mem_range.2 hi)
  simpa using this

abbrev Rl := World → Value → Prop
def vl (v : Value) : Rl := fun _ x => x = v
def rOf (ks : List Rl) (i : Nat) : Rl := (ks[i]?).getD (vl undef)
/-- What stays in later worlds. -/
def StaysR (r : Rl) : Prop := ∀ (w w' : World) (v : Value), r w v → Below w.heap.size w w' → r w' v
theorem stays_vl (v : Value) : StaysR (vl v) := fun _ _ _ h _ => h
structure MidR (W : World) (A : Act) (ops : Array Oper) (K : Nat → Rl) (L : Nat → Bool) (a : Act) (w : World) : Prop where
  below : Below W.heap.size W w
  defers : a.defers = A.defers
  size : a.tmps.size = A.tmps.size
  old : ∀ s, (∀ i, i < ops.size → dstOfR ops i ≠ s) → a.eval (.tmp s) = A.eval (.tmp s)
  rel : ∀ i, i < ops.size → L i = true → K i w (slotR ops a i)
def OutR (K : Nat → Rl) (i : Nat) (w : World) (v : Value) (w' : World) : Prop := K i w' v ∧ Below w.heap.size w w'
theorem midR_step {W : World} {A : Act} {ops : Array Oper} {K : Nat → Rl} {L : Nat → Bool} {a : Act} {w : World} (hK : ∀ i, StaysR (K i)) (hd : dstBR ops A.tmps.size = true)
    (h : MidR W A ops K L a w) {i : Nat} {o : Oper} (ho : ops[i]? = some o) {v : Value} {w' : World} (hout : OutR K i w v w') :
    MidR W A ops K (fun j => if j = i then true else L j) (a.put o.dst v) w' := by
  obtain ⟨d1, d2, d3⟩ := dstBR_spec hd
  have his : i < ops.size := by
    rcases Nat.lt_or_ge i ops.size with k | k
    · exact k
    · simp [k] at ho
  rw [d1 i o ho]
  have ha : dstOfR ops i < a.tmps.size := by rw [h.size]; exact d3 i his
  have hsi : slotR ops (a.put (some (dstOfR ops i)) v) i = v := evalR_put_same ha
  have hso : ∀ j, j < ops.size → j ≠ i → slotR ops (a.put (some (dstOfR ops i)) v) j = slotR ops a j := fun j hj hne => evalR_put_other (d2 i j his hj (Ne.symm hne))
  refine ⟨h.below.trans (hout.2.mono h.below.size), h.defers, by simp [Act.put, h.size], fun s hs => ?_, fun j hj hL => ?_⟩
  · rw [evalR_put_other (hs i his)]
    exact h.old s hs
  · by_cases e : j = i
    · subst e
      rw [hsi]
      exact hout.1
    · rw [hso j hj e]
      exact hK j _ _ _ (h.rel j hj (by simpa [e] using hL)) hout.2
structure CtxR (W : World) (A : Act) (ops : Array Oper) (ks : List Rl) (i : Nat) (o : Oper) (a : Act) (w : World) : Prop where
  below : Below W.heap.size W w
  old : ∀ s, freeBR ops s = true → a.eval (.tmp s) = A.eval (.tmp s)
  val : ∀ j v, afterBR o j = true → rOf ks j = vl v → a.eval (.tmp (dstOfR ops j)) = v
  rel : ∀ j r, afterBR o j = true → rOf ks j = r → r w (a.eval (.tmp (dstOfR ops j)))
  want0 : o.guard = none → Region.wanted o (yielded ops a.tmps) = true
  want : ∀ j b, afterBR o j = true → o.guard = some (j, b) → rOf ks j = vl (.bool b) → Region.wanted o (yielded ops a.tmps) = true
  skip : ∀ j b c, afterBR o j = true → o.guard = some (j, b) → rOf ks j = vl (.bool c) → c ≠ b → Region.wanted o (yielded ops a.tmps) = false
def GoalR (P : Program) (Q : Exit → Act → World → Prop) (ops : Array Oper) (ks : List Rl) (i : Nat) (o : Oper) (a : Act) (w : World) : Prop :=
  (Region.wanted o (yielded ops a.tmps) = true ∧ ∀ Kk : Act → World → Prop, (∀ v w', OutR (rOf ks) i w v w' → Kk (a.put o.dst v) w') → o.wp P a w Kk Q) ∨ (Region.wanted o (yielded ops a.tmps) = false ∧ rOf ks i = vl undef)
def StepR (P : Program) (Q : Exit → Act → World → Prop) (W : World) (A : Act) (ops : Array Oper) (ks : List Rl) (i : Nat) (o : Oper) : Prop :=
  ∀ (a : Act) (w : World), CtxR W A ops ks i o a w → GoalR P Q ops ks i o a w
def StepsR (P : Program) (Q : Exit → Act → World → Prop) (W : World) (A : Act) (ops : Array Oper) (ks : List Rl) : Nat → List Oper → Prop
  | _, [] => True
  | i, o :: rest => StepR P Q W A ops ks i o ∧ StepsR P Q W A ops ks (i + 1) rest
theorem stepsR_get {P : Program} {Q : Exit → Act → World → Prop} {W : World} {A : Act} {ops : Array Oper} {ks : List Rl} : ∀ (l : List Oper) (n i : Nat) (o : Oper), StepsR P Q W A ops ks n l → l[i]? = some o → StepR P Q W A ops ks (n + i) o
  | [], _, _, _, _, h => by simp at h
  | x :: l, n, 0, o, hs, h => by simp at h; subst h; exact hs.1
  | x :: l, n, i + 1, o, hs, h => by
    have := stepsR_get l (n + 1) i o hs.2 (by simpa using h)
    rw [show n + (i + 1) = n + 1 + i by omega]
    exact this
/-- THE REGION: each operation by itself. -/
theorem wp_region_rel {P : Program} {id : Nat} {Q : Exit → Act → World → Prop} {A : Act} {W : World} {l : List Oper} (hm : P.follows .mixedOrders = true) (hl : lowBR l.toArray = true) (n : Nat) (hn : A.tmps.size = n) (hd0 : dstBR l.toArray n = true)
    (ks : List Rl) (hK : ∀ k ∈ ks, StaysR k) (hstep : StepsR P Q W A l.toArray ks 0 l)
    (hend : ∀ (a : Act) (w : World), a.defers = A.defers → Below W.heap.size W w → (∀ i v, i < l.length → rOf ks i = vl v → a.eval (.tmp (dstOfR l.toArray i)) = v) → Q .normal a w) :
    (Code.region id l.toArray true).wp P Q A W := by
  have hd : dstBR l.toArray A.tmps.size = true := by rw [hn]; exact hd0
  have hKs : ∀ i, StaysR (rOf ks i) := fun i => by
    unfold rOf
    cases h : ks[i]? with
    | none => exact stays_vl _
    | some k => exact hK k (List.mem_of_getElem? h)
  refine wp_region_inv hm (lowBR_spec hl) (fun A L a w => MidR W A l.toArray (rOf ks) L a w) ?_ ?_ ?_
  · exact ⟨(Below.refl _ _).drew, rfl, rfl, fun _ _ => rfl, fun _ _ h => by cases h⟩
  · intro L a w i o hM ho hi hafter Kk hKk
    have hs := stepsR_get l 0 i o hstep (by simpa using ho)
    rw [Nat.zero_add] at hs
    obtain ⟨d1, d2, d3⟩ := dstBR_spec hd
    have low := lowBR_spec hl i o ho
    have his : i < l.toArray.size := by
      rcases Nat.lt_or_ge i l.toArray.size with k | k
      · exact k
      · rw [Array.getElem?_eq_none k] at ho; cases ho
    have hLj : ∀ j, afterBR o j = true → j < l.toArray.size ∧ L j = true := fun j hj => by
      obtain ⟨e, he, hb, rfl⟩ := afterBR_spec hj
      exact ⟨by have := low e he hb; omega, hafter e he hb⟩
    have hy : ∀ j b, afterBR o j = true → rOf ks j = vl (.bool b) → yielded l.toArray a.tmps j = some b := fun j b hj hKj => by
      obtain ⟨h1, h2⟩ := hLj j hj
      have hv := hM.rel j h1 h2
      rw [hKj] at hv
      have hv' : slotR l.toArray a j = .bool b := hv
      have ho' : l.toArray[j]? = some l.toArray[j] := Array.getElem?_eq_getElem h1
      have hdj := d1 j _ ho'
      have hsz : dstOfR l.toArray j < a.tmps.size := by rw [hM.size]; exact d3 j h1
      unfold yielded
      rw [ho', Option.bind_some, hdj, Option.bind_some, Array.getElem?_eq_getElem hsz]
      unfold slotR at hv'
      simp only [Act.eval, Array.getD_eq_getD_getElem?, Array.getElem?_eq_getElem hsz, Option.getD_some] at hv'
      rw [hv']
    have hc : CtxR W A l.toArray ks i o a w := by
      refine ⟨hM.below, fun s h => hM.old s (freeBR_spec h), fun j v hj hKj => ?_, fun j r hj hKj => ?_, fun hg => ?_, fun j b hj hg hKj => ?_, fun j b c hj hg hKj hne => ?_⟩
      · have := hM.rel j (hLj j hj).1 (hLj j hj).2
        rw [hKj] at this
        exact this
      · have := hM.rel j (hLj j hj).1 (hLj j hj).2
        rw [hKj] at this
        exact this
      · unfold Region.wanted; rw [hg]
      · unfold Region.wanted; rw [hg]; simp only [hy j b hj hKj]; simp
      · unfold Region.wanted; rw [hg]; simp only [hy j c hj hKj]; simpa using hne
    rcases hs a w hc with ⟨hw, hs⟩ | ⟨hw, hv⟩
    · rw [if_pos hw]
      exact hs Kk fun v w' hout => hKk _ _ (midR_step hKs hd hM ho hout)
    · rw [if_neg (by rw [hw]; exact Bool.false_ne_true)]
      exact hKk _ _ (midR_step hKs hd hM ho ⟨by rw [hv]; rfl, Below.refl _ _⟩)
  · intro L a w hM hall
    refine hend a w hM.defers hM.below fun i v hi hKi => ?_
    have := hM.rel i (by simpa using hi) (hall i (by simpa using hi))
    rw [hKi] at this
    exact this
/-- THE REGION: each operation by itself. -/
theorem wp_region_rel2 {P : Program} {id : Nat} {Q : Exit → Act → World → Prop} {A : Act} {W : World} {l : List Oper} (hm : P.follows .mixedOrders = true) (hl : lowBR l.toArray = true) (n : Nat) (hn : A.tmps.size = n) (hd0 : dstBR l.toArray n = true)
    (ks : List Rl) (hK : ∀ k ∈ ks, StaysR k) (hstep : StepsR P Q W A l.toArray ks 0 l)
    (hend : ∀ (a : Act) (w : World), MidR W A l.toArray (rOf ks) (fun _ => true) a w → Q .normal a w) :
    (Code.region id l.toArray true).wp P Q A W := by
  have hd : dstBR l.toArray A.tmps.size = true := by rw [hn]; exact hd0
  have hKs : ∀ i, StaysR (rOf ks i) := fun i => by
    unfold rOf
    cases h : ks[i]? with
    | none => exact stays_vl _
    | some k => exact hK k (List.mem_of_getElem? h)
  refine wp_region_inv hm (lowBR_spec hl) (fun A L a w => MidR W A l.toArray (rOf ks) L a w) ?_ ?_ ?_
  · exact ⟨(Below.refl _ _).drew, rfl, rfl, fun _ _ => rfl, fun _ _ h => by cases h⟩
  · intro L a w i o hM ho hi hafter Kk hKk
    have hs := stepsR_get l 0 i o hstep (by simpa using ho)
    rw [Nat.zero_add] at hs
    obtain ⟨d1, d2, d3⟩ := dstBR_spec hd
    have low := lowBR_spec hl i o ho
    have his : i < l.toArray.size := by
      rcases Nat.lt_or_ge i l.toArray.size with k | k
      · exact k
      · rw [Array.getElem?_eq_none k] at ho; cases ho
    have hLj : ∀ j, afterBR o j = true → j < l.toArray.size ∧ L j = true := fun j hj => by
      obtain ⟨e, he, hb, rfl⟩ := afterBR_spec hj
      exact ⟨by have := low e he hb; omega, hafter e he hb⟩
    have hy : ∀ j b, afterBR o j = true → rOf ks j = vl (.bool b) → yielded l.toArray a.tmps j = some b := fun j b hj hKj => by
      obtain ⟨h1, h2⟩ := hLj j hj
      have hv := hM.rel j h1 h2
      rw [hKj] at hv
      have hv' : slotR l.toArray a j = .bool b := hv
      have ho' : l.toArray[j]? = some l.toArray[j] := Array.getElem?_eq_getElem h1
      have hdj := d1 j _ ho'
      have hsz : dstOfR l.toArray j < a.tmps.size := by rw [hM.size]; exact d3 j h1
      unfold yielded
      rw [ho', Option.bind_some, hdj, Option.bind_some, Array.getElem?_eq_getElem hsz]
      unfold slotR at hv'
      simp only [Act.eval, Array.getD_eq_getD_getElem?, Array.getElem?_eq_getElem hsz, Option.getD_some] at hv'
      rw [hv']
    have hc : CtxR W A l.toArray ks i o a w := by
      refine ⟨hM.below, fun s h => hM.old s (freeBR_spec h), fun j v hj hKj => ?_, fun j r hj hKj => ?_, fun hg => ?_, fun j b hj hg hKj => ?_, fun j b c hj hg hKj hne => ?_⟩
      · have := hM.rel j (hLj j hj).1 (hLj j hj).2
        rw [hKj] at this
        exact this
      · have := hM.rel j (hLj j hj).1 (hLj j hj).2
        rw [hKj] at this
        exact this
      · unfold Region.wanted; rw [hg]
      · unfold Region.wanted; rw [hg]; simp only [hy j b hj hKj]; simp
      · unfold Region.wanted; rw [hg]; simp only [hy j c hj hKj]; simpa using hne
    rcases hs a w hc with ⟨hw, hs⟩ | ⟨hw, hv⟩
    · rw [if_pos hw]
      exact hs Kk fun v w' hout => hKk _ _ (midR_step hKs hd hM ho hout)
    · rw [if_neg (by rw [hw]; exact Bool.false_ne_true)]
      exact hKk _ _ (midR_step hKs hd hM ho ⟨by rw [hv]; rfl, Below.refl _ _⟩)
  · intro L a w hM hall
    exact hend a w ⟨hM.below, hM.defers, hM.size, hM.old, fun i hi _ => hM.rel i hi (hall i hi)⟩
/-- Values laid into their places, one behind the other. -/
def putVs : Act → List (Nat × Value) → Act
  | A, [] => A
  | A, (d, v) :: r => putVs (A.put (some d) v) r
theorem putVs_size : ∀ (r : List (Nat × Value)) (A : Act), (putVs A r).tmps.size = A.tmps.size ∧ (putVs A r).defers = A.defers
  | [], A => ⟨rfl, rfl⟩
  | (d, v) :: r, A => by
    obtain ⟨h1, h2⟩ := putVs_size r (A.put (some d) v)
    exact ⟨by rw [putVs, h1]; simp [Act.put], by rw [putVs, h2]; rfl⟩
theorem putVs_other : ∀ (r : List (Nat × Value)) (A : Act) (s : Nat), (∀ x ∈ r, x.1 ≠ s) → (putVs A r).eval (.tmp s) = A.eval (.tmp s)
  | [], A, s, _ => rfl
  | (d, v) :: r, A, s, h => by
    rw [putVs, putVs_other r _ s (fun x hx => h x (List.mem_cons_of_mem _ hx))]
    exact evalR_put_other (h (d, v) (List.mem_cons_self ..))
theorem putVs_at : ∀ (r : List (Nat × Value)) (A : Act) (d : Nat) (v : Value), (r.map (·.1)).Nodup → (d, v) ∈ r → d < A.tmps.size → (putVs A r).eval (.tmp d) = v
  | [], A, d, v, _, h, _ => by cases h
  | (d', v') :: r, A, d, v, hn, h, hs => by
    rw [List.map_cons, List.nodup_cons] at hn
    rw [putVs]
    rcases List.mem_cons.1 h with e | h
    · obtain ⟨e1, e2⟩ := Prod.mk.inj e
      rw [e1] at hs ⊢
      rw [e2, putVs_other r _ d' (fun x hx e => hn.1 (List.mem_map.2 ⟨x, hx, e⟩))]
      exact evalR_put_same hs
    · exact putVs_at r _ d v hn.2 h (by simpa [Act.put] using hs)
theorem act_eq {a b : Act} (h1 : a.tmps.size = b.tmps.size) (h2 : a.defers = b.defers) (h : ∀ s, s < b.tmps.size → a.eval (.tmp s) = b.eval (.tmp s)) : a = b := by
  cases a with
  | mk ta da =>
    cases b with
    | mk tb db =>
      simp only at h1 h2
      subst h2
      have : ta = tb := Array.ext h1 fun i hi1 hi2 => by
        have := h i hi2
        simpa [Act.eval, hi1, hi2] using this
      subst this
      rfl
/-- THE REGION, where each operation yields a known value: it goes on with all of them laid. -/
theorem wp_region_vals {P : Program} {id : Nat} {Q : Exit → Act → World → Prop} {A : Act} {W : World} {l : List Oper} (hm : P.follows .mixedOrders = true) (hl : lowBR l.toArray = true) (n : Nat) (hn : A.tmps.size = n) (hd0 : dstBR l.toArray n = true)
    (vs : List Value) (hlen : vs.length = l.length) (hstep : StepsR P Q W A l.toArray (vs.map vl) 0 l)
    (ds : List Nat) (hds : (List.range l.length).map (dstOfR l.toArray) = ds)
    (hend : ∀ w, Below W.heap.size W w → Q .normal (putVs A (ds.zip vs)) w) :
    (Code.region id l.toArray true).wp P Q A W := by
  refine wp_region_rel2 hm hl n hn hd0 (vs.map vl) (fun k hk => by obtain ⟨v, _, rfl⟩ := List.mem_map.1 hk; exact stays_vl v) hstep ?_
  intro a w hM
  have hd : dstBR l.toArray A.tmps.size = true := by rw [hn]; exact hd0
  obtain ⟨d1, d2, d3⟩ := dstBR_spec hd
  have hsz : l.toArray.size = l.length := by simp
  have hdl : ds.length = l.length := by rw [← hds]; simp
  have hnd : ds.Nodup := by
    have h9 := hd
    unfold dstBR at h9
    simp only [Bool.and_eq_true, decide_eq_true_eq] at h9
    have h8 := h9.1.2
    rw [hsz, hds] at h8
    exact h8
  have ha : a = putVs A (ds.zip vs) := by
    refine act_eq (hM.size.trans (putVs_size _ _).1.symm) (hM.defers.trans (putVs_size _ _).2.symm) fun s hs => ?_
    rw [(putVs_size _ _).1] at hs
    by_cases hf : ∃ i, i < l.length ∧ dstOfR l.toArray i = s
    · obtain ⟨i, hi, rfl⟩ := hf
      have hr := hM.rel i (by simpa using hi) rfl
      have hiv : i < vs.length := by omega
      have hk : rOf (vs.map vl) i = vl vs[i] := by
        unfold rOf
        rw [List.getElem?_map, List.getElem?_eq_getElem hiv]
        rfl
      rw [hk] at hr
      refine Eq.trans hr (putVs_at _ _ _ _ ?_ ?_ hs).symm
      · rw [List.map_fst_zip (by omega)]; exact hnd
      · rw [List.mem_iff_getElem?]
        refine ⟨i, ?_⟩
        rw [List.getElem?_zip_eq_some]
        refine ⟨?_, List.getElem?_eq_getElem hiv⟩
        rw [← hds, List.getElem?_map, List.getElem?_range hi]
        rfl
    · have hno : ∀ i, i < l.toArray.size → dstOfR l.toArray i ≠ s := fun i hi e => hf ⟨i, by simpa using hi, e⟩
      rw [hM.old s hno]
      refine (putVs_other _ _ _ fun x hx e => ?_).symm
      have hx1 : x.1 ∈ ds := List.of_mem_zip hx |>.1
      rw [← hds] at hx1
      obtain ⟨i, hi, he⟩ := List.mem_map.1 hx1
      exact hf ⟨i, by simpa using hi, he.trans e⟩
  rw [ha]
  exact hend w hM.below
section
variable {P : Program} {Q : Exit → Act → World → Prop} {ops : Array Oper} {ks : List Rl} {i : Nat} {o : Oper} {a : Act} {w : World}
theorem goalR_run {v : Value} {w' : World} (hw : Region.wanted o (yielded ops a.tmps) = true) (hrun : (execOp a.eval o).run P w = .ok (.value v) w') (hout : OutR (rOf ks) i w v w') : GoalR P Q ops ks i o a w :=
  .inl ⟨hw, fun Kk hKk => by unfold Oper.wp; rw [hrun]; exact hKk v w' hout⟩
theorem goalR_val {v : Value} (hw : Region.wanted o (yielded ops a.tmps) = true) (hrun : (execOp a.eval o).run P w = .ok (.value v) w) (hv : rOf ks i = vl v) : GoalR P Q ops ks i o a w :=
  goalR_run hw hrun ⟨by rw [hv]; rfl, Below.refl _ _⟩
theorem goalR_move {v : Value} (hw : Region.wanted o (yielded ops a.tmps) = true) (x : Operand) (h : o.op = .move x ∨ o.op = .assign x) (hx : a.eval x = v) (hv : rOf ks i = vl v) : GoalR P Q ops ks i o a w := by
  refine goalR_val hw ?_ hv
  rw [← hx]
  rcases h with h | h
  · exact BigFrame.run_move x h w
  · exact BigFrame.run_assign x h w
theorem goalR_call {f : FuncId} {args : Array Value} (hw : Region.wanted o (yielded ops a.tmps) = true) (hrun : (execOp a.eval o).run P w = .ok (.enter f args) w)
    (hc : Calls P f args w fun e w' => ∃ v, e = .returned v ∧ OutR (rOf ks) i w v w') : GoalR P Q ops ks i o a w :=
  .inl ⟨hw, fun Kk hKk => by
    unfold Oper.wp
    rw [hrun]
    exact hc.mono fun e w' ⟨v, he, hout⟩ => by subst he; exact hKk v w' hout⟩
theorem goalR_fn {f : FuncId} {xs : Array Operand} {ts : Array TypeId} {args : Array Value} (hw : Region.wanted o (yielded ops a.tmps) = true) (hop : o.op = .call { callee := .value (.func f), args := xs, argTypes := ts }) (hargs : xs.map a.eval = args) (hf : (callFunc f args).run P w = .ok (.enter f args) w)
    (hc : Calls P f args w fun e w' => ∃ v, e = .returned v ∧ OutR (rOf ks) i w v w') : GoalR P Q ops ks i o a w := by
  refine goalR_call hw ?_ hc
  unfold execOp
  rw [hop]
  simp [resolve, invoke, Act.eval, go_sem, hargs, hf]
theorem goalR_skip (hw : Region.wanted o (yielded ops a.tmps) = false) (hv : rOf ks i = vl undef) : GoalR P Q ops ks i o a w := .inr ⟨hw, hv⟩
theorem outR_val {v : Value} {w' : World} (hv : rOf ks i = vl v) (h : Below w.heap.size w w') : OutR (rOf ks) i w v w' := ⟨by rw [hv]; rfl, h⟩
theorem outR_rel {r : Rl} {v : Value} {w' : World} (hv : rOf ks i = r) (hr : r w' v) (h : Below w.heap.size w w') : OutR (rOf ks) i w v w' := ⟨by rw [hv]; exact hr, h⟩
end
theorem stays_slv (xs : List Int) : StaysR (fun w v => SlV w v xs) := fun _ _ _ h hb => h.later hb
theorem goalR_str {Q : Exit → Act → World → Prop} {ops : Array Oper} {ks : List Rl} {i : Nat} {o : Oper} {a : Act} {w : World} {x : Operand} {v : Value} {xs : List Int} (hw : Region.wanted o (yielded ops a.tmps) = true) (hop : o.op = .convert 38 9 x) (hx : a.eval x = v) (h : SlV w v xs)
    (hv : rOf ks i = vl (.string (strOfNums xs))) : GoalR Try.prog Q ops ks i o a w := by
  obtain ⟨ao, c, rfl, hs⟩ := h
  refine goalR_val hw ?_ hv
  unfold execOp
  rw [hop]
  simp only [hx, Sem.run_bind, str_l hs, Result.andThen_ok, Sem.run_pure]
end Go.Proofs.Ytjgfklbhagcbaaa

/- What lies where, on lists: the program's rows and the document's are one. -/
namespace Go.Proofs.Ytjgfklbhagcbaaa
open Go.RowKit
set_option linter.unusedVariables false
set_option linter.unusedSimpArgs false

theorem stt_filter {l : List LnV} (h : Stt l) (p : LnV → Bool) : Stt (l.filter p) := List.Pairwise.sublist List.filter_sublist h
theorem row_same {l ys : List LnV} {p : LnV → Bool} (h : Stt l) (hp : ys.Perm (l.filter p)) (hw : Wk ys) : ys = l.filter p := (st_uniq (stt_filter h p) hw hp.symm).symm
theorem over_eq (tabs : List LnV) (l : Int) (K M : List Int) : (atL tabs l).filter (meetB K M) = tabs.filter (fun t => decide (t.lvl = l) && decide (0 ≤ cmp t.most K ∧ cmp t.least M ≤ 0)) := by
  unfold atL
  rw [List.filter_filter]
  refine List.filter_congr fun t _ => ?_
  rw [Bool.and_comm]; rfl
theorem find_perm (tabs : List LnV) (K : List Int) : ∀ n : Nat, (tabs.filter fun t => decide (0 ≤ t.lvl ∧ t.lvl < (n : Int)) && meetB K K t).Perm (findR tabs K n)
  | 0 => by
    have e : (tabs.filter fun t => decide (0 ≤ t.lvl ∧ t.lvl < ((0 : Nat) : Int)) && meetB K K t) = [] := List.filter_eq_nil_iff.2 fun t _ => by simp; omega
    rw [e]; exact List.Perm.nil
  | n + 1 => by
    rw [findR_succ]
    have ih := find_perm tabs K n
    have h1 := List.filter_append_perm (fun t : LnV => decide (0 ≤ t.lvl ∧ t.lvl < (n : Int))) (tabs.filter fun t => decide (0 ≤ t.lvl ∧ t.lvl < ((n + 1 : Nat) : Int)) && meetB K K t)
    refine h1.symm.trans (List.Perm.append ?_ ?_)
    · refine List.Perm.trans (List.Perm.of_eq ?_) ih
      rw [List.filter_filter]
      refine List.filter_congr fun t _ => ?_
      by_cases q : 0 ≤ t.lvl ∧ t.lvl < (n : Int)
      · rw [decide_eq_true q, decide_eq_true (show 0 ≤ t.lvl ∧ t.lvl < ((n + 1 : Nat) : Int) by omega)]; simp
      · rw [decide_eq_false q]; simp
    · refine List.Perm.of_eq ?_
      unfold atL
      rw [List.filter_filter, List.filter_filter]
      refine List.filter_congr fun t _ => ?_
      by_cases q : t.lvl = (n : Int)
      · rw [decide_eq_true q, decide_eq_true (show 0 ≤ t.lvl ∧ t.lvl < ((n + 1 : Nat) : Int) by omega), decide_eq_false (show ¬ (0 ≤ t.lvl ∧ t.lvl < (n : Int)) by omega)]; simp
      · rw [decide_eq_false q]
        by_cases q2 : 0 ≤ t.lvl ∧ t.lvl < (n : Int)
        · rw [decide_eq_true q2]; simp
        · rw [decide_eq_false (show ¬ (0 ≤ t.lvl ∧ t.lvl < ((n + 1 : Nat) : Int)) by omega)]; simp
theorem findR_lvl (tabs : List LnV) (K : List Int) : ∀ (n : Nat) (t : LnV), t ∈ findR tabs K n → t.lvl < (n : Int)
  | 0, t, h => by simp [findR] at h
  | n + 1, t, h => by
    rw [findR_succ] at h
    rcases List.mem_append.1 h with h | h
    · have := findR_lvl tabs K n t h; omega
    · have := of_decide_eq_true (List.mem_filter.1 (List.mem_filter.1 h).1).2
      omega
theorem findR_wk (tabs : List LnV) (K : List Int) (h : Stt tabs) : ∀ n : Nat, Wk (findR tabs K n)
  | 0 => List.Pairwise.nil
  | n + 1 => by
    rw [findR_succ]
    unfold Wk
    rw [List.pairwise_append]
    refine ⟨findR_wk tabs K h n, st_wk (stt_filter (stt_filter h _) _), fun a ha b hb => ?_⟩
    have h1 := findR_lvl tabs K n a ha
    have h2 := of_decide_eq_true (List.mem_filter.1 (List.mem_filter.1 hb).1).2
    unfold ordC cmI
    rw [if_pos (show a.lvl ≠ b.lvl by omega), if_pos (show a.lvl < b.lvl by omega)]
    omega
theorem find_eq {tabs : List LnV} (h : Stt tabs) (hl : ∀ t ∈ tabs, 0 ≤ t.lvl ∧ t.lvl ≤ 3) (K : List Int) : findR tabs K 4 = tabs.filter (fun t => decide (0 ≤ cmp t.most K ∧ cmp t.least K ≤ 0)) := by
  have hp := find_perm tabs K 4
  have e : (tabs.filter fun t => decide (0 ≤ t.lvl ∧ t.lvl < ((4 : Nat) : Int)) && meetB K K t) = tabs.filter (fun t => decide (0 ≤ cmp t.most K ∧ cmp t.least K ≤ 0)) := List.filter_congr fun t ht => by
    rw [decide_eq_true (show 0 ≤ t.lvl ∧ t.lvl < ((4 : Nat) : Int) by have := hl t ht; omega)]; rfl
  rw [e] at hp
  exact row_same h hp.symm (findR_wk tabs K h 4)
/-- What is known of a version that may be. -/
theorem may_small {v : VrV} (h : mayVr v = true) : v.tabs.length ≤ 200 ∧ SzOk v.tabs ∧ (∀ t ∈ v.tabs, t.least.length ≤ 1000000 ∧ t.most.length ≤ 1000000) ∧ (∀ t ∈ v.tabs, 0 ≤ t.lvl ∧ t.lvl ≤ 3) ∧ Stt v.tabs := by
  have h1 := mayAd_ok (mayVr_ok h).2.1
  refine ⟨h1.1, fun t ht => ?_, fun t ht => ?_, fun t ht => ?_, mayVr_st h⟩
  · have := mayLn_ok (h1.2.1 t ht); omega
  · have := mayLn_ok (h1.2.1 t ht); omega
  · have := mayLn_ok (h1.2.1 t ht); omega
theorem stays_rsvL (xs : List LnV) : StaysR (fun w v => RSV lnE w v xs) := fun _ _ _ h hb => h.later hb
def kLk (V : Value) (n : Int) (K M : Value) (A O F : List LnV) (S : Int) : List Rl :=
  [vl V, vl (.int .i64 n), (fun w v => RSV lnE w v A), vl V, vl (.int .i64 n), (fun w v => RSV lnE w v A), vl (.bool true), vl (.bool true),
   vl V, vl (.int .i64 n), vl (.int .i64 S), vl V, vl (.int .i64 n), vl (.int .i64 S), vl (.bool true), vl (.bool true), vl (.bool true),
   vl V, vl (.int .i64 n), vl K, vl M, (fun w v => RSV lnE w v O), vl V, vl (.int .i64 n), vl K, vl M, (fun w v => RSV lnE w v O), vl (.bool true), vl (.bool true), vl (.bool true),
   vl V, vl K, (fun w v => RSV lnE w v F), vl V, vl K, (fun w v => RSV lnE w v F), vl (.bool true), vl (.bool true), vl (.bool true),
   vl (.bool true), vl (.bool true), vl (.bool true)]
theorem kLk_stays (V : Value) (n : Int) (K M : Value) (A O F : List LnV) (S : Int) : ∀ k ∈ kLk V n K M A O F S, StaysR k := by
  intro k hk
  unfold kLk at hk
  simp only [List.mem_cons, List.not_mem_nil, or_false] at hk
  rcases hk with rfl | hk
  · exact stays_vl _
  repeat (first | (rcases hk with rfl | hk; first | exact stays_vl _ | exact stays_rsvL _) | (subst hk; first | exact stays_vl _ | exact stays_rsvL _))
set_option maxHeartbeats 8000000 in
set_option maxRecDepth 100000 in
theorem looks15_any {w : World} {ao : Option Addr} {en cap : Nat} {es : List EdV} (h : EdRow w ao en cap es) {ka ma : Option Addr} {kc mc : Nat} {K M : List Int} (hK : Sl w ka K.length kc K) (hM : Sl w ma M.length mc M) (n : Int) :
    Calls Try.prog 6 #[.slice ao en cap, .int .i64 n, .slice ka K.length kc, .slice ma M.length mc] w fun e w' => e = .returned (.bool true) ∧ Below w.heap.size w w' := by
  have hb := built15_t h
  have hmay := bltV_may es
  obtain ⟨R, hR⟩ : ∃ R, R = bltV es := ⟨_, rfl⟩
  rw [← hR] at hb hmay
  have HM := hidS hmay
  have HIN : Hid (Sl w ka K.length kc K ∧ Sl w ma M.length mc M) := ⟨hK, hM⟩
  unfold vrV at hb
  obtain ⟨LK, hLK⟩ : ∃ n, n = K.length := ⟨_, rfl⟩
  obtain ⟨LM, hLM⟩ : ∃ n, n = M.length := ⟨_, rfl⟩
  have HLK := hidS (And.intro hLK hLM)
  rw [← hLK, ← hLM]
  clear h hK hM hmay hR hLK hLM
  go_enter Try.func6, Try.ntmps6
  go_upto_region 2 with (go_at_call 16; refine hb.mono ?_; rintro e w1 ⟨a1, c1, rfl, hv1, b1⟩)
  obtain ⟨W, hW⟩ : ∃ W, W = w1.alloc (.cells #[.int .i64 R.log, .int .i64 R.next, .int .i64 R.seq, .slice a1 R.tabs.length c1] 24) := ⟨_, rfl⟩
  have hWb : Below w1.heap.size w1 W := by rw [hW]; exact (Below.refl _ _).alloc (Nat.le_refl _) _
  have HBX : Hid (∀ wx, Below W.heap.size W wx → wx.cell? ⟨w1.heap.size, 0, none⟩ = some (.int .i64 R.log) ∧ wx.cell? ⟨w1.heap.size, 1, none⟩ = some (.int .i64 R.next) ∧ wx.cell? ⟨w1.heap.size, 2, none⟩ = some (.int .i64 R.seq) ∧ wx.cell? ⟨w1.heap.size, 3, none⟩ = some (.slice a1 R.tabs.length c1)) := fun wx hb => by
    have := box4 w1 (.int .i64 R.log) (.int .i64 R.next) (.int .i64 R.seq) (.slice a1 R.tabs.length c1) 24 (wx := wx)
    rw [← hW] at this
    exact this hb
  have HEN : Hid (Below w.heap.size w W) := b1.trans (hWb.mono b1.size)
  have HVX : Hid (∀ wx, Below W.heap.size W wx → VrM wx R a1 c1 ∧ Sl wx ka K.length kc K ∧ Sl wx ma M.length mc M) := fun wx hb => ⟨(hv1.later hWb).later hb, HIN.out.1.later (HEN.out.trans (hb.mono HEN.out.size)), HIN.out.2.later (HEN.out.trans (hb.mono HEN.out.size))⟩
  obtain ⟨hs1, hs2, hs3, hs4, hs5⟩ := may_small HM.out
  have HC : Hid ((∀ wx, Below W.heap.size W wx → Calls Try.prog 18 #[.agg #[.int .i64 R.log, .int .i64 R.next, .int .i64 R.seq, .slice a1 R.tabs.length c1], .int .i64 n] wx fun e w' => ∃ v, e = .returned v ∧ RSV lnE w' v (atL R.tabs n) ∧ Below wx.heap.size wx w') ∧
      (∀ wx, Below W.heap.size W wx → Calls Try.prog 19 #[.agg #[.int .i64 R.log, .int .i64 R.next, .int .i64 R.seq, .slice a1 R.tabs.length c1], .int .i64 n] wx fun e w' => ∃ v, e = .returned v ∧ RSV lnE w' v (atL R.tabs n) ∧ Below wx.heap.size wx w') ∧
      (∀ wx, Below W.heap.size W wx → Calls Try.prog 20 #[.agg #[.int .i64 R.log, .int .i64 R.next, .int .i64 R.seq, .slice a1 R.tabs.length c1], .int .i64 n] wx fun e w' => e = .returned (.int .i64 (szL R.tabs n)) ∧ Below wx.heap.size wx w') ∧
      (∀ wx, Below W.heap.size W wx → Calls Try.prog 21 #[.agg #[.int .i64 R.log, .int .i64 R.next, .int .i64 R.seq, .slice a1 R.tabs.length c1], .int .i64 n] wx fun e w' => e = .returned (.int .i64 (szL R.tabs n)) ∧ Below wx.heap.size wx w') ∧
      (∀ wx, Below W.heap.size W wx → Calls Try.prog 22 #[.agg #[.int .i64 R.log, .int .i64 R.next, .int .i64 R.seq, .slice a1 R.tabs.length c1], .int .i64 n, .slice ka LK kc, .slice ma LM mc] wx fun e w' => ∃ v, e = .returned v ∧ RSV lnE w' v ((atL R.tabs n).filter (meetB K M)) ∧ Below wx.heap.size wx w') ∧
      (∀ wx, Below W.heap.size W wx → Calls Try.prog 23 #[.agg #[.int .i64 R.log, .int .i64 R.next, .int .i64 R.seq, .slice a1 R.tabs.length c1], .int .i64 n, .slice ka LK kc, .slice ma LM mc] wx fun e w' => ∃ v, e = .returned v ∧ RSV lnE w' v ((atL R.tabs n).filter (meetB K M)) ∧ Below wx.heap.size wx w') ∧
      (∀ wx, Below W.heap.size W wx → Calls Try.prog 24 #[.agg #[.int .i64 R.log, .int .i64 R.next, .int .i64 R.seq, .slice a1 R.tabs.length c1], .slice ka LK kc] wx fun e w' => ∃ v, e = .returned v ∧ RSV lnE w' v (findR R.tabs K 4) ∧ Below wx.heap.size wx w') ∧
      (∀ wx, Below W.heap.size W wx → Calls Try.prog 25 #[.agg #[.int .i64 R.log, .int .i64 R.next, .int .i64 R.seq, .slice a1 R.tabs.length c1], .slice ka LK kc] wx fun e w' => ∃ v, e = .returned v ∧ RSV lnE w' v (findR R.tabs K 4) ∧ Below wx.heap.size wx w') ∧
      (∀ wx, Below W.heap.size W wx → Calls Try.prog 10 #[] wx fun e w' => e = .returned (.bool true) ∧ Below wx.heap.size wx w')) := by
    rw [HLK.out.1, HLK.out.2]
    refine ⟨fun wx hb => ?_, fun wx hb => ?_, fun wx hb => ?_, fun wx hb => ?_, fun wx hb => ?_, fun wx hb => ?_, fun wx hb => ?_, fun wx hb => ?_, fun wx hb => ?_⟩
    · refine (at_any (HVX.out wx hb).1 n (by omega) hs3).mono ?_
      rintro e w' ⟨a', c', ys, rfl, hb', hr, hp, hk⟩
      exact ⟨_, rfl, ⟨a', c', by rw [← show ys = atL R.tabs n from row_same hs5 hp hk], by rw [← show ys = atL R.tabs n from row_same hs5 hp hk]; exact hr⟩, hb'⟩
    · refine (rat_t (HVX.out wx hb).1 (by omega) n).mono ?_
      rintro e w' ⟨u, rfl, hr, hb'⟩
      exact ⟨_, rfl, RSV.ofRow hr, hb'⟩
    · exact size_t (HVX.out wx hb).1 (by omega) n
    · exact rsize_t (HVX.out wx hb).1 (by omega) hs2 n
    · refine (over_any (HVX.out wx hb).1 n (HVX.out wx hb).2.1 (HVX.out wx hb).2.2 (by omega) hs3).mono ?_
      rintro e w' ⟨a', c', ys, rfl, hb', hr, hp, hk⟩
      have e := row_same hs5 hp hk
      rw [over_eq, ← e]
      exact ⟨_, rfl, ⟨a', c', rfl, hr⟩, hb'⟩
    · refine (rover_t (RSG.any (HVX.out wx hb).1.tabs) (fun b hb => hb) (by omega) n (HVX.out wx hb).2.1 (HVX.out wx hb).2.2).mono ?_
      rintro e w' ⟨u, rfl, hr, hb'⟩
      exact ⟨_, rfl, RSV.ofRow hr.s, hb'⟩
    · refine (find_any (HVX.out wx hb).1 (HVX.out wx hb).2.1 (by omega) hs3).mono ?_
      rintro e w' ⟨a', c', ys, rfl, hb', hr, hp, hk⟩
      have e := row_same hs5 hp hk
      rw [find_eq hs5 hs4, ← e]
      exact ⟨_, rfl, ⟨a', c', rfl, hr⟩, hb'⟩
    · refine (rfind_t (HVX.out wx hb).1 (by omega) (HVX.out wx hb).2.1).mono ?_
      rintro e w' ⟨u, rfl, hr, hb'⟩
      exact ⟨_, rfl, RSV.ofRow hr, hb'⟩
    · exact awake15_t wx
  have HW := hidS hW
  rw [← hW]
  clear hW hWb b1 hv1 hs1 hs2 hs3 hs4 hs5 hb HVX
  generalize szL R.tabs n = S at HC
  generalize atL R.tabs n = A at HC
  generalize A.filter (meetB K M) = O at HC
  generalize findR R.tabs K 4 = F at HC
  generalize R.tabs.length = tn at HC HBX HW
  generalize R.log = lg at HC HBX HW
  generalize R.next = nx at HC HBX HW
  generalize R.seq = sq at HC HBX HW
  refine wp_region_rel (by kernel_rfl) (by decide +kernel) 53 rfl (by decide +kernel) (kLk (.agg #[.int .i64 lg, .int .i64 nx, .int .i64 sq, .slice a1 tn c1]) n (.slice ka LK kc) (.slice ma LM mc) A O F S) (fun k hk => kLk_stays _ _ _ _ _ _ _ _ k hk) ?_ ?_
  rotate_left
  · intro a w' hd' hbel hv
    rename_i hk
    refine hk a w' ?_
    have h8 : a.eval (.tmp 8) = .bool true := hv 41 _ (by decide) rfl
    have h8' : a.tmps[8]?.getD undef = .bool true := by simpa [Act.eval] using h8
    go_wp2
    exact bodyPost_ret (v := .bool true) (by simp [results, Try.results6, go_sem, h8']) hd' ⟨rfl, HEN.out.trans (hbel.mono HEN.out.size)⟩
  -- 0: slot 12
  refine ⟨fun a w c => ?_, ?_⟩
  · have hw := c.want0 rfl
    have e9 : a.eval (.tmp 9) = _ := (c.old 9 rfl).trans rfl
    obtain ⟨y0, y1, y2, y3⟩ := HBX.out w c.below
    exact goalR_val hw (by have ec : ∀ v, a.eval (.const v) = v := fun _ => rfl; generalize a.eval = ρ at ec e9 ⊢; simp [execOp, go_sem, ec, e9, y0, y1, y2, y3]) rfl
  -- 1: slot 13
  refine ⟨fun a w c => ?_, ?_⟩
  · exact goalR_move (c.want0 rfl) (.tmp 1) (.inl rfl) ((c.old 1 rfl).trans rfl) rfl
  -- 2: slot 14
  refine ⟨fun a w c => ?_, ?_⟩
  · have hw := c.want0 rfl
    have e12 : a.eval (.tmp 12) = _ := c.val 0 _ rfl rfl
    have e13 : a.eval (.tmp 13) = _ := c.val 1 _ rfl rfl
    exact goalR_fn hw rfl (by simp only [List.map_toArray, List.map_cons, List.map_nil, e12, e13]) (by kernel_rfl) ((HC.out.1 w c.below).mono fun e w' ⟨v, he, hr, hb⟩ => ⟨v, he, outR_rel rfl hr hb⟩)
  -- 3: slot 15
  refine ⟨fun a w c => ?_, ?_⟩
  · have hw := c.want0 rfl
    have e9 : a.eval (.tmp 9) = _ := (c.old 9 rfl).trans rfl
    obtain ⟨y0, y1, y2, y3⟩ := HBX.out w c.below
    exact goalR_val hw (by have ec : ∀ v, a.eval (.const v) = v := fun _ => rfl; generalize a.eval = ρ at ec e9 ⊢; simp [execOp, go_sem, ec, e9, y0, y1, y2, y3]) rfl
  -- 4: slot 16
  refine ⟨fun a w c => ?_, ?_⟩
  · exact goalR_move (c.want0 rfl) (.tmp 1) (.inl rfl) ((c.old 1 rfl).trans rfl) rfl
  -- 5: slot 17
  refine ⟨fun a w c => ?_, ?_⟩
  · have hw := c.want0 rfl
    have e15 : a.eval (.tmp 15) = _ := c.val 3 _ rfl rfl
    have e16 : a.eval (.tmp 16) = _ := c.val 4 _ rfl rfl
    exact goalR_fn hw rfl (by simp only [List.map_toArray, List.map_cons, List.map_nil, e15, e16]) (by kernel_rfl) ((HC.out.2.1 w c.below).mono fun e w' ⟨v, he, hr, hb⟩ => ⟨v, he, outR_rel rfl hr hb⟩)
  -- 6: slot 18
  refine ⟨fun a w c => ?_, ?_⟩
  · have hw := c.want0 rfl
    obtain ⟨a1', c1', e14, r14⟩ := c.rel 2 _ rfl rfl
    obtain ⟨a2', c2', e17, r17⟩ := c.rel 5 _ rfl rfl
    replace e14 : a.eval (.tmp 14) = _ := e14
    replace e17 : a.eval (.tmp 17) = _ := e17
    exact goalR_fn hw rfl (by simp only [List.map_toArray, List.map_cons, List.map_nil, e14, e17]) (by kernel_rfl) ((rsameT_eq r14 r17).mono fun e w' ⟨he, hb⟩ => ⟨_, he, outR_val rfl hb⟩)
  -- 7: slot 19
  refine ⟨fun a w c => ?_, ?_⟩
  · exact goalR_move (c.want0 rfl) (.tmp 18) (.inl rfl) (c.val 6 _ rfl rfl) rfl
  -- 8: slot 20
  refine ⟨fun a w c => ?_, ?_⟩
  · have hw := c.want 7 true rfl rfl rfl
    have e9 : a.eval (.tmp 9) = _ := (c.old 9 rfl).trans rfl
    obtain ⟨y0, y1, y2, y3⟩ := HBX.out w c.below
    exact goalR_val hw (by have ec : ∀ v, a.eval (.const v) = v := fun _ => rfl; generalize a.eval = ρ at ec e9 ⊢; simp [execOp, go_sem, ec, e9, y0, y1, y2, y3]) rfl
  -- 9: slot 21
  refine ⟨fun a w c => ?_, ?_⟩
  · exact goalR_move (c.want 7 true rfl rfl rfl) (.tmp 1) (.inl rfl) ((c.old 1 rfl).trans rfl) rfl
  -- 10: slot 22
  refine ⟨fun a w c => ?_, ?_⟩
  · have hw := c.want 7 true rfl rfl rfl
    have e20 : a.eval (.tmp 20) = _ := c.val 8 _ rfl rfl
    have e21 : a.eval (.tmp 21) = _ := c.val 9 _ rfl rfl
    exact goalR_fn hw rfl (by simp only [List.map_toArray, List.map_cons, List.map_nil, e20, e21]) (by kernel_rfl) ((HC.out.2.2.1 w c.below).mono fun e w' ⟨he, hb⟩ => ⟨_, he, outR_val rfl hb⟩)
  -- 11: slot 23
  refine ⟨fun a w c => ?_, ?_⟩
  · have hw := c.want 7 true rfl rfl rfl
    have e9 : a.eval (.tmp 9) = _ := (c.old 9 rfl).trans rfl
    obtain ⟨y0, y1, y2, y3⟩ := HBX.out w c.below
    exact goalR_val hw (by have ec : ∀ v, a.eval (.const v) = v := fun _ => rfl; generalize a.eval = ρ at ec e9 ⊢; simp [execOp, go_sem, ec, e9, y0, y1, y2, y3]) rfl
  -- 12: slot 24
  refine ⟨fun a w c => ?_, ?_⟩
  · exact goalR_move (c.want 7 true rfl rfl rfl) (.tmp 1) (.inl rfl) ((c.old 1 rfl).trans rfl) rfl
  -- 13: slot 25
  refine ⟨fun a w c => ?_, ?_⟩
  · have hw := c.want 7 true rfl rfl rfl
    have e23 : a.eval (.tmp 23) = _ := c.val 11 _ rfl rfl
    have e24 : a.eval (.tmp 24) = _ := c.val 12 _ rfl rfl
    exact goalR_fn hw rfl (by simp only [List.map_toArray, List.map_cons, List.map_nil, e23, e24]) (by kernel_rfl) ((HC.out.2.2.2.1 w c.below).mono fun e w' ⟨he, hb⟩ => ⟨_, he, outR_val rfl hb⟩)
  -- 14: slot 26
  refine ⟨fun a w c => ?_, ?_⟩
  · have e22 : a.eval (.tmp 22) = _ := c.val 10 _ rfl rfl
    have e25 : a.eval (.tmp 25) = _ := c.val 13 _ rfl rfl
    exact goalR_val (c.want 7 true rfl rfl rfl) (by have ec : ∀ v, a.eval (.const v) = v := fun _ => rfl; generalize a.eval = ρ at ec e22 e25 ⊢; simp [execOp, go_sem, ec, e22, e25]) rfl
  -- 15: slot 27
  refine ⟨fun a w c => ?_, ?_⟩
  · have e19 : a.eval (.tmp 19) = _ := c.val 7 _ rfl rfl
    have e26 : a.eval (.tmp 26) = _ := c.val 14 _ rfl rfl
    exact goalR_val (c.want0 rfl) (by have ec : ∀ v, a.eval (.const v) = v := fun _ => rfl; generalize a.eval = ρ at ec e19 e26 ⊢; simp [execOp, go_sem, ec, e19, e26]) rfl
  -- 16: slot 28
  refine ⟨fun a w c => ?_, ?_⟩
  · exact goalR_move (c.want0 rfl) (.tmp 27) (.inl rfl) (c.val 15 _ rfl rfl) rfl
  -- 17: slot 29
  refine ⟨fun a w c => ?_, ?_⟩
  · have hw := c.want 16 true rfl rfl rfl
    have e9 : a.eval (.tmp 9) = _ := (c.old 9 rfl).trans rfl
    obtain ⟨y0, y1, y2, y3⟩ := HBX.out w c.below
    exact goalR_val hw (by have ec : ∀ v, a.eval (.const v) = v := fun _ => rfl; generalize a.eval = ρ at ec e9 ⊢; simp [execOp, go_sem, ec, e9, y0, y1, y2, y3]) rfl
  -- 18: slot 30
  refine ⟨fun a w c => ?_, ?_⟩
  · exact goalR_move (c.want 16 true rfl rfl rfl) (.tmp 1) (.inl rfl) ((c.old 1 rfl).trans rfl) rfl
  -- 19: slot 31
  refine ⟨fun a w c => ?_, ?_⟩
  · exact goalR_move (c.want 16 true rfl rfl rfl) (.tmp 2) (.inl rfl) ((c.old 2 rfl).trans rfl) rfl
  -- 20: slot 32
  refine ⟨fun a w c => ?_, ?_⟩
  · exact goalR_move (c.want 16 true rfl rfl rfl) (.tmp 3) (.inl rfl) ((c.old 3 rfl).trans rfl) rfl
  -- 21: slot 33
  refine ⟨fun a w c => ?_, ?_⟩
  · have hw := c.want 16 true rfl rfl rfl
    have e29 : a.eval (.tmp 29) = _ := c.val 17 _ rfl rfl
    have e30 : a.eval (.tmp 30) = _ := c.val 18 _ rfl rfl
    have e31 : a.eval (.tmp 31) = _ := c.val 19 _ rfl rfl
    have e32 : a.eval (.tmp 32) = _ := c.val 20 _ rfl rfl
    exact goalR_fn hw rfl (by simp only [List.map_toArray, List.map_cons, List.map_nil, e29, e30, e31, e32]) (by kernel_rfl) ((HC.out.2.2.2.2.1 w c.below).mono fun e w' ⟨v, he, hr, hb⟩ => ⟨v, he, outR_rel rfl hr hb⟩)
  -- 22: slot 34
  refine ⟨fun a w c => ?_, ?_⟩
  · have hw := c.want 16 true rfl rfl rfl
    have e9 : a.eval (.tmp 9) = _ := (c.old 9 rfl).trans rfl
    obtain ⟨y0, y1, y2, y3⟩ := HBX.out w c.below
    exact goalR_val hw (by have ec : ∀ v, a.eval (.const v) = v := fun _ => rfl; generalize a.eval = ρ at ec e9 ⊢; simp [execOp, go_sem, ec, e9, y0, y1, y2, y3]) rfl
  -- 23: slot 35
  refine ⟨fun a w c => ?_, ?_⟩
  · exact goalR_move (c.want 16 true rfl rfl rfl) (.tmp 1) (.inl rfl) ((c.old 1 rfl).trans rfl) rfl
  -- 24: slot 36
  refine ⟨fun a w c => ?_, ?_⟩
  · exact goalR_move (c.want 16 true rfl rfl rfl) (.tmp 2) (.inl rfl) ((c.old 2 rfl).trans rfl) rfl
  -- 25: slot 37
  refine ⟨fun a w c => ?_, ?_⟩
  · exact goalR_move (c.want 16 true rfl rfl rfl) (.tmp 3) (.inl rfl) ((c.old 3 rfl).trans rfl) rfl
  -- 26: slot 38
  refine ⟨fun a w c => ?_, ?_⟩
  · have hw := c.want 16 true rfl rfl rfl
    have e34 : a.eval (.tmp 34) = _ := c.val 22 _ rfl rfl
    have e35 : a.eval (.tmp 35) = _ := c.val 23 _ rfl rfl
    have e36 : a.eval (.tmp 36) = _ := c.val 24 _ rfl rfl
    have e37 : a.eval (.tmp 37) = _ := c.val 25 _ rfl rfl
    exact goalR_fn hw rfl (by simp only [List.map_toArray, List.map_cons, List.map_nil, e34, e35, e36, e37]) (by kernel_rfl) ((HC.out.2.2.2.2.2.1 w c.below).mono fun e w' ⟨v, he, hr, hb⟩ => ⟨v, he, outR_rel rfl hr hb⟩)
  -- 27: slot 39
  refine ⟨fun a w c => ?_, ?_⟩
  · have hw := c.want 16 true rfl rfl rfl
    obtain ⟨a1', c1', e33, r33⟩ := c.rel 21 _ rfl rfl
    obtain ⟨a2', c2', e38, r38⟩ := c.rel 26 _ rfl rfl
    replace e33 : a.eval (.tmp 33) = _ := e33
    replace e38 : a.eval (.tmp 38) = _ := e38
    exact goalR_fn hw rfl (by simp only [List.map_toArray, List.map_cons, List.map_nil, e33, e38]) (by kernel_rfl) ((rsameT_eq r33 r38).mono fun e w' ⟨he, hb⟩ => ⟨_, he, outR_val rfl hb⟩)
  -- 28: slot 40
  refine ⟨fun a w c => ?_, ?_⟩
  · have e28 : a.eval (.tmp 28) = _ := c.val 16 _ rfl rfl
    have e39 : a.eval (.tmp 39) = _ := c.val 27 _ rfl rfl
    exact goalR_val (c.want0 rfl) (by have ec : ∀ v, a.eval (.const v) = v := fun _ => rfl; generalize a.eval = ρ at ec e28 e39 ⊢; simp [execOp, go_sem, ec, e28, e39]) rfl
  -- 29: slot 41
  refine ⟨fun a w c => ?_, ?_⟩
  · exact goalR_move (c.want0 rfl) (.tmp 40) (.inl rfl) (c.val 28 _ rfl rfl) rfl
  -- 30: slot 42
  refine ⟨fun a w c => ?_, ?_⟩
  · have hw := c.want 29 true rfl rfl rfl
    have e9 : a.eval (.tmp 9) = _ := (c.old 9 rfl).trans rfl
    obtain ⟨y0, y1, y2, y3⟩ := HBX.out w c.below
    exact goalR_val hw (by have ec : ∀ v, a.eval (.const v) = v := fun _ => rfl; generalize a.eval = ρ at ec e9 ⊢; simp [execOp, go_sem, ec, e9, y0, y1, y2, y3]) rfl
  -- 31: slot 43
  refine ⟨fun a w c => ?_, ?_⟩
  · exact goalR_move (c.want 29 true rfl rfl rfl) (.tmp 2) (.inl rfl) ((c.old 2 rfl).trans rfl) rfl
  -- 32: slot 44
  refine ⟨fun a w c => ?_, ?_⟩
  · have hw := c.want 29 true rfl rfl rfl
    have e42 : a.eval (.tmp 42) = _ := c.val 30 _ rfl rfl
    have e43 : a.eval (.tmp 43) = _ := c.val 31 _ rfl rfl
    exact goalR_fn hw rfl (by simp only [List.map_toArray, List.map_cons, List.map_nil, e42, e43]) (by kernel_rfl) ((HC.out.2.2.2.2.2.2.1 w c.below).mono fun e w' ⟨v, he, hr, hb⟩ => ⟨v, he, outR_rel rfl hr hb⟩)
  -- 33: slot 45
  refine ⟨fun a w c => ?_, ?_⟩
  · have hw := c.want 29 true rfl rfl rfl
    have e9 : a.eval (.tmp 9) = _ := (c.old 9 rfl).trans rfl
    obtain ⟨y0, y1, y2, y3⟩ := HBX.out w c.below
    exact goalR_val hw (by have ec : ∀ v, a.eval (.const v) = v := fun _ => rfl; generalize a.eval = ρ at ec e9 ⊢; simp [execOp, go_sem, ec, e9, y0, y1, y2, y3]) rfl
  -- 34: slot 46
  refine ⟨fun a w c => ?_, ?_⟩
  · exact goalR_move (c.want 29 true rfl rfl rfl) (.tmp 2) (.inl rfl) ((c.old 2 rfl).trans rfl) rfl
  -- 35: slot 47
  refine ⟨fun a w c => ?_, ?_⟩
  · have hw := c.want 29 true rfl rfl rfl
    have e45 : a.eval (.tmp 45) = _ := c.val 33 _ rfl rfl
    have e46 : a.eval (.tmp 46) = _ := c.val 34 _ rfl rfl
    exact goalR_fn hw rfl (by simp only [List.map_toArray, List.map_cons, List.map_nil, e45, e46]) (by kernel_rfl) ((HC.out.2.2.2.2.2.2.2.1 w c.below).mono fun e w' ⟨v, he, hr, hb⟩ => ⟨v, he, outR_rel rfl hr hb⟩)
  -- 36: slot 48
  refine ⟨fun a w c => ?_, ?_⟩
  · have hw := c.want 29 true rfl rfl rfl
    obtain ⟨a1', c1', e44, r44⟩ := c.rel 32 _ rfl rfl
    obtain ⟨a2', c2', e47, r47⟩ := c.rel 35 _ rfl rfl
    replace e44 : a.eval (.tmp 44) = _ := e44
    replace e47 : a.eval (.tmp 47) = _ := e47
    exact goalR_fn hw rfl (by simp only [List.map_toArray, List.map_cons, List.map_nil, e44, e47]) (by kernel_rfl) ((rsameT_eq r44 r47).mono fun e w' ⟨he, hb⟩ => ⟨_, he, outR_val rfl hb⟩)
  -- 37: slot 49
  refine ⟨fun a w c => ?_, ?_⟩
  · have e41 : a.eval (.tmp 41) = _ := c.val 29 _ rfl rfl
    have e48 : a.eval (.tmp 48) = _ := c.val 36 _ rfl rfl
    exact goalR_val (c.want0 rfl) (by have ec : ∀ v, a.eval (.const v) = v := fun _ => rfl; generalize a.eval = ρ at ec e41 e48 ⊢; simp [execOp, go_sem, ec, e41, e48]) rfl
  -- 38: slot 50
  refine ⟨fun a w c => ?_, ?_⟩
  · exact goalR_move (c.want0 rfl) (.tmp 49) (.inl rfl) (c.val 37 _ rfl rfl) rfl
  -- 39: slot 51
  refine ⟨fun a w c => ?_, ?_⟩
  · have hw := c.want 38 true rfl rfl rfl
    exact goalR_fn hw rfl (by simp) (by kernel_rfl) ((HC.out.2.2.2.2.2.2.2.2 w c.below).mono fun e w' ⟨he, hb⟩ => ⟨_, he, outR_val rfl hb⟩)
  -- 40: slot 52
  refine ⟨fun a w c => ?_, ?_⟩
  · have e50 : a.eval (.tmp 50) = _ := c.val 38 _ rfl rfl
    have e51 : a.eval (.tmp 51) = _ := c.val 39 _ rfl rfl
    exact goalR_val (c.want0 rfl) (by have ec : ∀ v, a.eval (.const v) = v := fun _ => rfl; generalize a.eval = ρ at ec e50 e51 ⊢; simp [execOp, go_sem, ec, e50, e51]) rfl
  -- 41: slot 8
  refine ⟨fun a w c => ?_, ?_⟩
  · exact goalR_move (c.want0 rfl) (.tmp 52) (.inr rfl) (c.val 40 _ rfl rfl) rfl
  exact True.intro
theorem looks15_all {w : World} {ao : Option Addr} {en cap : Nat} {es : List EdV} (h : EdRow w ao en cap es) {ka ma : Option Addr} {kl kc ml mc : Nat} {K M : List Int} (hK : Sl w ka kl kc K) (hM : Sl w ma ml mc M) (n : Int) :
    Calls Try.prog 6 #[.slice ao en cap, .int .i64 n, .slice ka kl kc, .slice ma ml mc] w fun e w' => e = .returned (.bool true) ∧ Below w.heap.size w w' := by
  obtain rfl : K.length = kl := hK.1
  obtain rfl : M.length = ml := hM.1
  exact looks15_any h hK hM n
end Go.Proofs.Ytjgfklbhagcbaaa

/- How a row of edits that came in is opened. -/
namespace Go.Proofs.Ytjgfklbhagcbaaa
open Go.ChangeShapes Go.WideShapes Go.ChangeAt Go.RowKit Go.Deep
set_option linter.unusedVariables false
set_option linter.unusedSimpArgs false

theorem rows_of {w : World} {b off : Nat} : ∀ (len : Nat), (∀ k, k < len → ∃ (e : EdV) (aa : Option Addr) (ac : Nat) (ra : Option Addr) (rc : Nat), (w.cell? ⟨b, off + k * 5, none⟩ = some (.int .i64 e.log) ∧ w.cell? ⟨b, off + k * 5 + 1, none⟩ = some (.int .i64 e.next) ∧ w.cell? ⟨b, off + k * 5 + 2, none⟩ = some (.int .i64 e.seq) ∧ w.cell? ⟨b, off + k * 5 + 3, none⟩ = some (.slice aa e.add.length ac) ∧ w.cell? ⟨b, off + k * 5 + 4, none⟩ = some (.slice ra e.rem.length rc)) ∧ EdM w e aa ac ra rc) →
    ∃ es : List EdV, es.length = len ∧ ∀ (k : Nat) (e : EdV), es[k]? = some e → ∃ aa ac ra rc, (w.cell? ⟨b, off + k * 5, none⟩ = some (.int .i64 e.log) ∧ w.cell? ⟨b, off + k * 5 + 1, none⟩ = some (.int .i64 e.next) ∧ w.cell? ⟨b, off + k * 5 + 2, none⟩ = some (.int .i64 e.seq) ∧ w.cell? ⟨b, off + k * 5 + 3, none⟩ = some (.slice aa e.add.length ac) ∧ w.cell? ⟨b, off + k * 5 + 4, none⟩ = some (.slice ra e.rem.length rc)) ∧ EdM w e aa ac ra rc
  | 0, _ => ⟨[], rfl, fun k e h => by simp at h⟩
  | len + 1, h => by
    obtain ⟨es, h1, h2⟩ := rows_of len fun k hk => h k (by omega)
    obtain ⟨e, aa, ac, ra, rc, hc, hm⟩ := h len (Nat.lt_succ_self _)
    refine ⟨es ++ [e], by simp [h1], fun k x hx => ?_⟩
    by_cases q : k < len
    · rw [List.getElem?_append_left (by omega)] at hx
      exact h2 k x hx
    · have hk : k < (es ++ [e]).length := (List.getElem?_eq_some_iff.1 hx).1
      rw [List.length_append, h1, List.length_singleton] at hk
      obtain rfl : k = len := by omega
      rw [List.getElem?_append_right (by omega), h1, Nat.sub_self] at hx
      obtain rfl : e = x := by simpa using hx
      exact ⟨aa, ac, ra, rc, hc, hm⟩
section
variable {H : Type} {enc : TypeId × Value → H} {W : World} {spare : Nat → Bool} {held : Bool} {base : Nat}
theorem cellsEdits : Try.prog.cellsOf 36 = 1 := by kernel_rfl
set_option maxRecDepth 100000 in
/-- An edit: its five cells. -/
theorem open_ed {fuel : Nat} {cs : List Value} {x : DataW H × List MemPlace} (hf : DataW.trod enc Try.prog W base spare held fuel 30 cs = some x) :
    ∃ (e : EdV) (aa : Option Addr) (ac : Nat) (ra : Option Addr) (rc : Nat), cs = [.int .i64 e.log, .int .i64 e.next, .int .i64 e.seq, .slice aa e.add.length ac, .slice ra e.rem.length rc] ∧ EdM W e aa ac ra rc := by
  obtain ⟨xs, n, _, _, hl, hxl, hc⟩ := DataW.trod_struct Try.underlying30 hf
  rw [cellsEdit] at hl
  obtain ⟨a, b, c, d, e, hcs⟩ := list5 _ hl
  subst hcs
  have g0 : DataW.trod enc Try.prog W base spare held n 2 (([a, b, c, d, e].drop 0).take (Try.prog.cellsOf 2)) = xs[0]? := hc 0 _ rfl
  rw [cells2, List.getElem?_eq_getElem (show 0 < xs.length by rw [hxl]; decide)] at g0
  have g1 : DataW.trod enc Try.prog W base spare held n 2 (([a, b, c, d, e].drop 1).take (Try.prog.cellsOf 2)) = xs[1]? := hc 1 _ rfl
  rw [cells2, List.getElem?_eq_getElem (show 1 < xs.length by rw [hxl]; decide)] at g1
  have g2 : DataW.trod enc Try.prog W base spare held n 2 (([a, b, c, d, e].drop 2).take (Try.prog.cellsOf 2)) = xs[2]? := hc 2 _ rfl
  rw [cells2, List.getElem?_eq_getElem (show 2 < xs.length by rw [hxl]; decide)] at g2
  have g3 : DataW.trod enc Try.prog W base spare held n 22 (([a, b, c, d, e].drop 3).take (Try.prog.cellsOf 22)) = xs[3]? := hc 3 _ rfl
  rw [cellsTables, List.getElem?_eq_getElem (show 3 < xs.length by rw [hxl]; decide)] at g3
  have g4 : DataW.trod enc Try.prog W base spare held n 28 (([a, b, c, d, e].drop 4).take (Try.prog.cellsOf 28)) = xs[4]? := hc 4 _ rfl
  rw [cellsI64s, List.getElem?_eq_getElem (show 4 < xs.length by rw [hxl]; decide)] at g4
  obtain ⟨lg, e0, _, w0⟩ := DataW.trod_int Try.underlying2 g0
  obtain ⟨nx, e1, _, w1⟩ := DataW.trod_int Try.underlying2 g1
  obtain ⟨sq, e2, _, w2⟩ := DataW.trod_int Try.underlying2 g2
  obtain ⟨aa, an, ac, ad, e3, k1⟩ := cell_lns g3
  obtain ⟨ra, rn, rc, rm, e4, k2⟩ := cell_i64s g4
  have h0 : [a] = [Value.int .i64 lg] := e0
  have h1 : [b] = [Value.int .i64 nx] := e1
  have h2 : [c] = [Value.int .i64 sq] := e2
  have h3 : [d] = [Value.slice aa an ac] := e3
  have h4 : [e] = [Value.slice ra rn rc] := e4
  simp only [List.cons.injEq, and_true] at h0 h1 h2 h3 h4
  subst h0 h1 h2 h3 h4
  have l1 := k1.len.1
  have l2 := k2.len.1
  subst l1 l2
  exact ⟨⟨lg, nx, sq, ad, rm⟩, aa, ac, ra, rc, rfl, ⟨wf_i64 w0, wf_i64 w1, wf_i64 w2, k1, k2⟩⟩
set_option maxRecDepth 100000 in
/-- A row of edits that came in. -/
theorem open36 {v : Value} {d : DataW H} {ps : List MemPlace} (hv : Value.okWide Try.prog W .any base 36 v) (h : DataW.Trod enc Try.prog W 0 (fun _ => true) true 36 v d ps) :
    ∃ (ao : Option Addr) (n cap : Nat) (es : List EdV), v = .slice ao n cap ∧ EdRow W ao n cap es := by
  obtain ⟨a0, len0, cap0, rfl⟩ := okWide_slice Try.underlying36 hv
  obtain ⟨fuel, hf⟩ := h
  rcases open_slice Try.underlying36 hf with ⟨hcs, _⟩ | ⟨a, len, cap, m, n, D, Pl, hcs, hb, hl, hm, hmm, _, hc⟩
  · have e : Value.slice a0 len0 cap0 = .slice none 0 0 := by simpa [Value.cells] using hcs
    exact ⟨none, 0, 0, [], e, ⟨rfl, Nat.le_refl _, Nat.zero_le _⟩, fun _ => ⟨rfl, rfl⟩, fun k e h => by simp at h⟩
  · have hlm : len ≤ m := by rw [hmm]; split <;> omega
    have e : Value.slice a0 len0 cap0 = .slice (some a) len cap := by simpa [Value.cells] using hcs
    rw [cellsEdit] at hc
    by_cases h0 : len = 0
    · subst h0
      exact ⟨some a, 0, cap, [], e, ⟨rfl, hl, hm⟩, (fun q => by cases q), fun k e h => by simp at h⟩
    obtain ⟨b, off, spot⟩ := a
    have hspot : spot = none := by
      obtain ⟨cs0, h10, h20⟩ := hc 0 (by omega)
      obtain ⟨_, hl40, hcell0⟩ := World.cells?_some h10
      have h0 := hcell0 0 (by decide)
      rw [List.getElem?_eq_getElem (by omega)] at h0
      simpa [Addr.add] using World.cell?_spot h0
    subst hspot
    obtain ⟨es, q1, q2⟩ := rows_of (w := W) (b := b) (off := off) len (fun k hk => by
      obtain ⟨cs', h1, h2⟩ := hc k (by omega)
      obtain ⟨_, hl5, hcell⟩ := World.cells?_some h1
      obtain ⟨ed, aa, ac, ra, rc, rfl, hM⟩ := open_ed h2
      have key : ∀ (j : Nat) (v : Value), j < 5 → [Value.int .i64 ed.log, .int .i64 ed.next, .int .i64 ed.seq, .slice aa ed.add.length ac, .slice ra ed.rem.length rc][j]? = some v → W.cell? ⟨b, off + k * 5 + j, none⟩ = some v := fun j v hj hv => by
        have := hcell j hj
        rw [Addr.add_lit, Addr.add_lit] at this
        rw [this]
        exact hv
      exact ⟨ed, aa, ac, ra, rc, ⟨key 0 _ (by omega) rfl, key 1 _ (by omega) rfl, key 2 _ (by omega) rfl, key 3 _ (by omega) rfl, key 4 _ (by omega) rfl⟩, hM⟩)
    refine ⟨some ⟨b, off, none⟩, len, cap, es, e, ⟨q1, hl, hm⟩, (fun q => by cases q), fun k x hx => ?_⟩
    obtain ⟨aa, ac, ra, rc, hcc, hM⟩ := q2 k x hx
    exact ⟨b, off, aa, ac, ra, rc, rfl, hcc, hM⟩
end
end Go.Proofs.Ytjgfklbhagcbaaa
