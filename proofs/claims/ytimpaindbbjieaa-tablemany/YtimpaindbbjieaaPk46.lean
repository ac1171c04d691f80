import Derived.Deep.Slices
import Derived.ProofKit
import Derived.OpenShut
import Derived.Test.YtimpaindbbjieaaPk03
import Derived.Test.YtimpaindbbjieaaPk07
import Derived.Test.YtimpaindbbjieaaPk11
import Derived.Test.YtimpaindbbjieaaPk12
import Derived.Test.YtimpaindbbjieaaPk20
import Derived.Test.YtimpaindbbjieaaPk31
import Derived.Test.YtimpaindbbjieaaPk44
import Derived.Test.YtimpaindbbjieaaPk45
/- A region that draws its order, of which each operation yields what is told of it in every later world: told once, whatever the order. -/
namespace Go.Proofs.Ytimpaindbbjieaa
open Go.RowKit
set_option linter.unusedVariables false
set_option linter.unusedSimpArgs false

/-- Every edge that binds leads backwards: by reckoning. -/
def lowBR (ops : Array Oper) : Bool := (List.range ops.size).all fun i => match ops[i]? with
  | some o => o.after.all fun e => !Region.binds .any e || decide (e.on < i)
  | none => true

theorem lowBR_spec {ops : Array Oper} (h : lowBR ops = true) : ∀ (i : Nat) o, ops[i]? = some o → ∀ e ∈ o.after, Region.binds .any e = true → e.on < i := by
  intro i o ho e he hb
  have hi : i < ops.size := by
    rcases Nat.lt_or_ge i ops.size with k | k
    · exact k
    · simp [k] at ho
  unfold lowBR at h
  have h1 := List.all_eq_true.1 h i (List.mem_range.2 hi)
  rw [ho] at h1
  have h2 := (Array.all_eq_true_iff_forall_mem.1 h1) e he
  rw [hb] at h2
  simpa using h2

/-- The places that the operations write: one each, unlike one another, within the frame. -/
def dstOfR (ops : Array Oper) (i : Nat) : Nat := ((ops[i]?).bind (·.dst)).getD 0
def dstBR (ops : Array Oper) (n : Nat) : Bool := (ops.toList.all fun o => o.dst.isSome) && decide (((List.range ops.size).map (dstOfR ops)).Nodup) && ((List.range ops.size).all fun i => decide (dstOfR ops i < n))
theorem dstBR_spec {ops : Array Oper} {n : Nat} (h : dstBR ops n = true) : (∀ i o, ops[i]? = some o → o.dst = some (dstOfR ops i)) ∧ (∀ i j, i < ops.size → j < ops.size → i ≠ j → dstOfR ops i ≠ dstOfR ops j) ∧ (∀ i, i < ops.size → dstOfR ops i < n) := by
  unfold dstBR at h
  simp only [Bool.and_eq_true, decide_eq_true_eq, List.all_eq_true, List.mem_range] at h
  obtain ⟨⟨h1, h2⟩, h3⟩ := h
  refine ⟨fun i o ho => ?_, fun i j hi hj hne e => ?_, h3⟩
  · have hm : o ∈ ops.toList := by
      have := Array.getElem?_eq_some_iff.1 ho
      obtain ⟨hi, e⟩ := this
      rw [← e]
      exact Array.getElem_mem_toList hi
    have := h1 o hm
    unfold dstOfR
    rw [ho]
    cases hd : o.dst with
    | none => rw [hd] at this; cases this
    | some d => simp [hd]
  · have hi' : i < ((List.range ops.size).map (dstOfR ops)).length := by simpa using hi
    have hj' : j < ((List.range ops.size).map (dstOfR ops)).length := by simpa using hj
    have := (List.getElem_inj (h₀ := hi') (h₁ := hj') h2).1 (by simpa using e)
    exact hne this


def slotR (ops : Array Oper) (a : Act) (i : Nat) : Value := a.eval (.tmp (dstOfR ops i))

theorem evalR_put_same {a : Act} {d : Nat} {v : Value} (h : d < a.tmps.size) : (a.put (some d) v).eval (.tmp d) = v := by
  simp [Act.put, Act.eval, h]
theorem evalR_put_other {a : Act} {d s : Nat} {v : Value} (h : d ≠ s) : (a.put (some d) v).eval (.tmp s) = a.eval (.tmp s) := by
  simp [Act.put, Act.eval, h]


def afterBR (o : Oper) (j : Nat) : Bool := o.after.toList.any fun e => Region.binds .any e && e.on == j
theorem afterBR_spec {o : Oper} {j : Nat} (h : afterBR o j = true) : ∃ e ∈ o.after, Region.binds .any e = true ∧ e.on = j := by
  unfold afterBR at h
  obtain ⟨e, he, h2⟩ := List.any_eq_true.1 h
  simp only [Bool.and_eq_true, beq_iff_eq] at h2
  exact ⟨e, by simpa using he, h2.1, h2.2⟩
def freeBR (ops : Array Oper) (s : Nat) : Bool := (List.range ops.size).all fun i => dstOfR ops i != s
theorem freeBR_spec {ops : Array Oper} {s : Nat} (h : freeBR ops s = true) : ∀ i, i < ops.size → dstOfR ops i ≠ s := by
  intro i hi
  unfold freeBR at h
  have := List.all_eq_true.1 h i (List.mem_range.2 hi)
  simpa using this

abbrev Rl := World → Value → Prop
def vl (v : Value) : Rl := fun _ x => x = v
def rOf (ks : List Rl) (i : Nat) : Rl := (ks[i]?).getD (vl undef)
/-- What stays in later worlds. -/
def StaysR (r : Rl) : Prop := ∀ (w w' : World) (v : Value), r w v → Below w.heap.size w w' → r w' v
theorem stays_vl (v : Value) : StaysR (vl v) := fun _ _ _ h _ => h
structure MidR (W : World) (A : Act) (ops : Array Oper) (K : Nat → Rl) (L : Nat → Bool) (a : Act) (w : World) : Prop where
  below : Below W.heap.size W w
  defers : a.defers = A.defers
  size : a.tmps.size = A.tmps.size
  old : ∀ s, (∀ i, i < ops.size → dstOfR ops i ≠ s) → a.eval (.tmp s) = A.eval (.tmp s)
  rel : ∀ i, i < ops.size → L i = true → K i w (slotR ops a i)
def OutR (K : Nat → Rl) (i : Nat) (w : World) (v : Value) (w' : World) : Prop := K i w' v ∧ Below w.heap.size w w'
theorem midR_step {W : World} {A : Act} {ops : Array Oper} {K : Nat → Rl} {L : Nat → Bool} {a : Act} {w : World} (hK : ∀ i, StaysR (K i)) (hd : dstBR ops A.tmps.size = true)
    (h : MidR W A ops K L a w) {i : Nat} {o : Oper} (ho : ops[i]? = some o) {v : Value} {w' : World} (hout : OutR K i w v w') :
    MidR W A ops K (fun j => if j = i then true else L j) (a.put o.dst v) w' := by
  obtain ⟨d1, d2, d3⟩ := dstBR_spec hd
  have his : i < ops.size := by
    rcases Nat.lt_or_ge i ops.size with k | k
    · exact k
    · simp [k] at ho
  rw [d1 i o ho]
  have ha : dstOfR ops i < a.tmps.size := by rw [h.size]; exact d3 i his
  have hsi : slotR ops (a.put (some (dstOfR ops i)) v) i = v := evalR_put_same ha
  have hso : ∀ j, j < ops.size → j ≠ i → slotR ops (a.put (some (dstOfR ops i)) v) j = slotR ops a j := fun j hj hne => evalR_put_other (d2 i j his hj (Ne.symm hne))
  refine ⟨h.below.trans (hout.2.mono h.below.size), h.defers, by simp [Act.put, h.size], fun s hs => ?_, fun j hj hL => ?_⟩
  · rw [evalR_put_other (hs i his)]
    exact h.old s hs
  · by_cases e : j = i
    · subst e
      rw [hsi]
      exact hout.1
    · rw [hso j hj e]
      exact hK j _ _ _ (h.rel j hj (by simpa [e] using hL)) hout.2
structure CtxR (W : World) (A : Act) (ops : Array Oper) (ks : List Rl) (i : Nat) (o : Oper) (a : Act) (w : World) : Prop where
  below : Below W.heap.size W w
  old : ∀ s, freeBR ops s = true → a.eval (.tmp s) = A.eval (.tmp s)
  val : ∀ j v, afterBR o j = true → rOf ks j = vl v → a.eval (.tmp (dstOfR ops j)) = v
  rel : ∀ j r, afterBR o j = true → rOf ks j = r → r w (a.eval (.tmp (dstOfR ops j)))
  want0 : o.guard = none → Region.wanted o (yielded ops a.tmps) = true
  want : ∀ j b, afterBR o j = true → o.guard = some (j, b) → rOf ks j = vl (.bool b) → Region.wanted o (yielded ops a.tmps) = true
  skip : ∀ j b c, afterBR o j = true → o.guard = some (j, b) → rOf ks j = vl (.bool c) → c ≠ b → Region.wanted o (yielded ops a.tmps) = false
def GoalR (P : Program) (Q : Exit → Act → World → Prop) (ops : Array Oper) (ks : List Rl) (i : Nat) (o : Oper) (a : Act) (w : World) : Prop :=
  (Region.wanted o (yielded ops a.tmps) = true ∧ ∀ Kk : Act → World → Prop, (∀ v w', OutR (rOf ks) i w v w' → Kk (a.put o.dst v) w') → o.wp P a w Kk Q) ∨ (Region.wanted o (yielded ops a.tmps) = false ∧ rOf ks i = vl undef)
def StepR (P : Program) (Q : Exit → Act → World → Prop) (W : World) (A : Act) (ops : Array Oper) (ks : List Rl) (i : Nat) (o : Oper) : Prop :=
  ∀ (a : Act) (w : World), CtxR W A ops ks i o a w → GoalR P Q ops ks i o a w
def StepsR (P : Program) (Q : Exit → Act → World → Prop) (W : World) (A : Act) (ops : Array Oper) (ks : List Rl) : Nat → List Oper → Prop
  | _, [] => True
  | i, o :: rest => StepR P Q W A ops ks i o ∧ StepsR P Q W A ops ks (i + 1) rest
theorem stepsR_get {P : Program} {Q : Exit → Act → World → Prop} {W : World} {A : Act} {ops : Array Oper} {ks : List Rl} : ∀ (l : List Oper) (n i : Nat) (o : Oper), StepsR P Q W A ops ks n l → l[i]? = some o → StepR P Q W A ops ks (n + i) o
  | [], _, _, _, _, h => by simp at h
  | x :: l, n, 0, o, hs, h => by simp at h; subst h; exact hs.1
  | x :: l, n, i + 1, o, hs, h => by
    have := stepsR_get l (n + 1) i o hs.2 (by simpa using h)
    rw [show n + (i + 1) = n + 1 + i by omega]
    exact this
/-- THE REGION: each operation by itself. -/
theorem wp_region_rel {P : Program} {id : Nat} {Q : Exit → Act → World → Prop} {A : Act} {W : World} {l : List Oper} (hm : P.follows .mixedOrders = true) (hl : lowBR l.toArray = true) (n : Nat) (hn : A.tmps.size = n) (hd0 : dstBR l.toArray n = true)
    (ks : List Rl) (hK : ∀ k ∈ ks, StaysR k) (hstep : StepsR P Q W A l.toArray ks 0 l)
    (hend : ∀ (a : Act) (w : World), a.defers = A.defers → Below W.heap.size W w → (∀ i v, i < l.length → rOf ks i = vl v → a.eval (.tmp (dstOfR l.toArray i)) = v) → Q .normal a w) :
    (Code.region id l.toArray true).wp P Q A W := by
  have hd : dstBR l.toArray A.tmps.size = true := by rw [hn]; exact hd0
  have hKs : ∀ i, StaysR (rOf ks i) := fun i => by
    unfold rOf
    cases h : ks[i]? with
    | none => exact stays_vl _
    | some k => exact hK k (List.mem_of_getElem? h)
  refine wp_region_inv hm (lowBR_spec hl) (fun A L a w => MidR W A l.toArray (rOf ks) L a w) ?_ ?_ ?_
  · exact ⟨(Below.refl _ _).drew, rfl, rfl, fun _ _ => rfl, fun _ _ h => by cases h⟩
  · intro L a w i o hM ho hi hafter Kk hKk
    have hs := stepsR_get l 0 i o hstep (by simpa using ho)
    rw [Nat.zero_add] at hs
    obtain ⟨d1, d2, d3⟩ := dstBR_spec hd
    have low := lowBR_spec hl i o ho
    have his : i < l.toArray.size := by
      rcases Nat.lt_or_ge i l.toArray.size with k | k
      · exact k
      · rw [Array.getElem?_eq_none k] at ho; cases ho
    have hLj : ∀ j, afterBR o j = true → j < l.toArray.size ∧ L j = true := fun j hj => by
      obtain ⟨e, he, hb, rfl⟩ := afterBR_spec hj
      exact ⟨by have := low e he hb; omega, hafter e he hb⟩
    have hy : ∀ j b, afterBR o j = true → rOf ks j = vl (.bool b) → yielded l.toArray a.tmps j = some b := fun j b hj hKj => by
      obtain ⟨h1, h2⟩ := hLj j hj
      have hv := hM.rel j h1 h2
      rw [hKj] at hv
      have hv' : slotR l.toArray a j = .bool b := hv
      have ho' : l.toArray[j]? = some l.toArray[j] := Array.getElem?_eq_getElem h1
      have hdj := d1 j _ ho'
      have hsz : dstOfR l.toArray j < a.tmps.size := by rw [hM.size]; exact d3 j h1
      unfold yielded
      rw [ho', Option.bind_some, hdj, Option.bind_some, Array.getElem?_eq_getElem hsz]
      unfold slotR at hv'
      simp only [Act.eval, Array.getD_eq_getD_getElem?, Array.getElem?_eq_getElem hsz, Option.getD_some] at hv'
      rw [hv']
    have hc : CtxR W A l.toArray ks i o a w := by
      refine ⟨hM.below, fun s h => hM.old s (freeBR_spec h), fun j v hj hKj => ?_, fun j r hj hKj => ?_, fun hg => ?_, fun j b hj hg hKj => ?_, fun j b c hj hg hKj hne => ?_⟩
      · have := hM.rel j (hLj j hj).1 (hLj j hj).2
        rw [hKj] at this
        exact this
      · have := hM.rel j (hLj j hj).1 (hLj j hj).2
        rw [hKj] at this
        exact this
      · unfold Region.wanted; rw [hg]
      · unfold Region.wanted; rw [hg]; simp only [hy j b hj hKj]; simp
      · unfold Region.wanted; rw [hg]; simp only [hy j c hj hKj]; simpa using hne
    rcases hs a w hc with ⟨hw, hs⟩ | ⟨hw, hv⟩
    · rw [if_pos hw]
      exact hs Kk fun v w' hout => hKk _ _ (midR_step hKs hd hM ho hout)
    · rw [if_neg (by rw [hw]; exact Bool.false_ne_true)]
      exact hKk _ _ (midR_step hKs hd hM ho ⟨by rw [hv]; rfl, Below.refl _ _⟩)
  · intro L a w hM hall
    refine hend a w hM.defers hM.below fun i v hi hKi => ?_
    have := hM.rel i (by simpa using hi) (hall i (by simpa using hi))
    rw [hKi] at this
    exact this
/-- THE REGION: each operation by itself. -/
theorem wp_region_rel2 {P : Program} {id : Nat} {Q : Exit → Act → World → Prop} {A : Act} {W : World} {l : List Oper} (hm : P.follows .mixedOrders = true) (hl : lowBR l.toArray = true) (n : Nat) (hn : A.tmps.size = n) (hd0 : dstBR l.toArray n = true)
    (ks : List Rl) (hK : ∀ k ∈ ks, StaysR k) (hstep : StepsR P Q W A l.toArray ks 0 l)
    (hend : ∀ (a : Act) (w : World), MidR W A l.toArray (rOf ks) (fun _ => true) a w → Q .normal a w) :
    (Code.region id l.toArray true).wp P Q A W := by
  have hd : dstBR l.toArray A.tmps.size = true := by rw [hn]; exact hd0
  have hKs : ∀ i, StaysR (rOf ks i) := fun i => by
    unfold rOf
    cases h : ks[i]? with
    | none => exact stays_vl _
    | some k => exact hK k (List.mem_of_getElem? h)
  refine wp_region_inv hm (lowBR_spec hl) (fun A L a w => MidR W A l.toArray (rOf ks) L a w) ?_ ?_ ?_
  · exact ⟨(Below.refl _ _).drew, rfl, rfl, fun _ _ => rfl, fun _ _ h => by cases h⟩
  · intro L a w i o hM ho hi hafter Kk hKk
    have hs := stepsR_get l 0 i o hstep (by simpa using ho)
    rw [Nat.zero_add] at hs
    obtain ⟨d1, d2, d3⟩ := dstBR_spec hd
    have low := lowBR_spec hl i o ho
    have his : i < l.toArray.size := by
      rcases Nat.lt_or_ge i l.toArray.size with k | k
      · exact k
      · rw [Array.getElem?_eq_none k] at ho; cases ho
    have hLj : ∀ j, afterBR o j = true → j < l.toArray.size ∧ L j = true := fun j hj => by
      obtain ⟨e, he, hb, rfl⟩ := afterBR_spec hj
      exact ⟨by have := low e he hb; omega, hafter e he hb⟩
    have hy : ∀ j b, afterBR o j = true → rOf ks j = vl (.bool b) → yielded l.toArray a.tmps j = some b := fun j b hj hKj => by
      obtain ⟨h1, h2⟩ := hLj j hj
      have hv := hM.rel j h1 h2
      rw [hKj] at hv
      have hv' : slotR l.toArray a j = .bool b := hv
      have ho' : l.toArray[j]? = some l.toArray[j] := Array.getElem?_eq_getElem h1
      have hdj := d1 j _ ho'
      have hsz : dstOfR l.toArray j < a.tmps.size := by rw [hM.size]; exact d3 j h1
      unfold yielded
      rw [ho', Option.bind_some, hdj, Option.bind_some, Array.getElem?_eq_getElem hsz]
      unfold slotR at hv'
      simp only [Act.eval, Array.getD_eq_getD_getElem?, Array.getElem?_eq_getElem hsz, Option.getD_some] at hv'
      rw [hv']
    have hc : CtxR W A l.toArray ks i o a w := by
      refine ⟨hM.below, fun s h => hM.old s (freeBR_spec h), fun j v hj hKj => ?_, fun j r hj hKj => ?_, fun hg => ?_, fun j b hj hg hKj => ?_, fun j b c hj hg hKj hne => ?_⟩
      · have := hM.rel j (hLj j hj).1 (hLj j hj).2
        rw [hKj] at this
        exact this
      · have := hM.rel j (hLj j hj).1 (hLj j hj).2
        rw [hKj] at this
        exact this
      · unfold Region.wanted; rw [hg]
      · unfold Region.wanted; rw [hg]; simp only [hy j b hj hKj]; simp
      · unfold Region.wanted; rw [hg]; simp only [hy j c hj hKj]; simpa using hne
    rcases hs a w hc with ⟨hw, hs⟩ | ⟨hw, hv⟩
    · rw [if_pos hw]
      exact hs Kk fun v w' hout => hKk _ _ (midR_step hKs hd hM ho hout)
    · rw [if_neg (by rw [hw]; exact Bool.false_ne_true)]
      exact hKk _ _ (midR_step hKs hd hM ho ⟨by rw [hv]; rfl, Below.refl _ _⟩)
  · intro L a w hM hall
    exact hend a w ⟨hM.below, hM.defers, hM.size, hM.old, fun i hi _ => hM.rel i hi (hall i hi)⟩
/-- Values laid into their places, one behind the other. -/
def putL : Act → List (Nat × Value) → Act
  | A, [] => A
  | A, (d, v) :: r => putL (A.put (some d) v) r
theorem putL_size : ∀ (r : List (Nat × Value)) (A : Act), (putL A r).tmps.size = A.tmps.size ∧ (putL A r).defers = A.defers
  | [], A => ⟨rfl, rfl⟩
  | (d, v) :: r, A => by
    obtain ⟨h1, h2⟩ := putL_size r (A.put (some d) v)
    exact ⟨by rw [putL, h1]; simp [Act.put], by rw [putL, h2]; rfl⟩
theorem putL_other : ∀ (r : List (Nat × Value)) (A : Act) (s : Nat), (∀ x ∈ r, x.1 ≠ s) → (putL A r).eval (.tmp s) = A.eval (.tmp s)
  | [], A, s, _ => rfl
  | (d, v) :: r, A, s, h => by
    rw [putL, putL_other r _ s (fun x hx => h x (List.mem_cons_of_mem _ hx))]
    exact evalR_put_other (h (d, v) (List.mem_cons_self ..))
theorem putL_at : ∀ (r : List (Nat × Value)) (A : Act) (d : Nat) (v : Value), (r.map (·.1)).Nodup → (d, v) ∈ r → d < A.tmps.size → (putL A r).eval (.tmp d) = v
  | [], A, d, v, _, h, _ => by cases h
  | (d', v') :: r, A, d, v, hn, h, hs => by
    rw [List.map_cons, List.nodup_cons] at hn
    rw [putL]
    rcases List.mem_cons.1 h with e | h
    · obtain ⟨e1, e2⟩ := Prod.mk.inj e
      rw [e1] at hs ⊢
      rw [e2, putL_other r _ d' (fun x hx e => hn.1 (List.mem_map.2 ⟨x, hx, e⟩))]
      exact evalR_put_same hs
    · exact putL_at r _ d v hn.2 h (by simpa [Act.put] using hs)
theorem act_eq {a b : Act} (h1 : a.tmps.size = b.tmps.size) (h2 : a.defers = b.defers) (h : ∀ s, s < b.tmps.size → a.eval (.tmp s) = b.eval (.tmp s)) : a = b := by
  cases a with
  | mk ta da =>
    cases b with
    | mk tb db =>
      simp only at h1 h2
      subst h2
      have : ta = tb := Array.ext h1 fun i hi1 hi2 => by
        have := h i hi2
        simpa [Act.eval, hi1, hi2] using this
      subst this
      rfl
/-- THE REGION, where each operation yields a known value: it goes on with all of them laid. -/
theorem wp_region_vals {P : Program} {id : Nat} {Q : Exit → Act → World → Prop} {A : Act} {W : World} {l : List Oper} (hm : P.follows .mixedOrders = true) (hl : lowBR l.toArray = true) (n : Nat) (hn : A.tmps.size = n) (hd0 : dstBR l.toArray n = true)
    (vs : List Value) (hlen : vs.length = l.length) (hstep : StepsR P Q W A l.toArray (vs.map vl) 0 l)
    (ds : List Nat) (hds : (List.range l.length).map (dstOfR l.toArray) = ds)
    (hend : ∀ w, Below W.heap.size W w → Q .normal (putL A (ds.zip vs)) w) :
    (Code.region id l.toArray true).wp P Q A W := by
  refine wp_region_rel2 hm hl n hn hd0 (vs.map vl) (fun k hk => by obtain ⟨v, _, rfl⟩ := List.mem_map.1 hk; exact stays_vl v) hstep ?_
  intro a w hM
  have hd : dstBR l.toArray A.tmps.size = true := by rw [hn]; exact hd0
  obtain ⟨d1, d2, d3⟩ := dstBR_spec hd
  have hsz : l.toArray.size = l.length := by simp
  have hdl : ds.length = l.length := by rw [← hds]; simp
  have hnd : ds.Nodup := by
    have h9 := hd
    unfold dstBR at h9
    simp only [Bool.and_eq_true, decide_eq_true_eq] at h9
    have h8 := h9.1.2
    rw [hsz, hds] at h8
    exact h8
  have ha : a = putL A (ds.zip vs) := by
    refine act_eq (hM.size.trans (putL_size _ _).1.symm) (hM.defers.trans (putL_size _ _).2.symm) fun s hs => ?_
    rw [(putL_size _ _).1] at hs
    by_cases hf : ∃ i, i < l.length ∧ dstOfR l.toArray i = s
    · obtain ⟨i, hi, rfl⟩ := hf
      have hr := hM.rel i (by simpa using hi) rfl
      have hiv : i < vs.length := by omega
      have hk : rOf (vs.map vl) i = vl vs[i] := by
        unfold rOf
        rw [List.getElem?_map, List.getElem?_eq_getElem hiv]
        rfl
      rw [hk] at hr
      refine Eq.trans hr (putL_at _ _ _ _ ?_ ?_ hs).symm
      · rw [List.map_fst_zip (by omega)]; exact hnd
      · rw [List.mem_iff_getElem?]
        refine ⟨i, ?_⟩
        rw [List.getElem?_zip_eq_some]
        refine ⟨?_, List.getElem?_eq_getElem hiv⟩
        rw [← hds, List.getElem?_map, List.getElem?_range hi]
        rfl
    · have hno : ∀ i, i < l.toArray.size → dstOfR l.toArray i ≠ s := fun i hi e => hf ⟨i, by simpa using hi, e⟩
      rw [hM.old s hno]
      refine (putL_other _ _ _ fun x hx e => ?_).symm
      have hx1 : x.1 ∈ ds := List.of_mem_zip hx |>.1
      rw [← hds] at hx1
      obtain ⟨i, hi, he⟩ := List.mem_map.1 hx1
      exact hf ⟨i, by simpa using hi, he.trans e⟩
  rw [ha]
  exact hend w hM.below
section
variable {P : Program} {Q : Exit → Act → World → Prop} {ops : Array Oper} {ks : List Rl} {i : Nat} {o : Oper} {a : Act} {w : World}
theorem goalR_run {v : Value} {w' : World} (hw : Region.wanted o (yielded ops a.tmps) = true) (hrun : (execOp a.eval o).run P w = .ok (.value v) w') (hout : OutR (rOf ks) i w v w') : GoalR P Q ops ks i o a w :=
  .inl ⟨hw, fun Kk hKk => by unfold Oper.wp; rw [hrun]; exact hKk v w' hout⟩
theorem goalR_val {v : Value} (hw : Region.wanted o (yielded ops a.tmps) = true) (hrun : (execOp a.eval o).run P w = .ok (.value v) w) (hv : rOf ks i = vl v) : GoalR P Q ops ks i o a w :=
  goalR_run hw hrun ⟨by rw [hv]; rfl, Below.refl _ _⟩
theorem goalR_move {v : Value} (hw : Region.wanted o (yielded ops a.tmps) = true) (x : Operand) (h : o.op = .move x ∨ o.op = .assign x) (hx : a.eval x = v) (hv : rOf ks i = vl v) : GoalR P Q ops ks i o a w := by
  refine goalR_val hw ?_ hv
  rw [← hx]
  rcases h with h | h
  · exact BigFrame.run_move x h w
  · exact BigFrame.run_assign x h w
theorem goalR_call {f : FuncId} {args : Array Value} (hw : Region.wanted o (yielded ops a.tmps) = true) (hrun : (execOp a.eval o).run P w = .ok (.enter f args) w)
    (hc : Calls P f args w fun e w' => ∃ v, e = .returned v ∧ OutR (rOf ks) i w v w') : GoalR P Q ops ks i o a w :=
  .inl ⟨hw, fun Kk hKk => by
    unfold Oper.wp
    rw [hrun]
    exact hc.mono fun e w' ⟨v, he, hout⟩ => by subst he; exact hKk v w' hout⟩
theorem goalR_fn {f : FuncId} {xs : Array Operand} {ts : Array TypeId} {args : Array Value} (hw : Region.wanted o (yielded ops a.tmps) = true) (hop : o.op = .call { callee := .value (.func f), args := xs, argTypes := ts }) (hargs : xs.map a.eval = args) (hf : (callFunc f args).run P w = .ok (.enter f args) w)
    (hc : Calls P f args w fun e w' => ∃ v, e = .returned v ∧ OutR (rOf ks) i w v w') : GoalR P Q ops ks i o a w := by
  refine goalR_call hw ?_ hc
  unfold execOp
  rw [hop]
  simp [resolve, invoke, Act.eval, go_sem, hargs, hf]
theorem goalR_skip (hw : Region.wanted o (yielded ops a.tmps) = false) (hv : rOf ks i = vl undef) : GoalR P Q ops ks i o a w := .inr ⟨hw, hv⟩
theorem outR_val {v : Value} {w' : World} (hv : rOf ks i = vl v) (h : Below w.heap.size w w') : OutR (rOf ks) i w v w' := ⟨by rw [hv]; rfl, h⟩
theorem outR_rel {r : Rl} {v : Value} {w' : World} (hv : rOf ks i = r) (hr : r w' v) (h : Below w.heap.size w w') : OutR (rOf ks) i w v w' := ⟨by rw [hv]; exact hr, h⟩
end
theorem stays_slv (xs : List Int) : StaysR (fun w v => SlV w v xs) := fun _ _ _ h hb => h.later hb
theorem goalR_str {Q : Exit → Act → World → Prop} {ops : Array Oper} {ks : List Rl} {i : Nat} {o : Oper} {a : Act} {w : World} {x : Operand} {v : Value} {xs : List Int} (hw : Region.wanted o (yielded ops a.tmps) = true) (hop : o.op = .convert 25 9 x) (hx : a.eval x = v) (h : SlV w v xs)
    (hv : rOf ks i = vl (.string (strOfNums xs))) : GoalR Try.prog Q ops ks i o a w := by
  obtain ⟨ao, c, rfl, hs⟩ := h
  refine goalR_val hw ?_ hv
  unfold execOp
  rw [hop]
  simp only [hx, Sem.run_bind, str_l hs, Result.andThen_ok, Sem.run_pure]
end Go.Proofs.Ytimpaindbbjieaa

/- The laws on tables: TableReads. -/
namespace Go.Proofs.Ytimpaindbbjieaa
open Go.RowKit
set_option linter.unusedVariables false
set_option linter.unusedSimpArgs false

theorem elemEn : Try.prog.elem 22 = 34 := by kernel_rfl
def wnT (g : Option EntV) : EntV := g.getD noE
theorem gotT_want {B : Nat} {g : Option EntV} {r : Ending} {w' : World} (h : GotE B g r w') : ∃ ka kc va vc, r = .returned (.tuple #[.agg #[.slice ka (wnT g).key.length kc, .int .i64 (wnT g).seq, .bool (wnT g).gone, .int .i64 (wnT g).till, .slice va (wnT g).val.length vc], .bool g.isSome]) ∧ Sl w' ka (wnT g).key.length kc (wnT g).key ∧ Sl w' va (wnT g).val.length vc (wnT g).val := by
  rcases h with ⟨rfl, he⟩ | ⟨x, ka, kc, va, vc, rfl, he, hM, _⟩
  · exact ⟨none, 0, none, 0, he, Sl.nil _, Sl.nil _⟩
  · obtain ⟨a, c, b, d, e, s1, s2, _⟩ := hM
    unfold entL at e
    simp only [List.cons.injEq, Value.slice.injEq, and_true, true_and] at e
    obtain ⟨⟨rfl, rfl⟩, rfl, rfl⟩ := e
    exact ⟨ka, kc, va, vc, he, s1, s2⟩
theorem stays_rsvE (xs : List EntV) : StaysR (fun w v => RSV entE w v xs) := fun _ _ _ h hb => by
  obtain ⟨a, c, e, h⟩ := h
  exact ⟨a, c, e, h.later hb⟩
def kRd (tp sv kv fv uv : Value) (hd lst : List Int) (n m : Nat) (p0 p1 k0 k1 : Value) (g1 g2 : Value) (ok : Bool) (M : List EntV) (mb : Bool) (v20 : Value) (fk : List Int) : List Rl :=
  [vl tp, vl (.int .i64 (n : Int)), vl sv, vl (.int .i64 (n : Int)), vl (.bool true), vl (.bool true),
   vl tp, (fun w v => SlV w v hd), vl (.string (strOfNums hd)), vl sv, vl p0, vl p0, vl k0, vl (.string (strOfNums hd)), vl (.bool true), vl (.bool true), vl (.bool true),
   vl tp, (fun w v => SlV w v lst), vl (.string (strOfNums lst)), vl sv, vl sv, vl (.int .i64 (n : Int)), vl (.int .i64 (m : Int)), vl p1, vl p1, vl k1, vl (.string (strOfNums lst)), vl (.bool true), vl (.bool true), vl (.bool true),
   vl g1, vl g2, vl (.bool true), vl (.bool true), vl (.bool true),
   vl (.bool ok), vl (.bool ok), vl (.bool true), vl (.bool true), vl (.bool true),
   vl tp, vl fv, vl uv, (fun w v => RSV entE w v M), vl sv, vl fv, vl uv, (fun w v => RSV entE w v M), vl (.bool true), vl (.bool true), vl (.bool true),
   vl tp, vl kv, vl (.bool mb), vl v20, (fun w v => SlV w v fk), vl kv, vl (.bool mb), vl (.bool true), vl (.bool true), vl (.bool true),
   vl (.bool true), vl (.bool true), vl (.bool true)]
theorem kRd_stays (tp sv kv fv uv : Value) (hd lst : List Int) (n m : Nat) (p0 p1 k0 k1 : Value) (g1 g2 : Value) (ok : Bool) (M : List EntV) (mb : Bool) (v20 : Value) (fk : List Int) : ∀ k ∈ kRd tp sv kv fv uv hd lst n m p0 p1 k0 k1 g1 g2 ok M mb v20 fk, StaysR k := by
  intro k hk
  unfold kRd at hk
  simp only [List.mem_cons, List.not_mem_nil, or_false] at hk
  rcases hk with rfl | hk
  · exact stays_vl _
  repeat (first | (rcases hk with rfl | hk; first | exact stays_vl _ | exact stays_slv _ | exact stays_rsvE _) | (subst hk; first | exact stays_vl _ | exact stays_slv _ | exact stays_rsvE _))
def kL0 (i : Nat) : List Rl := [vl (.int .i64 (i : Int)), vl (.bool true), vl (.bool true), vl undef, vl undef, vl undef, vl undef, vl undef, vl undef, vl undef, vl undef, vl undef, vl undef, vl (.bool true)]
def kL1 (k : Nat) (sv : Value) (pk k1 : Value) (pb k2 : Value) (cm : Int) (b : Bool) : List Rl := [vl (.int .i64 (k : Int)), vl (.bool false), vl (.bool false), vl sv, vl (.int .i64 (k : Int)), vl (.int .i64 ((k - 1 : Nat) : Int)), vl pk, vl pk, vl k1, vl pb, vl k2, vl (.int .i64 cm), vl (.bool b), vl (.bool b)]

set_option maxRecDepth 100000 in
theorem putRd (x0 x1 x2 x3 x4 x5 x6 x7 x8 x9 x10 x11 x12 x13 x14 x15 x16 x17 x18 x19 x20 x21 x22 x23 x24 x25 x26 x27 x28 x29 x30 x31 x32 x33 x34 x35 x36 x37 x38 x39 x40 x41 x42 x43 x44 x45 x46 x47 x48 x49 x50 x51 x52 x53 x54 x55 x56 x57 x58 x59 x60 x61 x62 x63 x64 x65 x66 x67 x68 x69 x70 x71 x72 x73 x74 x75 x76 x77 x78 x79 x80 x81 x82 x83 x84 x85 x86 x87 x88 x89 x90 x91 x92 x93 x94 x95 x96 x97 x98 x99 x100 x101 x102 x103 x104 x105 x106 x107 x108 x109 x110 x111 x112 x113 x114 x115 x116 x117 x118 x119 x120 x121 x122 x123 x124 x125 x126 x127 x128 x129 x130 x131 x132 x133 x134 x135 x136 x137 x138 x139 x140 x141 x142 x143 x144 x145 x146 x147 x148 x149 x150 x151 x152 x153 y70 y71 y72 y73 y74 y75 y76 y77 y78 y79 y80 y81 y82 y83 : Value) : putL ⟨#[x0, x1, x2, x3, x4, x5, x6, x7, x8, x9, x10, x11, x12, x13, x14, x15, x16, x17, x18, x19, x20, x21, x22, x23, x24, x25, x26, x27, x28, x29, x30, x31, x32, x33, x34, x35, x36, x37, x38, x39, x40, x41, x42, x43, x44, x45, x46, x47, x48, x49, x50, x51, x52, x53, x54, x55, x56, x57, x58, x59, x60, x61, x62, x63, x64, x65, x66, x67, x68, x69, x70, x71, x72, x73, x74, x75, x76, x77, x78, x79, x80, x81, x82, x83, x84, x85, x86, x87, x88, x89, x90, x91, x92, x93, x94, x95, x96, x97, x98, x99, x100, x101, x102, x103, x104, x105, x106, x107, x108, x109, x110, x111, x112, x113, x114, x115, x116, x117, x118, x119, x120, x121, x122, x123, x124, x125, x126, x127, x128, x129, x130, x131, x132, x133, x134, x135, x136, x137, x138, x139, x140, x141, x142, x143, x144, x145, x146, x147, x148, x149, x150, x151, x152, x153], []⟩ (List.zip [70, 71, 72, 73, 74, 75, 76, 77, 78, 79, 80, 81, 82, 83] [y70, y71, y72, y73, y74, y75, y76, y77, y78, y79, y80, y81, y82, y83]) = ⟨#[x0, x1, x2, x3, x4, x5, x6, x7, x8, x9, x10, x11, x12, x13, x14, x15, x16, x17, x18, x19, x20, x21, x22, x23, x24, x25, x26, x27, x28, x29, x30, x31, x32, x33, x34, x35, x36, x37, x38, x39, x40, x41, x42, x43, x44, x45, x46, x47, x48, x49, x50, x51, x52, x53, x54, x55, x56, x57, x58, x59, x60, x61, x62, x63, x64, x65, x66, x67, x68, x69, y70, y71, y72, y73, y74, y75, y76, y77, y78, y79, y80, y81, y82, y83, x84, x85, x86, x87, x88, x89, x90, x91, x92, x93, x94, x95, x96, x97, x98, x99, x100, x101, x102, x103, x104, x105, x106, x107, x108, x109, x110, x111, x112, x113, x114, x115, x116, x117, x118, x119, x120, x121, x122, x123, x124, x125, x126, x127, x128, x129, x130, x131, x132, x133, x134, x135, x136, x137, x138, x139, x140, x141, x142, x143, x144, x145, x146, x147, x148, x149, x150, x151, x152, x153], []⟩ := by kernel_rfl

set_option maxHeartbeats 4000000 in
set_option maxRecDepth 100000 in
theorem reads12_any (D : PT) {w : World} {ao : Option Addr} {len cap : Nat} {l : List EntV} {ya : Option Addr} {yl yc : Nat} {key : List Int} {fa : Option Addr} {fl fc : Nat} {fr : List Int} {ta : Option Addr} {tl tc : Nat} {ub : List Int} {s : Int} (h : RS entE w ao len cap l) (hkey : Sl w ya yl yc key) (hfr : Sl w fa fl fc fr) (hub : Sl w ta tl tc ub) (hs : In64 s) :
    Calls Try.prog 4 #[.slice ao len cap, .slice ya yl yc, .slice fa fl fc, .slice ta tl tc, .int .i64 s] w fun e w' => e = .returned (.bool true) ∧ Below w.heap.size w w' := by
  have hso := sorted12_any h
  have HAW : Hid (∀ wx, Calls Try.prog 8 #[] wx fun e w' => e = .returned (.bool true) ∧ Below wx.heap.size wx w') := fun wx => awake12_any D wx
  have HIN : Hid (Sl w ya yl yc key ∧ Sl w fa fl fc fr ∧ Sl w ta tl tc ub ∧ In64 s) := ⟨hkey, hfr, hub, hs⟩
  clear h hkey hfr hub hs
  go_enter Try.func4, Try.ntmps4
  go_wp2_with fail
  refine hso.mono ?_
  rintro e w1 ⟨v1, rfl, L, SR⟩
  obtain ⟨a1, c1, rfl, rs1⟩ := SR.1.s.rs
  have hn60 := SR.2.2.2.1
  have hE := D.build rs1 (by omega) (may_lgT SR.2.2.1)
  have hbe := tblE_srt (by omega) SR.2.2.1 SR.2.1
  have HS1 : Hid (RS entE w1 a1 L.length c1 L ∧ Below w.heap.size w w1) := ⟨rs1, SR.2.2.2.2⟩
  have HL : Hid ((∀ e ∈ L, mayE e = true) ∧ ordE L ∧ L.length ≤ 60) := ⟨SR.2.2.1, SR.2.1, hn60⟩
  clear hso SR rs1
  by_cases q0 : L.length = 0
  · rw [if_pos q0] at hbe
    rw [hbe] at hE
    have q0' : ((L.length : Int) == 0) = true := by rw [q0]; rfl
    generalize L.length = n at q0' hE HS1
    generalize tblX L = X at hE
    clear q0 hbe hn60
    go_wp2_with (first | (go_at_call 9; refine hE.mono ?_; rintro e w2 ⟨v2, rfl, -, b2⟩) | (go_at_call 8; refine (HAW.out _).mono ?_; rintro e w3 ⟨rfl, b3⟩))
    have B2 := HS1.out.2.trans (b2.mono HS1.out.2.size)
    exact bodyPost_ret (v := .bool true) (by simp [results, Try.results4, go_sem]) rfl ⟨rfl, B2.trans (b3.mono B2.size)⟩
  · rw [if_neg q0] at hbe
    have hX : tblX L = tblB L := by unfold tblX; rw [if_pos hbe]
    have ho := opT_of_tbl hbe (rs_okT HS1.out.1)
    have hbig := (tblE_ok hbe).2.2.2.2
    rw [hbe, hX] at hE
    generalize tblB L = X at hE ho hbig
    obtain ⟨LN, hLN⟩ : ∃ n, n = X.length := ⟨_, rfl⟩
    have HLN := hid hLN
    rw [← hLN] at hbig
    have HO1 : Hid (∀ {wx : World} {a : Option Addr} {c : Nat}, Sl wx a LN c X → Calls Try.prog 12 #[.slice a LN c] wx fun e w' => ∃ p, e = .returned (.tuple #[.pointer (some ⟨p, 0, none⟩), .int .i64 0]) ∧ D.R w' p L ∧ Below wx.heap.size wx w') := fun {wx a c} hs => (D.opn hs (by omega)).mono fun e w' ⟨v, E, he, h1, h2, h3, h4⟩ => by
      rw [ho] at h1 h3
      have hE := h1.2 rfl
      obtain ⟨p, hv, hR⟩ := h3 hE
      exact ⟨p, by rw [he, hE, hv]; rfl, hR, h4⟩
    obtain ⟨n, hm⟩ : ∃ n, n = L.length := ⟨_, rfl⟩
    have HM : Hid (L.length = n) := hm.symm
    rw [← hm] at hE HS1 q0 ⊢
    have hm0 : ((n : Int) == 0) = false := by simp; omega
    have HM60 : Hid (1 ≤ n ∧ n ≤ 60) := ⟨by omega, by rw [hm]; exact hn60⟩
    have hn62 : n ≤ 2 ^ 61 := by omega
    clear q0 hbe hX hbig hLN hn60 ho hm
    go_wp2_with fail
    refine hE.mono ?_
    rintro e w2 ⟨v2, rfl, ⟨a2, c2, hv2, s2⟩, b2⟩
    rw [← HLN.out] at hv2 s2
    subst hv2
    have B2 := HS1.out.2.trans (b2.mono HS1.out.2.size)
    clear hE
    go_wp2_with fail
    refine (HO1.out s2).mono ?_
    rintro e w3 ⟨p, rfl, R3, b3⟩
    have hB3 := B2.trans (b3.mono B2.size)
    have HB3 := hid hB3
    have HR3 := hid R3
    have HRS := hid ((HS1.out.1.later b2).later b3)
    have HK3 : Hid (Sl w3 ya yl yc key ∧ Sl w3 fa fl fc fr ∧ Sl w3 ta tl tc ub) := ⟨HIN.out.1.later hB3, HIN.out.2.1.later hB3, HIN.out.2.2.1.later hB3⟩
    have hg1 : Calls Try.prog 13 #[.pointer (some ⟨p, 0, none⟩), .slice ya yl yc, .int .i64 s] w3 fun r w' => ∃ ka kc va vc, r = .returned (.tuple #[.agg #[.slice ka (wnT (getE L key s)).key.length kc, .int .i64 (wnT (getE L key s)).seq, .bool (wnT (getE L key s)).gone, .int .i64 (wnT (getE L key s)).till, .slice va (wnT (getE L key s)).val.length vc], .bool (getE L key s).isSome]) ∧ (Sl w' ka (wnT (getE L key s)).key.length kc (wnT (getE L key s)).key ∧ Sl w' va (wnT (getE L key s)).val.length vc (wnT (getE L key s)).val) ∧ Below w3.heap.size w3 w' := (D.get R3 HK3.out.1 HIN.out.2.2.2).mono fun r w' ⟨⟨B, hG⟩, hb⟩ => by
      obtain ⟨ka, kc, va, vc, h1, h2, h3⟩ := gotT_want hG
      exact ⟨ka, kc, va, vc, h1, ⟨h2, h3⟩, hb⟩
    have HG2 : Hid (∀ wx, Below w3.heap.size w3 wx → Calls Try.prog 14 #[.slice a1 n c1, .slice ya yl yc, .int .i64 s] wx fun r w' => ∃ ka kc va vc, r = .returned (.tuple #[.agg #[.slice ka (wnT (getE L key s)).key.length kc, .int .i64 (wnT (getE L key s)).seq, .bool (wnT (getE L key s)).gone, .int .i64 (wnT (getE L key s)).till, .slice va (wnT (getE L key s)).val.length vc], .bool (getE L key s).isSome]) ∧ (Sl w' ka (wnT (getE L key s)).key.length kc (wnT (getE L key s)).key ∧ Sl w' va (wnT (getE L key s)).val.length vc (wnT (getE L key s)).val) ∧ Below wx.heap.size wx w') := fun wx hb => (rgetE_any (s := s) (HRS.out.later hb) (HK3.out.1.later hb) (by have := HM60.out; omega)).mono fun r w' ⟨hb', hG⟩ => by
      have hG' : GotE 0 (getE L key s) r w' := by
        rcases hG with h | ⟨x, ka, kc, va, vc, h1, h2, h3⟩
        · exact .inl h
        · exact .inr ⟨x, ka, kc, va, vc, h1, h2, h3, fun u hu b hr => Nat.zero_le _⟩
      obtain ⟨ka, kc, va, vc, h1, h2, h3⟩ := gotT_want hG'
      exact ⟨ka, kc, va, vc, h1, ⟨h2, h3⟩, hb'⟩
    generalize wnT (getE L key s) = x at hg1 HG2
    generalize (getE L key s).isSome = OK at hg1 HG2
    clear s2 b2 B2 b3 R3 hB3 HO1 HS1 HLN
    go_upto_region 9 with (go_at_call 13; refine hg1.mono ?_; rintro e w4 ⟨k1, d1, v1, g1, rfl, s4, b4⟩)
    obtain ⟨W4, hW4⟩ : ∃ W, w4.alloc (.cells #[.slice k1 x.key.length d1, .int .i64 x.seq, .bool x.gone, .int .i64 x.till, .slice v1 x.val.length g1] 34) = W := ⟨_, rfl⟩
    have bW4 : Below w4.heap.size w4 W4 := by rw [← hW4]; exact (Below.refl _ _).alloc (Nat.le_refl _) _
    have B4 := b4.trans (bW4.mono b4.size)
    have hg2 := HG2.out W4 B4
    have HX4 : Hid (∀ wx, Below W4.heap.size W4 wx → _) := fun wx hb => box_cells w4 (.slice k1 x.key.length d1) (.int .i64 x.seq) (.bool x.gone) (.int .i64 x.till) (.slice v1 x.val.length g1) 34 (wx := wx) (by rw [hW4]; exact hb)
    have HS4 : Hid (Sl W4 k1 x.key.length d1 x.key ∧ Sl W4 v1 x.val.length g1 x.val) := ⟨s4.1.later bW4, s4.2.later bW4⟩
    have HB4 := hid B4
    rw [hW4]
    clear hg1 s4 b4 bW4 B4 HG2 hW4
    go_upto_region 10 with (go_at_call 14; refine hg2.mono ?_; rintro e w5 ⟨k2, d2, v2, g2, rfl, s5, b5⟩)
    obtain ⟨W5, hW5⟩ : ∃ W, w5.alloc (.cells #[.slice k2 x.key.length d2, .int .i64 x.seq, .bool x.gone, .int .i64 x.till, .slice v2 x.val.length g2] 34) = W := ⟨_, rfl⟩
    have bW5 : Below w5.heap.size w5 W5 := by rw [← hW5]; exact (Below.refl _ _).alloc (Nat.le_refl _) _
    have B45 := b5.trans (bW5.mono b5.size)
    have B5 := HB4.out.trans (B45.mono HB4.out.size)
    have HSE : Hid (∀ wx, Below W5.heap.size W5 wx → Calls Try.prog 19 #[.agg #[.slice k1 x.key.length d1, .int .i64 x.seq, .bool x.gone, .int .i64 x.till, .slice v1 x.val.length g1], .agg #[.slice k2 x.key.length d2, .int .i64 x.seq, .bool x.gone, .int .i64 x.till, .slice v2 x.val.length g2]] wx fun e w' => e = .returned (.bool true) ∧ Below wx.heap.size wx w') := fun wx hb =>
      rsameE1_eq ((HS4.out.1.later B45).later hb) ((HS4.out.2.later B45).later hb) ((s5.1.later bW5).later hb) ((s5.2.later bW5).later hb)
    have HBX : Hid (∀ wx, Below W5.heap.size W5 wx → (wx.cell? ⟨w4.heap.size, 0, none⟩ = some (.slice k1 x.key.length d1) ∧ wx.cell? ⟨w4.heap.size, 1, none⟩ = some (.int .i64 x.seq) ∧ wx.cell? ⟨w4.heap.size, 2, none⟩ = some (.bool x.gone) ∧ wx.cell? ⟨w4.heap.size, 3, none⟩ = some (.int .i64 x.till) ∧ wx.cell? ⟨w4.heap.size, 4, none⟩ = some (.slice v1 x.val.length g1)) ∧ (wx.cell? ⟨w5.heap.size, 0, none⟩ = some (.slice k2 x.key.length d2) ∧ wx.cell? ⟨w5.heap.size, 1, none⟩ = some (.int .i64 x.seq) ∧ wx.cell? ⟨w5.heap.size, 2, none⟩ = some (.bool x.gone) ∧ wx.cell? ⟨w5.heap.size, 3, none⟩ = some (.int .i64 x.till) ∧ wx.cell? ⟨w5.heap.size, 4, none⟩ = some (.slice v2 x.val.length g2))) := fun wx hb =>
      ⟨HX4.out wx (B45.trans (hb.mono B45.size)), box_cells w5 (.slice k2 x.key.length d2) (.int .i64 x.seq) (.bool x.gone) (.int .i64 x.till) (.slice v2 x.val.length g2) 34 (wx := wx) (by rw [hW5]; exact hb)⟩
    have HB5 : Hid (Below w3.heap.size w3 W5 ∧ Below w.heap.size w W5) := ⟨B5, HB3.out.trans (B5.mono HB3.out.size)⟩
    have HR5 := hid (D.later HR3.out B5)
    have HRS5 := hid (HRS.out.later B5)
    have HK5 : Hid (Sl W5 ya yl yc key ∧ Sl W5 fa fl fc fr ∧ Sl W5 ta tl tc ub) := ⟨HK3.out.1.later B5, HK3.out.2.1.later B5, HK3.out.2.2.later B5⟩
    rw [hW5]
    generalize hP4 : w4.heap.size = P4 at HBX ⊢
    generalize hP5 : w5.heap.size = P5 at HBX ⊢
    generalize x.key.length = xk at HSE HBX
    generalize x.val.length = xv at HSE HBX
    generalize x.seq = xs at HSE HBX
    generalize x.gone = xg at HSE HBX
    generalize x.till = xt at HSE HBX
    have H0 : Hid (RowS byE W5.heap.size W5 (.slice none 0 0) (kys (L.take 0)) ∧ Below W5.heap.size W5 W5) := ⟨by rw [List.take_zero]; exact RowS.nil _ _, Below.refl _ _⟩
    clear hg2 s5 b5 bW5 B45 B5 HX4 HS4 HB4 hW5 hP4 hP5 HR3 HRS HK3 HB3
    go_wp2_with fail
    go_loopg [20, 21, 22, 65] n (fun g v _ _ i wr => ∃ k : Nat, k + g = n ∧ i = .int .i64 (k : Int) ∧ Hid (RowS byE W5.heap.size wr v (kys (L.take k)) ∧ Below W5.heap.size W5 wr))
    case atStart => exact ⟨0, by omega, rfl, H0⟩
    case round =>
      obtain ⟨k, hk, rfl, HK⟩ := hrel
      by_cases hkl : k < n
      · have hkl' : (k : Int) < (n : Int) := by omega
        have hkx : k < L.length := by have := HM.out; omega
        have bel := HK.out.2
        obtain ⟨b, off, ka, kc, va, vc, hab, e0, e1, e2, e3, e4, sk, sv, i1, i2⟩ := RS.ent HRS5.out (List.getElem?_eq_getElem hkx)
        have d0 := cell_later bel e0
        have d1 := cell_later bel e1
        have d2 := cell_later bel e2
        have d3 := cell_later bel e3
        have d4 := cell_later bel e4
        obtain ⟨kt1, kt2⟩ := ky1_at hkx
        have hk62 : k ≤ 2 ^ 61 := by omega
        obtain ⟨GK, HG⟩ : ∃ g, Hid (g < gk ∧ k + 1 + g = n) := ⟨gk - 1, by omega, by omega⟩
        obtain ⟨W1, hW1⟩ : ∃ W, wr.alloc (.cells #[.slice ka L[k].key.length kc, .int .i64 L[k].seq, .bool L[k].gone, .int .i64 L[k].till, .slice va L[k].val.length vc] 34) = W := ⟨_, rfl⟩
        have bW1 : Below wr.heap.size wr W1 := by rw [← hW1]; exact (Below.refl _ _).alloc (Nat.le_refl _) _
        have HB1 := hid (bel.trans (bW1.mono bel.size))
        have hkl3 : (kys (L.take k)).length ≤ 5000 := by
          have := kys_len (L.take k)
          rw [List.length_take] at this
          have := HM60.out
          omega
        subst hab
        have y0 : W1.cell? ⟨wr.heap.size, 0, none⟩ = some (.slice ka L[k].key.length kc) := by rw [← hW1, cell_of (heap_alloc_new wr _)]; rfl
        have HROW : Hid (RowS byE W5.heap.size W1 u20 (kys (L.take k)) ∧ (kys (L.take k)).length ≤ 5000) := ⟨HK.out.1.later bW1, hkl3⟩
        have HADD : Hid (∀ W2, Below W1.heap.size W1 W2 → RSu byE (W2.alloc (.cells #[.slice ka L[k].key.length kc] 25)) (some ⟨W2.heap.size, 0, none⟩) 1 1 [.slice ka L[k].key.length kc] [L[k].key] ∧ RowS byE W5.heap.size (W2.alloc (.cells #[.slice ka L[k].key.length kc] 25)) u20 (kys (L.take k)) ∧ Below W5.heap.size W5 (W2.alloc (.cells #[.slice ka L[k].key.length kc] 25)) ∧ (∀ u ∈ [Value.slice ka L[k].key.length kc], ∀ b, Refs u b → u20.ownBlock ≠ some b)) := fun W2 hb => by
          have b3 : Below W2.heap.size W2 (W2.alloc (.cells #[.slice ka L[k].key.length kc] 25)) := (Below.refl _ _).alloc (Nat.le_refl _) _
          refine ⟨rs_one (E := byE) (w := W2) (vs := [.slice ka L[k].key.length kc]) (x := L[k].key) ⟨ka, kc, rfl, (sk.later HB1.out).later hb⟩, (HROW.out.1.later hb).later b3, (HB1.out.trans (hb.mono HB1.out.size)).trans (b3.mono (Nat.le_trans HB1.out.size hb.size)), fun u hu b hr e => ?_⟩
          rw [List.mem_singleton.1 hu] at hr
          have h2 := sk.lt hr
          have h3 := (HROW.out.1.own_lt e).1
          omega
        by_cases hk0 : k = 0
        · have HT := hid (kt1 hk0)
          subst hk0
          simp only [Nat.zero_mul, Nat.add_zero] at d0 d1 d2 d3 d4
          generalize L[0] = o at d0 d1 d2 d3 d4 HADD HT hW1 y0
          generalize kys (L.take 0) = KS at HROW HADD HT
          generalize o.key = key0 at d0 HADD HT hW1 y0
          generalize key0.length = kl at d0 HADD hW1 y0
          clear kt1 kt2 sk sv i1 i2 hk bel bW1 hkl3 HK e0 e1 e2 e3 e4
          go_upto_region 14 with fail
          refine wp_region_vals (by kernel_rfl) (by decide +kernel) 154 rfl (by decide +kernel) [.int .i64 0, .bool true, .bool true, undef, undef, undef, undef, undef, undef, undef, undef, undef, undef, .bool true] rfl ?_ [70, 71, 72, 73, 74, 75, 76, 77, 78, 79, 80, 81, 82, 83] (by decide +kernel) ?_
          rotate_left
          · intro w6 B6
            rename_i hk
            refine hk _ _ ?_
            rw [putRd]
            obtain ⟨A1, A2, A3, A4⟩ := HADD.out w6 B6
            have y9 := cell_later B6 y0
            go_wp2_with (at_builtin; refine wpList_appS byE (t := 38) (z := .slice none 0 0) (bytes := 24) (B := W5.heap.size) Try.underlying38 byE_info rfl (by decide) rfl (.tmp 84) (.tmp 87) rfl rfl A2 rfl A1 A4 (by have := HROW.out.2; omega) (by have := HROW.out.2; omega) A3.size ?_; intro v9 w9 r9 g9 m9; have B9 := A3.trans (A2.below g9 A3.size))
            go_roundg GK
            case measure => exact HG.out.1
            case rel => exact ⟨0 + 1, HG.out.2, by go_num, by rw [HT.out]; exact r9, B9⟩
          -- 0: slot 70
          refine ⟨fun a w c => ?_, ?_⟩
          · exact goalR_move (c.want0 rfl) (.tmp 21) (.inl rfl) ((c.old 21 rfl).trans rfl) rfl
          -- 1: slot 71
          refine ⟨fun a w c => ?_, ?_⟩
          · have hw := c.want0 rfl
            have e70 : a.eval (.tmp 70) = _ := c.val 0 _ rfl rfl
            exact goalR_val hw (by have ec : ∀ v, a.eval (.const v) = v := fun _ => rfl; generalize a.eval = ρ at ec e70 ⊢; simp [execOp, go_sem, ec, e70]) rfl
          -- 2: slot 72
          refine ⟨fun a w c => ?_, ?_⟩
          · exact goalR_move (c.want0 rfl) (.tmp 71) (.inl rfl) (c.val 1 _ rfl rfl) rfl
          -- 3: slot 73
          refine ⟨fun a w c => ?_, ?_⟩
          · exact goalR_skip (c.skip 2 false true rfl rfl rfl (by decide)) rfl
          -- 4: slot 74
          refine ⟨fun a w c => ?_, ?_⟩
          · exact goalR_skip (c.skip 2 false true rfl rfl rfl (by decide)) rfl
          -- 5: slot 75
          refine ⟨fun a w c => ?_, ?_⟩
          · exact goalR_skip (c.skip 2 false true rfl rfl rfl (by decide)) rfl
          -- 6: slot 76
          refine ⟨fun a w c => ?_, ?_⟩
          · exact goalR_skip (c.skip 2 false true rfl rfl rfl (by decide)) rfl
          -- 7: slot 77
          refine ⟨fun a w c => ?_, ?_⟩
          · exact goalR_skip (c.skip 2 false true rfl rfl rfl (by decide)) rfl
          -- 8: slot 78
          refine ⟨fun a w c => ?_, ?_⟩
          · exact goalR_skip (c.skip 2 false true rfl rfl rfl (by decide)) rfl
          -- 9: slot 79
          refine ⟨fun a w c => ?_, ?_⟩
          · exact goalR_skip (c.skip 2 false true rfl rfl rfl (by decide)) rfl
          -- 10: slot 80
          refine ⟨fun a w c => ?_, ?_⟩
          · exact goalR_skip (c.skip 2 false true rfl rfl rfl (by decide)) rfl
          -- 11: slot 81
          refine ⟨fun a w c => ?_, ?_⟩
          · exact goalR_skip (c.skip 2 false true rfl rfl rfl (by decide)) rfl
          -- 12: slot 82
          refine ⟨fun a w c => ?_, ?_⟩
          · exact goalR_skip (c.skip 2 false true rfl rfl rfl (by decide)) rfl
          -- 13: slot 83
          refine ⟨fun a w c => ?_, ?_⟩
          · have hw := c.want0 rfl
            have e72 : a.eval (.tmp 72) = _ := c.val 2 _ rfl rfl
            exact goalR_val hw (by have ec : ∀ v, a.eval (.const v) = v := fun _ => rfl; generalize a.eval = ρ at ec e72 ⊢; simp [execOp, go_sem, ec, e72]) rfl
          exact True.intro
        · have hk1 : k - 1 < L.length := by omega
          obtain ⟨b', off', kb, kd, vb, vd, hab', f0, -, -, -, -, tk, -, -, -⟩ := RS.ent HRS5.out (List.getElem?_eq_getElem hk1)
          simp only [Option.some.injEq, Addr.mk.injEq, and_true] at hab'
          obtain ⟨rfl, rfl⟩ := hab'
          have f1 := cell_later HB1.out f0
          have HT := hid (kt2 (by omega))
          have HCM : Hid (∀ wx, Below W1.heap.size W1 wx → Calls Try.prog 15 #[.slice kb L[k - 1].key.length kd, .slice ka L[k].key.length kc] wx fun e w' => e = .returned (.int .i64 (cmp L[k - 1].key L[k].key)) ∧ Below wx.heap.size wx w') := fun wx hb => rcmp_any ((tk.later HB1.out).later hb) ((sk.later HB1.out).later hb)
          have HCL : Hid (∀ wx, Below W1.heap.size W1 wx → wx.cell? ⟨b, off + (k - 1) * 5, none⟩ = some (.slice kb L[k - 1].key.length kd) ∧ wx.cell? ⟨wr.heap.size, 0, none⟩ = some (.slice ka L[k].key.length kc)) := fun wx hb => ⟨cell_later hb f1, cell_later hb y0⟩
          have hg1 : ((k : Int) == 0) = false := by simpa using hk0
          have hg2 : decide ((k : Int) = 0) = false := by simpa using hk0
          have hi3 : wrap64 ((k : Int) - 1) = ((k - 1 : Nat) : Int) := by unfold wrap64; omega
          have hi4 : IntKind.i64.wrap ((k : Int) - 1) = ((k - 1 : Nat) : Int) := by rw [IntKind.wrap_i64]; omega
          have hi6 : k - 1 < n := by omega
          have HBD : Hid (Below W1.heap.size W1 W1.drew) := (Below.refl _ _).drew
          have hcz : cmp L[k - 1].key L[k].key = 0 ↔ L[k].key = L[k - 1].key := ⟨fun h => (cmp_zero.1 h).symm, fun h => cmp_zero.2 h.symm⟩
          by_cases q : L[k].key = L[k - 1].key
          · rw [if_pos q] at HT
            have hc0 := hcz.2 q
            rw [hc0] at HCM
            generalize L[k] = o at d0 d1 d2 d3 d4 HADD hW1 y0 HCM HCL
            generalize L[k - 1].key.length = kl2 at f1 HCM HCL
            generalize kys (L.take k) = KS at HROW HADD HT
            generalize o.key = key0 at d0 HADD hW1 y0 HCM HCL
            generalize key0.length = kl at d0 HADD hW1 y0 HCM HCL
            clear kt1 kt2 sk sv i1 i2 hk bel bW1 hkl3 HK e0 e1 e2 e3 e4 q f0 tk hcz hc0
            clear hk0 hk1
            generalize k - 1 = J at f1 HCL hi3 hi4 hi6
            have hj0 : J ≤ 2 ^ 60 := by have := HM60.out; omega
            have hj1 : IntKind.i64.wrap (J : Int) = (J : Int) := by rw [IntKind.wrap_i64]; omega
            have hj2 : wrap64 (J : Int) = (J : Int) := by unfold wrap64; omega
            have hj3 : 0 ≤ (J : Int) := by omega
            have hj4 : (J : Int) < (n : Int) := by omega
            have hj5 : ¬ ((n : Int) ≤ (J : Int)) := by omega
            have hj6 : ¬ (n ≤ J) := by omega
            have hj7 : decide (J < n) = true := by simp; omega
            go_upto_region 14 with fail
            clear d0 d1 d2 d3 d4
            have hcb : ((0 : Int) == 0) = true := rfl
            have hc0 : True := trivial
            refine wp_region_vals (by kernel_rfl) (by decide +kernel) 154 rfl (by decide +kernel) [.int .i64 (k : Int), .bool false, .bool false, .slice (some ⟨b, off, none⟩) n c1, .int .i64 (k : Int), .int .i64 (J : Int), .pointer (some ⟨b, off + J * 5, none⟩), .pointer (some ⟨b, off + J * 5, none⟩), .slice kb kl2 kd, .pointer (some ⟨wr.heap.size, 0, none⟩), .slice ka kl kc, .int .i64 0, .bool false, .bool false] rfl ?_ [70, 71, 72, 73, 74, 75, 76, 77, 78, 79, 80, 81, 82, 83] (by decide +kernel) ?_
            rotate_left
            · intro w6 B6
              rename_i hk
              refine hk _ _ ?_
              rw [putRd]
              go_wp2_with fail
              go_roundg GK
              case measure => exact HG.out.1
              case rel => exact ⟨k + 1, HG.out.2, by go_num, by rw [HT.out]; exact HROW.out.1.later B6, HB1.out.trans (B6.mono HB1.out.size)⟩
            -- 0: slot 70
            refine ⟨fun a w c => ?_, ?_⟩
            · exact goalR_move (c.want0 rfl) (.tmp 21) (.inl rfl) ((c.old 21 rfl).trans rfl) rfl
            -- 1: slot 71
            refine ⟨fun a w c => ?_, ?_⟩
            · have hw := c.want0 rfl
              have e70 : a.eval (.tmp 70) = _ := c.val 0 _ rfl rfl
              exact goalR_val hw (by have ec : ∀ v, a.eval (.const v) = v := fun _ => rfl; generalize a.eval = ρ at ec e70 ⊢; simp [execOp, go_sem, ec, e70, hg1, hg2]) rfl
            -- 2: slot 72
            refine ⟨fun a w c => ?_, ?_⟩
            · exact goalR_move (c.want0 rfl) (.tmp 71) (.inl rfl) (c.val 1 _ rfl rfl) rfl
            -- 3: slot 73
            refine ⟨fun a w c => ?_, ?_⟩
            · exact goalR_move (c.want 2 false rfl rfl rfl) (.tmp 11) (.inl rfl) ((c.old 11 rfl).trans rfl) rfl
            -- 4: slot 74
            refine ⟨fun a w c => ?_, ?_⟩
            · exact goalR_move (c.want 2 false rfl rfl rfl) (.tmp 21) (.inl rfl) ((c.old 21 rfl).trans rfl) rfl
            -- 5: slot 75
            refine ⟨fun a w c => ?_, ?_⟩
            · have hw := c.want 2 false rfl rfl rfl
              have e74 : a.eval (.tmp 74) = _ := c.val 4 _ rfl rfl
              exact goalR_val hw (by have ec : ∀ v, a.eval (.const v) = v := fun _ => rfl; generalize a.eval = ρ at ec e74 ⊢; simp [execOp, go_sem, ec, e74, hi3, hi4]) rfl
            -- 6: slot 76
            refine ⟨fun a w c => ?_, ?_⟩
            · have hw := c.want 2 false rfl rfl rfl
              have e73 : a.eval (.tmp 73) = _ := c.val 3 _ rfl rfl
              have e75 : a.eval (.tmp 75) = _ := c.val 5 _ rfl rfl
              exact goalR_val hw (by have ec : ∀ v, a.eval (.const v) = v := fun _ => rfl; generalize a.eval = ρ at ec e73 e75 ⊢; simp [execOp, go_sem, ec, e73, e75, elemEn, Try.sizeOf34, hj1, hj2, hj3, hj4, hj5, hj6, hj7]) rfl
            -- 7: slot 77
            refine ⟨fun a w c => ?_, ?_⟩
            · have hw := c.want 2 false rfl rfl rfl
              have e76 : a.eval (.tmp 76) = _ := c.val 6 _ rfl rfl
              exact goalR_val hw (by have ec : ∀ v, a.eval (.const v) = v := fun _ => rfl; generalize a.eval = ρ at ec e76 ⊢; simp [execOp, go_sem, ec, e76]) rfl
            -- 8: slot 78
            refine ⟨fun a w c => ?_, ?_⟩
            · have hw := c.want 2 false rfl rfl rfl
              have e77 : a.eval (.tmp 77) = _ := c.val 7 _ rfl rfl
              have y0 := (HCL.out w c.below).1
              exact goalR_val hw (by have ec : ∀ v, a.eval (.const v) = v := fun _ => rfl; generalize a.eval = ρ at ec e77 ⊢; simp [execOp, go_sem, ec, e77, y0]) rfl
            -- 9: slot 79
            refine ⟨fun a w c => ?_, ?_⟩
            · have hw := c.want 2 false rfl rfl rfl
              have e22 : a.eval (.tmp 22) = _ := (c.old 22 rfl).trans rfl
              exact goalR_val hw (by have ec : ∀ v, a.eval (.const v) = v := fun _ => rfl; generalize a.eval = ρ at ec e22 ⊢; simp [execOp, go_sem, ec, e22]) rfl
            -- 10: slot 80
            refine ⟨fun a w c => ?_, ?_⟩
            · have hw := c.want 2 false rfl rfl rfl
              have e79 : a.eval (.tmp 79) = _ := c.val 9 _ rfl rfl
              have y0 := (HCL.out w c.below).2
              exact goalR_val hw (by have ec : ∀ v, a.eval (.const v) = v := fun _ => rfl; generalize a.eval = ρ at ec e79 ⊢; simp [execOp, go_sem, ec, e79, y0]) rfl
            -- 11: slot 81
            refine ⟨fun a w c => ?_, ?_⟩
            · have hw := c.want 2 false rfl rfl rfl
              have e78 : a.eval (.tmp 78) = _ := c.val 8 _ rfl rfl
              have e80 : a.eval (.tmp 80) = _ := c.val 10 _ rfl rfl
              exact goalR_fn hw rfl (by simp only [List.map_toArray, List.map_cons, List.map_nil, e78, e80]) (by kernel_rfl) ((HCM.out w c.below).mono fun e w' ⟨he, hb⟩ => ⟨_, he, outR_val rfl hb⟩)
            -- 12: slot 82
            refine ⟨fun a w c => ?_, ?_⟩
            · have hw := c.want 2 false rfl rfl rfl
              have e81 : a.eval (.tmp 81) = _ := c.val 11 _ rfl rfl
              exact goalR_val hw (by have ec : ∀ v, a.eval (.const v) = v := fun _ => rfl; generalize a.eval = ρ at ec e81 ⊢; simp [execOp, go_sem, ec, e81, hcb, hc0]) rfl
            -- 13: slot 83
            refine ⟨fun a w c => ?_, ?_⟩
            · have hw := c.want0 rfl
              have e72 : a.eval (.tmp 72) = _ := c.val 2 _ rfl rfl
              have e82 : a.eval (.tmp 82) = _ := c.val 12 _ rfl rfl
              exact goalR_val hw (by have ec : ∀ v, a.eval (.const v) = v := fun _ => rfl; generalize a.eval = ρ at ec e72 e82 ⊢; simp [execOp, go_sem, ec, e72, e82]) rfl
            exact True.intro
          · rw [if_neg q] at HT
            have hc0 : ¬ (cmp L[k - 1].key L[k].key = 0) := fun h => q (hcz.1 h)
            generalize cmp L[k - 1].key L[k].key = CM at HCM hc0
            have hcb : (CM == 0) = false := by simpa using hc0
            generalize L[k] = o at d0 d1 d2 d3 d4 HADD HT hW1 y0 HCM HCL
            generalize L[k - 1].key.length = kl2 at f1 HCM HCL
            generalize kys (L.take k) = KS at HROW HADD HT
            generalize o.key = key0 at d0 HADD HT hW1 y0 HCM HCL
            generalize key0.length = kl at d0 HADD hW1 y0 HCM HCL
            clear kt1 kt2 sk sv i1 i2 hk bel bW1 hkl3 HK e0 e1 e2 e3 e4 q f0 tk hcz
            clear hk0 hk1
            generalize k - 1 = J at f1 HCL hi3 hi4 hi6
            have hj0 : J ≤ 2 ^ 60 := by have := HM60.out; omega
            have hj1 : IntKind.i64.wrap (J : Int) = (J : Int) := by rw [IntKind.wrap_i64]; omega
            have hj2 : wrap64 (J : Int) = (J : Int) := by unfold wrap64; omega
            have hj3 : 0 ≤ (J : Int) := by omega
            have hj4 : (J : Int) < (n : Int) := by omega
            have hj5 : ¬ ((n : Int) ≤ (J : Int)) := by omega
            have hj6 : ¬ (n ≤ J) := by omega
            have hj7 : decide (J < n) = true := by simp; omega
            go_upto_region 14 with fail
            clear d0 d1 d2 d3 d4
            refine wp_region_vals (by kernel_rfl) (by decide +kernel) 154 rfl (by decide +kernel) [.int .i64 (k : Int), .bool false, .bool false, .slice (some ⟨b, off, none⟩) n c1, .int .i64 (k : Int), .int .i64 (J : Int), .pointer (some ⟨b, off + J * 5, none⟩), .pointer (some ⟨b, off + J * 5, none⟩), .slice kb kl2 kd, .pointer (some ⟨wr.heap.size, 0, none⟩), .slice ka kl kc, .int .i64 CM, .bool true, .bool true] rfl ?_ [70, 71, 72, 73, 74, 75, 76, 77, 78, 79, 80, 81, 82, 83] (by decide +kernel) ?_
            rotate_left
            · intro w6 B6
              rename_i hk
              refine hk _ _ ?_
              rw [putRd]
              obtain ⟨A1, A2, A3, A4⟩ := HADD.out w6 B6
              have y9 := (HCL.out _ B6).2
              go_wp2_with (at_builtin; refine wpList_appS byE (t := 38) (z := .slice none 0 0) (bytes := 24) (B := W5.heap.size) Try.underlying38 byE_info rfl (by decide) rfl (.tmp 84) (.tmp 87) rfl rfl A2 rfl A1 A4 (by have := HROW.out.2; omega) (by have := HROW.out.2; omega) A3.size ?_; intro v9 w9 r9 g9 m9; have B9 := A3.trans (A2.below g9 A3.size))
              go_roundg GK
              case measure => exact HG.out.1
              case rel => exact ⟨k + 1, HG.out.2, by go_num, by rw [HT.out]; exact r9, B9⟩
            -- 0: slot 70
            refine ⟨fun a w c => ?_, ?_⟩
            · exact goalR_move (c.want0 rfl) (.tmp 21) (.inl rfl) ((c.old 21 rfl).trans rfl) rfl
            -- 1: slot 71
            refine ⟨fun a w c => ?_, ?_⟩
            · have hw := c.want0 rfl
              have e70 : a.eval (.tmp 70) = _ := c.val 0 _ rfl rfl
              exact goalR_val hw (by have ec : ∀ v, a.eval (.const v) = v := fun _ => rfl; generalize a.eval = ρ at ec e70 ⊢; simp [execOp, go_sem, ec, e70, hg1, hg2]) rfl
            -- 2: slot 72
            refine ⟨fun a w c => ?_, ?_⟩
            · exact goalR_move (c.want0 rfl) (.tmp 71) (.inl rfl) (c.val 1 _ rfl rfl) rfl
            -- 3: slot 73
            refine ⟨fun a w c => ?_, ?_⟩
            · exact goalR_move (c.want 2 false rfl rfl rfl) (.tmp 11) (.inl rfl) ((c.old 11 rfl).trans rfl) rfl
            -- 4: slot 74
            refine ⟨fun a w c => ?_, ?_⟩
            · exact goalR_move (c.want 2 false rfl rfl rfl) (.tmp 21) (.inl rfl) ((c.old 21 rfl).trans rfl) rfl
            -- 5: slot 75
            refine ⟨fun a w c => ?_, ?_⟩
            · have hw := c.want 2 false rfl rfl rfl
              have e74 : a.eval (.tmp 74) = _ := c.val 4 _ rfl rfl
              exact goalR_val hw (by have ec : ∀ v, a.eval (.const v) = v := fun _ => rfl; generalize a.eval = ρ at ec e74 ⊢; simp [execOp, go_sem, ec, e74, hi3, hi4]) rfl
            -- 6: slot 76
            refine ⟨fun a w c => ?_, ?_⟩
            · have hw := c.want 2 false rfl rfl rfl
              have e73 : a.eval (.tmp 73) = _ := c.val 3 _ rfl rfl
              have e75 : a.eval (.tmp 75) = _ := c.val 5 _ rfl rfl
              exact goalR_val hw (by have ec : ∀ v, a.eval (.const v) = v := fun _ => rfl; generalize a.eval = ρ at ec e73 e75 ⊢; simp [execOp, go_sem, ec, e73, e75, elemEn, Try.sizeOf34, hj1, hj2, hj3, hj4, hj5, hj6, hj7]) rfl
            -- 7: slot 77
            refine ⟨fun a w c => ?_, ?_⟩
            · have hw := c.want 2 false rfl rfl rfl
              have e76 : a.eval (.tmp 76) = _ := c.val 6 _ rfl rfl
              exact goalR_val hw (by have ec : ∀ v, a.eval (.const v) = v := fun _ => rfl; generalize a.eval = ρ at ec e76 ⊢; simp [execOp, go_sem, ec, e76]) rfl
            -- 8: slot 78
            refine ⟨fun a w c => ?_, ?_⟩
            · have hw := c.want 2 false rfl rfl rfl
              have e77 : a.eval (.tmp 77) = _ := c.val 7 _ rfl rfl
              have y0 := (HCL.out w c.below).1
              exact goalR_val hw (by have ec : ∀ v, a.eval (.const v) = v := fun _ => rfl; generalize a.eval = ρ at ec e77 ⊢; simp [execOp, go_sem, ec, e77, y0]) rfl
            -- 9: slot 79
            refine ⟨fun a w c => ?_, ?_⟩
            · have hw := c.want 2 false rfl rfl rfl
              have e22 : a.eval (.tmp 22) = _ := (c.old 22 rfl).trans rfl
              exact goalR_val hw (by have ec : ∀ v, a.eval (.const v) = v := fun _ => rfl; generalize a.eval = ρ at ec e22 ⊢; simp [execOp, go_sem, ec, e22]) rfl
            -- 10: slot 80
            refine ⟨fun a w c => ?_, ?_⟩
            · have hw := c.want 2 false rfl rfl rfl
              have e79 : a.eval (.tmp 79) = _ := c.val 9 _ rfl rfl
              have y0 := (HCL.out w c.below).2
              exact goalR_val hw (by have ec : ∀ v, a.eval (.const v) = v := fun _ => rfl; generalize a.eval = ρ at ec e79 ⊢; simp [execOp, go_sem, ec, e79, y0]) rfl
            -- 11: slot 81
            refine ⟨fun a w c => ?_, ?_⟩
            · have hw := c.want 2 false rfl rfl rfl
              have e78 : a.eval (.tmp 78) = _ := c.val 8 _ rfl rfl
              have e80 : a.eval (.tmp 80) = _ := c.val 10 _ rfl rfl
              exact goalR_fn hw rfl (by simp only [List.map_toArray, List.map_cons, List.map_nil, e78, e80]) (by kernel_rfl) ((HCM.out w c.below).mono fun e w' ⟨he, hb⟩ => ⟨_, he, outR_val rfl hb⟩)
            -- 12: slot 82
            refine ⟨fun a w c => ?_, ?_⟩
            · have hw := c.want 2 false rfl rfl rfl
              have e81 : a.eval (.tmp 81) = _ := c.val 11 _ rfl rfl
              exact goalR_val hw (by have ec : ∀ v, a.eval (.const v) = v := fun _ => rfl; generalize a.eval = ρ at ec e81 ⊢; simp [execOp, go_sem, ec, e81, hcb, hc0]) rfl
            -- 13: slot 83
            refine ⟨fun a w c => ?_, ?_⟩
            · have hw := c.want0 rfl
              have e72 : a.eval (.tmp 72) = _ := c.val 2 _ rfl rfl
              have e82 : a.eval (.tmp 82) = _ := c.val 12 _ rfl rfl
              exact goalR_val hw (by have ec : ∀ v, a.eval (.const v) = v := fun _ => rfl; generalize a.eval = ρ at ec e72 e82 ⊢; simp [execOp, go_sem, ec, e72, e82]) rfl
            exact True.intro
      · have hkl' : (n : Int) ≤ (k : Int) := by omega
        have hkL : L.take k = L := List.take_of_length_le (by have := HM.out; omega)
        have h1 := HK.out.1
        rw [hkL] at h1
        obtain ⟨a20, c20, hv20, rs20⟩ := h1.rs
        subst hv20
        have hB := HK.out.2
        have HBW := hid hB
        obtain ⟨m, HMM⟩ : ∃ m, Hid (n = m + 1) := ⟨n - 1, by have := HM60.out; show _ = _; omega⟩
        have hkn := kys_len L
        have HLEN : Hid (∀ wx, Below wr.heap.size wr wx → Calls Try.prog 16 #[.pointer (some ⟨p, 0, none⟩)] wx fun e w' => e = .returned (.int .i64 (n : Int)) ∧ Below wx.heap.size wx w') := fun wx hb => by
          have := D.len (D.later (D.later HR5.out hB) hb)
          rw [HM.out] at this
          exact this
        have HLEA : Hid (∀ wx, Below wr.heap.size wr wx → Calls Try.prog 17 #[.pointer (some ⟨p, 0, none⟩)] wx fun e w' => ∃ v, e = .returned v ∧ SlV w' v (L.head?.elim [] (·.key)) ∧ Below wx.heap.size wx w') := fun wx hb => D.least (D.later (D.later HR5.out hB) hb)
        have HMOS : Hid (∀ wx, Below wr.heap.size wr wx → Calls Try.prog 18 #[.pointer (some ⟨p, 0, none⟩)] wx fun e w' => ∃ v, e = .returned v ∧ SlV w' v (lastK [] L) ∧ Below wx.heap.size wx w') := fun wx hb => D.most (D.later (D.later HR5.out hB) hb)
        have HLI1 : Hid (∀ wx, Below wr.heap.size wr wx → Calls Try.prog 21 #[.pointer (some ⟨p, 0, none⟩), .slice fa fl fc, .slice ta tl tc] wx fun e w' => ∃ v, e = .returned v ∧ RSV entE w' v (listE L fr ub) ∧ Below wx.heap.size wx w') := fun wx hb => D.list (D.later (D.later HR5.out hB) hb) ((HK5.out.2.1.later hB).later hb) ((HK5.out.2.2.later hB).later hb)
        have HLI2 : Hid (∀ wx, Below wr.heap.size wr wx → Calls Try.prog 22 #[.slice a1 n c1, .slice fa fl fc, .slice ta tl tc] wx fun e w' => ∃ v, e = .returned v ∧ RSV entE w' v (listE L fr ub) ∧ Below wx.heap.size wx w') := fun wx hb => (rlistE_any (RSG.any ((HRS5.out.later hB).later hb)) ((HK5.out.2.1.later hB).later hb) ((HK5.out.2.2.later hB).later hb) (fun b h => h) (by have := HM60.out; omega)).mono fun e w' ⟨v, he, hr, hb'⟩ => ⟨v, he, RSV.ofRow hr.s, hb'⟩
        have HMA : Hid (∀ wx, Below wr.heap.size wr wx → Calls Try.prog 23 #[.pointer (some ⟨p, 0, none⟩), .slice ya yl yc] wx fun e w' => e = .returned (.bool (has (filT L) key)) ∧ Below wx.heap.size wx w') := fun wx hb => D.may (D.later (D.later HR5.out hB) hb) ((HK5.out.1.later hB).later hb)
        have HFI : Hid (∀ wx, Below wr.heap.size wr wx → Calls Try.prog 25 #[.slice a20 (kys L).length c20] wx fun e w' => ∃ v, e = .returned v ∧ SlV w' v (filT L) ∧ Below wx.heap.size wx w') := fun wx hb => (rfilter_any (rs_rb (rs20.later hb)) (by have := HM.out; have := HM60.out; omega)).mono fun e w' ⟨v, he, hr, hb'⟩ => ⟨v, he, SlV.ofRow hr (fil_ok _), hb'⟩
        have HKY : Hid (Sl wr ya yl yc key) := HK5.out.1.later hB
        have HSE' : Hid (∀ wx, Below wr.heap.size wr wx → Below W5.heap.size W5 wx) := fun wx hb => hB.trans (hb.mono hB.size)
        obtain ⟨b, off, ka, kc, va, vc, hab, d0, -, -, -, -, sk, -, -, -⟩ := RS.ent (HRS5.out.later hB) (List.getElem?_eq_getElem (i := 0) (by have := HM.out; have := HM60.out; omega))
        obtain ⟨b', off', kb, kd, vb, vd, hab', f0, -, -, -, -, tk, -, -, -⟩ := RS.ent (HRS5.out.later hB) (List.getElem?_eq_getElem (i := m) (by have := HM.out; have := HMM.out; omega))
        subst hab
        simp only [Option.some.injEq, Addr.mk.injEq, and_true] at hab'
        obtain ⟨rfl, rfl⟩ := hab'
        simp only [Nat.zero_mul, Nat.add_zero] at d0
        have hhd : L.head?.elim [] (·.key) = (L[0]'(by have := HM.out; have := HM60.out; omega)).key := by
          rw [List.head?_eq_getElem?, List.getElem?_eq_getElem (by have := HM.out; have := HM60.out; omega)]
          rfl
        have hls : lastK [] L = (L[m]'(by have := HM.out; have := HMM.out; omega)).key := by
          have := lastK_take L m [] (by have := HM.out; have := HMM.out; omega)
          rw [List.take_of_length_le (by have := HM.out; have := HMM.out; omega)] at this
          exact this
        have HCE : Hid (∀ wx, Below wr.heap.size wr wx → wx.cell? ⟨b, off, none⟩ = some (.slice ka (L.head?.elim [] (·.key)).length kc) ∧ SlV wx (.slice ka (L.head?.elim [] (·.key)).length kc) (L.head?.elim [] (·.key)) ∧ wx.cell? ⟨b, off + m * 5, none⟩ = some (.slice kb (lastK [] L).length kd) ∧ SlV wx (.slice kb (lastK [] L).length kd) (lastK [] L)) := fun wx hb => by
          rw [hhd, hls]
          exact ⟨cell_later hb d0, ⟨_, _, rfl, sk.later hb⟩, cell_later hb f0, ⟨_, _, rfl, tk.later hb⟩⟩
        generalize L.head?.elim [] (·.key) = hd at HLEA HCE
        generalize lastK [] L = lst at HMOS HCE
        have HBX2 := HBX
        have HHS : Hid (∀ wx, Below wr.heap.size wr wx → ∀ {a : Option Addr} {c : Nat}, Sl wx a (filT L).length c (filT L) → Calls Try.prog 24 #[.slice a (filT L).length c, .slice ya yl yc] wx fun e w' => e = .returned (.bool (has (filT L) key)) ∧ Below wx.heap.size wx w') := fun wx hb {a c} hs => rhas_any hs (HKY.out.later hb)
        have hm61 : m ≤ 2 ^ 60 := by have := HMM.out; have := HM60.out; omega
        have hsub1 : wrap64 ((n : Int) - 1) = (m : Int) := by have := HMM.out; unfold wrap64; omega
        have hsub2 : IntKind.i64.wrap ((n : Int) - 1) = (m : Int) := by have := HMM.out; rw [IntKind.wrap_i64]; omega
        have hn0 : 0 < n := by have := HM60.out; omega
        have hn1 : (0 : Int) < (n : Int) := by omega
        have hn2 : ¬ (n ≤ 0) := by omega
        have hn3 : ¬ ((n : Int) ≤ 0) := by omega
        have hj1 : IntKind.i64.wrap (m : Int) = (m : Int) := by rw [IntKind.wrap_i64]; omega
        have hj2 : wrap64 (m : Int) = (m : Int) := by unfold wrap64; omega
        have hj3 : 0 ≤ (m : Int) := by omega
        have hj4 : (m : Int) < (n : Int) := by have := HMM.out; omega
        have hj5 : ¬ ((n : Int) ≤ (m : Int)) := by omega
        have hj6 : ¬ (n ≤ m) := by omega
        have hj7 : m < n := by omega
        have hwn : IntKind.i64.wrap (n : Int) = (n : Int) := by rw [IntKind.wrap_i64]; have := HM60.out; omega
        generalize has (filT L) key = mb at HMA HHS
        generalize (kys L).length = kn at HFI
        generalize filT L = fk at HFI HHS
        generalize listE L fr ub = M at HLI1 HLI2
        clear hkL h1 rs20 hkn d0 f0 sk tk hhd hls hk hkl HK H0
        go_upto_region 17 with fail
        refine wp_region_rel (by kernel_rfl) (by decide +kernel) 154 rfl (by decide +kernel) (kRd (.pointer (some ⟨p, 0, none⟩)) (.slice (some ⟨b, off, none⟩) n c1) (.slice ya yl yc) (.slice fa fl fc) (.slice ta tl tc) hd lst n m (.pointer (some ⟨b, off, none⟩)) (.pointer (some ⟨b, off + m * 5, none⟩)) (.slice ka hd.length kc) (.slice kb lst.length kd) (.agg #[.slice k1 xk d1, .int .i64 xs, .bool xg, .int .i64 xt, .slice v1 xv g1]) (.agg #[.slice k2 xk d2, .int .i64 xs, .bool xg, .int .i64 xt, .slice v2 xv g2]) OK M mb (.slice a20 kn c20) fk) (fun k hk => kRd_stays _ _ _ _ _ _ _ _ _ _ _ _ _ _ _ _ _ _ _ _ k hk) ?_ ?_
        rotate_left
        · intro a w' hd' hbel hv
          rename_i hk
          refine hk a w' ?_
          have h10 : a.eval (.tmp 10) = .bool true := hv 64 _ (by decide) rfl
          have h10' : a.tmps[10]?.getD undef = .bool true := by simpa [Act.eval] using h10
          go_wp2
          exact bodyPost_ret (v := .bool true) (by simp [results, Try.results4, go_sem, h10']) hd' ⟨rfl, (HB5.out.2.trans (HBW.out.mono HB5.out.2.size)).trans (hbel.mono (Nat.le_trans HB5.out.2.size HBW.out.size))⟩
        -- 0: slot 90
        refine ⟨fun a w c => ?_, ?_⟩
        · exact goalR_move (c.want0 rfl) (.tmp 14) (.inl rfl) ((c.old 14 rfl).trans rfl) rfl
        -- 1: slot 91
        refine ⟨fun a w c => ?_, ?_⟩
        · have hw := c.want0 rfl
          have e90 : a.eval (.tmp 90) = _ := c.val 0 _ rfl rfl
          exact goalR_fn hw rfl (by simp only [List.map_toArray, List.map_cons, List.map_nil, e90]) (by kernel_rfl) ((HLEN.out w c.below).mono fun e w' ⟨he, hb⟩ => ⟨_, he, outR_val rfl hb⟩)
        -- 2: slot 92
        refine ⟨fun a w c => ?_, ?_⟩
        · exact goalR_move (c.want0 rfl) (.tmp 11) (.inl rfl) ((c.old 11 rfl).trans rfl) rfl
        -- 3: slot 93
        refine ⟨fun a w c => ?_, ?_⟩
        · have hw := c.want0 rfl
          have e92 : a.eval (.tmp 92) = _ := c.val 2 _ rfl rfl
          exact goalR_val hw (by have ec : ∀ v, a.eval (.const v) = v := fun _ => rfl; generalize a.eval = ρ at ec e92 ⊢; simp [execOp, go_sem, ec, e92]) rfl
        -- 4: slot 94
        refine ⟨fun a w c => ?_, ?_⟩
        · have e91 : a.eval (.tmp 91) = _ := c.val 1 _ rfl rfl
          have e93 : a.eval (.tmp 93) = _ := c.val 3 _ rfl rfl
          exact goalR_val (c.want0 rfl) (by have ec : ∀ v, a.eval (.const v) = v := fun _ => rfl; generalize a.eval = ρ at ec e91 e93 ⊢; simp [execOp, go_sem, ec, e91, e93]) rfl
        -- 5: slot 95
        refine ⟨fun a w c => ?_, ?_⟩
        · exact goalR_move (c.want0 rfl) (.tmp 94) (.inl rfl) (c.val 4 _ rfl rfl) rfl
        -- 6: slot 96
        refine ⟨fun a w c => ?_, ?_⟩
        · exact goalR_move (c.want 5 true rfl rfl rfl) (.tmp 14) (.inl rfl) ((c.old 14 rfl).trans rfl) rfl
        -- 7: slot 97
        refine ⟨fun a w c => ?_, ?_⟩
        · have hw := c.want 5 true rfl rfl rfl
          have e96 : a.eval (.tmp 96) = _ := c.val 6 _ rfl rfl
          exact goalR_fn hw rfl (by simp only [List.map_toArray, List.map_cons, List.map_nil, e96]) (by kernel_rfl) ((HLEA.out w c.below).mono fun e w' ⟨v, he, hr, hb⟩ => ⟨v, he, outR_rel rfl hr hb⟩)
        -- 8: slot 98
        refine ⟨fun a w c => ?_, ?_⟩
        · have hw := c.want 5 true rfl rfl rfl
          exact goalR_str hw rfl rfl (c.rel 7 _ rfl rfl) rfl
        -- 9: slot 99
        refine ⟨fun a w c => ?_, ?_⟩
        · exact goalR_move (c.want 5 true rfl rfl rfl) (.tmp 11) (.inl rfl) ((c.old 11 rfl).trans rfl) rfl
        -- 10: slot 100
        refine ⟨fun a w c => ?_, ?_⟩
        · have hw := c.want 5 true rfl rfl rfl
          have e99 : a.eval (.tmp 99) = _ := c.val 9 _ rfl rfl
          exact goalR_val hw (by have ec : ∀ v, a.eval (.const v) = v := fun _ => rfl; generalize a.eval = ρ at ec e99 ⊢; simp [execOp, go_sem, ec, e99, elemEn, Try.sizeOf34, hn0, hn1, hn2, hn3, hwn]) rfl
        -- 11: slot 101
        refine ⟨fun a w c => ?_, ?_⟩
        · have hw := c.want 5 true rfl rfl rfl
          have e100 : a.eval (.tmp 100) = _ := c.val 10 _ rfl rfl
          exact goalR_val hw (by have ec : ∀ v, a.eval (.const v) = v := fun _ => rfl; generalize a.eval = ρ at ec e100 ⊢; simp [execOp, go_sem, ec, e100]) rfl
        -- 12: slot 102
        refine ⟨fun a w c => ?_, ?_⟩
        · have hw := c.want 5 true rfl rfl rfl
          have e101 : a.eval (.tmp 101) = _ := c.val 11 _ rfl rfl
          have y0 := (HCE.out w c.below).1
          exact goalR_val hw (by have ec : ∀ v, a.eval (.const v) = v := fun _ => rfl; generalize a.eval = ρ at ec e101 ⊢; simp [execOp, go_sem, ec, e101, y0]) rfl
        -- 13: slot 103
        refine ⟨fun a w c => ?_, ?_⟩
        · have hw := c.want 5 true rfl rfl rfl
          exact goalR_str hw rfl (c.val 12 _ rfl rfl) (HCE.out w c.below).2.1 rfl
        -- 14: slot 104
        refine ⟨fun a w c => ?_, ?_⟩
        · have e98 : a.eval (.tmp 98) = _ := c.val 8 _ rfl rfl
          have e103 : a.eval (.tmp 103) = _ := c.val 13 _ rfl rfl
          exact goalR_val (c.want 5 true rfl rfl rfl) (by have ec : ∀ v, a.eval (.const v) = v := fun _ => rfl; generalize a.eval = ρ at ec e98 e103 ⊢; simp [execOp, go_sem, ec, e98, e103]) rfl
        -- 15: slot 105
        refine ⟨fun a w c => ?_, ?_⟩
        · have e95 : a.eval (.tmp 95) = _ := c.val 5 _ rfl rfl
          have e104 : a.eval (.tmp 104) = _ := c.val 14 _ rfl rfl
          exact goalR_val (c.want0 rfl) (by have ec : ∀ v, a.eval (.const v) = v := fun _ => rfl; generalize a.eval = ρ at ec e95 e104 ⊢; simp [execOp, go_sem, ec, e95, e104]) rfl
        -- 16: slot 106
        refine ⟨fun a w c => ?_, ?_⟩
        · exact goalR_move (c.want0 rfl) (.tmp 105) (.inl rfl) (c.val 15 _ rfl rfl) rfl
        -- 17: slot 107
        refine ⟨fun a w c => ?_, ?_⟩
        · exact goalR_move (c.want 16 true rfl rfl rfl) (.tmp 14) (.inl rfl) ((c.old 14 rfl).trans rfl) rfl
        -- 18: slot 108
        refine ⟨fun a w c => ?_, ?_⟩
        · have hw := c.want 16 true rfl rfl rfl
          have e107 : a.eval (.tmp 107) = _ := c.val 17 _ rfl rfl
          exact goalR_fn hw rfl (by simp only [List.map_toArray, List.map_cons, List.map_nil, e107]) (by kernel_rfl) ((HMOS.out w c.below).mono fun e w' ⟨v, he, hr, hb⟩ => ⟨v, he, outR_rel rfl hr hb⟩)
        -- 19: slot 109
        refine ⟨fun a w c => ?_, ?_⟩
        · have hw := c.want 16 true rfl rfl rfl
          exact goalR_str hw rfl rfl (c.rel 18 _ rfl rfl) rfl
        -- 20: slot 110
        refine ⟨fun a w c => ?_, ?_⟩
        · exact goalR_move (c.want 16 true rfl rfl rfl) (.tmp 11) (.inl rfl) ((c.old 11 rfl).trans rfl) rfl
        -- 21: slot 111
        refine ⟨fun a w c => ?_, ?_⟩
        · exact goalR_move (c.want 16 true rfl rfl rfl) (.tmp 11) (.inl rfl) ((c.old 11 rfl).trans rfl) rfl
        -- 22: slot 112
        refine ⟨fun a w c => ?_, ?_⟩
        · have hw := c.want 16 true rfl rfl rfl
          have e111 : a.eval (.tmp 111) = _ := c.val 21 _ rfl rfl
          exact goalR_val hw (by have ec : ∀ v, a.eval (.const v) = v := fun _ => rfl; generalize a.eval = ρ at ec e111 ⊢; simp [execOp, go_sem, ec, e111]) rfl
        -- 23: slot 113
        refine ⟨fun a w c => ?_, ?_⟩
        · have hw := c.want 16 true rfl rfl rfl
          have e112 : a.eval (.tmp 112) = _ := c.val 22 _ rfl rfl
          exact goalR_val hw (by have ec : ∀ v, a.eval (.const v) = v := fun _ => rfl; generalize a.eval = ρ at ec e112 ⊢; simp [execOp, go_sem, ec, e112, hsub1, hsub2]) rfl
        -- 24: slot 114
        refine ⟨fun a w c => ?_, ?_⟩
        · have hw := c.want 16 true rfl rfl rfl
          have e110 : a.eval (.tmp 110) = _ := c.val 20 _ rfl rfl
          have e113 : a.eval (.tmp 113) = _ := c.val 23 _ rfl rfl
          exact goalR_val hw (by have ec : ∀ v, a.eval (.const v) = v := fun _ => rfl; generalize a.eval = ρ at ec e110 e113 ⊢; simp [execOp, go_sem, ec, e110, e113, elemEn, Try.sizeOf34, hj1, hj2, hj3, hj4, hj5, hj6, hj7]) rfl
        -- 25: slot 115
        refine ⟨fun a w c => ?_, ?_⟩
        · have hw := c.want 16 true rfl rfl rfl
          have e114 : a.eval (.tmp 114) = _ := c.val 24 _ rfl rfl
          exact goalR_val hw (by have ec : ∀ v, a.eval (.const v) = v := fun _ => rfl; generalize a.eval = ρ at ec e114 ⊢; simp [execOp, go_sem, ec, e114]) rfl
        -- 26: slot 116
        refine ⟨fun a w c => ?_, ?_⟩
        · have hw := c.want 16 true rfl rfl rfl
          have e115 : a.eval (.tmp 115) = _ := c.val 25 _ rfl rfl
          have y0 := (HCE.out w c.below).2.2.1
          exact goalR_val hw (by have ec : ∀ v, a.eval (.const v) = v := fun _ => rfl; generalize a.eval = ρ at ec e115 ⊢; simp [execOp, go_sem, ec, e115, y0]) rfl
        -- 27: slot 117
        refine ⟨fun a w c => ?_, ?_⟩
        · have hw := c.want 16 true rfl rfl rfl
          exact goalR_str hw rfl (c.val 26 _ rfl rfl) (HCE.out w c.below).2.2.2 rfl
        -- 28: slot 118
        refine ⟨fun a w c => ?_, ?_⟩
        · have e109 : a.eval (.tmp 109) = _ := c.val 19 _ rfl rfl
          have e117 : a.eval (.tmp 117) = _ := c.val 27 _ rfl rfl
          exact goalR_val (c.want 16 true rfl rfl rfl) (by have ec : ∀ v, a.eval (.const v) = v := fun _ => rfl; generalize a.eval = ρ at ec e109 e117 ⊢; simp [execOp, go_sem, ec, e109, e117]) rfl
        -- 29: slot 119
        refine ⟨fun a w c => ?_, ?_⟩
        · have e106 : a.eval (.tmp 106) = _ := c.val 16 _ rfl rfl
          have e118 : a.eval (.tmp 118) = _ := c.val 28 _ rfl rfl
          exact goalR_val (c.want0 rfl) (by have ec : ∀ v, a.eval (.const v) = v := fun _ => rfl; generalize a.eval = ρ at ec e106 e118 ⊢; simp [execOp, go_sem, ec, e106, e118]) rfl
        -- 30: slot 120
        refine ⟨fun a w c => ?_, ?_⟩
        · exact goalR_move (c.want0 rfl) (.tmp 119) (.inl rfl) (c.val 29 _ rfl rfl) rfl
        -- 31: slot 121
        refine ⟨fun a w c => ?_, ?_⟩
        · have hw := c.want 30 true rfl rfl rfl
          have e16 : a.eval (.tmp 16) = _ := (c.old 16 rfl).trans rfl
          obtain ⟨y0, y1, y2, y3, y4⟩ := (HBX.out w (HSE'.out w c.below)).1
          exact goalR_val hw (by have ec : ∀ v, a.eval (.const v) = v := fun _ => rfl; generalize a.eval = ρ at ec e16 ⊢; simp [execOp, go_sem, ec, e16, y0, y1, y2, y3, y4]) rfl
        -- 32: slot 122
        refine ⟨fun a w c => ?_, ?_⟩
        · have hw := c.want 30 true rfl rfl rfl
          have e18 : a.eval (.tmp 18) = _ := (c.old 18 rfl).trans rfl
          obtain ⟨y0, y1, y2, y3, y4⟩ := (HBX.out w (HSE'.out w c.below)).2
          exact goalR_val hw (by have ec : ∀ v, a.eval (.const v) = v := fun _ => rfl; generalize a.eval = ρ at ec e18 ⊢; simp [execOp, go_sem, ec, e18, y0, y1, y2, y3, y4]) rfl
        -- 33: slot 123
        refine ⟨fun a w c => ?_, ?_⟩
        · have hw := c.want 30 true rfl rfl rfl
          have e121 : a.eval (.tmp 121) = _ := c.val 31 _ rfl rfl
          have e122 : a.eval (.tmp 122) = _ := c.val 32 _ rfl rfl
          exact goalR_fn hw rfl (by simp only [List.map_toArray, List.map_cons, List.map_nil, e121, e122]) (by kernel_rfl) ((HSE.out w (HSE'.out w c.below)).mono fun e w' ⟨he, hb⟩ => ⟨_, he, outR_val rfl hb⟩)
        -- 34: slot 124
        refine ⟨fun a w c => ?_, ?_⟩
        · have e120 : a.eval (.tmp 120) = _ := c.val 30 _ rfl rfl
          have e123 : a.eval (.tmp 123) = _ := c.val 33 _ rfl rfl
          exact goalR_val (c.want0 rfl) (by have ec : ∀ v, a.eval (.const v) = v := fun _ => rfl; generalize a.eval = ρ at ec e120 e123 ⊢; simp [execOp, go_sem, ec, e120, e123]) rfl
        -- 35: slot 125
        refine ⟨fun a w c => ?_, ?_⟩
        · exact goalR_move (c.want0 rfl) (.tmp 124) (.inl rfl) (c.val 34 _ rfl rfl) rfl
        -- 36: slot 126
        refine ⟨fun a w c => ?_, ?_⟩
        · exact goalR_move (c.want 35 true rfl rfl rfl) (.tmp 17) (.inl rfl) ((c.old 17 rfl).trans rfl) rfl
        -- 37: slot 127
        refine ⟨fun a w c => ?_, ?_⟩
        · exact goalR_move (c.want 35 true rfl rfl rfl) (.tmp 19) (.inl rfl) ((c.old 19 rfl).trans rfl) rfl
        -- 38: slot 128
        refine ⟨fun a w c => ?_, ?_⟩
        · have e126 : a.eval (.tmp 126) = _ := c.val 36 _ rfl rfl
          have e127 : a.eval (.tmp 127) = _ := c.val 37 _ rfl rfl
          exact goalR_val (c.want 35 true rfl rfl rfl) (by have ec : ∀ v, a.eval (.const v) = v := fun _ => rfl; generalize a.eval = ρ at ec e126 e127 ⊢; simp [execOp, go_sem, ec, e126, e127]) rfl
        -- 39: slot 129
        refine ⟨fun a w c => ?_, ?_⟩
        · have e125 : a.eval (.tmp 125) = _ := c.val 35 _ rfl rfl
          have e128 : a.eval (.tmp 128) = _ := c.val 38 _ rfl rfl
          exact goalR_val (c.want0 rfl) (by have ec : ∀ v, a.eval (.const v) = v := fun _ => rfl; generalize a.eval = ρ at ec e125 e128 ⊢; simp [execOp, go_sem, ec, e125, e128]) rfl
        -- 40: slot 130
        refine ⟨fun a w c => ?_, ?_⟩
        · exact goalR_move (c.want0 rfl) (.tmp 129) (.inl rfl) (c.val 39 _ rfl rfl) rfl
        -- 41: slot 131
        refine ⟨fun a w c => ?_, ?_⟩
        · exact goalR_move (c.want 40 true rfl rfl rfl) (.tmp 14) (.inl rfl) ((c.old 14 rfl).trans rfl) rfl
        -- 42: slot 132
        refine ⟨fun a w c => ?_, ?_⟩
        · exact goalR_move (c.want 40 true rfl rfl rfl) (.tmp 2) (.inl rfl) ((c.old 2 rfl).trans rfl) rfl
        -- 43: slot 133
        refine ⟨fun a w c => ?_, ?_⟩
        · exact goalR_move (c.want 40 true rfl rfl rfl) (.tmp 3) (.inl rfl) ((c.old 3 rfl).trans rfl) rfl
        -- 44: slot 134
        refine ⟨fun a w c => ?_, ?_⟩
        · have hw := c.want 40 true rfl rfl rfl
          have e131 : a.eval (.tmp 131) = _ := c.val 41 _ rfl rfl
          have e132 : a.eval (.tmp 132) = _ := c.val 42 _ rfl rfl
          have e133 : a.eval (.tmp 133) = _ := c.val 43 _ rfl rfl
          exact goalR_fn hw rfl (by simp only [List.map_toArray, List.map_cons, List.map_nil, e131, e132, e133]) (by kernel_rfl) ((HLI1.out w c.below).mono fun e w' ⟨v, he, hr, hb⟩ => ⟨v, he, outR_rel rfl hr hb⟩)
        -- 45: slot 135
        refine ⟨fun a w c => ?_, ?_⟩
        · exact goalR_move (c.want 40 true rfl rfl rfl) (.tmp 11) (.inl rfl) ((c.old 11 rfl).trans rfl) rfl
        -- 46: slot 136
        refine ⟨fun a w c => ?_, ?_⟩
        · exact goalR_move (c.want 40 true rfl rfl rfl) (.tmp 2) (.inl rfl) ((c.old 2 rfl).trans rfl) rfl
        -- 47: slot 137
        refine ⟨fun a w c => ?_, ?_⟩
        · exact goalR_move (c.want 40 true rfl rfl rfl) (.tmp 3) (.inl rfl) ((c.old 3 rfl).trans rfl) rfl
        -- 48: slot 138
        refine ⟨fun a w c => ?_, ?_⟩
        · have hw := c.want 40 true rfl rfl rfl
          have e135 : a.eval (.tmp 135) = _ := c.val 45 _ rfl rfl
          have e136 : a.eval (.tmp 136) = _ := c.val 46 _ rfl rfl
          have e137 : a.eval (.tmp 137) = _ := c.val 47 _ rfl rfl
          exact goalR_fn hw rfl (by simp only [List.map_toArray, List.map_cons, List.map_nil, e135, e136, e137]) (by kernel_rfl) ((HLI2.out w c.below).mono fun e w' ⟨v, he, hr, hb⟩ => ⟨v, he, outR_rel rfl hr hb⟩)
        -- 49: slot 139
        refine ⟨fun a w c => ?_, ?_⟩
        · have hw := c.want 40 true rfl rfl rfl
          obtain ⟨a1', c1', e134, r134⟩ := c.rel 44 _ rfl rfl
          obtain ⟨a2', c2', e138, r138⟩ := c.rel 48 _ rfl rfl
          replace e134 : a.eval (.tmp 134) = _ := e134
          replace e138 : a.eval (.tmp 138) = _ := e138
          exact goalR_fn hw rfl (by simp only [List.map_toArray, List.map_cons, List.map_nil, e134, e138]) (by kernel_rfl) ((rsameE_eq r134 r138).mono fun e w' ⟨he, hb⟩ => ⟨_, he, outR_val rfl hb⟩)
        -- 50: slot 140
        refine ⟨fun a w c => ?_, ?_⟩
        · have e130 : a.eval (.tmp 130) = _ := c.val 40 _ rfl rfl
          have e139 : a.eval (.tmp 139) = _ := c.val 49 _ rfl rfl
          exact goalR_val (c.want0 rfl) (by have ec : ∀ v, a.eval (.const v) = v := fun _ => rfl; generalize a.eval = ρ at ec e130 e139 ⊢; simp [execOp, go_sem, ec, e130, e139]) rfl
        -- 51: slot 141
        refine ⟨fun a w c => ?_, ?_⟩
        · exact goalR_move (c.want0 rfl) (.tmp 140) (.inl rfl) (c.val 50 _ rfl rfl) rfl
        -- 52: slot 142
        refine ⟨fun a w c => ?_, ?_⟩
        · exact goalR_move (c.want 51 true rfl rfl rfl) (.tmp 14) (.inl rfl) ((c.old 14 rfl).trans rfl) rfl
        -- 53: slot 143
        refine ⟨fun a w c => ?_, ?_⟩
        · exact goalR_move (c.want 51 true rfl rfl rfl) (.tmp 1) (.inl rfl) ((c.old 1 rfl).trans rfl) rfl
        -- 54: slot 144
        refine ⟨fun a w c => ?_, ?_⟩
        · have hw := c.want 51 true rfl rfl rfl
          have e142 : a.eval (.tmp 142) = _ := c.val 52 _ rfl rfl
          have e143 : a.eval (.tmp 143) = _ := c.val 53 _ rfl rfl
          exact goalR_fn hw rfl (by simp only [List.map_toArray, List.map_cons, List.map_nil, e142, e143]) (by kernel_rfl) ((HMA.out w c.below).mono fun e w' ⟨he, hb⟩ => ⟨_, he, outR_val rfl hb⟩)
        -- 55: slot 145
        refine ⟨fun a w c => ?_, ?_⟩
        · exact goalR_move (c.want 51 true rfl rfl rfl) (.tmp 20) (.inl rfl) ((c.old 20 rfl).trans rfl) rfl
        -- 56: slot 146
        refine ⟨fun a w c => ?_, ?_⟩
        · have hw := c.want 51 true rfl rfl rfl
          have e145 : a.eval (.tmp 145) = _ := c.val 55 _ rfl rfl
          exact goalR_fn hw rfl (by simp only [List.map_toArray, List.map_cons, List.map_nil, e145]) (by kernel_rfl) ((HFI.out w c.below).mono fun e w' ⟨v, he, hr, hb⟩ => ⟨v, he, outR_rel rfl hr hb⟩)
        -- 57: slot 147
        refine ⟨fun a w c => ?_, ?_⟩
        · exact goalR_move (c.want 51 true rfl rfl rfl) (.tmp 1) (.inl rfl) ((c.old 1 rfl).trans rfl) rfl
        -- 58: slot 148
        refine ⟨fun a w c => ?_, ?_⟩
        · have hw := c.want 51 true rfl rfl rfl
          obtain ⟨a1', c1', e146, s146⟩ := c.rel 56 _ rfl rfl
          replace e146 : a.eval (.tmp 146) = _ := e146
          have e147 : a.eval (.tmp 147) = _ := c.val 57 _ rfl rfl
          exact goalR_fn hw rfl (by simp only [List.map_toArray, List.map_cons, List.map_nil, e146, e147]) (by kernel_rfl) ((HHS.out w c.below s146).mono fun e w' ⟨he, hb⟩ => ⟨_, he, outR_val rfl hb⟩)
        -- 59: slot 149
        refine ⟨fun a w c => ?_, ?_⟩
        · have e144 : a.eval (.tmp 144) = _ := c.val 54 _ rfl rfl
          have e148 : a.eval (.tmp 148) = _ := c.val 58 _ rfl rfl
          exact goalR_val (c.want 51 true rfl rfl rfl) (by have ec : ∀ v, a.eval (.const v) = v := fun _ => rfl; generalize a.eval = ρ at ec e144 e148 ⊢; simp [execOp, go_sem, ec, e144, e148]) rfl
        -- 60: slot 150
        refine ⟨fun a w c => ?_, ?_⟩
        · have e141 : a.eval (.tmp 141) = _ := c.val 51 _ rfl rfl
          have e149 : a.eval (.tmp 149) = _ := c.val 59 _ rfl rfl
          exact goalR_val (c.want0 rfl) (by have ec : ∀ v, a.eval (.const v) = v := fun _ => rfl; generalize a.eval = ρ at ec e141 e149 ⊢; simp [execOp, go_sem, ec, e141, e149]) rfl
        -- 61: slot 151
        refine ⟨fun a w c => ?_, ?_⟩
        · exact goalR_move (c.want0 rfl) (.tmp 150) (.inl rfl) (c.val 60 _ rfl rfl) rfl
        -- 62: slot 152
        refine ⟨fun a w c => ?_, ?_⟩
        · have hw := c.want 61 true rfl rfl rfl
          exact goalR_fn hw rfl (by simp) (by kernel_rfl) ((HAW.out w).mono fun e w' ⟨he, hb⟩ => ⟨_, he, outR_val rfl hb⟩)
        -- 63: slot 153
        refine ⟨fun a w c => ?_, ?_⟩
        · have e151 : a.eval (.tmp 151) = _ := c.val 61 _ rfl rfl
          have e152 : a.eval (.tmp 152) = _ := c.val 62 _ rfl rfl
          exact goalR_val (c.want0 rfl) (by have ec : ∀ v, a.eval (.const v) = v := fun _ => rfl; generalize a.eval = ρ at ec e151 e152 ⊢; simp [execOp, go_sem, ec, e151, e152]) rfl
        -- 64: slot 10
        refine ⟨fun a w c => ?_, ?_⟩
        · exact goalR_move (c.want0 rfl) (.tmp 153) (.inr rfl) (c.val 63 _ rfl rfl) rfl
        exact True.intro
end Go.Proofs.Ytimpaindbbjieaa

/- How a row of entries that came in is opened. -/
namespace Go.Proofs.Ytimpaindbbjieaa
open Go.ChangeShapes Go.WideShapes Go.ChangeAt Go.RowKit Go.Deep
set_option linter.unusedVariables false
set_option linter.unusedSimpArgs false

/-- Elements that lie side by side, told one by one. -/
theorem lay_of {α : Type} {E : El α} {w : World} {b off : Nat} : ∀ (len : Nat), (∀ k, k < len → ∃ x vs, E.M w vs x ∧ ∀ (j : Nat) (v : Value), vs[j]? = some v → w.cell? ⟨b, off + (k * E.size + j), none⟩ = some v) →
    ∃ xs us, xs.length = len ∧ Lay E w us xs ∧ ∀ (j : Nat) (u : Value), us[j]? = some u → w.cell? ⟨b, off + j, none⟩ = some u
  | 0, _ => ⟨[], [], rfl, rfl, fun j u hu => by simp at hu⟩
  | n + 1, h => by
    obtain ⟨xs, us, h1, h2, h3⟩ := lay_of n (fun k hk => h k (by omega))
    obtain ⟨x, vs, g1, g2⟩ := h n (by omega)
    have hl := h2.len
    rw [h1] at hl
    refine ⟨xs ++ [x], us ++ vs, by simp [h1], h2.app ⟨vs, [], by simp, g1, rfl⟩, fun j u hu => ?_⟩
    by_cases q : j < us.length
    · rw [List.getElem?_append_left q] at hu
      exact h3 j u hu
    · rw [List.getElem?_append_right (by omega)] at hu
      have := g2 _ u hu
      rw [show n * E.size + (j - us.length) = j by omega] at this
      exact this
section
variable {H : Type} {enc : TypeId × Value → H} {W : World} {spare : Nat → Bool} {held : Bool} {base : Nat}
theorem cells2 : Try.prog.cellsOf 2 = 1 := by kernel_rfl
theorem cells4 : Try.prog.cellsOf 4 = 1 := by kernel_rfl
theorem cellsEntry : Try.prog.cellsOf 34 = 5 := by kernel_rfl
/-- A slice of bytes, as a cell. -/
theorem cell_bytes {fuel : Nat} {cs : List Value} {x : DataW H × List MemPlace} (hf : DataW.trod enc Try.prog W base spare held fuel 25 cs = some x) :
    ∃ (ao : Option Addr) (xs : List Int) (cap : Nat), cs = [.slice ao xs.length cap] ∧ Sl W ao xs.length cap xs := by
  rcases open_slice1 Try.underlying25 cells5 hf with ⟨hcs, _⟩ | ⟨a, len, cap, m, n, V, D, Pl, hcs, hb, hl, hm, hmm, _, hc⟩
  · exact ⟨none, [], 0, hcs, Sl.nil W⟩
  · have hlm : len ≤ m := by rw [hmm]; split <;> omega
    have hB : Byt W (some a) len (fun k => (intOf (V k)).toNat) := fun k hk => by
      obtain ⟨c0, t0⟩ := hc k (by omega)
      obtain ⟨z, e0, _, wf⟩ := DataW.trod_int Try.underlying5 t0
      simp at e0
      have hr := wf_u8 wf
      obtain ⟨b, off, spot⟩ := a
      have hspot : spot = none := by
        have h0 := (hc 0 (by omega)).1
        simpa [Addr.add] using World.cell?_spot h0
      subst hspot
      rw [Addr.add_lit, e0] at c0
      simp only [e0, intOf]
      refine ⟨by omega, b, off, rfl, ?_⟩
      rw [c0]
      congr 2
      omega
    have hS := sl_bs (fun e => by cases e) hl hm hB
    have hlen := bs_length (fun k => (intOf (V k)).toNat) len
    refine ⟨some a, bs (fun k => (intOf (V k)).toNat) len, cap, by rw [hlen]; exact hcs, by rw [hlen]; exact hS⟩
theorem list5 {α : Type} (l : List α) (h : l.length = 5) : ∃ a b c d e, l = [a, b, c, d, e] := by
  match l, h with
  | [a, b, c, d, e], _ => exact ⟨a, b, c, d, e, rfl⟩
/-- An entry: its five cells. -/
theorem open_ent {fuel : Nat} {cs : List Value} {x : DataW H × List MemPlace} (hf : DataW.trod enc Try.prog W base spare held fuel 34 cs = some x) : ∃ o : EntV, EntM W cs o := by
  obtain ⟨xs, n, _, _, hl, hxl, hc⟩ := DataW.trod_struct Try.underlying34 hf
  rw [cellsEntry] at hl
  obtain ⟨a, b, c, d, e, rfl⟩ := list5 cs hl
  have g0 : DataW.trod enc Try.prog W base spare held n 25 (([a, b, c, d, e].drop 0).take (Try.prog.cellsOf 25)) = xs[0]? := hc 0 _ rfl
  rw [cells25, List.getElem?_eq_getElem (show 0 < xs.length by rw [hxl]; decide)] at g0
  have g1 : DataW.trod enc Try.prog W base spare held n 2 (([a, b, c, d, e].drop 1).take (Try.prog.cellsOf 2)) = xs[1]? := hc 1 _ rfl
  rw [cells2, List.getElem?_eq_getElem (show 1 < xs.length by rw [hxl]; decide)] at g1
  have g2 : DataW.trod enc Try.prog W base spare held n 4 (([a, b, c, d, e].drop 2).take (Try.prog.cellsOf 4)) = xs[2]? := hc 2 _ rfl
  rw [cells4, List.getElem?_eq_getElem (show 2 < xs.length by rw [hxl]; decide)] at g2
  have g3 : DataW.trod enc Try.prog W base spare held n 2 (([a, b, c, d, e].drop 3).take (Try.prog.cellsOf 2)) = xs[3]? := hc 3 _ rfl
  rw [cells2, List.getElem?_eq_getElem (show 3 < xs.length by rw [hxl]; decide)] at g3
  have g4 : DataW.trod enc Try.prog W base spare held n 25 (([a, b, c, d, e].drop 4).take (Try.prog.cellsOf 25)) = xs[4]? := hc 4 _ rfl
  rw [cells25, List.getElem?_eq_getElem (show 4 < xs.length by rw [hxl]; decide)] at g4
  obtain ⟨ka, key, kc, e0, k1⟩ := cell_bytes g0
  obtain ⟨seq, e1, _, w1⟩ := DataW.trod_int Try.underlying2 g1
  obtain ⟨gone, e2, _⟩ := DataW.trod_bool Try.underlying4 g2
  obtain ⟨till, e3, _, w3⟩ := DataW.trod_int Try.underlying2 g3
  obtain ⟨va, vl, vc, e4, k2⟩ := cell_bytes g4
  have h0 : [a] = [Value.slice ka key.length kc] := e0
  have h1 : [b] = [Value.int .i64 seq] := e1
  have h2 : [c] = [Value.bool gone] := e2
  have h3 : [d] = [Value.int .i64 till] := e3
  have h4 : [e] = [Value.slice va vl.length vc] := e4
  simp only [List.cons.injEq, and_true] at h0 h1 h2 h3 h4
  subst h0 h1 h2 h3 h4
  exact ⟨⟨key, seq, gone, till, vl⟩, ka, kc, va, vc, rfl, k1, k2, wf_i64 w1, wf_i64 w3⟩
set_option maxRecDepth 100000 in
/-- A slice of entries, as a cell. -/
theorem cell_ents {fuel : Nat} {cs : List Value} {x : DataW H × List MemPlace} (hf : DataW.trod enc Try.prog W base spare held fuel 22 cs = some x) :
    ∃ (ao : Option Addr) (len cap : Nat) (os : List EntV), cs = [.slice ao len cap] ∧ RS entE W ao len cap os := by
  rcases open_slice Try.underlying22 hf with ⟨hcs, _⟩ | ⟨a, len, cap, m, n, D, Pl, hcs, hb, hl, hm, hmm, _, hc⟩
  · exact ⟨none, 0, 0, [], hcs, RS.nil W⟩
  · have hlm : len ≤ m := by rw [hmm]; split <;> omega
    rw [cellsEntry] at hc
    by_cases h0 : len = 0
    · subst h0
      exact ⟨some a, 0, cap, [], hcs, [], rfl, (fun e => by cases e), hl, hm, rfl, fun j u hu => by simp at hu⟩
    obtain ⟨b, off, spot⟩ := a
    have hspot : spot = none := by
      obtain ⟨cs0, h10, h20⟩ := hc 0 (by omega)
      obtain ⟨_, hl40, hcell0⟩ := World.cells?_some h10
      have h0 := hcell0 0 (by decide)
      rw [List.getElem?_eq_getElem (by omega)] at h0
      simpa [Addr.add] using World.cell?_spot h0
    subst hspot
    obtain ⟨os, us, q1, q2, q3⟩ := lay_of (E := entE) (w := W) (b := b) (off := off) len (fun k hk => by
      obtain ⟨cs', h1, h2⟩ := hc k (by omega)
      obtain ⟨_, hl4, hcell⟩ := World.cells?_some h1
      obtain ⟨o, ho⟩ := open_ent h2
      refine ⟨o, cs', ho, fun j v hj => ?_⟩
      have hj4 : j < 5 := by
        have := (List.getElem?_eq_some_iff.1 hj).1
        omega
      have := hcell j hj4
      rw [Addr.add_lit, Addr.add_lit] at this
      show W.cell? ⟨b, off + (k * 5 + j), none⟩ = some v
      rw [← Nat.add_assoc, this]
      exact hj)
    exact ⟨some ⟨b, off, none⟩, len, cap, os, hcs, us, q1, (fun e => by cases e), hl, hm, q2, fun j u hu => ⟨b, off, rfl, q3 j u hu⟩⟩
set_option maxRecDepth 100000 in
/-- A row of entries that came in. -/
theorem open22 {v : Value} {d : DataW H} {ps : List MemPlace} (hv : Value.okWide Try.prog W .any base 22 v) (h : DataW.Trod enc Try.prog W 0 (fun _ => true) true 22 v d ps) :
    ∃ (ao : Option Addr) (len cap : Nat) (os : List EntV), v = .slice ao len cap ∧ RS entE W ao len cap os := by
  obtain ⟨a, len, cap, rfl⟩ := okWide_slice Try.underlying22 hv
  obtain ⟨fuel, hf⟩ := h
  obtain ⟨ao, len', cap', os, e, hr⟩ := cell_ents hf
  have e' : [Value.slice a len cap] = [Value.slice ao len' cap'] := e
  simp only [List.cons.injEq, and_true] at e'
  exact ⟨ao, len', cap', os, e', hr⟩
end
end Go.Proofs.Ytimpaindbbjieaa
