import Derived.Test.YtnoackenjfpcmaaPk03
import Derived.Test.YtnoackenjfpcmaaPk11
import Derived.Test.YtnoackenjfpcmaaPk16
import Derived.Test.YtnoackenjfpcmaaPk23
import Derived.Test.YtnoackenjfpcmaaPk24
/- A region that draws its order, of which each operation yields what is told of it in every later world: told once, whatever the order. -/
namespace Go.Proofs.Ytnoackenjfpcmaa
open Go.RowKit
set_option linter.unusedVariables false
set_option linter.unusedSimpArgs false

/-- Every edge that binds leads backwards: by reckoning. -/
def lowBR (ops : Array Oper) : Bool := (List.range ops.size).all fun i => match ops[i]? with
  | some o => o.after.all fun e => !Region.binds .any e || decide (e.on < i)
  | none => true

theorem lowBR_spec {ops : Array Oper} (h : lowBR ops = true) : ∀ (i : Nat) o, ops[i]? = some o → ∀ e ∈ o.after, Region.binds .any e = true → e.on < i := by
  intro i o ho e he hb
  have hi : i < ops.size := by
    rcases Nat.lt_or_ge i ops.size with k | k
    · exact k
    · simp [k] at ho
  unfold lowBR at h
  have h1 := List.all_eq_true.1 h i (List.mem_range.2 hi)
  rw [ho] at h1
  have h2 := (Array.all_eq_true_iff_forall_mem.1 h1) e he
  rw [hb] at h2
  simpa using h2

/-- The places that the operations write: one each, unlike one another, within the frame. -/
def dstOfR (ops : Array Oper) (i : Nat) : Nat := ((ops[i]?).bind (·.dst)).getD 0
def dstBR (ops : Array Oper) (n : Nat) : Bool := (ops.toList.all fun o => o.dst.isSome) && decide (((List.range ops.size).map (dstOfR ops)).Nodup) && ((List.range ops.size).all fun i => decide (dstOfR ops i < n))
theorem dstBR_spec {ops : Array Oper} {n : Nat} (h : dstBR ops n = true) : (∀ i o, ops[i]? = some o → o.dst = some (dstOfR ops i)) ∧ (∀ i j, i < ops.size → j < ops.size → i ≠ j → dstOfR ops i ≠ dstOfR ops j) ∧ (∀ i, i < ops.size → dstOfR ops i < n) := by
  unfold dstBR at h
  simp only [Bool.and_eq_true, decide_eq_true_eq, List.all_eq_true, List.mem_range] at h
  obtain ⟨⟨h1, h2⟩, h3⟩ := h
  refine ⟨fun i o ho => ?_, fun i j hi hj hne e => ?_, h3⟩
  · have hm : o ∈ ops.toList := by
      have := Array.getElem?_eq_some_iff.1 ho
      obtain ⟨hi, e⟩ := this
      rw [← e]
      exact Array.getElem_mem_toList hi
    have := h1 o hm
    unfold dstOfR
    rw [ho]
    cases hd : o.dst with
    | none => rw [hd] at this; cases this
    | some d => simp [hd]
  · have hi' : i < ((List.range ops.size).map (dstOfR ops)).length := by simpa using hi
    have hj' : j < ((List.range ops.size).map (dstOfR ops)).length := by simpa using hj
    have := (List.getElem_inj (h₀ := hi') (h₁ := hj') h2).1 (by simpa using e)
    exact hne this


def slotR (ops : Array Oper) (a : Act) (i : Nat) : Value := a.eval (.tmp (dstOfR ops i))

theorem evalR_put_same {a : Act} {d : Nat} {v : Value} (h : d < a.tmps.size) : (a.put (some d) v).eval (.tmp d) = v := by
  simp [Act.put, Act.eval, h]
theorem evalR_put_other {a : Act} {d s : Nat} {v : Value} (h : d ≠ s) : (a.put (some d) v).eval (.tmp s) = a.eval (.tmp s) := by
  simp [Act.put, Act.eval, h]


def afterBR (o : Oper) (j : Nat) : Bool := o.after.toList.any fun e => Region.binds .any e && e.on == j
theorem afterBR_spec {o : Oper} {j : Nat} (h : afterBR o j = true) : ∃ e ∈ o.after, Region.binds .any e = true ∧ e.on = j := by
  unfold afterBR at h
  obtain ⟨e, he, h2⟩ := List.any_eq_true.1 h
  simp only [Bool.and_eq_true, beq_iff_eq] at h2
  exact ⟨e, by simpa using he, h2.1, h2.2⟩
def freeBR (ops : Array Oper) (s : Nat) : Bool := (List.range ops.size).all fun i => dstOfR ops i != s
theorem freeBR_spec {ops : Array Oper} {s : Nat} (h : freeBR ops s = true) : ∀ i, i < ops.size → dstOfR ops i ≠ s := by
  intro i hi
  unfold freeBR at h
  have := List.all_eq_true.1 h i (List.mem_range.2 hi)
  simpa using this

abbrev Rl := World → Value → Prop
def vl (v : Value) : Rl := fun _ x => x = v
def rOf (ks : List Rl) (i : Nat) : Rl := (ks[i]?).getD (vl undef)
/-- What stays in later worlds. -/
def StaysR (r : Rl) : Prop := ∀ (w w' : World) (v : Value), r w v → Below w.heap.size w w' → r w' v
theorem stays_vl (v : Value) : StaysR (vl v) := fun _ _ _ h _ => h
structure MidR (W : World) (A : Act) (ops : Array Oper) (K : Nat → Rl) (L : Nat → Bool) (a : Act) (w : World) : Prop where
  below : Below W.heap.size W w
  defers : a.defers = A.defers
  size : a.tmps.size = A.tmps.size
  old : ∀ s, (∀ i, i < ops.size → dstOfR ops i ≠ s) → a.eval (.tmp s) = A.eval (.tmp s)
  rel : ∀ i, i < ops.size → L i = true → K i w (slotR ops a i)
def OutR (K : Nat → Rl) (i : Nat) (w : World) (v : Value) (w' : World) : Prop := K i w' v ∧ Below w.heap.size w w'
theorem midR_step {W : World} {A : Act} {ops : Array Oper} {K : Nat → Rl} {L : Nat → Bool} {a : Act} {w : World} (hK : ∀ i, StaysR (K i)) (hd : dstBR ops A.tmps.size = true)
    (h : MidR W A ops K L a w) {i : Nat} {o : Oper} (ho : ops[i]? = some o) {v : Value} {w' : World} (hout : OutR K i w v w') :
    MidR W A ops K (fun j => if j = i then true else L j) (a.put o.dst v) w' := by
  obtain ⟨d1, d2, d3⟩ := dstBR_spec hd
  have his : i < ops.size := by
    rcases Nat.lt_or_ge i ops.size with k | k
    · exact k
    · simp [k] at ho
  rw [d1 i o ho]
  have ha : dstOfR ops i < a.tmps.size := by rw [h.size]; exact d3 i his
  have hsi : slotR ops (a.put (some (dstOfR ops i)) v) i = v := evalR_put_same ha
  have hso : ∀ j, j < ops.size → j ≠ i → slotR ops (a.put (some (dstOfR ops i)) v) j = slotR ops a j := fun j hj hne => evalR_put_other (d2 i j his hj (Ne.symm hne))
  refine ⟨h.below.trans (hout.2.mono h.below.size), h.defers, by simp [Act.put, h.size], fun s hs => ?_, fun j hj hL => ?_⟩
  · rw [evalR_put_other (hs i his)]
    exact h.old s hs
  · by_cases e : j = i
    · subst e
      rw [hsi]
      exact hout.1
    · rw [hso j hj e]
      exact hK j _ _ _ (h.rel j hj (by simpa [e] using hL)) hout.2
structure CtxR (W : World) (A : Act) (ops : Array Oper) (ks : List Rl) (i : Nat) (o : Oper) (a : Act) (w : World) : Prop where
  below : Below W.heap.size W w
  old : ∀ s, freeBR ops s = true → a.eval (.tmp s) = A.eval (.tmp s)
  val : ∀ j v, afterBR o j = true → rOf ks j = vl v → a.eval (.tmp (dstOfR ops j)) = v
  rel : ∀ j r, afterBR o j = true → rOf ks j = r → r w (a.eval (.tmp (dstOfR ops j)))
  want0 : o.guard = none → Region.wanted o (yielded ops a.tmps) = true
  want : ∀ j b, afterBR o j = true → o.guard = some (j, b) → rOf ks j = vl (.bool b) → Region.wanted o (yielded ops a.tmps) = true
  skip : ∀ j b c, afterBR o j = true → o.guard = some (j, b) → rOf ks j = vl (.bool c) → c ≠ b → Region.wanted o (yielded ops a.tmps) = false
def GoalR (P : Program) (Q : Exit → Act → World → Prop) (ops : Array Oper) (ks : List Rl) (i : Nat) (o : Oper) (a : Act) (w : World) : Prop :=
  (Region.wanted o (yielded ops a.tmps) = true ∧ ∀ Kk : Act → World → Prop, (∀ v w', OutR (rOf ks) i w v w' → Kk (a.put o.dst v) w') → o.wp P a w Kk Q) ∨ (Region.wanted o (yielded ops a.tmps) = false ∧ rOf ks i = vl undef)
def StepR (P : Program) (Q : Exit → Act → World → Prop) (W : World) (A : Act) (ops : Array Oper) (ks : List Rl) (i : Nat) (o : Oper) : Prop :=
  ∀ (a : Act) (w : World), CtxR W A ops ks i o a w → GoalR P Q ops ks i o a w
def StepsR (P : Program) (Q : Exit → Act → World → Prop) (W : World) (A : Act) (ops : Array Oper) (ks : List Rl) : Nat → List Oper → Prop
  | _, [] => True
  | i, o :: rest => StepR P Q W A ops ks i o ∧ StepsR P Q W A ops ks (i + 1) rest
theorem stepsR_get {P : Program} {Q : Exit → Act → World → Prop} {W : World} {A : Act} {ops : Array Oper} {ks : List Rl} : ∀ (l : List Oper) (n i : Nat) (o : Oper), StepsR P Q W A ops ks n l → l[i]? = some o → StepR P Q W A ops ks (n + i) o
  | [], _, _, _, _, h => by simp at h
  | x :: l, n, 0, o, hs, h => by simp at h; subst h; exact hs.1
  | x :: l, n, i + 1, o, hs, h => by
    have := stepsR_get l (n + 1) i o hs.2 (by simpa using h)
    rw [show n + (i + 1) = n + 1 + i by omega]
    exact this
/-- THE REGION: each operation by itself. -/
theorem wp_region_rel {P : Program} {id : Nat} {Q : Exit → Act → World → Prop} {A : Act} {W : World} {l : List Oper} (hm : P.follows .mixedOrders = true) (hl : lowBR l.toArray = true) (n : Nat) (hn : A.tmps.size = n) (hd0 : dstBR l.toArray n = true)
    (ks : List Rl) (hK : ∀ k ∈ ks, StaysR k) (hstep : StepsR P Q W A l.toArray ks 0 l)
    (hend : ∀ (a : Act) (w : World), a.defers = A.defers → Below W.heap.size W w → (∀ i v, i < l.length → rOf ks i = vl v → a.eval (.tmp (dstOfR l.toArray i)) = v) → Q .normal a w) :
    (Code.region id l.toArray true).wp P Q A W := by
  have hd : dstBR l.toArray A.tmps.size = true := by rw [hn]; exact hd0
  have hKs : ∀ i, StaysR (rOf ks i) := fun i => by
    unfold rOf
    cases h : ks[i]? with
    | none => exact stays_vl _
    | some k => exact hK k (List.mem_of_getElem? h)
  refine wp_region_inv hm (lowBR_spec hl) (fun A L a w => MidR W A l.toArray (rOf ks) L a w) ?_ ?_ ?_
  · exact ⟨(Below.refl _ _).drew, rfl, rfl, fun _ _ => rfl, fun _ _ h => by cases h⟩
  · intro L a w i o hM ho hi hafter Kk hKk
    have hs := stepsR_get l 0 i o hstep (by simpa using ho)
    rw [Nat.zero_add] at hs
    obtain ⟨d1, d2, d3⟩ := dstBR_spec hd
    have low := lowBR_spec hl i o ho
    have his : i < l.toArray.size := by
      rcases Nat.lt_or_ge i l.toArray.size with k | k
      · exact k
      · rw [Array.getElem?_eq_none k] at ho; cases ho
    have hLj : ∀ j, afterBR o j = true → j < l.toArray.size ∧ L j = true := fun j hj => by
      obtain ⟨e, he, hb, rfl⟩ := afterBR_spec hj
      exact ⟨by have := low e he hb; omega, hafter e he hb⟩
    have hy : ∀ j b, afterBR o j = true → rOf ks j = vl (.bool b) → yielded l.toArray a.tmps j = some b := fun j b hj hKj => by
      obtain ⟨h1, h2⟩ := hLj j hj
      have hv := hM.rel j h1 h2
      rw [hKj] at hv
      have hv' : slotR l.toArray a j = .bool b := hv
      have ho' : l.toArray[j]? = some l.toArray[j] := Array.getElem?_eq_getElem h1
      have hdj := d1 j _ ho'
      have hsz : dstOfR l.toArray j < a.tmps.size := by rw [hM.size]; exact d3 j h1
      unfold yielded
      rw [ho', Option.bind_some, hdj, Option.bind_some, Array.getElem?_eq_getElem hsz]
      unfold slotR at hv'
      simp only [Act.eval, Array.getD_eq_getD_getElem?, Array.getElem?_eq_getElem hsz, Option.getD_some] at hv'
      rw [hv']
    have hc : CtxR W A l.toArray ks i o a w := by
      refine ⟨hM.below, fun s h => hM.old s (freeBR_spec h), fun j v hj hKj => ?_, fun j r hj hKj => ?_, fun hg => ?_, fun j b hj hg hKj => ?_, fun j b c hj hg hKj hne => ?_⟩
      · have := hM.rel j (hLj j hj).1 (hLj j hj).2
        rw [hKj] at this
        exact this
      · have := hM.rel j (hLj j hj).1 (hLj j hj).2
        rw [hKj] at this
        exact this
      · unfold Region.wanted; rw [hg]
      · unfold Region.wanted; rw [hg]; simp only [hy j b hj hKj]; simp
      · unfold Region.wanted; rw [hg]; simp only [hy j c hj hKj]; simpa using hne
    rcases hs a w hc with ⟨hw, hs⟩ | ⟨hw, hv⟩
    · rw [if_pos hw]
      exact hs Kk fun v w' hout => hKk _ _ (midR_step hKs hd hM ho hout)
    · rw [if_neg (by rw [hw]; exact Bool.false_ne_true)]
      exact hKk _ _ (midR_step hKs hd hM ho ⟨by rw [hv]; rfl, Below.refl _ _⟩)
  · intro L a w hM hall
    refine hend a w hM.defers hM.below fun i v hi hKi => ?_
    have := hM.rel i (by simpa using hi) (hall i (by simpa using hi))
    rw [hKi] at this
    exact this
/-- THE REGION: each operation by itself. -/
theorem wp_region_rel2 {P : Program} {id : Nat} {Q : Exit → Act → World → Prop} {A : Act} {W : World} {l : List Oper} (hm : P.follows .mixedOrders = true) (hl : lowBR l.toArray = true) (n : Nat) (hn : A.tmps.size = n) (hd0 : dstBR l.toArray n = true)
    (ks : List Rl) (hK : ∀ k ∈ ks, StaysR k) (hstep : StepsR P Q W A l.toArray ks 0 l)
    (hend : ∀ (a : Act) (w : World), MidR W A l.toArray (rOf ks) (fun _ => true) a w → Q .normal a w) :
    (Code.region id l.toArray true).wp P Q A W := by
  have hd : dstBR l.toArray A.tmps.size = true := by rw [hn]; exact hd0
  have hKs : ∀ i, StaysR (rOf ks i) := fun i => by
    unfold rOf
    cases h : ks[i]? with
    | none => exact stays_vl _
    | some k => exact hK k (List.mem_of_getElem? h)
  refine wp_region_inv hm (lowBR_spec hl) (fun A L a w => MidR W A l.toArray (rOf ks) L a w) ?_ ?_ ?_
  · exact ⟨(Below.refl _ _).drew, rfl, rfl, fun _ _ => rfl, fun _ _ h => by cases h⟩
  · intro L a w i o hM ho hi hafter Kk hKk
    have hs := stepsR_get l 0 i o hstep (by simpa using ho)
    rw [Nat.zero_add] at hs
    obtain ⟨d1, d2, d3⟩ := dstBR_spec hd
    have low := lowBR_spec hl i o ho
    have his : i < l.toArray.size := by
      rcases Nat.lt_or_ge i l.toArray.size with k | k
      · exact k
      · rw [Array.getElem?_eq_none k] at ho; cases ho
    have hLj : ∀ j, afterBR o j = true → j < l.toArray.size ∧ L j = true := fun j hj => by
      obtain ⟨e, he, hb, rfl⟩ := afterBR_spec hj
      exact ⟨by have := low e he hb; omega, hafter e he hb⟩
    have hy : ∀ j b, afterBR o j = true → rOf ks j = vl (.bool b) → yielded l.toArray a.tmps j = some b := fun j b hj hKj => by
      obtain ⟨h1, h2⟩ := hLj j hj
      have hv := hM.rel j h1 h2
      rw [hKj] at hv
      have hv' : slotR l.toArray a j = .bool b := hv
      have ho' : l.toArray[j]? = some l.toArray[j] := Array.getElem?_eq_getElem h1
      have hdj := d1 j _ ho'
      have hsz : dstOfR l.toArray j < a.tmps.size := by rw [hM.size]; exact d3 j h1
      unfold yielded
      rw [ho', Option.bind_some, hdj, Option.bind_some, Array.getElem?_eq_getElem hsz]
      unfold slotR at hv'
      simp only [Act.eval, Array.getD_eq_getD_getElem?, Array.getElem?_eq_getElem hsz, Option.getD_some] at hv'
      rw [hv']
    have hc : CtxR W A l.toArray ks i o a w := by
      refine ⟨hM.below, fun s h => hM.old s (freeBR_spec h), fun j v hj hKj => ?_, fun j r hj hKj => ?_, fun hg => ?_, fun j b hj hg hKj => ?_, fun j b c hj hg hKj hne => ?_⟩
      · have := hM.rel j (hLj j hj).1 (hLj j hj).2
        rw [hKj] at this
        exact this
      · have := hM.rel j (hLj j hj).1 (hLj j hj).2
        rw [hKj] at this
        exact this
      · unfold Region.wanted; rw [hg]
      · unfold Region.wanted; rw [hg]; simp only [hy j b hj hKj]; simp
      · unfold Region.wanted; rw [hg]; simp only [hy j c hj hKj]; simpa using hne
    rcases hs a w hc with ⟨hw, hs⟩ | ⟨hw, hv⟩
    · rw [if_pos hw]
      exact hs Kk fun v w' hout => hKk _ _ (midR_step hKs hd hM ho hout)
    · rw [if_neg (by rw [hw]; exact Bool.false_ne_true)]
      exact hKk _ _ (midR_step hKs hd hM ho ⟨by rw [hv]; rfl, Below.refl _ _⟩)
  · intro L a w hM hall
    exact hend a w ⟨hM.below, hM.defers, hM.size, hM.old, fun i hi _ => hM.rel i hi (hall i hi)⟩
/-- Values laid into their places, one behind the other. -/
def putVs : Act → List (Nat × Value) → Act
  | A, [] => A
  | A, (d, v) :: r => putVs (A.put (some d) v) r
theorem putVs_size : ∀ (r : List (Nat × Value)) (A : Act), (putVs A r).tmps.size = A.tmps.size ∧ (putVs A r).defers = A.defers
  | [], A => ⟨rfl, rfl⟩
  | (d, v) :: r, A => by
    obtain ⟨h1, h2⟩ := putVs_size r (A.put (some d) v)
    exact ⟨by rw [putVs, h1]; simp [Act.put], by rw [putVs, h2]; rfl⟩
theorem putVs_other : ∀ (r : List (Nat × Value)) (A : Act) (s : Nat), (∀ x ∈ r, x.1 ≠ s) → (putVs A r).eval (.tmp s) = A.eval (.tmp s)
  | [], A, s, _ => rfl
  | (d, v) :: r, A, s, h => by
    rw [putVs, putVs_other r _ s (fun x hx => h x (List.mem_cons_of_mem _ hx))]
    exact evalR_put_other (h (d, v) (List.mem_cons_self ..))
theorem putVs_at : ∀ (r : List (Nat × Value)) (A : Act) (d : Nat) (v : Value), (r.map (·.1)).Nodup → (d, v) ∈ r → d < A.tmps.size → (putVs A r).eval (.tmp d) = v
  | [], A, d, v, _, h, _ => by cases h
  | (d', v') :: r, A, d, v, hn, h, hs => by
    rw [List.map_cons, List.nodup_cons] at hn
    rw [putVs]
    rcases List.mem_cons.1 h with e | h
    · obtain ⟨e1, e2⟩ := Prod.mk.inj e
      rw [e1] at hs ⊢
      rw [e2, putVs_other r _ d' (fun x hx e => hn.1 (List.mem_map.2 ⟨x, hx, e⟩))]
      exact evalR_put_same hs
    · exact putVs_at r _ d v hn.2 h (by simpa [Act.put] using hs)
theorem act_eq {a b : Act} (h1 : a.tmps.size = b.tmps.size) (h2 : a.defers = b.defers) (h : ∀ s, s < b.tmps.size → a.eval (.tmp s) = b.eval (.tmp s)) : a = b := by
  cases a with
  | mk ta da =>
    cases b with
    | mk tb db =>
      simp only at h1 h2
      subst h2
      have : ta = tb := Array.ext h1 fun i hi1 hi2 => by
        have := h i hi2
        simpa [Act.eval, hi1, hi2] using this
      subst this
      rfl
/-- THE REGION, where each operation yields a known value: it goes on with all of them laid. -/
theorem wp_region_vals {P : Program} {id : Nat} {Q : Exit → Act → World → Prop} {A : Act} {W : World} {l : List Oper} (hm : P.follows .mixedOrders = true) (hl : lowBR l.toArray = true) (n : Nat) (hn : A.tmps.size = n) (hd0 : dstBR l.toArray n = true)
    (vs : List Value) (hlen : vs.length = l.length) (hstep : StepsR P Q W A l.toArray (vs.map vl) 0 l)
    (ds : List Nat) (hds : (List.range l.length).map (dstOfR l.toArray) = ds)
    (hend : ∀ w, Below W.heap.size W w → Q .normal (putVs A (ds.zip vs)) w) :
    (Code.region id l.toArray true).wp P Q A W := by
  refine wp_region_rel2 hm hl n hn hd0 (vs.map vl) (fun k hk => by obtain ⟨v, _, rfl⟩ := List.mem_map.1 hk; exact stays_vl v) hstep ?_
  intro a w hM
  have hd : dstBR l.toArray A.tmps.size = true := by rw [hn]; exact hd0
  obtain ⟨d1, d2, d3⟩ := dstBR_spec hd
  have hsz : l.toArray.size = l.length := by simp
  have hdl : ds.length = l.length := by rw [← hds]; simp
  have hnd : ds.Nodup := by
    have h9 := hd
    unfold dstBR at h9
    simp only [Bool.and_eq_true, decide_eq_true_eq] at h9
    have h8 := h9.1.2
    rw [hsz, hds] at h8
    exact h8
  have ha : a = putVs A (ds.zip vs) := by
    refine act_eq (hM.size.trans (putVs_size _ _).1.symm) (hM.defers.trans (putVs_size _ _).2.symm) fun s hs => ?_
    rw [(putVs_size _ _).1] at hs
    by_cases hf : ∃ i, i < l.length ∧ dstOfR l.toArray i = s
    · obtain ⟨i, hi, rfl⟩ := hf
      have hr := hM.rel i (by simpa using hi) rfl
      have hiv : i < vs.length := by omega
      have hk : rOf (vs.map vl) i = vl vs[i] := by
        unfold rOf
        rw [List.getElem?_map, List.getElem?_eq_getElem hiv]
        rfl
      rw [hk] at hr
      refine Eq.trans hr (putVs_at _ _ _ _ ?_ ?_ hs).symm
      · rw [List.map_fst_zip (by omega)]; exact hnd
      · rw [List.mem_iff_getElem?]
        refine ⟨i, ?_⟩
        rw [List.getElem?_zip_eq_some]
        refine ⟨?_, List.getElem?_eq_getElem hiv⟩
        rw [← hds, List.getElem?_map, List.getElem?_range hi]
        rfl
    · have hno : ∀ i, i < l.toArray.size → dstOfR l.toArray i ≠ s := fun i hi e => hf ⟨i, by simpa using hi, e⟩
      rw [hM.old s hno]
      refine (putVs_other _ _ _ fun x hx e => ?_).symm
      have hx1 : x.1 ∈ ds := List.of_mem_zip hx |>.1
      rw [← hds] at hx1
      obtain ⟨i, hi, he⟩ := List.mem_map.1 hx1
      exact hf ⟨i, by simpa using hi, he.trans e⟩
  rw [ha]
  exact hend w hM.below
section
variable {P : Program} {Q : Exit → Act → World → Prop} {ops : Array Oper} {ks : List Rl} {i : Nat} {o : Oper} {a : Act} {w : World}
theorem goalR_run {v : Value} {w' : World} (hw : Region.wanted o (yielded ops a.tmps) = true) (hrun : (execOp a.eval o).run P w = .ok (.value v) w') (hout : OutR (rOf ks) i w v w') : GoalR P Q ops ks i o a w :=
  .inl ⟨hw, fun Kk hKk => by unfold Oper.wp; rw [hrun]; exact hKk v w' hout⟩
theorem goalR_val {v : Value} (hw : Region.wanted o (yielded ops a.tmps) = true) (hrun : (execOp a.eval o).run P w = .ok (.value v) w) (hv : rOf ks i = vl v) : GoalR P Q ops ks i o a w :=
  goalR_run hw hrun ⟨by rw [hv]; rfl, Below.refl _ _⟩
theorem goalR_move {v : Value} (hw : Region.wanted o (yielded ops a.tmps) = true) (x : Operand) (h : o.op = .move x ∨ o.op = .assign x) (hx : a.eval x = v) (hv : rOf ks i = vl v) : GoalR P Q ops ks i o a w := by
  refine goalR_val hw ?_ hv
  rw [← hx]
  rcases h with h | h
  · exact BigFrame.run_move x h w
  · exact BigFrame.run_assign x h w
theorem goalR_call {f : FuncId} {args : Array Value} (hw : Region.wanted o (yielded ops a.tmps) = true) (hrun : (execOp a.eval o).run P w = .ok (.enter f args) w)
    (hc : Calls P f args w fun e w' => ∃ v, e = .returned v ∧ OutR (rOf ks) i w v w') : GoalR P Q ops ks i o a w :=
  .inl ⟨hw, fun Kk hKk => by
    unfold Oper.wp
    rw [hrun]
    exact hc.mono fun e w' ⟨v, he, hout⟩ => by subst he; exact hKk v w' hout⟩
theorem goalR_fn {f : FuncId} {xs : Array Operand} {ts : Array TypeId} {args : Array Value} (hw : Region.wanted o (yielded ops a.tmps) = true) (hop : o.op = .call { callee := .value (.func f), args := xs, argTypes := ts }) (hargs : xs.map a.eval = args) (hf : (callFunc f args).run P w = .ok (.enter f args) w)
    (hc : Calls P f args w fun e w' => ∃ v, e = .returned v ∧ OutR (rOf ks) i w v w') : GoalR P Q ops ks i o a w := by
  refine goalR_call hw ?_ hc
  unfold execOp
  rw [hop]
  simp [resolve, invoke, Act.eval, go_sem, hargs, hf]
theorem goalR_skip (hw : Region.wanted o (yielded ops a.tmps) = false) (hv : rOf ks i = vl undef) : GoalR P Q ops ks i o a w := .inr ⟨hw, hv⟩
theorem outR_val {v : Value} {w' : World} (hv : rOf ks i = vl v) (h : Below w.heap.size w w') : OutR (rOf ks) i w v w' := ⟨by rw [hv]; rfl, h⟩
theorem outR_rel {r : Rl} {v : Value} {w' : World} (hv : rOf ks i = r) (hr : r w' v) (h : Below w.heap.size w w') : OutR (rOf ks) i w v w' := ⟨by rw [hv]; exact hr, h⟩
end
theorem stays_slv (xs : List Int) : StaysR (fun w v => SlV w v xs) := fun _ _ _ h hb => h.later hb
theorem goalR_str {Q : Exit → Act → World → Prop} {ops : Array Oper} {ks : List Rl} {i : Nat} {o : Oper} {a : Act} {w : World} {x : Operand} {v : Value} {xs : List Int} (hw : Region.wanted o (yielded ops a.tmps) = true) (hop : o.op = .convert 33 9 x) (hx : a.eval x = v) (h : SlV w v xs)
    (hv : rOf ks i = vl (.string (strOfNums xs))) : GoalR Try.prog Q ops ks i o a w := by
  obtain ⟨ao, c, rfl, hs⟩ := h
  refine goalR_val hw ?_ hv
  unfold execOp
  rw [hop]
  simp only [hx, Sem.run_bind, str_l hs, Result.andThen_ok, Sem.run_pure]
end Go.Proofs.Ytnoackenjfpcmaa

/- The document's own Merge. -/
namespace Go.Proofs.Ytnoackenjfpcmaa
open Go.RowKit
set_option linter.unusedVariables false
set_option linter.unusedSimpArgs false

/-- A guard on what was skipped is not met. -/
theorem wanted_undefM {ops : Array Oper} {o : Oper} {a : Act} {j : Nat} {b : Bool} (hg : o.guard = some (j, b)) (hv : a.eval (.tmp (dstOfR ops j)) = undef) : Region.wanted o (yielded ops a.tmps) = false := by
  have hy : yielded ops a.tmps j = none := by
    unfold yielded
    cases h : ops[j]? with
    | none => rfl
    | some oj =>
      simp only [Option.bind_some]
      cases hd : oj.dst with
      | none => rfl
      | some d =>
        simp only [Option.bind_some]
        have e : dstOfR ops j = d := by unfold dstOfR; rw [h]; simp [hd]
        rw [e] at hv
        by_cases hs : d < a.tmps.size
        · simp only [Act.eval, Array.getD_eq_getD_getElem?, Array.getElem?_eq_getElem hs, Option.getD_some] at hv
          rw [Array.getElem?_eq_getElem hs, hv]
          rfl
        · rw [Array.getElem?_eq_none (Nat.le_of_not_lt hs)]
  unfold Region.wanted
  rw [hg]
  simp [hy]

set_option maxRecDepth 100000 in
theorem putRm (x0 x1 x2 x3 x4 x5 x6 x7 x8 x9 x10 x11 x12 x13 x14 x15 x16 x17 x18 x19 x20 x21 x22 x23 x24 x25 x26 x27 x28 x29 x30 x31 x32 x33 x34 x35 x36 x37 x38 x39 x40 x41 x42 x43 x44 x45 x46 x47 x48 x49 x50 x51 x52 x53 x54 x55 x56 x57 x58 x59 x60 x61 x62 x63 x64 x65 x66 x67 x68 x69 x70 x71 x72 x73 y18 y19 y20 y21 y22 y23 y24 y25 y26 y27 y28 y29 y30 y31 y32 y33 y34 y35 y36 y37 y38 y39 y40 y41 y42 y43 y44 y45 y46 y47 y48 y49 : Value) : putVs ⟨#[x0, x1, x2, x3, x4, x5, x6, x7, x8, x9, x10, x11, x12, x13, x14, x15, x16, x17, x18, x19, x20, x21, x22, x23, x24, x25, x26, x27, x28, x29, x30, x31, x32, x33, x34, x35, x36, x37, x38, x39, x40, x41, x42, x43, x44, x45, x46, x47, x48, x49, x50, x51, x52, x53, x54, x55, x56, x57, x58, x59, x60, x61, x62, x63, x64, x65, x66, x67, x68, x69, x70, x71, x72, x73], []⟩ (List.zip [18, 19, 20, 21, 22, 23, 24, 25, 26, 27, 28, 29, 30, 31, 32, 33, 34, 35, 36, 37, 38, 39, 40, 41, 42, 43, 44, 45, 46, 47, 48, 49] [y18, y19, y20, y21, y22, y23, y24, y25, y26, y27, y28, y29, y30, y31, y32, y33, y34, y35, y36, y37, y38, y39, y40, y41, y42, y43, y44, y45, y46, y47, y48, y49]) = ⟨#[x0, x1, x2, x3, x4, x5, x6, x7, x8, x9, x10, x11, x12, x13, x14, x15, x16, x17, y18, y19, y20, y21, y22, y23, y24, y25, y26, y27, y28, y29, y30, y31, y32, y33, y34, y35, y36, y37, y38, y39, y40, y41, y42, y43, y44, y45, y46, y47, y48, y49, x50, x51, x52, x53, x54, x55, x56, x57, x58, x59, x60, x61, x62, x63, x64, x65, x66, x67, x68, x69, x70, x71, x72, x73], []⟩ := by kernel_rfl

theorem elem59 : Try.prog.elem 59 = 3 := by kernel_rfl
/-- How far each row has come: numbers in a block of one's own. -/
def AtR (w : World) (p : Nat) (A : List Nat) : Prop := ∀ (i a : Nat), A[i]? = some a → w.cell? ⟨p, i, none⟩ = some (.int .i64 (a : Int)) ∧ w.frozen? ⟨p, i, none⟩ = false
theorem AtR.later {w w' : World} {p : Nat} {A : List Nat} (h : AtR w p A) (hp : p < w.heap.size) (hb : Below w.heap.size w w') : AtR w' p A := fun i a ha => by
  obtain ⟨h0, h1⟩ := h i a ha
  refine ⟨cell_later hb h0, ?_⟩
  simp only [World.frozen?] at h1 ⊢; rw [hb.block _ hp]; exact h1
theorem AtR.grown {w w' : World} {p : Nat} {r : Option Nat} {A : List Nat} (h : AtR w p A) (hp : p < w.heap.size) (hg : w.grownBy w' r) (hne : some p ≠ r) : AtR w' p A := fun i a ha => by
  obtain ⟨h0, h1⟩ := h i a ha
  refine ⟨hg.cell h0 hne, ?_⟩
  simp only [World.frozen?] at h1 ⊢; rw [hg.block _ hp hne]; exact h1
theorem AtR.low {w w' : World} {p : Nat} {A : List Nat} (h : AtR w p A) (hb : Below (p + 1) w w') : AtR w' p A := fun i a ha => by
  obtain ⟨h0, h1⟩ := h i a ha
  refine ⟨(World.cell?_of_block (hb.block _ (Nat.lt_succ_self p))).trans h0, ?_⟩
  simp only [World.frozen?] at h1 ⊢; rw [hb.block _ (Nat.lt_succ_self p)]; exact h1
theorem AtR.set {w : World} {p : Nat} {A : List Nat} (h : AtR w p A) {i a : Nat} (ha : A[i]? = some a) (b : Nat) : AtR (w.setCell ⟨p, i, none⟩ (.int .i64 (b : Int))) p (A.set i b) := fun j c hc => by
  rw [World.frozen?_setCell]
  by_cases e : j = i
  · subst e
    rw [List.getElem?_set_self (List.getElem?_eq_some_iff.1 ha).1] at hc
    obtain rfl : b = c := by simpa using hc
    exact ⟨hp_css _ _ _ _ (h j a ha).1, (h j a ha).2⟩
  · rw [List.getElem?_set_ne (fun e' => e e'.symm)] at hc
    exact ⟨(hp_cso _ _ _ _ _ (fun e' => e e'.symm)).trans (h j c hc).1, (h j c hc).2⟩
structure RM (w : World) (rs : List (List EntV)) (p : Nat) (wr : World) (v : Value) (dn : List EntV) (A : List Nat) : Prop where
  row : RowF entE (p + 1) (fun b => b < w.heap.size) wr v dn
  at' : AtR wr p A
  plt : p < wr.heap.size
  pge : w.heap.size ≤ p
  len : rs.length = A.length
  ale : ∀ (i a : Nat) (l : List EntV), A[i]? = some a → rs[i]? = some l → a ≤ l.length
  res : dn ++ (mrgT (rst rs A)).map (·.1) = mrgE rs
  bel : Below w.heap.size w wr
theorem RM.later {w : World} {rs : List (List EntV)} {p : Nat} {wr wx : World} {v : Value} {dn : List EntV} {A : List Nat} (h : RM w rs p wr v dn A) (hb : Below wr.heap.size wr wx) : RM w rs p wx v dn A :=
  ⟨h.row.later hb, h.at'.later h.plt hb, Nat.lt_of_lt_of_le h.plt hb.size, h.pge, h.len, h.ale, h.res, h.bel.trans (hb.mono h.bel.size)⟩
def bstV : Option (Nat × EntV) → Value
  | none => .int .i64 (-1)
  | some (j, _) => .int .i64 (j : Int)
set_option maxHeartbeats 16000000 in
set_option maxRecDepth 100000 in
theorem rmerge_t {w : World} {ao : Option Addr} {n cap : Nat} {rs : List (List EntV)} (h : ErRow w ao n cap rs) (hz : Szr rs) (ho : ∀ l ∈ rs, ordE l) (hsum : sumR rs ≤ 100000) (hn : n ≤ 1000) :
    Calls Try.prog 15 #[.slice ao n cap] w fun r w' => ∃ v, r = .returned v ∧ RowF entE w.heap.size (fun b => b < w.heap.size) w' v (mrgE rs) ∧ Below w.heap.size w w' := by
  have H0 := hidM h
  have HZ := hidM hz
  have HO := hidM ho
  have HLN : Hid (rs.length = n ∧ sumR rs ≤ 100000 ∧ n ≤ 1000 ∧ n ≤ cap) := ⟨h.len.1, hsum, hn, h.len.2.1⟩
  have hn62 : n ≤ 2 ^ 20 := by omega
  have mixed : Try.prog.follows .mixedOrders = true := by kernel_rfl
  obtain ⟨i0, hi0⟩ : ∃ i0, Try.prog.info? 3 = some i0 := Option.isSome_iff_exists.1 (by kernel_rfl)
  have HI : Hid (Try.prog.info? 3 = some i0 ∧ i0.zero = some (.int .i64 0) ∧ i0.size = 1 ∧ i0.bytes = 8) := by
    have e : (Try.prog.info? 3).map (fun i => (i.zero, i.size, i.bytes)) = some (some (.int .i64 0), 1, 8) := by kernel_rfl
    rw [hi0] at e
    simp only [Option.map_some, Option.some.injEq, Prod.mk.injEq] at e
    exact ⟨hi0, e.1, e.2.1, e.2.2⟩
  obtain ⟨TT, hTT⟩ : ∃ t, t = sumR rs := ⟨_, rfl⟩
  have HTT := hidM hTT
  clear h hz ho hsum hn hi0 hTT
  go_enter Try.func15, Try.ntmps15
  go_wp2_with (at_make; refine wpList_make_full w rfl (.tmp 9) (.tmp 9) 59 rfl w.heap.size 3 i0 _ 1 Try.underlying59 HI.out.1 HI.out.2.1 HI.out.2.2.1 .i64 .i64 _ _ n rfl rfl rfl rfl (by rw [HI.out.2.2.2]; omega) (by unfold maxLen; omega) (Nat.le_refl _) ?_; intro w1 hown hg1; have HO1 := hidM (And.intro hown (mk_below hg1)); clear hown hg1)
  have HR0 : Hid (RM w rs w.heap.size w1 (.slice none 0 0) [] (List.replicate n 0)) := by
    have hl := World.ownsRow.lt HO1.out.1 w.heap.size rfl
    have hcs := World.ownsRow.cells HO1.out.1 (g := w.heap.size) rfl
    refine ⟨RowF.nil _ _ _, fun i a ha => ?_, hl.2, Nat.le_refl _, by rw [List.length_replicate]; exact HLN.out.1, fun i a l ha hl => ?_, ?_, HO1.out.2⟩
    · rw [List.getElem?_replicate] at ha
      split at ha
      · rename_i hin
        obtain rfl : 0 = a := by simpa using ha
        have := hcs i (.int .i64 0) (by rw [Nat.mul_one]; rw [show (Value.int IntKind.i64 0).cells = #[.int .i64 0] from rfl, toList_madeCells_one, List.getElem?_replicate, if_pos hin])
        rw [Addr.add_lit, Nat.zero_add] at this
        refine ⟨this, ?_⟩
        rcases HO1.out.1.2 with ⟨e, _⟩ | ⟨g, c, cur, e, _, hg, _⟩
        · cases e
        · simp only [Value.slice.injEq, Option.some.injEq, Addr.mk.injEq, and_true] at e
          obtain ⟨rfl, _⟩ := e
          simp [World.frozen?, hg]
      · cases ha
    · rw [List.getElem?_replicate] at ha
      split at ha
      · obtain rfl : 0 = a := by simpa using ha
        exact Nat.zero_le _
      · cases ha
    · rw [← HLN.out.1, rst_zero]; rfl
  have hP : Hid (w.heap.size = w.heap.size) := rfl
  obtain ⟨p, hp⟩ : ∃ p, p = w.heap.size := ⟨_, rfl⟩
  rw [← hp]
  have HP := hidM hp
  rw [← hp] at HR0
  clear hP hp HO1
  go_loopg [3] (TT + 1) (fun kx s3 wr => ∃ (dn : List EntV) (A : List Nat), Hid (RM w rs p wr s3 dn A ∧ dn.length + kx = TT + 1))
  case atStart => exact ⟨[], List.replicate n 0, by have := HP.out; exact HR0.out, by simp⟩
  case round =>
    obtain ⟨dn, A, HM⟩ := hrel
    obtain ⟨oa, oc, hv⟩ := HM.out.1.row.isl
    obtain ⟨dl, hdl⟩ : ∃ d, d = dn.length := ⟨_, rfl⟩
    rw [← hdl] at hv
    subst hv
    have HDL := hidM hdl
    clear hdl
    go_wp2_with fail
    go_loopg [5, 13] n (fun kx s5 s13 wx => ∃ i : Nat, s13 = .int .i64 (i : Int) ∧ i + kx = n ∧ s5 = bstV (bstP (rst rs A) i) ∧ Hid (Below wr.heap.size wr wx))
    case atStart => exact ⟨0, rfl, by omega, rfl, Below.refl _ _⟩
    case round =>
      obtain ⟨i, rfl, hg, rfl, HB⟩ := hrel
      by_cases hi : i < n
      · have hi1 : (0 : Int) ≤ (i : Int) := by omega
        have hi2 : (i : Int) < (n : Int) := by omega
        obtain ⟨l, hl⟩ : ∃ l, rs[i]? = some l := ⟨_, List.getElem?_eq_getElem (by have := HLN.out; omega)⟩
        obtain ⟨a, ha⟩ : ∃ a, A[i]? = some a := ⟨_, List.getElem?_eq_getElem (by have := HLN.out; have := HM.out.1.len; omega)⟩
        obtain ⟨rb, ro, la, lc, rfl, c0, hrl⟩ := H0.out.at' i l hl
        have hbw := HM.out.1.bel.trans (HB.out.mono HM.out.1.bel.size)
        have hat := HM.out.1.at'.later HM.out.1.plt HB.out
        have hrst := rst_at hl ha
        have HG := hidM (And.intro hg hi)
        have r0 := cell_later hbw c0
        obtain ⟨L, hL⟩ : ∃ L, L = l.length := ⟨_, rfl⟩
        have HLE := hidM hL
        have hL62 : L ≤ 2 ^ 62 := by have := HZ.out.row l (List.mem_of_getElem? hl); omega
        by_cases qa : a < L
        · have ha1 : (0 : Int) ≤ (a : Int) := by omega
          have ha2 : (a : Int) < (L : Int) := by omega
          have hal := ha2
          obtain ⟨x, hx⟩ : ∃ x, l[a]? = some x := ⟨_, List.getElem?_eq_getElem (by omega)⟩
          have hdx := drop_cons hx
          rw [hdx] at hrst
          obtain ⟨b1, o1, ka1, kc1, va1, vc1, rfl, d0, d1, d2, d3, d4, s1, -, -, -⟩ := RS.ent (hrl.later hbw) hx
          have hbest := bstP_spec (rst rs A) i
          cases hB : bstP (rst rs A) i with
          | none =>
            have HN : Hid (bstP (rst rs A) (i + 1) = some (i, x)) := bstP_first hrst hB
            have HRC : Hid (∀ wx, Below wr.heap.size wr wx → wx.cell? ⟨p, i, none⟩ = some (.int .i64 (a : Int)) ∧ True) := fun wx hb => ⟨(hat.later (Nat.lt_of_lt_of_le HM.out.1.plt HB.out.size) hb i a ha).1, trivial⟩
            show Code.wp _ _ _ _ _
            rw [← hL] at r0
            clear hg hi hl ha c0 hrl hbw hat hrst hL qa hx hdx d0 d1 d2 d3 d4 s1 hbest
            simp only [bstV]
            go_upto_region 7 with fail
            obtain ⟨la, hla⟩ : ∃ la, la = some (⟨b1, o1, none⟩ : Addr) := ⟨_, rfl⟩
            rw [← hla]
            clear hla r0
            refine wp_region_vals (by kernel_rfl) (by decide +kernel) 74 rfl (by decide +kernel) [.slice (some ⟨p, 0, none⟩) n n, .int .i64 (i : Int), .pointer (some ⟨p, i, none⟩), .int .i64 (a : Int), .slice la L lc, .int .i64 (L : Int), .bool true, .bool true, .int .i64 (-1), .bool true, .bool true, undef, undef, undef, undef, undef, undef, undef, undef, undef, undef, undef, undef, undef, undef, undef, undef, undef, undef, undef, .bool true, .bool true] rfl ?_ [18, 19, 20, 21, 22, 23, 24, 25, 26, 27, 28, 29, 30, 31, 32, 33, 34, 35, 36, 37, 38, 39, 40, 41, 42, 43, 44, 45, 46, 47, 48, 49] (by decide +kernel) ?_
            rotate_left
            · intro w6 B6
              rename_i hk
              refine hk _ _ ?_
              rw [putRm]
              go_wp2_with fail
              go_roundg (n - (i + 1))
              case measure => have := HG.out; omega
              case rel => exact ⟨i + 1, by go_num, by have := HG.out; omega, by rw [HN.out]; rfl, HB.out.trans (B6.mono HB.out.size)⟩
            -- 0: slot 18
            refine ⟨fun a w c => ?_, ?_⟩
            · have hw := c.want0 rfl
              exact goalR_move hw (.tmp 4) (.inl rfl) ((c.old 4 rfl).trans rfl) rfl
            -- 1: slot 19
            refine ⟨fun a w c => ?_, ?_⟩
            · have hw := c.want0 rfl
              exact goalR_move hw (.tmp 6) (.inl rfl) ((c.old 6 rfl).trans rfl) rfl
            -- 2: slot 20
            refine ⟨fun a w c => ?_, ?_⟩
            · have hw := c.want0 rfl
              have e18 : a.eval (.tmp 18) = _ := c.val 0 _ rfl rfl
              have e19 : a.eval (.tmp 19) = _ := c.val 1 _ rfl rfl
              exact goalR_val hw (by have ec : ∀ v, a.eval (.const v) = v := fun _ => rfl; generalize a.eval = ρ at ec e18 e19 ⊢; simp [execOp, go_sem, ec, e18, e19, elem59, Try.sizeOf3, hi1, hi2]) rfl
            -- 3: slot 21
            refine ⟨fun a w c => ?_, ?_⟩
            · have hw := c.want0 rfl
              have e20 : a.eval (.tmp 20) = _ := c.val 2 _ rfl rfl
              have y0 := (HRC.out w c.below).1
              exact goalR_val hw (by have ec : ∀ v, a.eval (.const v) = v := fun _ => rfl; generalize a.eval = ρ at ec e20 ⊢; simp [execOp, go_sem, ec, e20, y0]) rfl
            -- 4: slot 22
            refine ⟨fun a w c => ?_, ?_⟩
            · have hw := c.want0 rfl
              exact goalR_move hw (.tmp 7) (.inl rfl) ((c.old 7 rfl).trans rfl) rfl
            -- 5: slot 23
            refine ⟨fun a w c => ?_, ?_⟩
            · have e22 : a.eval (.tmp 22) = _ := c.val 4 _ rfl rfl
              exact goalR_val (c.want0 rfl) (by have ec : ∀ v, a.eval (.const v) = v := fun _ => rfl; generalize a.eval = ρ at ec e22 ⊢; simp [execOp, go_sem, ec, e22]) rfl
            -- 6: slot 24
            refine ⟨fun a w c => ?_, ?_⟩
            · have hw := c.want0 rfl
              have e21 : a.eval (.tmp 21) = _ := c.val 3 _ rfl rfl
              have e23 : a.eval (.tmp 23) = _ := c.val 5 _ rfl rfl
              exact goalR_val hw (by have ec : ∀ v, a.eval (.const v) = v := fun _ => rfl; generalize a.eval = ρ at ec e21 e23 ⊢; simp [execOp, go_sem, ec, e21, e23, hal]) rfl
            -- 7: slot 25
            refine ⟨fun a w c => ?_, ?_⟩
            · exact goalR_move (c.want0 rfl) (.tmp 24) (.inl rfl) (c.val 6 _ rfl rfl) rfl
            -- 8: slot 26
            refine ⟨fun a w c => ?_, ?_⟩
            · have hw := c.want 7 true rfl rfl rfl
              exact goalR_move hw (.tmp 5) (.inl rfl) ((c.old 5 rfl).trans rfl) rfl
            -- 9: slot 27
            refine ⟨fun a w c => ?_, ?_⟩
            · have hw := c.want 7 true rfl rfl rfl
              have e26 : a.eval (.tmp 26) = _ := c.val 8 _ rfl rfl
              exact goalR_val hw (by have ec : ∀ v, a.eval (.const v) = v := fun _ => rfl; generalize a.eval = ρ at ec e26 ⊢; simp [execOp, go_sem, ec, ec, e26]) rfl
            -- 10: slot 28
            refine ⟨fun a w c => ?_, ?_⟩
            · exact goalR_move (c.want 7 true rfl rfl rfl) (.tmp 27) (.inl rfl) (c.val 9 _ rfl rfl) rfl
            -- 11: slot 29
            refine ⟨fun a w c => ?_, ?_⟩
            · exact goalR_skip (c.skip 10 false true rfl rfl rfl (by decide)) rfl
            -- 12: slot 30
            refine ⟨fun a w c => ?_, ?_⟩
            · exact goalR_skip (c.skip 10 false true rfl rfl rfl (by decide)) rfl
            -- 13: slot 31
            refine ⟨fun a w c => ?_, ?_⟩
            · exact goalR_skip (c.skip 10 false true rfl rfl rfl (by decide)) rfl
            -- 14: slot 32
            refine ⟨fun a w c => ?_, ?_⟩
            · exact goalR_skip (c.skip 10 false true rfl rfl rfl (by decide)) rfl
            -- 15: slot 33
            refine ⟨fun a w c => ?_, ?_⟩
            · exact goalR_skip (c.skip 10 false true rfl rfl rfl (by decide)) rfl
            -- 16: slot 34
            refine ⟨fun a w c => ?_, ?_⟩
            · exact goalR_skip (c.skip 10 false true rfl rfl rfl (by decide)) rfl
            -- 17: slot 35
            refine ⟨fun a w c => ?_, ?_⟩
            · exact goalR_skip (c.skip 10 false true rfl rfl rfl (by decide)) rfl
            -- 18: slot 36
            refine ⟨fun a w c => ?_, ?_⟩
            · exact goalR_skip (c.skip 10 false true rfl rfl rfl (by decide)) rfl
            -- 19: slot 37
            refine ⟨fun a w c => ?_, ?_⟩
            · exact goalR_skip (c.skip 10 false true rfl rfl rfl (by decide)) rfl
            -- 20: slot 38
            refine ⟨fun a w c => ?_, ?_⟩
            · exact goalR_skip (c.skip 10 false true rfl rfl rfl (by decide)) rfl
            -- 21: slot 39
            refine ⟨fun a w c => ?_, ?_⟩
            · exact goalR_skip (c.skip 10 false true rfl rfl rfl (by decide)) rfl
            -- 22: slot 40
            refine ⟨fun a w c => ?_, ?_⟩
            · exact goalR_skip (c.skip 10 false true rfl rfl rfl (by decide)) rfl
            -- 23: slot 41
            refine ⟨fun a w c => ?_, ?_⟩
            · exact goalR_skip (c.skip 10 false true rfl rfl rfl (by decide)) rfl
            -- 24: slot 42
            refine ⟨fun a w c => ?_, ?_⟩
            · exact goalR_skip (c.skip 10 false true rfl rfl rfl (by decide)) rfl
            -- 25: slot 43
            refine ⟨fun a w c => ?_, ?_⟩
            · exact goalR_skip (c.skip 10 false true rfl rfl rfl (by decide)) rfl
            -- 26: slot 44
            refine ⟨fun a w c => ?_, ?_⟩
            · exact goalR_skip (c.skip 10 false true rfl rfl rfl (by decide)) rfl
            -- 27: slot 45
            refine ⟨fun a w c => ?_, ?_⟩
            · exact goalR_skip (c.skip 10 false true rfl rfl rfl (by decide)) rfl
            -- 28: slot 46
            refine ⟨fun a w c => ?_, ?_⟩
            · exact goalR_skip (c.skip 10 false true rfl rfl rfl (by decide)) rfl
            -- 29: slot 47
            refine ⟨fun a w c => ?_, ?_⟩
            · exact goalR_skip (c.skip 10 false true rfl rfl rfl (by decide)) rfl
            -- 30: slot 48
            refine ⟨fun a w c => ?_, ?_⟩
            · have hw := c.want 7 true rfl rfl rfl
              have e28 : a.eval (.tmp 28) = _ := c.val 10 _ rfl rfl
              exact goalR_val hw (by have ec : ∀ v, a.eval (.const v) = v := fun _ => rfl; generalize a.eval = ρ at ec e28 ⊢; simp [execOp, go_sem, ec, ec, e28]) rfl
            -- 31: slot 49
            refine ⟨fun a w c => ?_, ?_⟩
            · have hw := c.want0 rfl
              have e25 : a.eval (.tmp 25) = _ := c.val 7 _ rfl rfl
              have e48 : a.eval (.tmp 48) = _ := c.val 30 _ rfl rfl
              exact goalR_val hw (by have ec : ∀ v, a.eval (.const v) = v := fun _ => rfl; generalize a.eval = ρ at ec e25 e48 ⊢; simp [execOp, go_sem, ec, ec, e25, e48]) rfl
            exact True.intro

          | some jy =>
            obtain ⟨j, y⟩ := jy
            obtain ⟨hji, ⟨q2, hj⟩, -⟩ := hbest.2 j y hB
            obtain ⟨l2, hl2⟩ : ∃ l, rs[j]? = some l := ⟨_, List.getElem?_eq_getElem (by have := HLN.out; omega)⟩
            obtain ⟨a2, ha2'⟩ : ∃ a, A[j]? = some a := ⟨_, List.getElem?_eq_getElem (by have := HLN.out; have := HM.out.1.len; omega)⟩
            have hrst2 := rst_at hl2 ha2'
            rw [hj] at hrst2
            have hy : l2[a2]? = some y := by
              have e := Option.some.inj hrst2
              have := congrArg (fun z => z[0]?) e
              simp only [List.getElem?_drop, Nat.add_zero] at this
              rw [← this]; rfl
            obtain ⟨rb', ro', la2, lc2, e', c2, hrl2⟩ := H0.out.at' j l2 hl2
            simp only [Option.some.injEq, Addr.mk.injEq, and_true] at e'
            obtain ⟨rfl, rfl⟩ := e'
            have r2 := cell_later hbw c2
            have hrl2n := hrl2.len
            obtain ⟨b2, o2, ka2, kc2, va2, vc2, rfl, f0, f1, f2, f3, f4, t1, -, -, -⟩ := RS.ent (hrl2.later hbw) hy
            have hj1 : (0 : Int) ≤ (j : Int) := by omega
            have hj2 : (j : Int) < (n : Int) := by omega
            have hjn : ¬ ((j : Int) < 0) := by omega
            obtain ⟨L2, hL2⟩ : ∃ L, L = l2.length := ⟨_, rfl⟩
            have hb1 : (0 : Int) ≤ (a2 : Int) := by omega
            have hb2 : (a2 : Int) < (L2 : Int) := by have := (List.getElem?_eq_some_iff.1 hy).1; omega
            have HNT : Hid (ahead x y < 0 → bstP (rst rs A) (i + 1) = some (i, x)) := fun hc => by rw [bstP_next hrst hB, if_pos hc]
            have HNF : Hid (¬ ahead x y < 0 → bstP (rst rs A) (i + 1) = some (j, y)) := fun hc => by rw [bstP_next hrst hB, if_neg hc]
            have HRC : Hid (∀ wx, Below wr.heap.size wr wx → wx.cell? ⟨p, i, none⟩ = some (.int .i64 (a : Int)) ∧ (wx.cell? ⟨b1, o1 + a * 5, none⟩ = some (.slice ka1 x.key.length kc1) ∧ wx.cell? ⟨b1, o1 + a * 5 + 1, none⟩ = some (.int .i64 x.seq) ∧ wx.cell? ⟨b1, o1 + a * 5 + 2, none⟩ = some (.bool x.gone) ∧ wx.cell? ⟨b1, o1 + a * 5 + 3, none⟩ = some (.int .i64 x.till) ∧ wx.cell? ⟨b1, o1 + a * 5 + 4, none⟩ = some (.slice va1 x.val.length vc1)) ∧ wx.cell? ⟨rb, ro + j, none⟩ = some (.slice (some ⟨b2, o2, none⟩) l2.length lc2) ∧ wx.cell? ⟨p, j, none⟩ = some (.int .i64 (a2 : Int)) ∧
                (wx.cell? ⟨b2, o2 + a2 * 5, none⟩ = some (.slice ka2 y.key.length kc2) ∧ wx.cell? ⟨b2, o2 + a2 * 5 + 1, none⟩ = some (.int .i64 y.seq) ∧ wx.cell? ⟨b2, o2 + a2 * 5 + 2, none⟩ = some (.bool y.gone) ∧ wx.cell? ⟨b2, o2 + a2 * 5 + 3, none⟩ = some (.int .i64 y.till) ∧ wx.cell? ⟨b2, o2 + a2 * 5 + 4, none⟩ = some (.slice va2 y.val.length vc2))) := fun wx hb => by
              have hpl := Nat.lt_of_lt_of_le HM.out.1.plt HB.out.size
              exact ⟨(hat.later hpl hb i a ha).1, ⟨cell_later hb d0, cell_later hb d1, cell_later hb d2, cell_later hb d3, cell_later hb d4⟩, cell_later hb r2, (hat.later hpl hb j a2 ha2').1, cell_later hb f0, cell_later hb f1, cell_later hb f2, cell_later hb f3, cell_later hb f4⟩
            have HC : Hid (∀ wx, Below wr.heap.size wr wx → Calls Try.prog 22 #[.agg #[.slice ka1 x.key.length kc1, .int .i64 x.seq, .bool x.gone, .int .i64 x.till, .slice va1 x.val.length vc1], .agg #[.slice ka2 y.key.length kc2, .int .i64 y.seq, .bool y.gone, .int .i64 y.till, .slice va2 y.val.length vc2]] wx fun e w' => e = .returned (.int .i64 (ahead x y)) ∧ Below wx.heap.size wx w') := fun wx hb => by
              have := rahead_any (va := va1) (vc := vc1) (vb := va2) (vd := vc2) (s1.later hb) (t1.later hb)
              unfold entA at this
              exact this
            rw [← hL2] at HRC
            rw [← hL] at r0
            generalize ahead x y = c at HC HNT HNF
            generalize x.key.length = kl1 at HRC HC
            generalize y.key.length = kl2 at HRC HC
            generalize x.val.length = vl1 at HRC HC
            generalize y.val.length = vl2 at HRC HC
            generalize x.seq = sq1 at HRC HC
            generalize y.seq = sq2 at HRC HC
            generalize x.gone = gn1 at HRC HC
            generalize y.gone = gn2 at HRC HC
            generalize x.till = tl1 at HRC HC
            generalize y.till = tl2 at HRC HC
            clear hg hi hl ha c0 hrl hbw hat hrst hL qa hx hdx d0 d1 d2 d3 d4 s1 hbest hj hl2 ha2' hrst2 hy c2 r2 hrl2 hrl2n f0 f1 f2 f3 f4 t1 hL2
            simp only [bstV]
            by_cases hcc : c < 0
            · have HN := hidM (HNT.out hcc)
              clear HNT HNF
              go_upto_region 7 with fail
              clear r0
              refine wp_region_vals (by kernel_rfl) (by decide +kernel) 74 rfl (by decide +kernel) [.slice (some ⟨p, 0, none⟩) n n, .int .i64 (i : Int), .pointer (some ⟨p, i, none⟩), .int .i64 (a : Int), .slice (some ⟨b1, o1, none⟩) L lc, .int .i64 (L : Int), .bool true, .bool true, .int .i64 (j : Int), .bool false, .bool false, .slice (some ⟨b1, o1, none⟩) L lc, .slice (some ⟨p, 0, none⟩) n n, .int .i64 (i : Int), .pointer (some ⟨p, i, none⟩), .int .i64 (a : Int), .pointer (some ⟨b1, o1 + a * 5, none⟩), .agg #[.slice ka1 kl1 kc1, .int .i64 sq1, .bool gn1, .int .i64 tl1, .slice va1 vl1 vc1], .slice (some ⟨rb, ro, none⟩) n cap, .int .i64 (j : Int), .pointer (some ⟨rb, ro + j, none⟩), .slice (some ⟨b2, o2, none⟩) L2 lc2, .slice (some ⟨p, 0, none⟩) n n, .int .i64 (j : Int), .pointer (some ⟨p, j, none⟩), .int .i64 (a2 : Int), .pointer (some ⟨b2, o2 + a2 * 5, none⟩), .agg #[.slice ka2 kl2 kc2, .int .i64 sq2, .bool gn2, .int .i64 tl2, .slice va2 vl2 vc2], .int .i64 c, .bool true, .bool true, .bool true] rfl ?_ [18, 19, 20, 21, 22, 23, 24, 25, 26, 27, 28, 29, 30, 31, 32, 33, 34, 35, 36, 37, 38, 39, 40, 41, 42, 43, 44, 45, 46, 47, 48, 49] (by decide +kernel) ?_
              rotate_left
              · intro w6 B6
                rename_i hk
                refine hk _ _ ?_
                rw [putRm]
                go_wp2_with fail
                go_roundg (n - (i + 1))
                case measure => have := HG.out; omega
                case rel => exact ⟨i + 1, by go_num, by have := HG.out; omega, by rw [HN.out]; rfl, HB.out.trans (B6.mono HB.out.size)⟩
              -- 0: slot 18
              refine ⟨fun a w c => ?_, ?_⟩
              · have hw := c.want0 rfl
                exact goalR_move hw (.tmp 4) (.inl rfl) ((c.old 4 rfl).trans rfl) rfl
              -- 1: slot 19
              refine ⟨fun a w c => ?_, ?_⟩
              · have hw := c.want0 rfl
                exact goalR_move hw (.tmp 6) (.inl rfl) ((c.old 6 rfl).trans rfl) rfl
              -- 2: slot 20
              refine ⟨fun a w c => ?_, ?_⟩
              · have hw := c.want0 rfl
                have e18 : a.eval (.tmp 18) = _ := c.val 0 _ rfl rfl
                have e19 : a.eval (.tmp 19) = _ := c.val 1 _ rfl rfl
                exact goalR_val hw (by have ec : ∀ v, a.eval (.const v) = v := fun _ => rfl; generalize a.eval = ρ at ec e18 e19 ⊢; simp [execOp, go_sem, ec, e18, e19, elem59, Try.sizeOf3, hi1, hi2]) rfl
              -- 3: slot 21
              refine ⟨fun a w c => ?_, ?_⟩
              · have hw := c.want0 rfl
                have e20 : a.eval (.tmp 20) = _ := c.val 2 _ rfl rfl
                have y0 := (HRC.out w c.below).1
                exact goalR_val hw (by have ec : ∀ v, a.eval (.const v) = v := fun _ => rfl; generalize a.eval = ρ at ec e20 ⊢; simp [execOp, go_sem, ec, e20, y0]) rfl
              -- 4: slot 22
              refine ⟨fun a w c => ?_, ?_⟩
              · have hw := c.want0 rfl
                exact goalR_move hw (.tmp 7) (.inl rfl) ((c.old 7 rfl).trans rfl) rfl
              -- 5: slot 23
              refine ⟨fun a w c => ?_, ?_⟩
              · have e22 : a.eval (.tmp 22) = _ := c.val 4 _ rfl rfl
                exact goalR_val (c.want0 rfl) (by have ec : ∀ v, a.eval (.const v) = v := fun _ => rfl; generalize a.eval = ρ at ec e22 ⊢; simp [execOp, go_sem, ec, e22]) rfl
              -- 6: slot 24
              refine ⟨fun a w c => ?_, ?_⟩
              · have hw := c.want0 rfl
                have e21 : a.eval (.tmp 21) = _ := c.val 3 _ rfl rfl
                have e23 : a.eval (.tmp 23) = _ := c.val 5 _ rfl rfl
                exact goalR_val hw (by have ec : ∀ v, a.eval (.const v) = v := fun _ => rfl; generalize a.eval = ρ at ec e21 e23 ⊢; simp [execOp, go_sem, ec, e21, e23, hal]) rfl
              -- 7: slot 25
              refine ⟨fun a w c => ?_, ?_⟩
              · exact goalR_move (c.want0 rfl) (.tmp 24) (.inl rfl) (c.val 6 _ rfl rfl) rfl
              -- 8: slot 26
              refine ⟨fun a w c => ?_, ?_⟩
              · have hw := c.want 7 true rfl rfl rfl
                exact goalR_move hw (.tmp 5) (.inl rfl) ((c.old 5 rfl).trans rfl) rfl
              -- 9: slot 27
              refine ⟨fun a w c => ?_, ?_⟩
              · have hw := c.want 7 true rfl rfl rfl
                have e26 : a.eval (.tmp 26) = _ := c.val 8 _ rfl rfl
                exact goalR_val hw (by have ec : ∀ v, a.eval (.const v) = v := fun _ => rfl; generalize a.eval = ρ at ec e26 ⊢; simp [execOp, go_sem, ec, ec, e26, hjn]) rfl
              -- 10: slot 28
              refine ⟨fun a w c => ?_, ?_⟩
              · exact goalR_move (c.want 7 true rfl rfl rfl) (.tmp 27) (.inl rfl) (c.val 9 _ rfl rfl) rfl
              -- 11: slot 29
              refine ⟨fun a w c => ?_, ?_⟩
              · have hw := c.want 10 false rfl rfl rfl
                exact goalR_move hw (.tmp 7) (.inl rfl) ((c.old 7 rfl).trans rfl) rfl
              -- 12: slot 30
              refine ⟨fun a w c => ?_, ?_⟩
              · have hw := c.want 10 false rfl rfl rfl
                exact goalR_move hw (.tmp 4) (.inl rfl) ((c.old 4 rfl).trans rfl) rfl
              -- 13: slot 31
              refine ⟨fun a w c => ?_, ?_⟩
              · have hw := c.want 10 false rfl rfl rfl
                exact goalR_move hw (.tmp 6) (.inl rfl) ((c.old 6 rfl).trans rfl) rfl
              -- 14: slot 32
              refine ⟨fun a w c => ?_, ?_⟩
              · have hw := c.want 10 false rfl rfl rfl
                have e30 : a.eval (.tmp 30) = _ := c.val 12 _ rfl rfl
                have e31 : a.eval (.tmp 31) = _ := c.val 13 _ rfl rfl
                exact goalR_val hw (by have ec : ∀ v, a.eval (.const v) = v := fun _ => rfl; generalize a.eval = ρ at ec e30 e31 ⊢; simp [execOp, go_sem, ec, e30, e31, elem59, Try.sizeOf3, hi1, hi2]) rfl
              -- 15: slot 33
              refine ⟨fun a w c => ?_, ?_⟩
              · have hw := c.want 10 false rfl rfl rfl
                have e32 : a.eval (.tmp 32) = _ := c.val 14 _ rfl rfl
                have y0 := (HRC.out w c.below).1
                exact goalR_val hw (by have ec : ∀ v, a.eval (.const v) = v := fun _ => rfl; generalize a.eval = ρ at ec e32 ⊢; simp [execOp, go_sem, ec, e32, y0]) rfl
              -- 16: slot 34
              refine ⟨fun a w c => ?_, ?_⟩
              · have hw := c.want 10 false rfl rfl rfl
                have e29 : a.eval (.tmp 29) = _ := c.val 11 _ rfl rfl
                have e33 : a.eval (.tmp 33) = _ := c.val 15 _ rfl rfl
                exact goalR_val hw (by have ec : ∀ v, a.eval (.const v) = v := fun _ => rfl; generalize a.eval = ρ at ec e29 e33 ⊢; simp [execOp, go_sem, ec, e29, e33, elem27, Try.sizeOf35, ha1, ha2]) rfl
              -- 17: slot 35
              refine ⟨fun a w c => ?_, ?_⟩
              · have hw := c.want 10 false rfl rfl rfl
                have e34 : a.eval (.tmp 34) = _ := c.val 16 _ rfl rfl
                obtain ⟨y0, y1, y2, y3, y4⟩ := (HRC.out w c.below).2.1
                exact goalR_val hw (by have ec : ∀ v, a.eval (.const v) = v := fun _ => rfl; generalize a.eval = ρ at ec e34 ⊢; simp [execOp, go_sem, ec, e34, y0, y1, y2, y3, y4]) rfl
              -- 18: slot 36
              refine ⟨fun a w c => ?_, ?_⟩
              · have hw := c.want 10 false rfl rfl rfl
                exact goalR_move hw (.tmp 0) (.inl rfl) ((c.old 0 rfl).trans rfl) rfl
              -- 19: slot 37
              refine ⟨fun a w c => ?_, ?_⟩
              · have hw := c.want 10 false rfl rfl rfl
                exact goalR_move hw (.tmp 5) (.inl rfl) ((c.old 5 rfl).trans rfl) rfl
              -- 20: slot 38
              refine ⟨fun a w c => ?_, ?_⟩
              · have hw := c.want 10 false rfl rfl rfl
                have e36 : a.eval (.tmp 36) = _ := c.val 18 _ rfl rfl
                have e37 : a.eval (.tmp 37) = _ := c.val 19 _ rfl rfl
                exact goalR_val hw (by have ec : ∀ v, a.eval (.const v) = v := fun _ => rfl; generalize a.eval = ρ at ec e36 e37 ⊢; simp [execOp, go_sem, ec, e36, e37, elem22, Try.sizeOf27, hj1, hj2]) rfl
              -- 21: slot 39
              refine ⟨fun a w c => ?_, ?_⟩
              · have hw := c.want 10 false rfl rfl rfl
                have e38 : a.eval (.tmp 38) = _ := c.val 20 _ rfl rfl
                have y0 := (HRC.out w c.below).2.2.1
                exact goalR_val hw (by have ec : ∀ v, a.eval (.const v) = v := fun _ => rfl; generalize a.eval = ρ at ec e38 ⊢; simp [execOp, go_sem, ec, e38, y0]) rfl
              -- 22: slot 40
              refine ⟨fun a w c => ?_, ?_⟩
              · have hw := c.want 10 false rfl rfl rfl
                exact goalR_move hw (.tmp 4) (.inl rfl) ((c.old 4 rfl).trans rfl) rfl
              -- 23: slot 41
              refine ⟨fun a w c => ?_, ?_⟩
              · have hw := c.want 10 false rfl rfl rfl
                exact goalR_move hw (.tmp 5) (.inl rfl) ((c.old 5 rfl).trans rfl) rfl
              -- 24: slot 42
              refine ⟨fun a w c => ?_, ?_⟩
              · have hw := c.want 10 false rfl rfl rfl
                have e40 : a.eval (.tmp 40) = _ := c.val 22 _ rfl rfl
                have e41 : a.eval (.tmp 41) = _ := c.val 23 _ rfl rfl
                exact goalR_val hw (by have ec : ∀ v, a.eval (.const v) = v := fun _ => rfl; generalize a.eval = ρ at ec e40 e41 ⊢; simp [execOp, go_sem, ec, e40, e41, elem59, Try.sizeOf3, hj1, hj2]) rfl
              -- 25: slot 43
              refine ⟨fun a w c => ?_, ?_⟩
              · have hw := c.want 10 false rfl rfl rfl
                have e42 : a.eval (.tmp 42) = _ := c.val 24 _ rfl rfl
                have y0 := (HRC.out w c.below).2.2.2.1
                exact goalR_val hw (by have ec : ∀ v, a.eval (.const v) = v := fun _ => rfl; generalize a.eval = ρ at ec e42 ⊢; simp [execOp, go_sem, ec, e42, y0]) rfl
              -- 26: slot 44
              refine ⟨fun a w c => ?_, ?_⟩
              · have hw := c.want 10 false rfl rfl rfl
                have e39 : a.eval (.tmp 39) = _ := c.val 21 _ rfl rfl
                have e43 : a.eval (.tmp 43) = _ := c.val 25 _ rfl rfl
                exact goalR_val hw (by have ec : ∀ v, a.eval (.const v) = v := fun _ => rfl; generalize a.eval = ρ at ec e39 e43 ⊢; simp [execOp, go_sem, ec, e39, e43, elem27, Try.sizeOf35, hb1, hb2]) rfl
              -- 27: slot 45
              refine ⟨fun a w c => ?_, ?_⟩
              · have hw := c.want 10 false rfl rfl rfl
                have e44 : a.eval (.tmp 44) = _ := c.val 26 _ rfl rfl
                obtain ⟨y0, y1, y2, y3, y4⟩ := (HRC.out w c.below).2.2.2.2
                exact goalR_val hw (by have ec : ∀ v, a.eval (.const v) = v := fun _ => rfl; generalize a.eval = ρ at ec e44 ⊢; simp [execOp, go_sem, ec, e44, y0, y1, y2, y3, y4]) rfl
              -- 28: slot 46
              refine ⟨fun a w c => ?_, ?_⟩
              · have hw := c.want 10 false rfl rfl rfl
                have e35 : a.eval (.tmp 35) = _ := c.val 17 _ rfl rfl
                have e45 : a.eval (.tmp 45) = _ := c.val 27 _ rfl rfl
                exact goalR_fn hw rfl (by simp only [List.map_toArray, List.map_cons, List.map_nil, e35, e45]) (by kernel_rfl) ((HC.out w c.below).mono fun e w' ⟨he, hb⟩ => ⟨_, he, outR_val rfl hb⟩)
              -- 29: slot 47
              refine ⟨fun a w c => ?_, ?_⟩
              · have hw := c.want 10 false rfl rfl rfl
                have e46 : a.eval (.tmp 46) = _ := c.val 28 _ rfl rfl
                exact goalR_val hw (by have ec : ∀ v, a.eval (.const v) = v := fun _ => rfl; generalize a.eval = ρ at ec e46 ⊢; simp [execOp, go_sem, ec, ec, e46, hcc]) rfl
              -- 30: slot 48
              refine ⟨fun a w c => ?_, ?_⟩
              · have hw := c.want 7 true rfl rfl rfl
                have e28 : a.eval (.tmp 28) = _ := c.val 10 _ rfl rfl
                have e47 : a.eval (.tmp 47) = _ := c.val 29 _ rfl rfl
                exact goalR_val hw (by have ec : ∀ v, a.eval (.const v) = v := fun _ => rfl; generalize a.eval = ρ at ec e28 e47 ⊢; simp [execOp, go_sem, ec, ec, e28, e47]) rfl
              -- 31: slot 49
              refine ⟨fun a w c => ?_, ?_⟩
              · have hw := c.want0 rfl
                have e25 : a.eval (.tmp 25) = _ := c.val 7 _ rfl rfl
                have e48 : a.eval (.tmp 48) = _ := c.val 30 _ rfl rfl
                exact goalR_val hw (by have ec : ∀ v, a.eval (.const v) = v := fun _ => rfl; generalize a.eval = ρ at ec e25 e48 ⊢; simp [execOp, go_sem, ec, ec, e25, e48]) rfl
              exact True.intro

            · have HN := hidM (HNF.out hcc)
              clear HNT HNF
              go_upto_region 7 with fail
              clear r0
              refine wp_region_vals (by kernel_rfl) (by decide +kernel) 74 rfl (by decide +kernel) [.slice (some ⟨p, 0, none⟩) n n, .int .i64 (i : Int), .pointer (some ⟨p, i, none⟩), .int .i64 (a : Int), .slice (some ⟨b1, o1, none⟩) L lc, .int .i64 (L : Int), .bool true, .bool true, .int .i64 (j : Int), .bool false, .bool false, .slice (some ⟨b1, o1, none⟩) L lc, .slice (some ⟨p, 0, none⟩) n n, .int .i64 (i : Int), .pointer (some ⟨p, i, none⟩), .int .i64 (a : Int), .pointer (some ⟨b1, o1 + a * 5, none⟩), .agg #[.slice ka1 kl1 kc1, .int .i64 sq1, .bool gn1, .int .i64 tl1, .slice va1 vl1 vc1], .slice (some ⟨rb, ro, none⟩) n cap, .int .i64 (j : Int), .pointer (some ⟨rb, ro + j, none⟩), .slice (some ⟨b2, o2, none⟩) L2 lc2, .slice (some ⟨p, 0, none⟩) n n, .int .i64 (j : Int), .pointer (some ⟨p, j, none⟩), .int .i64 (a2 : Int), .pointer (some ⟨b2, o2 + a2 * 5, none⟩), .agg #[.slice ka2 kl2 kc2, .int .i64 sq2, .bool gn2, .int .i64 tl2, .slice va2 vl2 vc2], .int .i64 c, .bool false, .bool false, .bool false] rfl ?_ [18, 19, 20, 21, 22, 23, 24, 25, 26, 27, 28, 29, 30, 31, 32, 33, 34, 35, 36, 37, 38, 39, 40, 41, 42, 43, 44, 45, 46, 47, 48, 49] (by decide +kernel) ?_
              rotate_left
              · intro w6 B6
                rename_i hk
                refine hk _ _ ?_
                rw [putRm]
                go_wp2_with fail
                go_roundg (n - (i + 1))
                case measure => have := HG.out; omega
                case rel => exact ⟨i + 1, by go_num, by have := HG.out; omega, by rw [HN.out]; rfl, HB.out.trans (B6.mono HB.out.size)⟩
              -- 0: slot 18
              refine ⟨fun a w c => ?_, ?_⟩
              · have hw := c.want0 rfl
                exact goalR_move hw (.tmp 4) (.inl rfl) ((c.old 4 rfl).trans rfl) rfl
              -- 1: slot 19
              refine ⟨fun a w c => ?_, ?_⟩
              · have hw := c.want0 rfl
                exact goalR_move hw (.tmp 6) (.inl rfl) ((c.old 6 rfl).trans rfl) rfl
              -- 2: slot 20
              refine ⟨fun a w c => ?_, ?_⟩
              · have hw := c.want0 rfl
                have e18 : a.eval (.tmp 18) = _ := c.val 0 _ rfl rfl
                have e19 : a.eval (.tmp 19) = _ := c.val 1 _ rfl rfl
                exact goalR_val hw (by have ec : ∀ v, a.eval (.const v) = v := fun _ => rfl; generalize a.eval = ρ at ec e18 e19 ⊢; simp [execOp, go_sem, ec, e18, e19, elem59, Try.sizeOf3, hi1, hi2]) rfl
              -- 3: slot 21
              refine ⟨fun a w c => ?_, ?_⟩
              · have hw := c.want0 rfl
                have e20 : a.eval (.tmp 20) = _ := c.val 2 _ rfl rfl
                have y0 := (HRC.out w c.below).1
                exact goalR_val hw (by have ec : ∀ v, a.eval (.const v) = v := fun _ => rfl; generalize a.eval = ρ at ec e20 ⊢; simp [execOp, go_sem, ec, e20, y0]) rfl
              -- 4: slot 22
              refine ⟨fun a w c => ?_, ?_⟩
              · have hw := c.want0 rfl
                exact goalR_move hw (.tmp 7) (.inl rfl) ((c.old 7 rfl).trans rfl) rfl
              -- 5: slot 23
              refine ⟨fun a w c => ?_, ?_⟩
              · have e22 : a.eval (.tmp 22) = _ := c.val 4 _ rfl rfl
                exact goalR_val (c.want0 rfl) (by have ec : ∀ v, a.eval (.const v) = v := fun _ => rfl; generalize a.eval = ρ at ec e22 ⊢; simp [execOp, go_sem, ec, e22]) rfl
              -- 6: slot 24
              refine ⟨fun a w c => ?_, ?_⟩
              · have hw := c.want0 rfl
                have e21 : a.eval (.tmp 21) = _ := c.val 3 _ rfl rfl
                have e23 : a.eval (.tmp 23) = _ := c.val 5 _ rfl rfl
                exact goalR_val hw (by have ec : ∀ v, a.eval (.const v) = v := fun _ => rfl; generalize a.eval = ρ at ec e21 e23 ⊢; simp [execOp, go_sem, ec, e21, e23, hal]) rfl
              -- 7: slot 25
              refine ⟨fun a w c => ?_, ?_⟩
              · exact goalR_move (c.want0 rfl) (.tmp 24) (.inl rfl) (c.val 6 _ rfl rfl) rfl
              -- 8: slot 26
              refine ⟨fun a w c => ?_, ?_⟩
              · have hw := c.want 7 true rfl rfl rfl
                exact goalR_move hw (.tmp 5) (.inl rfl) ((c.old 5 rfl).trans rfl) rfl
              -- 9: slot 27
              refine ⟨fun a w c => ?_, ?_⟩
              · have hw := c.want 7 true rfl rfl rfl
                have e26 : a.eval (.tmp 26) = _ := c.val 8 _ rfl rfl
                exact goalR_val hw (by have ec : ∀ v, a.eval (.const v) = v := fun _ => rfl; generalize a.eval = ρ at ec e26 ⊢; simp [execOp, go_sem, ec, ec, e26, hjn]) rfl
              -- 10: slot 28
              refine ⟨fun a w c => ?_, ?_⟩
              · exact goalR_move (c.want 7 true rfl rfl rfl) (.tmp 27) (.inl rfl) (c.val 9 _ rfl rfl) rfl
              -- 11: slot 29
              refine ⟨fun a w c => ?_, ?_⟩
              · have hw := c.want 10 false rfl rfl rfl
                exact goalR_move hw (.tmp 7) (.inl rfl) ((c.old 7 rfl).trans rfl) rfl
              -- 12: slot 30
              refine ⟨fun a w c => ?_, ?_⟩
              · have hw := c.want 10 false rfl rfl rfl
                exact goalR_move hw (.tmp 4) (.inl rfl) ((c.old 4 rfl).trans rfl) rfl
              -- 13: slot 31
              refine ⟨fun a w c => ?_, ?_⟩
              · have hw := c.want 10 false rfl rfl rfl
                exact goalR_move hw (.tmp 6) (.inl rfl) ((c.old 6 rfl).trans rfl) rfl
              -- 14: slot 32
              refine ⟨fun a w c => ?_, ?_⟩
              · have hw := c.want 10 false rfl rfl rfl
                have e30 : a.eval (.tmp 30) = _ := c.val 12 _ rfl rfl
                have e31 : a.eval (.tmp 31) = _ := c.val 13 _ rfl rfl
                exact goalR_val hw (by have ec : ∀ v, a.eval (.const v) = v := fun _ => rfl; generalize a.eval = ρ at ec e30 e31 ⊢; simp [execOp, go_sem, ec, e30, e31, elem59, Try.sizeOf3, hi1, hi2]) rfl
              -- 15: slot 33
              refine ⟨fun a w c => ?_, ?_⟩
              · have hw := c.want 10 false rfl rfl rfl
                have e32 : a.eval (.tmp 32) = _ := c.val 14 _ rfl rfl
                have y0 := (HRC.out w c.below).1
                exact goalR_val hw (by have ec : ∀ v, a.eval (.const v) = v := fun _ => rfl; generalize a.eval = ρ at ec e32 ⊢; simp [execOp, go_sem, ec, e32, y0]) rfl
              -- 16: slot 34
              refine ⟨fun a w c => ?_, ?_⟩
              · have hw := c.want 10 false rfl rfl rfl
                have e29 : a.eval (.tmp 29) = _ := c.val 11 _ rfl rfl
                have e33 : a.eval (.tmp 33) = _ := c.val 15 _ rfl rfl
                exact goalR_val hw (by have ec : ∀ v, a.eval (.const v) = v := fun _ => rfl; generalize a.eval = ρ at ec e29 e33 ⊢; simp [execOp, go_sem, ec, e29, e33, elem27, Try.sizeOf35, ha1, ha2]) rfl
              -- 17: slot 35
              refine ⟨fun a w c => ?_, ?_⟩
              · have hw := c.want 10 false rfl rfl rfl
                have e34 : a.eval (.tmp 34) = _ := c.val 16 _ rfl rfl
                obtain ⟨y0, y1, y2, y3, y4⟩ := (HRC.out w c.below).2.1
                exact goalR_val hw (by have ec : ∀ v, a.eval (.const v) = v := fun _ => rfl; generalize a.eval = ρ at ec e34 ⊢; simp [execOp, go_sem, ec, e34, y0, y1, y2, y3, y4]) rfl
              -- 18: slot 36
              refine ⟨fun a w c => ?_, ?_⟩
              · have hw := c.want 10 false rfl rfl rfl
                exact goalR_move hw (.tmp 0) (.inl rfl) ((c.old 0 rfl).trans rfl) rfl
              -- 19: slot 37
              refine ⟨fun a w c => ?_, ?_⟩
              · have hw := c.want 10 false rfl rfl rfl
                exact goalR_move hw (.tmp 5) (.inl rfl) ((c.old 5 rfl).trans rfl) rfl
              -- 20: slot 38
              refine ⟨fun a w c => ?_, ?_⟩
              · have hw := c.want 10 false rfl rfl rfl
                have e36 : a.eval (.tmp 36) = _ := c.val 18 _ rfl rfl
                have e37 : a.eval (.tmp 37) = _ := c.val 19 _ rfl rfl
                exact goalR_val hw (by have ec : ∀ v, a.eval (.const v) = v := fun _ => rfl; generalize a.eval = ρ at ec e36 e37 ⊢; simp [execOp, go_sem, ec, e36, e37, elem22, Try.sizeOf27, hj1, hj2]) rfl
              -- 21: slot 39
              refine ⟨fun a w c => ?_, ?_⟩
              · have hw := c.want 10 false rfl rfl rfl
                have e38 : a.eval (.tmp 38) = _ := c.val 20 _ rfl rfl
                have y0 := (HRC.out w c.below).2.2.1
                exact goalR_val hw (by have ec : ∀ v, a.eval (.const v) = v := fun _ => rfl; generalize a.eval = ρ at ec e38 ⊢; simp [execOp, go_sem, ec, e38, y0]) rfl
              -- 22: slot 40
              refine ⟨fun a w c => ?_, ?_⟩
              · have hw := c.want 10 false rfl rfl rfl
                exact goalR_move hw (.tmp 4) (.inl rfl) ((c.old 4 rfl).trans rfl) rfl
              -- 23: slot 41
              refine ⟨fun a w c => ?_, ?_⟩
              · have hw := c.want 10 false rfl rfl rfl
                exact goalR_move hw (.tmp 5) (.inl rfl) ((c.old 5 rfl).trans rfl) rfl
              -- 24: slot 42
              refine ⟨fun a w c => ?_, ?_⟩
              · have hw := c.want 10 false rfl rfl rfl
                have e40 : a.eval (.tmp 40) = _ := c.val 22 _ rfl rfl
                have e41 : a.eval (.tmp 41) = _ := c.val 23 _ rfl rfl
                exact goalR_val hw (by have ec : ∀ v, a.eval (.const v) = v := fun _ => rfl; generalize a.eval = ρ at ec e40 e41 ⊢; simp [execOp, go_sem, ec, e40, e41, elem59, Try.sizeOf3, hj1, hj2]) rfl
              -- 25: slot 43
              refine ⟨fun a w c => ?_, ?_⟩
              · have hw := c.want 10 false rfl rfl rfl
                have e42 : a.eval (.tmp 42) = _ := c.val 24 _ rfl rfl
                have y0 := (HRC.out w c.below).2.2.2.1
                exact goalR_val hw (by have ec : ∀ v, a.eval (.const v) = v := fun _ => rfl; generalize a.eval = ρ at ec e42 ⊢; simp [execOp, go_sem, ec, e42, y0]) rfl
              -- 26: slot 44
              refine ⟨fun a w c => ?_, ?_⟩
              · have hw := c.want 10 false rfl rfl rfl
                have e39 : a.eval (.tmp 39) = _ := c.val 21 _ rfl rfl
                have e43 : a.eval (.tmp 43) = _ := c.val 25 _ rfl rfl
                exact goalR_val hw (by have ec : ∀ v, a.eval (.const v) = v := fun _ => rfl; generalize a.eval = ρ at ec e39 e43 ⊢; simp [execOp, go_sem, ec, e39, e43, elem27, Try.sizeOf35, hb1, hb2]) rfl
              -- 27: slot 45
              refine ⟨fun a w c => ?_, ?_⟩
              · have hw := c.want 10 false rfl rfl rfl
                have e44 : a.eval (.tmp 44) = _ := c.val 26 _ rfl rfl
                obtain ⟨y0, y1, y2, y3, y4⟩ := (HRC.out w c.below).2.2.2.2
                exact goalR_val hw (by have ec : ∀ v, a.eval (.const v) = v := fun _ => rfl; generalize a.eval = ρ at ec e44 ⊢; simp [execOp, go_sem, ec, e44, y0, y1, y2, y3, y4]) rfl
              -- 28: slot 46
              refine ⟨fun a w c => ?_, ?_⟩
              · have hw := c.want 10 false rfl rfl rfl
                have e35 : a.eval (.tmp 35) = _ := c.val 17 _ rfl rfl
                have e45 : a.eval (.tmp 45) = _ := c.val 27 _ rfl rfl
                exact goalR_fn hw rfl (by simp only [List.map_toArray, List.map_cons, List.map_nil, e35, e45]) (by kernel_rfl) ((HC.out w c.below).mono fun e w' ⟨he, hb⟩ => ⟨_, he, outR_val rfl hb⟩)
              -- 29: slot 47
              refine ⟨fun a w c => ?_, ?_⟩
              · have hw := c.want 10 false rfl rfl rfl
                have e46 : a.eval (.tmp 46) = _ := c.val 28 _ rfl rfl
                exact goalR_val hw (by have ec : ∀ v, a.eval (.const v) = v := fun _ => rfl; generalize a.eval = ρ at ec e46 ⊢; simp [execOp, go_sem, ec, ec, e46, hcc]) rfl
              -- 30: slot 48
              refine ⟨fun a w c => ?_, ?_⟩
              · have hw := c.want 7 true rfl rfl rfl
                have e28 : a.eval (.tmp 28) = _ := c.val 10 _ rfl rfl
                have e47 : a.eval (.tmp 47) = _ := c.val 29 _ rfl rfl
                exact goalR_val hw (by have ec : ∀ v, a.eval (.const v) = v := fun _ => rfl; generalize a.eval = ρ at ec e28 e47 ⊢; simp [execOp, go_sem, ec, ec, e28, e47]) rfl
              -- 31: slot 49
              refine ⟨fun a w c => ?_, ?_⟩
              · have hw := c.want0 rfl
                have e25 : a.eval (.tmp 25) = _ := c.val 7 _ rfl rfl
                have e48 : a.eval (.tmp 48) = _ := c.val 30 _ rfl rfl
                exact goalR_val hw (by have ec : ∀ v, a.eval (.const v) = v := fun _ => rfl; generalize a.eval = ρ at ec e25 e48 ⊢; simp [execOp, go_sem, ec, ec, e25, e48]) rfl
              exact True.intro

        · have hal : ¬ (a : Int) < (L : Int) := by omega
          have HN : Hid (bstP (rst rs A) (i + 1) = bstP (rst rs A) i) := bstP_nil (by rw [hrst, List.drop_eq_nil_of_le (by omega)])
          have HRC : Hid (∀ wx, Below wr.heap.size wr wx → wx.cell? ⟨p, i, none⟩ = some (.int .i64 (a : Int)) ∧ True) := fun wx hb => ⟨(hat.later (Nat.lt_of_lt_of_le HM.out.1.plt HB.out.size) hb i a ha).1, trivial⟩
          rw [← hL] at r0
          clear hg hi hl ha c0 hrl hbw hat hrst hL qa
          generalize hbv : bstV (bstP (rst rs A) i) = bv
          have HBV := hidM hbv
          clear hbv
          go_upto_region 7 with fail
          clear r0
          refine wp_region_vals (by kernel_rfl) (by decide +kernel) 74 rfl (by decide +kernel) [.slice (some ⟨p, 0, none⟩) n n, .int .i64 (i : Int), .pointer (some ⟨p, i, none⟩), .int .i64 (a : Int), .slice la L lc, .int .i64 (L : Int), .bool false, .bool false, undef, undef, undef, undef, undef, undef, undef, undef, undef, undef, undef, undef, undef, undef, undef, undef, undef, undef, undef, undef, undef, undef, undef, .bool false] rfl ?_ [18, 19, 20, 21, 22, 23, 24, 25, 26, 27, 28, 29, 30, 31, 32, 33, 34, 35, 36, 37, 38, 39, 40, 41, 42, 43, 44, 45, 46, 47, 48, 49] (by decide +kernel) ?_
          rotate_left
          · intro w6 B6
            rename_i hk
            refine hk _ _ ?_
            rw [putRm]
            go_wp2_with fail
            go_roundg (n - (i + 1))
            case measure => have := HG.out; omega
            case rel => exact ⟨i + 1, by go_num, by have := HG.out; omega, by rw [HN.out, HBV.out], HB.out.trans (B6.mono HB.out.size)⟩
          -- 0: slot 18
          refine ⟨fun a w c => ?_, ?_⟩
          · have hw := c.want0 rfl
            exact goalR_move hw (.tmp 4) (.inl rfl) ((c.old 4 rfl).trans rfl) rfl
          -- 1: slot 19
          refine ⟨fun a w c => ?_, ?_⟩
          · have hw := c.want0 rfl
            exact goalR_move hw (.tmp 6) (.inl rfl) ((c.old 6 rfl).trans rfl) rfl
          -- 2: slot 20
          refine ⟨fun a w c => ?_, ?_⟩
          · have hw := c.want0 rfl
            have e18 : a.eval (.tmp 18) = _ := c.val 0 _ rfl rfl
            have e19 : a.eval (.tmp 19) = _ := c.val 1 _ rfl rfl
            exact goalR_val hw (by have ec : ∀ v, a.eval (.const v) = v := fun _ => rfl; generalize a.eval = ρ at ec e18 e19 ⊢; simp [execOp, go_sem, ec, e18, e19, elem59, Try.sizeOf3, hi1, hi2]) rfl
          -- 3: slot 21
          refine ⟨fun a w c => ?_, ?_⟩
          · have hw := c.want0 rfl
            have e20 : a.eval (.tmp 20) = _ := c.val 2 _ rfl rfl
            have y0 := (HRC.out w c.below).1
            exact goalR_val hw (by have ec : ∀ v, a.eval (.const v) = v := fun _ => rfl; generalize a.eval = ρ at ec e20 ⊢; simp [execOp, go_sem, ec, e20, y0]) rfl
          -- 4: slot 22
          refine ⟨fun a w c => ?_, ?_⟩
          · have hw := c.want0 rfl
            exact goalR_move hw (.tmp 7) (.inl rfl) ((c.old 7 rfl).trans rfl) rfl
          -- 5: slot 23
          refine ⟨fun a w c => ?_, ?_⟩
          · have e22 : a.eval (.tmp 22) = _ := c.val 4 _ rfl rfl
            exact goalR_val (c.want0 rfl) (by have ec : ∀ v, a.eval (.const v) = v := fun _ => rfl; generalize a.eval = ρ at ec e22 ⊢; simp [execOp, go_sem, ec, e22]) rfl
          -- 6: slot 24
          refine ⟨fun a w c => ?_, ?_⟩
          · have hw := c.want0 rfl
            have e21 : a.eval (.tmp 21) = _ := c.val 3 _ rfl rfl
            have e23 : a.eval (.tmp 23) = _ := c.val 5 _ rfl rfl
            exact goalR_val hw (by have ec : ∀ v, a.eval (.const v) = v := fun _ => rfl; generalize a.eval = ρ at ec e21 e23 ⊢; simp [execOp, go_sem, ec, e21, e23, hal]) rfl
          -- 7: slot 25
          refine ⟨fun a w c => ?_, ?_⟩
          · exact goalR_move (c.want0 rfl) (.tmp 24) (.inl rfl) (c.val 6 _ rfl rfl) rfl
          -- 8: slot 26
          refine ⟨fun a w c => ?_, ?_⟩
          · exact goalR_skip (c.skip 7 true false rfl rfl rfl (by decide)) rfl
          -- 9: slot 27
          refine ⟨fun a w c => ?_, ?_⟩
          · exact goalR_skip (c.skip 7 true false rfl rfl rfl (by decide)) rfl
          -- 10: slot 28
          refine ⟨fun a w c => ?_, ?_⟩
          · exact goalR_skip (c.skip 7 true false rfl rfl rfl (by decide)) rfl
          -- 11: slot 29
          refine ⟨fun a w c => ?_, ?_⟩
          · exact goalR_skip (wanted_undefM rfl (c.val 10 _ rfl rfl)) rfl
          -- 12: slot 30
          refine ⟨fun a w c => ?_, ?_⟩
          · exact goalR_skip (wanted_undefM rfl (c.val 10 _ rfl rfl)) rfl
          -- 13: slot 31
          refine ⟨fun a w c => ?_, ?_⟩
          · exact goalR_skip (wanted_undefM rfl (c.val 10 _ rfl rfl)) rfl
          -- 14: slot 32
          refine ⟨fun a w c => ?_, ?_⟩
          · exact goalR_skip (wanted_undefM rfl (c.val 10 _ rfl rfl)) rfl
          -- 15: slot 33
          refine ⟨fun a w c => ?_, ?_⟩
          · exact goalR_skip (wanted_undefM rfl (c.val 10 _ rfl rfl)) rfl
          -- 16: slot 34
          refine ⟨fun a w c => ?_, ?_⟩
          · exact goalR_skip (wanted_undefM rfl (c.val 10 _ rfl rfl)) rfl
          -- 17: slot 35
          refine ⟨fun a w c => ?_, ?_⟩
          · exact goalR_skip (wanted_undefM rfl (c.val 10 _ rfl rfl)) rfl
          -- 18: slot 36
          refine ⟨fun a w c => ?_, ?_⟩
          · exact goalR_skip (wanted_undefM rfl (c.val 10 _ rfl rfl)) rfl
          -- 19: slot 37
          refine ⟨fun a w c => ?_, ?_⟩
          · exact goalR_skip (wanted_undefM rfl (c.val 10 _ rfl rfl)) rfl
          -- 20: slot 38
          refine ⟨fun a w c => ?_, ?_⟩
          · exact goalR_skip (wanted_undefM rfl (c.val 10 _ rfl rfl)) rfl
          -- 21: slot 39
          refine ⟨fun a w c => ?_, ?_⟩
          · exact goalR_skip (wanted_undefM rfl (c.val 10 _ rfl rfl)) rfl
          -- 22: slot 40
          refine ⟨fun a w c => ?_, ?_⟩
          · exact goalR_skip (wanted_undefM rfl (c.val 10 _ rfl rfl)) rfl
          -- 23: slot 41
          refine ⟨fun a w c => ?_, ?_⟩
          · exact goalR_skip (wanted_undefM rfl (c.val 10 _ rfl rfl)) rfl
          -- 24: slot 42
          refine ⟨fun a w c => ?_, ?_⟩
          · exact goalR_skip (wanted_undefM rfl (c.val 10 _ rfl rfl)) rfl
          -- 25: slot 43
          refine ⟨fun a w c => ?_, ?_⟩
          · exact goalR_skip (wanted_undefM rfl (c.val 10 _ rfl rfl)) rfl
          -- 26: slot 44
          refine ⟨fun a w c => ?_, ?_⟩
          · exact goalR_skip (wanted_undefM rfl (c.val 10 _ rfl rfl)) rfl
          -- 27: slot 45
          refine ⟨fun a w c => ?_, ?_⟩
          · exact goalR_skip (wanted_undefM rfl (c.val 10 _ rfl rfl)) rfl
          -- 28: slot 46
          refine ⟨fun a w c => ?_, ?_⟩
          · exact goalR_skip (wanted_undefM rfl (c.val 10 _ rfl rfl)) rfl
          -- 29: slot 47
          refine ⟨fun a w c => ?_, ?_⟩
          · exact goalR_skip (wanted_undefM rfl (c.val 10 _ rfl rfl)) rfl
          -- 30: slot 48
          refine ⟨fun a w c => ?_, ?_⟩
          · exact goalR_skip (c.skip 7 true false rfl rfl rfl (by decide)) rfl
          -- 31: slot 49
          refine ⟨fun a w c => ?_, ?_⟩
          · have hw := c.want0 rfl
            have e25 : a.eval (.tmp 25) = _ := c.val 7 _ rfl rfl
            exact goalR_val hw (by have ec : ∀ v, a.eval (.const v) = v := fun _ => rfl; generalize a.eval = ρ at ec e25 ⊢; simp [execOp, go_sem, ec, ec, e25]) rfl
          exact True.intro

      · have hi2 : ¬ (i : Int) < (n : Int) := by omega
        have hnn : i = rs.length := by have := HLN.out.1; omega
        cases hB : bstP (rst rs A) i with
        | none =>
          have HE : Hid (dn = mrgE rs) := by
            have := HM.out.1.res
            rw [mrg_rst_end HM.out.1.len (hnn ▸ hB)] at this
            show dn = mrgE rs
            simpa using this
          simp only [bstV]
          clear hg hi hnn
          go_wp2_with fail
          refine bodyPost_ret (v := .slice oa dl oc) (by simp [results, Try.results15, go_sem]) rfl ⟨_, rfl, ?_, HM.out.1.bel.trans (HB.out.mono HM.out.1.bel.size)⟩
          rw [← HE.out]
          exact (HM.out.1.row.later HB.out).base (Nat.le_succ_of_le HM.out.1.pge)
        | some jx =>
          obtain ⟨j, x⟩ := jx
          obtain ⟨l, a, q, hl, ha, hd, hmm⟩ := mrg_rst HO.out HM.out.1.len (hnn ▸ hB)
          have hjn : j < n := by have := (List.getElem?_eq_some_iff.1 hl).1; have := HLN.out.1; omega
          have hj1 : (0 : Int) ≤ (j : Int) := by omega
          have hj2 : (j : Int) < (n : Int) := by omega
          have hjn' : ¬ (j : Int) < 0 := by omega
          have hx : l[a]? = some x := by
            have := List.getElem?_drop (xs := l) (i := a) (j := 0)
            rw [hd] at this
            simpa using this.symm
          have hal := (List.getElem?_eq_some_iff.1 hx).1
          have hbw := HM.out.1.bel.trans (HB.out.mono HM.out.1.bel.size)
          obtain ⟨rb, ro, la, lc, rfl, c0, hrl⟩ := H0.out.at' j l hl
          have hrlt : rb < w.heap.size := World.block_lt_of_cell? _ _ c0
          obtain ⟨L, hL⟩ : ∃ L, L = l.length := ⟨_, rfl⟩
          have hL62 : L ≤ 2 ^ 62 := by have := HZ.out.row l (List.mem_of_getElem? hl); omega
          have ha1 : (0 : Int) ≤ (a : Int) := by omega
          have ha2 : (a : Int) < (L : Int) := by omega
          rw [← hL] at c0
          obtain ⟨b1, o1, ka, kc, va, vc, rfl, d0, d1, d2, d3, d4, hEM, -, hRF⟩ := RSG.ent (RSG.any hrl) hx
          have hblt : b1 < w.heap.size := World.block_lt_of_cell? _ _ d0
          have hat := HM.out.1.at'.later HM.out.1.plt HB.out
          obtain ⟨p0, p1⟩ := hat j a ha
          have hpx : p < wr.heap.size := Nat.lt_of_lt_of_le HM.out.1.plt HB.out.size
          have HDT : Hid (dn.length + 1 ≤ TT) := by
            have e1 := congrArg List.length HM.out.1.res
            rw [List.length_append, hmm, List.length_map, List.length_cons] at e1
            have e2 : (mrgE rs).length = sumR rs := mrgE_len rs
            have := HTT.out
            show _ ≤ _
            omega
          have hdl2 : dn.length ≤ 100000 := by
            have e1 := congrArg List.length HM.out.1.res
            rw [List.length_append] at e1
            have e2 : (mrgE rs).length = sumR rs := mrgE_len rs
            have := HLN.out
            omega
          have HROW : Hid (∀ wy, Below wr.heap.size wr wy → RowF entE (p + 1) (fun b => b < w.heap.size) wy (.slice oa dl oc) dn) := fun wy hb => (HM.out.1.row.later HB.out).later hb
          have hpge := HM.out.1.pge
          have HFX : Hid (∀ wy, Below wr.heap.size wr wy → (wy.cell? ⟨rb, ro + j, none⟩ = some (.slice (some ⟨b1, o1, none⟩) L lc) ∧ wy.cell? ⟨p, j, none⟩ = some (.int .i64 (a : Int))) ∧ wy.cell? ⟨b1, o1 + a * 5, none⟩ = some (.slice ka x.key.length kc) ∧ wy.cell? ⟨b1, o1 + a * 5 + 1, none⟩ = some (.int .i64 x.seq) ∧ wy.cell? ⟨b1, o1 + a * 5 + 2, none⟩ = some (.bool x.gone) ∧ wy.cell? ⟨b1, o1 + a * 5 + 3, none⟩ = some (.int .i64 x.till) ∧ wy.cell? ⟨b1, o1 + a * 5 + 4, none⟩ = some (.slice va x.val.length vc)) := fun wy hb => by
            have hq := hbw.trans (hb.mono hbw.size)
            exact ⟨⟨cell_later hq c0, cell_later hb p0⟩, cell_later hq d0, cell_later hq d1, cell_later hq d2, cell_later hq d3, cell_later hq d4⟩
          have HFG : Hid (∀ wy w', Below wr.heap.size wr wy → Below (p + 1) wy w' → (w'.cell? ⟨rb, ro + j, none⟩ = some (.slice (some ⟨b1, o1, none⟩) L lc) ∧ w'.cell? ⟨p, j, none⟩ = some (.int .i64 (a : Int))) ∧ w'.cell? ⟨b1, o1 + a * 5, none⟩ = some (.slice ka x.key.length kc) ∧ w'.cell? ⟨b1, o1 + a * 5 + 1, none⟩ = some (.int .i64 x.seq) ∧ w'.cell? ⟨b1, o1 + a * 5 + 2, none⟩ = some (.bool x.gone) ∧ w'.cell? ⟨b1, o1 + a * 5 + 3, none⟩ = some (.int .i64 x.till) ∧ w'.cell? ⟨b1, o1 + a * 5 + 4, none⟩ = some (.slice va x.val.length vc)) := fun wy w' hb hg => by
            obtain ⟨⟨f0, f1⟩, f2, f3, f4, f5, f6⟩ := HFX.out wy hb
            have gt : ∀ (b k : Nat) (v : Value), b < p + 1 → wy.cell? ⟨b, k, none⟩ = some v → w'.cell? ⟨b, k, none⟩ = some v := fun b k v hlt h => (World.cell?_of_block (hg.block _ hlt)).trans h
            exact ⟨⟨gt _ _ _ (by omega) f0, gt _ _ _ (by omega) f1⟩, gt _ _ _ (by omega) f2, gt _ _ _ (by omega) f3, gt _ _ _ (by omega) f4, gt _ _ _ (by omega) f5, gt _ _ _ (by omega) f6⟩
          have HEM : Hid (∀ wy, Below wr.heap.size wr wy → EntM wy [.slice ka x.key.length kc, .int .i64 x.seq, .bool x.gone, .int .i64 x.till, .slice va x.val.length vc] x) := fun wy hb => by
            obtain ⟨q0, q1, q2, q3, q4, q5, q6, q7, q8⟩ := hEM
            have hq := hbw.trans (hb.mono hbw.size)
            exact ⟨q0, q1, q2, q3, q4, q5.later hq, q6.later hq, q7, q8⟩
          have HEG := hidM hRF
          have HLT := hidM (And.intro hdl2 (And.intro hbw (And.intro hpx hpge)))
          have HJ := hidM (And.intro hl (And.intro ha (And.intro hd hmm)))
          have HHL := hidM hL
          have HAL := hidM hal
          simp only [bstV]
          clear hg hi hnn hB hl ha hd hmm hx hal hrl hrlt hL hEM hRF hblt hat hdl2 hpge hpx c0 d0 d1 d2 d3 d4 p0 p1 hbw
          generalize x.key.length = kl at HFX HFG HEM HEG ⊢
          generalize x.val.length = vl at HFX HFG HEM HEG ⊢
          go_upto_region 12 with fail
          obtain ⟨wq, hwq⟩ : ∃ z, z = wr := ⟨_, rfl⟩
          have HQ : Hid (Below wr.heap.size wr wq ∧ wq.heap.size = wr.heap.size) := by rw [hwq]; exact ⟨Below.refl _ _, rfl⟩
          rw [← hwq]
          clear hwq
          go_wp2_with fail
          go_region_held_law (fun w' => (w'.cell? ⟨rb, ro + j, none⟩ = some (.slice (some ⟨b1, o1, none⟩) L lc) ∧ w'.cell? ⟨p, j, none⟩ = some (.int .i64 (a : Int))) ∧ w'.cell? ⟨b1, o1 + a * 5, none⟩ = some (.slice ka kl kc) ∧ w'.cell? ⟨b1, o1 + a * 5 + 1, none⟩ = some (.int .i64 x.seq) ∧ w'.cell? ⟨b1, o1 + a * 5 + 2, none⟩ = some (.bool x.gone) ∧ w'.cell? ⟨b1, o1 + a * 5 + 3, none⟩ = some (.int .i64 x.till) ∧ w'.cell? ⟨b1, o1 + a * 5 + 4, none⟩ = some (.slice va vl vc)) (first | exact HFX.out _ HQ.out.1.drew | exact HFX.out _ (HQ.out.1.alloc HQ.out.1.size _).drew | exact HFX.out _ (HQ.out.1.drew.alloc HQ.out.1.drew.size _) | exact HF1) (first | (have HBZ : Hid (Below wr.heap.size wr (wq.alloc (.cells #[.slice ka kl kc, .int .i64 x.seq, .bool x.gone, .int .i64 x.till, .slice va vl vc] 35)).drew) := (HQ.out.1.alloc HQ.out.1.size _).drew; refine step_appG entE (t := 27) (z := .agg #[.slice none 0 0, .int .i64 0, .bool false, .int .i64 0, .slice none 0 0]) (bytes := 72) (B := p + 1) Try.underlying27 entE_info rfl (by decide) rfl (.tmp 55) (.tmp 66) rfl rfl (HROW.out _ HBZ.out) rfl (by first | exact rsg_one (HEM.out _ HQ.out.1.drew) HEG.out | exact (rsg_one (HEM.out _ HQ.out.1) HEG.out).later (Below.refl _ _).drew) (fun b hb => by have := HLT.out.2.2.2; have : b < w.heap.size := hb; omega) (by have := HLT.out; omega) (by have := HLT.out; omega) (by have := HLT.out.2.2.1; have := HQ.out.1.size; simp; omega) ?_; intro v1 w1 r1 g1 b0; have HF1 := HFG.out _ _ HBZ.out b0))
          all_goals
            have HAT : Hid (AtR w1 p A) := (((HM.out.1.at').later HM.out.1.plt HB.out).later HLT.out.2.2.1 HBZ.out).low b0
            have HB1 : Hid (Below w.heap.size w w1) := (HLT.out.2.1.trans (HBZ.out.mono HLT.out.2.1.size)).trans (b0.mono (by have := HLT.out.2.2.2; omega))
            have HS1 : Hid (p < w1.heap.size) := by have := HLT.out.2.2.1; have := HBZ.out.size; have := b0.size; show _ < _; omega
            have HR1 := hidM r1
            obtain ⟨p0, p1⟩ := HAT.out j a HJ.out.2.1
            clear g1 r1 HF1 b0 HBZ
            go_wp2_with fail
            go_roundg (TT - dl)
            case measure => have := HM.out.2; have := HDL.out; have := HDT.out; omega
            case rel =>
              refine ⟨dn ++ [x], A.set j (a + 1), ⟨?_, AtR.set HAT.out HJ.out.2.1 (a + 1), ?_, HM.out.1.pge, ?_, ?_, ?_, ?_⟩, ?_⟩
              · exact HR1.out.grown (hp_gset _ _ _ _) (fun b hb e => by
                  have := (HR1.out.own_lt hb).1
                  simp only [Option.some.injEq] at e
                  omega) (fun b hb e => by
                  simp only [Option.some.injEq] at e
                  have := HM.out.1.pge
                  omega)
              · have := HS1.out; simp; omega
              · rw [List.length_set]; exact HM.out.1.len
              · intro i' a' l' ha' hl'
                by_cases e : i' = j
                · subst e
                  rw [List.getElem?_set_self (List.getElem?_eq_some_iff.1 HJ.out.2.1).1] at ha'
                  obtain rfl : a + 1 = a' := by simpa using ha'
                  have e2 := HJ.out.1
                  rw [hl'] at e2
                  simp only [Option.some.injEq] at e2
                  have := HAL.out
                  subst e2
                  omega
                · rw [List.getElem?_set_ne (fun e' => e e'.symm)] at ha'
                  exact HM.out.1.ale i' a' l' ha' hl'
              · have := HM.out.1.res
                rw [HJ.out.2.2.2, List.map_cons] at this
                rw [List.append_assoc]
                exact this
              · exact HB1.out.grown (hp_gset _ _ _ _) HB1.out.size (fun z hz => by have := HM.out.1.pge; simp only [Option.some.injEq] at hz; omega)
              · have := HDT.out
                have := HDL.out
                rw [List.length_append, List.length_singleton]
                omega
end Go.Proofs.Ytnoackenjfpcmaa

/- The law MergeTurned. -/
namespace Go.Proofs.Ytnoackenjfpcmaa
open Go.RowKit
set_option linter.unusedVariables false
set_option linter.unusedSimpArgs false

set_option maxRecDepth 100000 in
theorem putR4 (x0 x1 x2 x3 x4 x5 x6 x7 x8 x9 x10 x11 x12 x13 x14 x15 x16 x17 x18 x19 x20 x21 x22 x23 x24 x25 x26 x27 x28 x29 x30 x31 x32 x33 x34 x35 x36 x37 x38 x39 x40 x41 x42 x43 x44 x45 x46 x47 x48 x49 x50 x51 x52 x53 x54 x55 x56 x57 x58 x59 x60 x61 x62 x63 x64 x65 x66 x67 x68 x69 x70 x71 x72 x73 x74 x75 x76 x77 x78 x79 x80 x81 x82 x83 x84 x85 x86 x87 x88 x89 x90 x91 x92 x93 x94 x95 x96 x97 x98 x99 x100 x101 x102 x103 x104 x105 x106 x107 x108 x109 x110 x111 x112 x113 x114 x115 x116 x117 x118 x119 x120 x121 x122 x123 x124 x125 x126 x127 x128 x129 x130 x131 x132 x133 x134 x135 x136 x137 x138 x139 x140 x141 x142 x143 x144 x145 x146 x147 x148 x149 y98 y99 y100 y101 y102 y103 y104 y105 y106 y107 y108 y109 y110 y111 y112 y113 y114 y115 y116 y117 y118 y119 y120 y121 y122 y123 y124 y125 y126 y127 y128 y129 y130 y131 y132 y133 y134 y135 y136 y137 : Value) : putVs ⟨#[x0, x1, x2, x3, x4, x5, x6, x7, x8, x9, x10, x11, x12, x13, x14, x15, x16, x17, x18, x19, x20, x21, x22, x23, x24, x25, x26, x27, x28, x29, x30, x31, x32, x33, x34, x35, x36, x37, x38, x39, x40, x41, x42, x43, x44, x45, x46, x47, x48, x49, x50, x51, x52, x53, x54, x55, x56, x57, x58, x59, x60, x61, x62, x63, x64, x65, x66, x67, x68, x69, x70, x71, x72, x73, x74, x75, x76, x77, x78, x79, x80, x81, x82, x83, x84, x85, x86, x87, x88, x89, x90, x91, x92, x93, x94, x95, x96, x97, x98, x99, x100, x101, x102, x103, x104, x105, x106, x107, x108, x109, x110, x111, x112, x113, x114, x115, x116, x117, x118, x119, x120, x121, x122, x123, x124, x125, x126, x127, x128, x129, x130, x131, x132, x133, x134, x135, x136, x137, x138, x139, x140, x141, x142, x143, x144, x145, x146, x147, x148, x149], []⟩ (List.zip [98, 99, 100, 101, 102, 103, 104, 105, 106, 107, 108, 109, 110, 111, 112, 113, 114, 115, 116, 117, 118, 119, 120, 121, 122, 123, 124, 125, 126, 127, 128, 129, 130, 131, 132, 133, 134, 135, 136, 137] [y98, y99, y100, y101, y102, y103, y104, y105, y106, y107, y108, y109, y110, y111, y112, y113, y114, y115, y116, y117, y118, y119, y120, y121, y122, y123, y124, y125, y126, y127, y128, y129, y130, y131, y132, y133, y134, y135, y136, y137]) = ⟨#[x0, x1, x2, x3, x4, x5, x6, x7, x8, x9, x10, x11, x12, x13, x14, x15, x16, x17, x18, x19, x20, x21, x22, x23, x24, x25, x26, x27, x28, x29, x30, x31, x32, x33, x34, x35, x36, x37, x38, x39, x40, x41, x42, x43, x44, x45, x46, x47, x48, x49, x50, x51, x52, x53, x54, x55, x56, x57, x58, x59, x60, x61, x62, x63, x64, x65, x66, x67, x68, x69, x70, x71, x72, x73, x74, x75, x76, x77, x78, x79, x80, x81, x82, x83, x84, x85, x86, x87, x88, x89, x90, x91, x92, x93, x94, x95, x96, x97, y98, y99, y100, y101, y102, y103, y104, y105, y106, y107, y108, y109, y110, y111, y112, y113, y114, y115, y116, y117, y118, y119, y120, y121, y122, y123, y124, y125, y126, y127, y128, y129, y130, y131, y132, y133, y134, y135, y136, y137, x138, x139, x140, x141, x142, x143, x144, x145, x146, x147, x148, x149], []⟩ := by kernel_rfl
theorem rs_refsE {α : Type} {E : El α} (hp : 0 < E.size) {w : World} {a : Option Addr} {m c : Nat} {l : List α} (h : RS E w a m c l) : ∀ b, Refs (.slice a m c) b → b < w.heap.size := fun b hr => by
  obtain ⟨off3, l3, c3, e3, h3⟩ := hr
  simp only [Value.slice.injEq] at e3
  obtain ⟨rfl, rfl, rfl⟩ := e3
  obtain ⟨us, q1, q2, q3, q4, q5, q6⟩ := h
  have hlu := q5.len
  rw [q1] at hlu
  have hpos : 0 < us.length := by rw [hlu]; exact Nat.mul_pos h3 hp
  obtain ⟨b', off', e', hc⟩ := q6 0 _ (List.getElem?_eq_getElem hpos)
  simp only [Option.some.injEq, Addr.mk.injEq, and_true] at e'
  obtain ⟨rfl, rfl⟩ := e'
  exact World.block_lt_of_cell? _ _ hc
theorem sumR_rev (rs : List (List EntV)) : sumR rs.reverse = sumR rs := by unfold sumR; rw [List.map_reverse, List.sum_reverse]
theorem ahead_same (a b : EntV) (h : plcE a = plcE b) : ahead a b = 0 := by
  unfold plcE at h
  simp only [Prod.mk.injEq] at h
  exact ahead_zero.2 h
theorem below_alloc {w w' : World} (h : Below w.heap.size w w') (o : Obj) : Below w.heap.size w (w'.alloc o) := h.alloc h.size _
set_option maxHeartbeats 16000000 in
set_option maxRecDepth 100000 in
theorem mgturned_any {w : World} {ao : Option Addr} {n cap : Nat} {rs : List (List EntV)} (h : ErRow w ao n cap rs) :
    Calls Try.prog 7 #[.slice ao n cap] w fun e w' => e = .returned (.bool true) ∧ Below w.heap.size w w' := by
  have H0 := hidM h
  have hli := light16_t h
  by_cases hl : litW 0 0 rs = true
  · rw [hl] at hli
    by_cases h20 : 20 < n
    · have h20' : (20 : Int) < (n : Int) := by omega
      clear h hl h20
      go_enter Try.func7, Try.ntmps7
      go_wp2_with (first | (go_at_call 9; refine hli.mono ?_; rintro e w1 ⟨rfl, hb1⟩) | (go_at_call 10; refine (awake16_t _).mono ?_; rintro e w2 ⟨rfl, hb2⟩))
      exact bodyPost_ret (v := .bool true) (by simp [results, Try.results7, go_sem]) rfl ⟨rfl, hb1.trans (hb2.mono hb1.size)⟩
    · have h20' : ¬ (20 : Int) < (n : Int) := by omega
      obtain ⟨hz, hsum, hlen, -, hord⟩ := lit_srt hl
      have hn : rs.length = n := h.len.1
      have hn62 : n ≤ 2 ^ 20 := by omega
      clear h hl
      go_enter Try.func7, Try.ntmps7
      go_wp2_with (first | (go_at_call 9; refine hli.mono ?_; rintro e w1 ⟨rfl, hb1⟩) | (go_at_call 11; refine (sorted16_t (H0.out.later hb1) (by omega)).mono ?_; rintro e w2 ⟨a2, c2, rfl, hr2, hb2⟩))
      have HB2 : Hid (Below w.heap.size w w2) := hb1.trans (hb2.mono hb1.size)
      obtain ⟨SR, hSR⟩ : ∃ S, S = srtR 0 rs := ⟨_, rfl⟩
      rw [← hSR] at hr2 hz hsum hlen hord
      have hSn : SR.length = n := by omega
      have HR2 := hidM hr2
      have HPU : Hid (Szr SR ∧ sumR SR ≤ 2100 ∧ SR.length = n ∧ n ≤ 20) := ⟨hz, hsum, hSn, by omega⟩
      have HORD := hidM hord
      clear hSR hz hsum hlen hord hSn hn h20 h20' hli hb1 hb2 hr2
      go_loopg [4, 5, 29] n (fun kx s4 s5 s29 wr => ∃ (k tot : Nat) (xs : List Value), s29 = .int .i64 (k : Int) ∧ s5 = .int .i64 (tot : Int) ∧ k + kx = n ∧ Hid (RowS slvE w2.heap.size wr s4 xs ∧ Rws (fun b => b < w2.heap.size) wr xs (SR.reverse.take k) ∧ tot = sumR (SR.take k) ∧ Below w2.heap.size w2 wr))
      case atStart => exact ⟨0, 0, [], rfl, rfl, by omega, RowS.nil _ _, ⟨rfl, fun j x l h1 h2 => by simp at h1⟩, by simp [sumR], Below.refl _ _⟩
      case round =>
        obtain ⟨k, tot, xs, rfl, rfl, hg, HK⟩ := hrel
        have htot : tot ≤ 2 ^ 20 := by have := HK.out.2.2.1; have := sumR_take SR k; have := HPU.out.2.1; omega
        by_cases hk : k < n
        · have hk' : (k : Int) < (n : Int) := by omega
          have hk0 : (0 : Int) ≤ (k : Int) := by omega
          obtain ⟨oa, oc, hv4, -⟩ := HK.out.1.rs
          obtain ⟨on, hon⟩ : ∃ m, m = xs.length := ⟨_, rfl⟩
          rw [← hon] at hv4
          clear hon
          subst hv4
          obtain ⟨l, hlx⟩ : ∃ l, SR[n - 1 - k]? = some l := ⟨_, List.getElem?_eq_getElem (by have := HPU.out; omega)⟩
          obtain ⟨l2, hl2⟩ : ∃ l, SR[k]? = some l := ⟨_, List.getElem?_eq_getElem (by have := HPU.out; omega)⟩
          obtain ⟨b, off, la, lc, rfl, c0, hrl⟩ := HR2.out.at' (n - 1 - k) l hlx
          obtain ⟨b', off', lb, lcb, e', c1, hrl2⟩ := HR2.out.at' k l2 hl2
          simp only [Option.some.injEq, Addr.mk.injEq, and_true] at e'
          obtain ⟨rfl, rfl⟩ := e'
          have hrev : SR.reverse[k]? = some l := by rw [List.getElem?_reverse (by have := HPU.out; omega)]; have := HPU.out.2.2.1; rw [this]; exact hlx
          have hrf := rs_refsE (by decide) hrl
          have hb1 : Below wr.heap.size wr (wr.alloc (.cells #[.slice la l.length lc] 27)) := (Below.refl _ _).alloc (Nat.le_refl _) _
          have hB1 := HK.out.2.2.2.trans (hb1.mono HK.out.2.2.2.size)
          have HAP : Hid (RowS slvE w2.heap.size (wr.alloc (.cells #[.slice la l.length lc] 27)) (.slice oa on oc) xs ∧ RSu slvE (wr.alloc (.cells #[.slice la l.length lc] 27)) (some ⟨wr.heap.size, 0, none⟩) 1 1 [.slice la l.length lc] [.slice la l.length lc] ∧ (∀ u ∈ [Value.slice la l.length lc], ∀ b, Refs u b → (Value.slice oa on oc).ownBlock ≠ some b) ∧ w2.heap.size ≤ (wr.alloc (.cells #[.slice la l.length lc] 27)).heap.size ∧ Rws (fun b => b < w2.heap.size) (wr.alloc (.cells #[.slice la l.length lc] 27)) xs (SR.reverse.take k) ∧ RSG entE (fun b => b < w2.heap.size) (wr.alloc (.cells #[.slice la l.length lc] 27)) la l.length lc l ∧ Below w2.heap.size w2 (wr.alloc (.cells #[.slice la l.length lc] 27)) ∧ xs.length = k) := by
            refine ⟨HK.out.1.later hb1, rs_one (E := slvE) ⟨rfl, rfl, fun b hr => ?_⟩, fun u hu b hr e => ?_, hB1.size, HK.out.2.1.later hb1, (RSG.any hrl).later hB1, hB1, ?_⟩
            · have := hrf b hr
              have := HK.out.2.2.2.size
              omega
            · rw [List.mem_singleton.1 hu] at hr
              have := hrf b hr
              have := (HK.out.1.own_lt e).1
              omega
            · have := HK.out.2.1.1
              rw [this, List.length_take, List.length_reverse]
              have := HPU.out
              omega
          have hc0 := cell_later hB1 c0
          have hc1 := fun wx (hb : Below w2.heap.size w2 wx) => cell_later hb c1
          have HC1 := hidM hc1
          have HT1 : Hid (SR.reverse.take (k + 1) = SR.reverse.take k ++ [l]) := by show _ = _; rw [List.take_add_one, hrev]; rfl
          have HT2 : Hid (tot + l2.length = sumR (SR.take (k + 1))) := by
            show _ = _
            rw [List.take_add_one, hl2]
            show _ = sumR (SR.take k ++ [l2])
            rw [sumR_snoc, HK.out.2.2.1]
          have hl262 : l2.length ≤ 2 ^ 20 := by have := HPU.out.1.row l2 (List.mem_of_getElem? hl2); omega
          have hc0' := cell_later HK.out.2.2.2 c0
          have hi1 : (k : Int) ≤ (n : Int) - 1 := by omega
          have hi2 : (n : Int) - 1 - (k : Int) < (n : Int) := by omega
          have HG := hidM (And.intro hg hk)
          generalize l2.length = L2 at HC1 HT2 hl262
          have HLX : Hid (∃ z, z = l.length) := ⟨_, rfl⟩
          clear hg hk hlx hl2 c0 c1 hrl hrl2 hrev hrf hb1 hB1 hc1 HK
          go_wp2_with (at_builtin; refine wpList_appS slvE (t := 22) (z := .slice none 0 0) (bytes := 24) Try.underlying22 slvE_info rfl (by decide) rfl (.tmp 32) (.tmp 41) rfl rfl HAP.out.1 rfl HAP.out.2.1 HAP.out.2.2.1 (by have h1 := HAP.out.2.2.2.2.2.2.2; have h2 := HG.out; omega) (by have h1 := HAP.out.2.2.2.2.2.2.2; have h2 := HG.out; omega) HAP.out.2.2.2.1 ?_; intro v9 w9 r9 g9 m9; have HB9 := hidM (HAP.out.2.2.2.2.2.2.1.grown g9 HAP.out.2.2.2.2.2.2.1.size (fun z hz => (HAP.out.1.own_lt hz).1)); have hd1 := HC1.out w9 HB9.out; clear m9)
          go_roundg (n - (k + 1))
          case measure => have := HG.out; omega
          case rel =>
            have hGo : ∀ b, b < w2.heap.size → some b ≠ (Value.slice oa on oc).ownBlock := fun b hb e => by have := (HAP.out.1.own_lt e.symm).1; omega
            have hR := HAP.out.2.2.2.2.1.grown g9 hGo fun x hx b hr e => by
              obtain ⟨us, _, hlay, hsep⟩ := HAP.out.1
              obtain rfl := lay_slv hlay
              exact hsep x hx b hr e.symm
            have hS := HAP.out.2.2.2.2.2.1.grown (by decide) g9 hGo fun b off ea hn0 e => HAP.out.2.2.1 (.slice la l.length lc) (List.mem_singleton.2 rfl) b ⟨off, l.length, lc, by rw [ea], hn0⟩ e.symm
            exact ⟨k + 1, tot + L2, xs ++ [.slice la l.length lc], by go_num, by go_num, by have := HG.out; omega, r9, by rw [HT1.out]; exact hR.snoc hS, HT2.out, HB9.out⟩
        · have hk' : ¬ (k : Int) < (n : Int) := by omega
          have hkn : k = n := by omega
          subst hkn
          have HB := hidM HK.out.2.2.2
          have hlr : SR.reverse.length = k := by rw [List.length_reverse]; exact HPU.out.2.2.1
          obtain ⟨a3, c3, hv3, hr3⟩ := HK.out.2.1.er HK.out.1
          rw [List.take_of_length_le (by omega), hlr] at hv3 hr3
          subst hv3
          have htt := HK.out.2.2.1
          rw [List.take_of_length_le (by have := HPU.out; omega)] at htt
          have hzR : Szr SR.reverse := HPU.out.1.sub (by rw [List.length_reverse]; omega) (fun l hl => List.mem_reverse.1 hl)
          have hoR : ∀ l ∈ SR.reverse, ordE l := fun l hl => HORD.out l (List.mem_reverse.1 hl)
          have hc1 := mrC_ok HORD.out (by have := HPU.out; omega) (by have := HPU.out; omega)
          have hc2 := mrC_ok hoR (by have := HPU.out; omega) (by rw [sumR_rev]; have := HPU.out; omega)
          have hr2 := HR2.out.later HB.out
          have HM1 := merge_ok hr2 HPU.out.1 hc1
          have HM2 : Hid (∀ wx, Below wr.heap.size wr wx → Calls Try.prog 12 #[.slice a3 k c3] wx fun r w' => ∃ a c, r = .returned (.tuple #[.slice a (mrgE SR.reverse).length c, .int .i64 0]) ∧ RS entE w' a (mrgE SR.reverse).length c (mrgE SR.reverse) ∧ Below wx.heap.size wx w') := fun wx hb => merge_ok (hr3.later hb) hzR hc2
          have HM3 : Hid (∀ wx, Below wr.heap.size wr wx → Calls Try.prog 16 #[.slice a2 k c2] wx fun r w' => ∃ (w1 : World) (a : Option Addr) (c : Nat), r = .returned (.tuple #[ptI w1.heap.size, .int .i64 0]) ∧ RS entE w1 a (mrgE SR).length c (mrgE SR) ∧ Below wx.heap.size wx w1 ∧ ItM w' w1.heap.size a (mrgE SR).length c 0 ∧ Below w1.heap.size w1 w') := fun wx hb => new_t (hr2.later hb) HPU.out.1 hc1
          have HTU := hidM (mrg_turn HORD.out)
          have HSM := hidM (mrgE_small HPU.out.1)
          have HWK : Hid ((mrgE SR).Pairwise fun x y => ahead x y ≤ 0) := mrgE_wk HORD.out
          have HN0 : Hid (tot ≤ 2100) := by show _ ≤ _; rw [htt]; exact HPU.out.2.1
          have hN1 : (mrgE SR).length = tot := by rw [htt]; exact mrgE_len SR
          have hN2 : (mrgE SR.reverse).length = tot := by rw [mrgE_len, htt]; exact sumR_rev SR
          rw [hN1] at HM1 HM3
          rw [hN2] at HM2
          have HNN := hidM (And.intro hN1 hN2)
          generalize mrgE SR = M at HM1 HM3 HTU HSM HNN HWK
          generalize mrgE SR.reverse = M2 at HM2 HTU HNN
          clear hg hk hk' hlr hr3 htt hzR hoR hc1 hc2 hr2 hN1 hN2 HK
          go_wp2_with (first | (go_at_call 12; refine HM1.mono ?_; rintro r w5 ⟨a5, c5, rfl, hr5, hb5⟩; have H5 := hidM (And.intro hr5 hb5); clear hr5 hb5 HM1) | (go_at_call 12; refine (HM2.out _ H5.out.2).mono ?_; rintro r w6 ⟨a6, c6, rfl, hr6, hb6⟩; have H6 := hidM (And.intro hr6 (And.intro (H5.out.2.trans (hb6.mono H5.out.2.size)) hb6)); clear hr6 hb6 HM2) | (go_at_call 16; refine (HM3.out _ H6.out.2.1).mono ?_; rintro r w8 ⟨w7, a7, c7, rfl, hr7, hb7, hI7, hb8⟩; have H7 := hidM (And.intro hr7 (And.intro hb7 (And.intro hI7 hb8))); clear hr7 hb7 hI7 hb8 HM3))
          obtain ⟨p, hp⟩ : ∃ p, p = w7.heap.size := ⟨_, rfl⟩
          rw [← hp] at H7 ⊢
          have HP := hidM hp
          have H57 : Hid (Below w5.heap.size w5 w7 ∧ Below w6.heap.size w6 w7 ∧ Below w.heap.size w w7 ∧ w5.heap.size ≤ p ∧ w6.heap.size ≤ p ∧ w.heap.size ≤ p) := by
            have e1 : Below w5.heap.size w5 w7 := H6.out.2.2.trans (H7.out.2.1.mono H6.out.2.2.size)
            have e0 : Below w.heap.size w wr := HB2.out.trans (HB.out.mono HB2.out.size)
            have e2 : Below w.heap.size w w6 := e0.trans (H6.out.2.1.mono e0.size)
            have e3 : Below w.heap.size w w7 := e2.trans (H7.out.2.1.mono e2.size)
            exact ⟨e1, H7.out.2.1, e3, by rw [hp]; exact e1.size, by rw [hp]; exact H7.out.2.1.size, by rw [hp]; exact e3.size⟩
          have H5R := hidM H5.out.1
          have H6R := hidM H6.out.1
          clear hp H5 H6 HB HB2 HR2 H0 HPU HORD
          go_loopg [90] tot (fun kx s90 wx => ∃ j : Nat, s90 = .int .i64 (j : Int) ∧ j + kx = tot ∧ Hid (ItM wx p a7 tot c7 j ∧ Below p w7 wx))
          case atStart => exact ⟨0, rfl, by omega, H7.out.2.2.1, H7.out.2.2.2⟩
          case round =>
            obtain ⟨j, rfl, hg, HJ⟩ := hrel
            by_cases hj : j < tot
            · have hj1 : (0 : Int) ≤ (j : Int) := by omega
              have hj2 : (j : Int) < (tot : Int) := by omega
              have HNX := hidM (next_t HJ.out.1 H7.out.1 HP.out HJ.out.2 hj HSM.out (by omega))
              have HG := hidM (And.intro hg hj)
              have hpw := HJ.out.1.lt
              clear hg hj
              go_upto_region 21 with (go_at_call 19; refine HNX.out.mono ?_; rintro r wy ⟨ka, va, kc, vc, x, hx, rfl, hs1, hs2, hI2, hbp⟩; have HY := hidM (And.intro hx (And.intro hs1 (And.intro hs2 (And.intro hI2 hbp)))); clear hx hs1 hs2 hI2 hbp; unfold entA)
              rename_i hkk
              obtain ⟨W, hW⟩ : ∃ z, z = wy.alloc (.cells #[.slice ka x.key.length kc, .int .i64 x.seq, .bool x.gone, .int .i64 x.till, .slice va x.val.length vc] 35) := ⟨_, rfl⟩
              have bW : Below wy.heap.size wy W := by rw [hW]; exact (Below.refl _ _).alloc (Nat.le_refl _) _
              rw [show wy.alloc (.cells #[.slice ka x.key.length kc, .int .i64 x.seq, .bool x.gone, .int .i64 x.till, .slice va x.val.length vc] 35) = W from hW.symm]
              have hpy : p < wy.heap.size := HY.out.2.2.2.1.lt
              have hBW : Below p w7 W := (HJ.out.2.trans HY.out.2.2.2.2).trans (bW.mono (Nat.le_of_lt hpy))
              have b5W : Below w5.heap.size w5 W := H57.out.1.trans (hBW.mono H57.out.2.2.2.1)
              have b6W : Below w6.heap.size w6 W := H57.out.2.1.trans (hBW.mono H57.out.2.2.2.2.1)
              have hx := HY.out.1
              have hy2 : ∃ y, M2[j]? = some y := ⟨_, List.getElem?_eq_getElem (by have := HNN.out; have := HG.out; omega)⟩
              obtain ⟨y, hy⟩ := hy2
              have hxy : ahead x y = 0 := by
                have e := congrArg (fun l => l[j]?) HTU.out.1
                simp only [List.getElem?_map, hx, hy, Option.map_some, Option.some.injEq] at e
                exact ahead_same x y e
              obtain ⟨b5, o5, kg, kcg, vg, vcg, ha5, d0, d1, d2, d3, d4, sg1, sg2, -, -⟩ := RS.ent (H5R.out.later b5W) hx
              obtain ⟨b6, o6, ko, kco, vo, vco, ha6, f0, f1, f2, f3, f4, so1, so2, -, -⟩ := RS.ent (H6R.out.later b6W) hy
              have hq : W.heap[wy.heap.size]? = some (.cells #[.slice ka x.key.length kc, .int .i64 x.seq, .bool x.gone, .int .i64 x.till, .slice va x.val.length vc] 35) := by rw [hW]; exact heap_alloc_new wy _
              have e0 : W.cell? ⟨wy.heap.size, 0, none⟩ = some (.slice ka x.key.length kc) := by rw [cell_of hq]; rfl
              have e1 : W.cell? ⟨wy.heap.size, 1, none⟩ = some (.int .i64 x.seq) := by rw [cell_of hq]; rfl
              have e2 : W.cell? ⟨wy.heap.size, 2, none⟩ = some (.bool x.gone) := by rw [cell_of hq]; rfl
              have e3 : W.cell? ⟨wy.heap.size, 3, none⟩ = some (.int .i64 x.till) := by rw [cell_of hq]; rfl
              have e4 : W.cell? ⟨wy.heap.size, 4, none⟩ = some (.slice va x.val.length vc) := by rw [cell_of hq]; rfl
              have ss1 := HY.out.2.1.later bW
              have ss2 := HY.out.2.2.1.later bW
              have HC1 : Hid (∀ wz, Below W.heap.size W wz → Calls Try.prog 20 #[.agg #[.slice ka x.key.length kc, .int .i64 x.seq, .bool x.gone, .int .i64 x.till, .slice va x.val.length vc], .agg #[.slice kg x.key.length kcg, .int .i64 x.seq, .bool x.gone, .int .i64 x.till, .slice vg x.val.length vcg]] wz fun e w' => e = .returned (.bool true) ∧ Below wz.heap.size wz w') := fun wz hb => rsameE1_eq (ss1.later hb) (ss2.later hb) (sg1.later hb) (sg2.later hb)
              have HC2 : Hid (∀ wz, Below W.heap.size W wz → Calls Try.prog 22 #[.agg #[.slice kg x.key.length kcg, .int .i64 x.seq, .bool x.gone, .int .i64 x.till, .slice vg x.val.length vcg], .agg #[.slice ko y.key.length kco, .int .i64 y.seq, .bool y.gone, .int .i64 y.till, .slice vo y.val.length vco]] wz fun e w' => e = .returned (.int .i64 0) ∧ Below wz.heap.size wz w') := fun wz hb => by
                have := rahead_any (va := vg) (vb := vo) (vc := vcg) (vd := vco) (sg1.later hb) (so1.later hb)
                rw [hxy] at this
                exact this
              have HN : Hid (ItM W p a7 tot c7 (j + 1) ∧ Below p w7 W ∧ p < W.heap.size) := ⟨HY.out.2.2.2.1.later bW, hBW, by have := bW.size; omega⟩
              subst ha5
              subst ha6
              by_cases hj0 : 0 < j
              · have hjp : 0 < j := hj0
                obtain ⟨i, hi⟩ : ∃ i, i = j - 1 := ⟨_, rfl⟩
                have hwa : IntKind.i64.wrap ((j : Int) - 1) = (i : Int) := by have := HG.out; rw [IntKind.wrap_i64]; omega
                have hwb : wrap64 ((j : Int) - 1) = (i : Int) := by have := HG.out; unfold wrap64; omega
                have hi1 : (0 : Int) ≤ (i : Int) := by omega
                have hi2 : (i : Int) < (tot : Int) := by omega
                obtain ⟨z, hz⟩ : ∃ z, M[i]? = some z := ⟨_, List.getElem?_eq_getElem (by have := HNN.out; have := HG.out; omega)⟩
                obtain ⟨b7, o7, kz, kcz, vz, vcz, ha7, g0, g1, g2, g3, g4, sz1, sz2, -, -⟩ := RS.ent (H5R.out.later b5W) hz
                simp only [Option.some.injEq, Addr.mk.injEq, and_true] at ha7
                obtain ⟨rfl, rfl⟩ := ha7
                obtain ⟨c3, hc3v⟩ : ∃ c, c = ahead z x := ⟨_, rfl⟩
                have hc3 : ¬ (0 : Int) < c3 := by
                  obtain ⟨q1, rfl⟩ := List.getElem?_eq_some_iff.1 hz
                  obtain ⟨q2, rfl⟩ := List.getElem?_eq_some_iff.1 hx
                  have := List.pairwise_iff_getElem.1 HWK.out i j q1 q2 (by omega)
                  rw [hc3v]; omega
                have HC3 : Hid (∀ wz, Below W.heap.size W wz → Calls Try.prog 22 #[.agg #[.slice kz z.key.length kcz, .int .i64 z.seq, .bool z.gone, .int .i64 z.till, .slice vz z.val.length vcz], .agg #[.slice kg x.key.length kcg, .int .i64 x.seq, .bool x.gone, .int .i64 x.till, .slice vg x.val.length vcg]] wz fun e w' => e = .returned (.int .i64 c3) ∧ Below wz.heap.size wz w') := fun wz hb => by
                  have := rahead_any (va := vz) (vb := vg) (vc := vcz) (vd := vcg) (sz1.later hb) (sg1.later hb)
                  rw [← hc3v] at this
                  exact this
                have HRC : Hid (∀ wz, Below W.heap.size W wz → (wz.cell? ⟨wy.heap.size, 0, none⟩ = some (.slice ka x.key.length kc) ∧ wz.cell? ⟨wy.heap.size, 1, none⟩ = some (.int .i64 x.seq) ∧ wz.cell? ⟨wy.heap.size, 2, none⟩ = some (.bool x.gone) ∧ wz.cell? ⟨wy.heap.size, 3, none⟩ = some (.int .i64 x.till) ∧ wz.cell? ⟨wy.heap.size, 4, none⟩ = some (.slice va x.val.length vc)) ∧ (wz.cell? ⟨b5, o5 + j * 5, none⟩ = some (.slice kg x.key.length kcg) ∧ wz.cell? ⟨b5, o5 + j * 5 + 1, none⟩ = some (.int .i64 x.seq) ∧ wz.cell? ⟨b5, o5 + j * 5 + 2, none⟩ = some (.bool x.gone) ∧ wz.cell? ⟨b5, o5 + j * 5 + 3, none⟩ = some (.int .i64 x.till) ∧ wz.cell? ⟨b5, o5 + j * 5 + 4, none⟩ = some (.slice vg x.val.length vcg)) ∧ (wz.cell? ⟨b6, o6 + j * 5, none⟩ = some (.slice ko y.key.length kco) ∧ wz.cell? ⟨b6, o6 + j * 5 + 1, none⟩ = some (.int .i64 y.seq) ∧ wz.cell? ⟨b6, o6 + j * 5 + 2, none⟩ = some (.bool y.gone) ∧ wz.cell? ⟨b6, o6 + j * 5 + 3, none⟩ = some (.int .i64 y.till) ∧ wz.cell? ⟨b6, o6 + j * 5 + 4, none⟩ = some (.slice vo y.val.length vco)) ∧ (wz.cell? ⟨b5, o5 + i * 5, none⟩ = some (.slice kz z.key.length kcz) ∧ wz.cell? ⟨b5, o5 + i * 5 + 1, none⟩ = some (.int .i64 z.seq) ∧ wz.cell? ⟨b5, o5 + i * 5 + 2, none⟩ = some (.bool z.gone) ∧ wz.cell? ⟨b5, o5 + i * 5 + 3, none⟩ = some (.int .i64 z.till) ∧ wz.cell? ⟨b5, o5 + i * 5 + 4, none⟩ = some (.slice vz z.val.length vcz))) := fun wz hb => ⟨⟨cell_later hb e0, cell_later hb e1, cell_later hb e2, cell_later hb e3, cell_later hb e4⟩, ⟨cell_later hb d0, cell_later hb d1, cell_later hb d2, cell_later hb d3, cell_later hb d4⟩, ⟨cell_later hb f0, cell_later hb f1, cell_later hb f2, cell_later hb f3, cell_later hb f4⟩, ⟨cell_later hb g0, cell_later hb g1, cell_later hb g2, cell_later hb g3, cell_later hb g4⟩⟩
                clear hi hz g0 g1 g2 g3 g4 sz1 sz2 hc3v d0 d1 d2 d3 d4 f0 f1 f2 f3 f4 e0 e1 e2 e3 e4 sg1 sg2 so1 so2 ss1 ss2 hq hx hy hxy bW hBW b5W b6W hW
                refine wp_region_vals (by kernel_rfl) (by decide +kernel) 150 rfl (by decide +kernel) [.bool true, .bool false, .bool false, .agg #[.slice ka x.key.length kc, .int .i64 x.seq, .bool x.gone, .int .i64 x.till, .slice va x.val.length vc], .slice (some ⟨b5, o5, none⟩) tot c5, .int .i64 (j : Int), .pointer (some ⟨b5, o5 + j * 5, none⟩), .agg #[.slice kg x.key.length kcg, .int .i64 x.seq, .bool x.gone, .int .i64 x.till, .slice vg x.val.length vcg], .bool true, .bool false, .bool false, .bool false, .slice (some ⟨b5, o5, none⟩) tot c5, .int .i64 (j : Int), .pointer (some ⟨b5, o5 + j * 5, none⟩), .agg #[.slice kg x.key.length kcg, .int .i64 x.seq, .bool x.gone, .int .i64 x.till, .slice vg x.val.length vcg], .slice (some ⟨b6, o6, none⟩) tot c6, .int .i64 (j : Int), .pointer (some ⟨b6, o6 + j * 5, none⟩), .agg #[.slice ko y.key.length kco, .int .i64 y.seq, .bool y.gone, .int .i64 y.till, .slice vo y.val.length vco], .int .i64 0, .bool false, .bool false, .bool false, .int .i64 (j : Int), .bool true, .bool true, .slice (some ⟨b5, o5, none⟩) tot c5, .int .i64 (j : Int), .int .i64 (i : Int), .pointer (some ⟨b5, o5 + i * 5, none⟩), .agg #[.slice kz z.key.length kcz, .int .i64 z.seq, .bool z.gone, .int .i64 z.till, .slice vz z.val.length vcz], .slice (some ⟨b5, o5, none⟩) tot c5, .int .i64 (j : Int), .pointer (some ⟨b5, o5 + j * 5, none⟩), .agg #[.slice kg x.key.length kcg, .int .i64 x.seq, .bool x.gone, .int .i64 x.till, .slice vg x.val.length vcg], .int .i64 c3, .bool false, .bool false, .bool false] rfl ?_ [98, 99, 100, 101, 102, 103, 104, 105, 106, 107, 108, 109, 110, 111, 112, 113, 114, 115, 116, 117, 118, 119, 120, 121, 122, 123, 124, 125, 126, 127, 128, 129, 130, 131, 132, 133, 134, 135, 136, 137] (by decide +kernel) ?_
                rotate_left
                · intro w9 B9
                  refine hkk _ _ ?_
                  rw [putR4]
                  go_wp2_with fail
                  go_roundg (tot - (j + 1))
                  case measure => have := HG.out; omega
                  case rel => exact ⟨j + 1, by go_num, by have := HG.out; omega, HN.out.1.later B9, HN.out.2.1.trans (B9.mono (Nat.le_of_lt HN.out.2.2))⟩
                -- 0: slot 98
                refine ⟨fun a w c => ?_, ?_⟩
                · exact goalR_move (c.want0 rfl) (.tmp 15) (.inl rfl) ((c.old 15 rfl).trans rfl) rfl
                -- 1: slot 99
                refine ⟨fun a w c => ?_, ?_⟩
                · have e98 : a.eval (.tmp 98) = _ := c.val 0 _ rfl rfl
                  exact goalR_val (c.want0 rfl) (by have ec : ∀ v, a.eval (.const v) = v := fun _ => rfl; generalize a.eval = ρ at ec e98 ⊢; simp [execOp, go_sem, ec, e98]) rfl
                -- 2: slot 100
                refine ⟨fun a w c => ?_, ?_⟩
                · exact goalR_move (c.want0 rfl) (.tmp 99) (.inl rfl) (c.val 1 _ rfl rfl) rfl
                -- 3: slot 101
                refine ⟨fun a w c => ?_, ?_⟩
                · have hw := c.want 2 false rfl rfl rfl
                  have e14 : a.eval (.tmp 14) = _ := (c.old 14 rfl).trans rfl
                  obtain ⟨y0, y1, y2, y3, y4⟩ := (HRC.out w c.below).1
                  exact goalR_val hw (by have ec : ∀ v, a.eval (.const v) = v := fun _ => rfl; generalize a.eval = ρ at ec e14 ⊢; simp [execOp, go_sem, ec, e14, y0, y1, y2, y3, y4]) rfl
                -- 4: slot 102
                refine ⟨fun a w c => ?_, ?_⟩
                · exact goalR_move (c.want 2 false rfl rfl rfl) (.tmp 7) (.inl rfl) ((c.old 7 rfl).trans rfl) rfl
                -- 5: slot 103
                refine ⟨fun a w c => ?_, ?_⟩
                · exact goalR_move (c.want 2 false rfl rfl rfl) (.tmp 13) (.inl rfl) ((c.old 13 rfl).trans rfl) rfl
                -- 6: slot 104
                refine ⟨fun a w c => ?_, ?_⟩
                · have hw := c.want 2 false rfl rfl rfl
                  have e102 : a.eval (.tmp 102) = _ := c.val 4 _ rfl rfl
                  have e103 : a.eval (.tmp 103) = _ := c.val 5 _ rfl rfl
                  exact goalR_val hw (by have ec : ∀ v, a.eval (.const v) = v := fun _ => rfl; generalize a.eval = ρ at ec e102 e103 ⊢; simp [execOp, go_sem, ec, e102, e103, elem27, Try.sizeOf35, hj1, hj2]) rfl
                -- 7: slot 105
                refine ⟨fun a w c => ?_, ?_⟩
                · have hw := c.want 2 false rfl rfl rfl
                  have e104 : a.eval (.tmp 104) = _ := c.val 6 _ rfl rfl
                  obtain ⟨y0, y1, y2, y3, y4⟩ := (HRC.out w c.below).2.1
                  exact goalR_val hw (by have ec : ∀ v, a.eval (.const v) = v := fun _ => rfl; generalize a.eval = ρ at ec e104 ⊢; simp [execOp, go_sem, ec, e104, y0, y1, y2, y3, y4]) rfl
                -- 8: slot 106
                refine ⟨fun a w c => ?_, ?_⟩
                · have hw := c.want 2 false rfl rfl rfl
                  have e101 : a.eval (.tmp 101) = _ := c.val 3 _ rfl rfl
                  have e105 : a.eval (.tmp 105) = _ := c.val 7 _ rfl rfl
                  exact goalR_fn hw rfl (by simp only [List.map_toArray, List.map_cons, List.map_nil, e101, e105]) (by kernel_rfl) ((HC1.out w c.below).mono fun e w' ⟨he, hb⟩ => ⟨_, he, outR_val rfl hb⟩)
                -- 9: slot 107
                refine ⟨fun a w c => ?_, ?_⟩
                · have e106 : a.eval (.tmp 106) = _ := c.val 8 _ rfl rfl
                  exact goalR_val (c.want 2 false rfl rfl rfl) (by have ec : ∀ v, a.eval (.const v) = v := fun _ => rfl; generalize a.eval = ρ at ec e106 ⊢; simp [execOp, go_sem, ec, e106]) rfl
                -- 10: slot 108
                refine ⟨fun a w c => ?_, ?_⟩
                · have e100 : a.eval (.tmp 100) = _ := c.val 2 _ rfl rfl
                  have e107 : a.eval (.tmp 107) = _ := c.val 9 _ rfl rfl
                  exact goalR_val (c.want0 rfl) (by have ec : ∀ v, a.eval (.const v) = v := fun _ => rfl; generalize a.eval = ρ at ec e100 e107 ⊢; simp [execOp, go_sem, ec, e100, e107]) rfl
                -- 11: slot 109
                refine ⟨fun a w c => ?_, ?_⟩
                · exact goalR_move (c.want0 rfl) (.tmp 108) (.inl rfl) (c.val 10 _ rfl rfl) rfl
                -- 12: slot 110
                refine ⟨fun a w c => ?_, ?_⟩
                · exact goalR_move (c.want 11 false rfl rfl rfl) (.tmp 7) (.inl rfl) ((c.old 7 rfl).trans rfl) rfl
                -- 13: slot 111
                refine ⟨fun a w c => ?_, ?_⟩
                · exact goalR_move (c.want 11 false rfl rfl rfl) (.tmp 13) (.inl rfl) ((c.old 13 rfl).trans rfl) rfl
                -- 14: slot 112
                refine ⟨fun a w c => ?_, ?_⟩
                · have hw := c.want 11 false rfl rfl rfl
                  have e110 : a.eval (.tmp 110) = _ := c.val 12 _ rfl rfl
                  have e111 : a.eval (.tmp 111) = _ := c.val 13 _ rfl rfl
                  exact goalR_val hw (by have ec : ∀ v, a.eval (.const v) = v := fun _ => rfl; generalize a.eval = ρ at ec e110 e111 ⊢; simp [execOp, go_sem, ec, e110, e111, elem27, Try.sizeOf35, hj1, hj2]) rfl
                -- 15: slot 113
                refine ⟨fun a w c => ?_, ?_⟩
                · have hw := c.want 11 false rfl rfl rfl
                  have e112 : a.eval (.tmp 112) = _ := c.val 14 _ rfl rfl
                  obtain ⟨y0, y1, y2, y3, y4⟩ := (HRC.out w c.below).2.1
                  exact goalR_val hw (by have ec : ∀ v, a.eval (.const v) = v := fun _ => rfl; generalize a.eval = ρ at ec e112 ⊢; simp [execOp, go_sem, ec, e112, y0, y1, y2, y3, y4]) rfl
                -- 16: slot 114
                refine ⟨fun a w c => ?_, ?_⟩
                · exact goalR_move (c.want 11 false rfl rfl rfl) (.tmp 9) (.inl rfl) ((c.old 9 rfl).trans rfl) rfl
                -- 17: slot 115
                refine ⟨fun a w c => ?_, ?_⟩
                · exact goalR_move (c.want 11 false rfl rfl rfl) (.tmp 13) (.inl rfl) ((c.old 13 rfl).trans rfl) rfl
                -- 18: slot 116
                refine ⟨fun a w c => ?_, ?_⟩
                · have hw := c.want 11 false rfl rfl rfl
                  have e114 : a.eval (.tmp 114) = _ := c.val 16 _ rfl rfl
                  have e115 : a.eval (.tmp 115) = _ := c.val 17 _ rfl rfl
                  exact goalR_val hw (by have ec : ∀ v, a.eval (.const v) = v := fun _ => rfl; generalize a.eval = ρ at ec e114 e115 ⊢; simp [execOp, go_sem, ec, e114, e115, elem27, Try.sizeOf35, hj1, hj2]) rfl
                -- 19: slot 117
                refine ⟨fun a w c => ?_, ?_⟩
                · have hw := c.want 11 false rfl rfl rfl
                  have e116 : a.eval (.tmp 116) = _ := c.val 18 _ rfl rfl
                  obtain ⟨y0, y1, y2, y3, y4⟩ := (HRC.out w c.below).2.2.1
                  exact goalR_val hw (by have ec : ∀ v, a.eval (.const v) = v := fun _ => rfl; generalize a.eval = ρ at ec e116 ⊢; simp [execOp, go_sem, ec, e116, y0, y1, y2, y3, y4]) rfl
                -- 20: slot 118
                refine ⟨fun a w c => ?_, ?_⟩
                · have hw := c.want 11 false rfl rfl rfl
                  have e113 : a.eval (.tmp 113) = _ := c.val 15 _ rfl rfl
                  have e117 : a.eval (.tmp 117) = _ := c.val 19 _ rfl rfl
                  exact goalR_fn hw rfl (by simp only [List.map_toArray, List.map_cons, List.map_nil, e113, e117]) (by kernel_rfl) ((HC2.out w c.below).mono fun e w' ⟨he, hb⟩ => ⟨_, he, outR_val rfl hb⟩)
                -- 21: slot 119
                refine ⟨fun a w c => ?_, ?_⟩
                · have e118 : a.eval (.tmp 118) = _ := c.val 20 _ rfl rfl
                  exact goalR_val (c.want 11 false rfl rfl rfl) (by have ec : ∀ v, a.eval (.const v) = v := fun _ => rfl; generalize a.eval = ρ at ec e118 ⊢; simp [execOp, go_sem, ec, e118]) rfl
                -- 22: slot 120
                refine ⟨fun a w c => ?_, ?_⟩
                · have e109 : a.eval (.tmp 109) = _ := c.val 11 _ rfl rfl
                  have e119 : a.eval (.tmp 119) = _ := c.val 21 _ rfl rfl
                  exact goalR_val (c.want0 rfl) (by have ec : ∀ v, a.eval (.const v) = v := fun _ => rfl; generalize a.eval = ρ at ec e109 e119 ⊢; simp [execOp, go_sem, ec, e109, e119]) rfl
                -- 23: slot 121
                refine ⟨fun a w c => ?_, ?_⟩
                · exact goalR_move (c.want0 rfl) (.tmp 120) (.inl rfl) (c.val 22 _ rfl rfl) rfl
                -- 24: slot 122
                refine ⟨fun a w c => ?_, ?_⟩
                · exact goalR_move (c.want 23 false rfl rfl rfl) (.tmp 13) (.inl rfl) ((c.old 13 rfl).trans rfl) rfl
                -- 25: slot 123
                refine ⟨fun a w c => ?_, ?_⟩
                · have hw := c.want 23 false rfl rfl rfl
                  have e122 : a.eval (.tmp 122) = _ := c.val 24 _ rfl rfl
                  exact goalR_val hw (by have ec : ∀ v, a.eval (.const v) = v := fun _ => rfl; generalize a.eval = ρ at ec e122 ⊢; simp [execOp, go_sem, ec, ec, e122, hjp]) rfl
                -- 26: slot 124
                refine ⟨fun a w c => ?_, ?_⟩
                · exact goalR_move (c.want 23 false rfl rfl rfl) (.tmp 123) (.inl rfl) (c.val 25 _ rfl rfl) rfl
                -- 27: slot 125
                refine ⟨fun a w c => ?_, ?_⟩
                · exact goalR_move (c.want 26 true rfl rfl rfl) (.tmp 7) (.inl rfl) ((c.old 7 rfl).trans rfl) rfl
                -- 28: slot 126
                refine ⟨fun a w c => ?_, ?_⟩
                · exact goalR_move (c.want 26 true rfl rfl rfl) (.tmp 13) (.inl rfl) ((c.old 13 rfl).trans rfl) rfl
                -- 29: slot 127
                refine ⟨fun a w c => ?_, ?_⟩
                · have hw := c.want 26 true rfl rfl rfl
                  have e126 : a.eval (.tmp 126) = _ := c.val 28 _ rfl rfl
                  exact goalR_val hw (by have ec : ∀ v, a.eval (.const v) = v := fun _ => rfl; generalize a.eval = ρ at ec e126 ⊢; simp [execOp, go_sem, ec, ec, e126, hwa, hwb]) rfl
                -- 30: slot 128
                refine ⟨fun a w c => ?_, ?_⟩
                · have hw := c.want 26 true rfl rfl rfl
                  have e125 : a.eval (.tmp 125) = _ := c.val 27 _ rfl rfl
                  have e127 : a.eval (.tmp 127) = _ := c.val 29 _ rfl rfl
                  exact goalR_val hw (by have ec : ∀ v, a.eval (.const v) = v := fun _ => rfl; generalize a.eval = ρ at ec e125 e127 ⊢; simp [execOp, go_sem, ec, e125, e127, elem27, Try.sizeOf35, hi1, hi2]) rfl
                -- 31: slot 129
                refine ⟨fun a w c => ?_, ?_⟩
                · have hw := c.want 26 true rfl rfl rfl
                  have e128 : a.eval (.tmp 128) = _ := c.val 30 _ rfl rfl
                  obtain ⟨y0, y1, y2, y3, y4⟩ := (HRC.out w c.below).2.2.2
                  exact goalR_val hw (by have ec : ∀ v, a.eval (.const v) = v := fun _ => rfl; generalize a.eval = ρ at ec e128 ⊢; simp [execOp, go_sem, ec, e128, y0, y1, y2, y3, y4]) rfl
                -- 32: slot 130
                refine ⟨fun a w c => ?_, ?_⟩
                · exact goalR_move (c.want 26 true rfl rfl rfl) (.tmp 7) (.inl rfl) ((c.old 7 rfl).trans rfl) rfl
                -- 33: slot 131
                refine ⟨fun a w c => ?_, ?_⟩
                · exact goalR_move (c.want 26 true rfl rfl rfl) (.tmp 13) (.inl rfl) ((c.old 13 rfl).trans rfl) rfl
                -- 34: slot 132
                refine ⟨fun a w c => ?_, ?_⟩
                · have hw := c.want 26 true rfl rfl rfl
                  have e130 : a.eval (.tmp 130) = _ := c.val 32 _ rfl rfl
                  have e131 : a.eval (.tmp 131) = _ := c.val 33 _ rfl rfl
                  exact goalR_val hw (by have ec : ∀ v, a.eval (.const v) = v := fun _ => rfl; generalize a.eval = ρ at ec e130 e131 ⊢; simp [execOp, go_sem, ec, e130, e131, elem27, Try.sizeOf35, hj1, hj2]) rfl
                -- 35: slot 133
                refine ⟨fun a w c => ?_, ?_⟩
                · have hw := c.want 26 true rfl rfl rfl
                  have e132 : a.eval (.tmp 132) = _ := c.val 34 _ rfl rfl
                  obtain ⟨y0, y1, y2, y3, y4⟩ := (HRC.out w c.below).2.1
                  exact goalR_val hw (by have ec : ∀ v, a.eval (.const v) = v := fun _ => rfl; generalize a.eval = ρ at ec e132 ⊢; simp [execOp, go_sem, ec, e132, y0, y1, y2, y3, y4]) rfl
                -- 36: slot 134
                refine ⟨fun a w c => ?_, ?_⟩
                · have hw := c.want 26 true rfl rfl rfl
                  have e129 : a.eval (.tmp 129) = _ := c.val 31 _ rfl rfl
                  have e133 : a.eval (.tmp 133) = _ := c.val 35 _ rfl rfl
                  exact goalR_fn hw rfl (by simp only [List.map_toArray, List.map_cons, List.map_nil, e129, e133]) (by kernel_rfl) ((HC3.out w c.below).mono fun e w' ⟨he, hb⟩ => ⟨_, he, outR_val rfl hb⟩)
                -- 37: slot 135
                refine ⟨fun a w c => ?_, ?_⟩
                · have hw := c.want 26 true rfl rfl rfl
                  have e134 : a.eval (.tmp 134) = _ := c.val 36 _ rfl rfl
                  exact goalR_val hw (by have ec : ∀ v, a.eval (.const v) = v := fun _ => rfl; generalize a.eval = ρ at ec e134 ⊢; simp [execOp, go_sem, ec, ec, e134, hc3]) rfl
                -- 38: slot 136
                refine ⟨fun a w c => ?_, ?_⟩
                · have e124 : a.eval (.tmp 124) = _ := c.val 26 _ rfl rfl
                  have e135 : a.eval (.tmp 135) = _ := c.val 37 _ rfl rfl
                  exact goalR_val (c.want 23 false rfl rfl rfl) (by have ec : ∀ v, a.eval (.const v) = v := fun _ => rfl; generalize a.eval = ρ at ec e124 e135 ⊢; simp [execOp, go_sem, ec, e124, e135]) rfl
                -- 39: slot 137
                refine ⟨fun a w c => ?_, ?_⟩
                · have e121 : a.eval (.tmp 121) = _ := c.val 23 _ rfl rfl
                  have e136 : a.eval (.tmp 136) = _ := c.val 38 _ rfl rfl
                  exact goalR_val (c.want0 rfl) (by have ec : ∀ v, a.eval (.const v) = v := fun _ => rfl; generalize a.eval = ρ at ec e121 e136 ⊢; simp [execOp, go_sem, ec, e121, e136]) rfl
                exact True.intro

              · have hjp : j = 0 := by omega
                have HRC : Hid (∀ wz, Below W.heap.size W wz → (wz.cell? ⟨wy.heap.size, 0, none⟩ = some (.slice ka x.key.length kc) ∧ wz.cell? ⟨wy.heap.size, 1, none⟩ = some (.int .i64 x.seq) ∧ wz.cell? ⟨wy.heap.size, 2, none⟩ = some (.bool x.gone) ∧ wz.cell? ⟨wy.heap.size, 3, none⟩ = some (.int .i64 x.till) ∧ wz.cell? ⟨wy.heap.size, 4, none⟩ = some (.slice va x.val.length vc)) ∧ (wz.cell? ⟨b5, o5 + j * 5, none⟩ = some (.slice kg x.key.length kcg) ∧ wz.cell? ⟨b5, o5 + j * 5 + 1, none⟩ = some (.int .i64 x.seq) ∧ wz.cell? ⟨b5, o5 + j * 5 + 2, none⟩ = some (.bool x.gone) ∧ wz.cell? ⟨b5, o5 + j * 5 + 3, none⟩ = some (.int .i64 x.till) ∧ wz.cell? ⟨b5, o5 + j * 5 + 4, none⟩ = some (.slice vg x.val.length vcg)) ∧ (wz.cell? ⟨b6, o6 + j * 5, none⟩ = some (.slice ko y.key.length kco) ∧ wz.cell? ⟨b6, o6 + j * 5 + 1, none⟩ = some (.int .i64 y.seq) ∧ wz.cell? ⟨b6, o6 + j * 5 + 2, none⟩ = some (.bool y.gone) ∧ wz.cell? ⟨b6, o6 + j * 5 + 3, none⟩ = some (.int .i64 y.till) ∧ wz.cell? ⟨b6, o6 + j * 5 + 4, none⟩ = some (.slice vo y.val.length vco)) ∧ True) := fun wz hb => ⟨⟨cell_later hb e0, cell_later hb e1, cell_later hb e2, cell_later hb e3, cell_later hb e4⟩, ⟨cell_later hb d0, cell_later hb d1, cell_later hb d2, cell_later hb d3, cell_later hb d4⟩, ⟨cell_later hb f0, cell_later hb f1, cell_later hb f2, cell_later hb f3, cell_later hb f4⟩, trivial⟩
                clear d0 d1 d2 d3 d4 f0 f1 f2 f3 f4 e0 e1 e2 e3 e4 sg1 sg2 so1 so2 ss1 ss2 hq hx hy hxy bW hBW b5W b6W hW
                refine wp_region_vals (by kernel_rfl) (by decide +kernel) 150 rfl (by decide +kernel) [.bool true, .bool false, .bool false, .agg #[.slice ka x.key.length kc, .int .i64 x.seq, .bool x.gone, .int .i64 x.till, .slice va x.val.length vc], .slice (some ⟨b5, o5, none⟩) tot c5, .int .i64 (j : Int), .pointer (some ⟨b5, o5 + j * 5, none⟩), .agg #[.slice kg x.key.length kcg, .int .i64 x.seq, .bool x.gone, .int .i64 x.till, .slice vg x.val.length vcg], .bool true, .bool false, .bool false, .bool false, .slice (some ⟨b5, o5, none⟩) tot c5, .int .i64 (j : Int), .pointer (some ⟨b5, o5 + j * 5, none⟩), .agg #[.slice kg x.key.length kcg, .int .i64 x.seq, .bool x.gone, .int .i64 x.till, .slice vg x.val.length vcg], .slice (some ⟨b6, o6, none⟩) tot c6, .int .i64 (j : Int), .pointer (some ⟨b6, o6 + j * 5, none⟩), .agg #[.slice ko y.key.length kco, .int .i64 y.seq, .bool y.gone, .int .i64 y.till, .slice vo y.val.length vco], .int .i64 0, .bool false, .bool false, .bool false, .int .i64 (j : Int), .bool false, .bool false, undef, undef, undef, undef, undef, undef, undef, undef, undef, undef, undef, .bool false, .bool false] rfl ?_ [98, 99, 100, 101, 102, 103, 104, 105, 106, 107, 108, 109, 110, 111, 112, 113, 114, 115, 116, 117, 118, 119, 120, 121, 122, 123, 124, 125, 126, 127, 128, 129, 130, 131, 132, 133, 134, 135, 136, 137] (by decide +kernel) ?_
                rotate_left
                · intro w9 B9
                  refine hkk _ _ ?_
                  rw [putR4]
                  go_wp2_with fail
                  go_roundg (tot - (j + 1))
                  case measure => have := HG.out; omega
                  case rel => exact ⟨j + 1, by go_num, by have := HG.out; omega, HN.out.1.later B9, HN.out.2.1.trans (B9.mono (Nat.le_of_lt HN.out.2.2))⟩
                -- 0: slot 98
                refine ⟨fun a w c => ?_, ?_⟩
                · exact goalR_move (c.want0 rfl) (.tmp 15) (.inl rfl) ((c.old 15 rfl).trans rfl) rfl
                -- 1: slot 99
                refine ⟨fun a w c => ?_, ?_⟩
                · have e98 : a.eval (.tmp 98) = _ := c.val 0 _ rfl rfl
                  exact goalR_val (c.want0 rfl) (by have ec : ∀ v, a.eval (.const v) = v := fun _ => rfl; generalize a.eval = ρ at ec e98 ⊢; simp [execOp, go_sem, ec, e98]) rfl
                -- 2: slot 100
                refine ⟨fun a w c => ?_, ?_⟩
                · exact goalR_move (c.want0 rfl) (.tmp 99) (.inl rfl) (c.val 1 _ rfl rfl) rfl
                -- 3: slot 101
                refine ⟨fun a w c => ?_, ?_⟩
                · have hw := c.want 2 false rfl rfl rfl
                  have e14 : a.eval (.tmp 14) = _ := (c.old 14 rfl).trans rfl
                  obtain ⟨y0, y1, y2, y3, y4⟩ := (HRC.out w c.below).1
                  exact goalR_val hw (by have ec : ∀ v, a.eval (.const v) = v := fun _ => rfl; generalize a.eval = ρ at ec e14 ⊢; simp [execOp, go_sem, ec, e14, y0, y1, y2, y3, y4]) rfl
                -- 4: slot 102
                refine ⟨fun a w c => ?_, ?_⟩
                · exact goalR_move (c.want 2 false rfl rfl rfl) (.tmp 7) (.inl rfl) ((c.old 7 rfl).trans rfl) rfl
                -- 5: slot 103
                refine ⟨fun a w c => ?_, ?_⟩
                · exact goalR_move (c.want 2 false rfl rfl rfl) (.tmp 13) (.inl rfl) ((c.old 13 rfl).trans rfl) rfl
                -- 6: slot 104
                refine ⟨fun a w c => ?_, ?_⟩
                · have hw := c.want 2 false rfl rfl rfl
                  have e102 : a.eval (.tmp 102) = _ := c.val 4 _ rfl rfl
                  have e103 : a.eval (.tmp 103) = _ := c.val 5 _ rfl rfl
                  exact goalR_val hw (by have ec : ∀ v, a.eval (.const v) = v := fun _ => rfl; generalize a.eval = ρ at ec e102 e103 ⊢; simp [execOp, go_sem, ec, e102, e103, elem27, Try.sizeOf35, hj1, hj2]) rfl
                -- 7: slot 105
                refine ⟨fun a w c => ?_, ?_⟩
                · have hw := c.want 2 false rfl rfl rfl
                  have e104 : a.eval (.tmp 104) = _ := c.val 6 _ rfl rfl
                  obtain ⟨y0, y1, y2, y3, y4⟩ := (HRC.out w c.below).2.1
                  exact goalR_val hw (by have ec : ∀ v, a.eval (.const v) = v := fun _ => rfl; generalize a.eval = ρ at ec e104 ⊢; simp [execOp, go_sem, ec, e104, y0, y1, y2, y3, y4]) rfl
                -- 8: slot 106
                refine ⟨fun a w c => ?_, ?_⟩
                · have hw := c.want 2 false rfl rfl rfl
                  have e101 : a.eval (.tmp 101) = _ := c.val 3 _ rfl rfl
                  have e105 : a.eval (.tmp 105) = _ := c.val 7 _ rfl rfl
                  exact goalR_fn hw rfl (by simp only [List.map_toArray, List.map_cons, List.map_nil, e101, e105]) (by kernel_rfl) ((HC1.out w c.below).mono fun e w' ⟨he, hb⟩ => ⟨_, he, outR_val rfl hb⟩)
                -- 9: slot 107
                refine ⟨fun a w c => ?_, ?_⟩
                · have e106 : a.eval (.tmp 106) = _ := c.val 8 _ rfl rfl
                  exact goalR_val (c.want 2 false rfl rfl rfl) (by have ec : ∀ v, a.eval (.const v) = v := fun _ => rfl; generalize a.eval = ρ at ec e106 ⊢; simp [execOp, go_sem, ec, e106]) rfl
                -- 10: slot 108
                refine ⟨fun a w c => ?_, ?_⟩
                · have e100 : a.eval (.tmp 100) = _ := c.val 2 _ rfl rfl
                  have e107 : a.eval (.tmp 107) = _ := c.val 9 _ rfl rfl
                  exact goalR_val (c.want0 rfl) (by have ec : ∀ v, a.eval (.const v) = v := fun _ => rfl; generalize a.eval = ρ at ec e100 e107 ⊢; simp [execOp, go_sem, ec, e100, e107]) rfl
                -- 11: slot 109
                refine ⟨fun a w c => ?_, ?_⟩
                · exact goalR_move (c.want0 rfl) (.tmp 108) (.inl rfl) (c.val 10 _ rfl rfl) rfl
                -- 12: slot 110
                refine ⟨fun a w c => ?_, ?_⟩
                · exact goalR_move (c.want 11 false rfl rfl rfl) (.tmp 7) (.inl rfl) ((c.old 7 rfl).trans rfl) rfl
                -- 13: slot 111
                refine ⟨fun a w c => ?_, ?_⟩
                · exact goalR_move (c.want 11 false rfl rfl rfl) (.tmp 13) (.inl rfl) ((c.old 13 rfl).trans rfl) rfl
                -- 14: slot 112
                refine ⟨fun a w c => ?_, ?_⟩
                · have hw := c.want 11 false rfl rfl rfl
                  have e110 : a.eval (.tmp 110) = _ := c.val 12 _ rfl rfl
                  have e111 : a.eval (.tmp 111) = _ := c.val 13 _ rfl rfl
                  exact goalR_val hw (by have ec : ∀ v, a.eval (.const v) = v := fun _ => rfl; generalize a.eval = ρ at ec e110 e111 ⊢; simp [execOp, go_sem, ec, e110, e111, elem27, Try.sizeOf35, hj1, hj2]) rfl
                -- 15: slot 113
                refine ⟨fun a w c => ?_, ?_⟩
                · have hw := c.want 11 false rfl rfl rfl
                  have e112 : a.eval (.tmp 112) = _ := c.val 14 _ rfl rfl
                  obtain ⟨y0, y1, y2, y3, y4⟩ := (HRC.out w c.below).2.1
                  exact goalR_val hw (by have ec : ∀ v, a.eval (.const v) = v := fun _ => rfl; generalize a.eval = ρ at ec e112 ⊢; simp [execOp, go_sem, ec, e112, y0, y1, y2, y3, y4]) rfl
                -- 16: slot 114
                refine ⟨fun a w c => ?_, ?_⟩
                · exact goalR_move (c.want 11 false rfl rfl rfl) (.tmp 9) (.inl rfl) ((c.old 9 rfl).trans rfl) rfl
                -- 17: slot 115
                refine ⟨fun a w c => ?_, ?_⟩
                · exact goalR_move (c.want 11 false rfl rfl rfl) (.tmp 13) (.inl rfl) ((c.old 13 rfl).trans rfl) rfl
                -- 18: slot 116
                refine ⟨fun a w c => ?_, ?_⟩
                · have hw := c.want 11 false rfl rfl rfl
                  have e114 : a.eval (.tmp 114) = _ := c.val 16 _ rfl rfl
                  have e115 : a.eval (.tmp 115) = _ := c.val 17 _ rfl rfl
                  exact goalR_val hw (by have ec : ∀ v, a.eval (.const v) = v := fun _ => rfl; generalize a.eval = ρ at ec e114 e115 ⊢; simp [execOp, go_sem, ec, e114, e115, elem27, Try.sizeOf35, hj1, hj2]) rfl
                -- 19: slot 117
                refine ⟨fun a w c => ?_, ?_⟩
                · have hw := c.want 11 false rfl rfl rfl
                  have e116 : a.eval (.tmp 116) = _ := c.val 18 _ rfl rfl
                  obtain ⟨y0, y1, y2, y3, y4⟩ := (HRC.out w c.below).2.2.1
                  exact goalR_val hw (by have ec : ∀ v, a.eval (.const v) = v := fun _ => rfl; generalize a.eval = ρ at ec e116 ⊢; simp [execOp, go_sem, ec, e116, y0, y1, y2, y3, y4]) rfl
                -- 20: slot 118
                refine ⟨fun a w c => ?_, ?_⟩
                · have hw := c.want 11 false rfl rfl rfl
                  have e113 : a.eval (.tmp 113) = _ := c.val 15 _ rfl rfl
                  have e117 : a.eval (.tmp 117) = _ := c.val 19 _ rfl rfl
                  exact goalR_fn hw rfl (by simp only [List.map_toArray, List.map_cons, List.map_nil, e113, e117]) (by kernel_rfl) ((HC2.out w c.below).mono fun e w' ⟨he, hb⟩ => ⟨_, he, outR_val rfl hb⟩)
                -- 21: slot 119
                refine ⟨fun a w c => ?_, ?_⟩
                · have e118 : a.eval (.tmp 118) = _ := c.val 20 _ rfl rfl
                  exact goalR_val (c.want 11 false rfl rfl rfl) (by have ec : ∀ v, a.eval (.const v) = v := fun _ => rfl; generalize a.eval = ρ at ec e118 ⊢; simp [execOp, go_sem, ec, e118]) rfl
                -- 22: slot 120
                refine ⟨fun a w c => ?_, ?_⟩
                · have e109 : a.eval (.tmp 109) = _ := c.val 11 _ rfl rfl
                  have e119 : a.eval (.tmp 119) = _ := c.val 21 _ rfl rfl
                  exact goalR_val (c.want0 rfl) (by have ec : ∀ v, a.eval (.const v) = v := fun _ => rfl; generalize a.eval = ρ at ec e109 e119 ⊢; simp [execOp, go_sem, ec, e109, e119]) rfl
                -- 23: slot 121
                refine ⟨fun a w c => ?_, ?_⟩
                · exact goalR_move (c.want0 rfl) (.tmp 120) (.inl rfl) (c.val 22 _ rfl rfl) rfl
                -- 24: slot 122
                refine ⟨fun a w c => ?_, ?_⟩
                · exact goalR_move (c.want 23 false rfl rfl rfl) (.tmp 13) (.inl rfl) ((c.old 13 rfl).trans rfl) rfl
                -- 25: slot 123
                refine ⟨fun a w c => ?_, ?_⟩
                · have hw := c.want 23 false rfl rfl rfl
                  have e122 : a.eval (.tmp 122) = _ := c.val 24 _ rfl rfl
                  exact goalR_val hw (by have ec : ∀ v, a.eval (.const v) = v := fun _ => rfl; generalize a.eval = ρ at ec e122 ⊢; simp [execOp, go_sem, ec, ec, e122, hjp]) rfl
                -- 26: slot 124
                refine ⟨fun a w c => ?_, ?_⟩
                · exact goalR_move (c.want 23 false rfl rfl rfl) (.tmp 123) (.inl rfl) (c.val 25 _ rfl rfl) rfl
                -- 27: slot 125
                refine ⟨fun a w c => ?_, ?_⟩
                · exact goalR_skip (c.skip 26 true false rfl rfl rfl (by decide)) rfl
                -- 28: slot 126
                refine ⟨fun a w c => ?_, ?_⟩
                · exact goalR_skip (c.skip 26 true false rfl rfl rfl (by decide)) rfl
                -- 29: slot 127
                refine ⟨fun a w c => ?_, ?_⟩
                · exact goalR_skip (c.skip 26 true false rfl rfl rfl (by decide)) rfl
                -- 30: slot 128
                refine ⟨fun a w c => ?_, ?_⟩
                · exact goalR_skip (c.skip 26 true false rfl rfl rfl (by decide)) rfl
                -- 31: slot 129
                refine ⟨fun a w c => ?_, ?_⟩
                · exact goalR_skip (c.skip 26 true false rfl rfl rfl (by decide)) rfl
                -- 32: slot 130
                refine ⟨fun a w c => ?_, ?_⟩
                · exact goalR_skip (c.skip 26 true false rfl rfl rfl (by decide)) rfl
                -- 33: slot 131
                refine ⟨fun a w c => ?_, ?_⟩
                · exact goalR_skip (c.skip 26 true false rfl rfl rfl (by decide)) rfl
                -- 34: slot 132
                refine ⟨fun a w c => ?_, ?_⟩
                · exact goalR_skip (c.skip 26 true false rfl rfl rfl (by decide)) rfl
                -- 35: slot 133
                refine ⟨fun a w c => ?_, ?_⟩
                · exact goalR_skip (c.skip 26 true false rfl rfl rfl (by decide)) rfl
                -- 36: slot 134
                refine ⟨fun a w c => ?_, ?_⟩
                · exact goalR_skip (c.skip 26 true false rfl rfl rfl (by decide)) rfl
                -- 37: slot 135
                refine ⟨fun a w c => ?_, ?_⟩
                · exact goalR_skip (c.skip 26 true false rfl rfl rfl (by decide)) rfl
                -- 38: slot 136
                refine ⟨fun a w c => ?_, ?_⟩
                · have e124 : a.eval (.tmp 124) = _ := c.val 26 _ rfl rfl
                  exact goalR_val (c.want 23 false rfl rfl rfl) (by have ec : ∀ v, a.eval (.const v) = v := fun _ => rfl; generalize a.eval = ρ at ec e124 ⊢; simp [execOp, go_sem, ec, e124]) rfl
                -- 39: slot 137
                refine ⟨fun a w c => ?_, ?_⟩
                · have e121 : a.eval (.tmp 121) = _ := c.val 23 _ rfl rfl
                  have e136 : a.eval (.tmp 136) = _ := c.val 38 _ rfl rfl
                  exact goalR_val (c.want0 rfl) (by have ec : ∀ v, a.eval (.const v) = v := fun _ => rfl; generalize a.eval = ρ at ec e121 e136 ⊢; simp [execOp, go_sem, ec, e121, e136]) rfl
                exact True.intro

            · have hj' : ¬ (j : Int) < (tot : Int) := by omega
              have hBx := HJ.out.2
              have HBF : Hid (Below w.heap.size w wr) := H57.out.2.2.1.trans (hBx.mono H57.out.2.2.2.2.2)
              have h5 := H5R.out.later (H57.out.1.trans (hBx.mono H57.out.2.2.2.1))
              have h6 := H6R.out.later (H57.out.2.1.trans (hBx.mono H57.out.2.2.2.2.1))
              have hord := rord_any h5 (by have := HN0.out; omega)
              by_cases hoM : ordB M = true
              · rw [hoM] at hord
                have hMe := HTU.out.2 (of_decide_eq_true (p := M.Pairwise fun a b => ahead a b < 0) hoM)
                have HSE : Hid (∀ wz, Below wr.heap.size wr wz → Calls Try.prog 14 #[.slice a5 tot c5, .slice a6 tot c6] wz fun e w' => e = .returned (.bool true) ∧ Below wz.heap.size wz w') := fun wz hb => rsameE_eq (h5.later hb) ((hMe ▸ h6).later hb)
                clear hg hj h5 h6 hMe hBx hoM
                go_wp2_with (first | (go_at_call 23; refine hord.mono ?_; rintro r w9 ⟨rfl, hb9⟩; have HB9 := hidM hb9; clear hb9) | (go_at_call 14; refine (HSE.out _ HB9.out).mono ?_; rintro r wa ⟨rfl, hba⟩; have HBA := hidM (HB9.out.trans (hba.mono HB9.out.size)); clear hba) | (go_at_call 10; refine (awake16_t _).mono ?_; rintro e wb ⟨rfl, hbb⟩))
                have hbf := HBF.out.trans (HBA.out.mono HBF.out.size)
                exact bodyPost_ret (v := .bool true) (by simp [results, Try.results7, go_sem]) rfl ⟨rfl, hbf.trans (hbb.mono hbf.size)⟩
              · have hoF : ordB M = false := by simpa using hoM
                rw [hoF] at hord
                clear hg hj h5 h6 hBx hoM
                go_wp2_with (first | (go_at_call 23; refine hord.mono ?_; rintro r w9 ⟨rfl, hb9⟩; have HB9 := hidM hb9; clear hb9) | (go_at_call 10; refine (awake16_t _).mono ?_; rintro e wb ⟨rfl, hbb⟩))
                have hbf := HBF.out.trans (HB9.out.mono HBF.out.size)
                exact bodyPost_ret (v := .bool true) (by simp [results, Try.results7, go_sem]) rfl ⟨rfl, hbf.trans (hbb.mono hbf.size)⟩
  · have hl' : litW 0 0 rs = false := by simpa using hl
    rw [hl'] at hli
    clear h hl hl'
    go_enter Try.func7, Try.ntmps7
    go_wp2_with (first | (go_at_call 9; refine hli.mono ?_; rintro e w1 ⟨rfl, hb1⟩) | (go_at_call 10; refine (awake16_t _).mono ?_; rintro e w2 ⟨rfl, hb2⟩))
    exact bodyPost_ret (v := .bool true) (by simp [results, Try.results7, go_sem]) rfl ⟨rfl, hb1.trans (hb2.mono hb1.size)⟩
end Go.Proofs.Ytnoackenjfpcmaa
