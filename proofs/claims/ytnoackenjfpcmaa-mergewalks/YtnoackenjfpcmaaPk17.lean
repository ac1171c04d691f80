import Derived.Shelf.SlSortCmp.NoneTotal
import Derived.Test.YtnoackenjfpcmaaProg
import Derived.Test.YtnoackenjfpcmaaPk16
/- A region that draws its order, told once, whatever the order; the world behind it is the one ahead of it with draws and new blocks, and nothing else. -/
namespace Go.Proofs.Ytnoackenjfpcmaa.Rg
open Go.RowKit
set_option linter.unusedVariables false
set_option linter.unusedSimpArgs false

/-- Every edge that binds leads backwards: by reckoning. -/
def lowBR (ops : Array Oper) : Bool := (List.range ops.size).all fun i => match ops[i]? with
  | some o => o.after.all fun e => !Region.binds .any e || decide (e.on < i)
  | none => true

theorem lowBR_spec {ops : Array Oper} (h : lowBR ops = true) : ∀ (i : Nat) o, ops[i]? = some o → ∀ e ∈ o.after, Region.binds .any e = true → e.on < i := by
  intro i o ho e he hb
  have hi : i < ops.size := by
    rcases Nat.lt_or_ge i ops.size with k | k
    · exact k
    · simp [k] at ho
  unfold lowBR at h
  have h1 := List.all_eq_true.1 h i (List.mem_range.2 hi)
  rw [ho] at h1
  have h2 := (Array.all_eq_true_iff_forall_mem.1 h1) e he
  rw [hb] at h2
  simpa using h2

/-- The places that the operations write: one each, unlike one another, within the frame. -/
def dstOfR (ops : Array Oper) (i : Nat) : Nat := ((ops[i]?).bind (·.dst)).getD 0
def dstBR (ops : Array Oper) (n : Nat) : Bool := (ops.toList.all fun o => o.dst.isSome) && decide (((List.range ops.size).map (dstOfR ops)).Nodup) && ((List.range ops.size).all fun i => decide (dstOfR ops i < n))
theorem dstBR_spec {ops : Array Oper} {n : Nat} (h : dstBR ops n = true) : (∀ i o, ops[i]? = some o → o.dst = some (dstOfR ops i)) ∧ (∀ i j, i < ops.size → j < ops.size → i ≠ j → dstOfR ops i ≠ dstOfR ops j) ∧ (∀ i, i < ops.size → dstOfR ops i < n) := by
  unfold dstBR at h
  simp only [Bool.and_eq_true, decide_eq_true_eq, List.all_eq_true, List.mem_range] at h
  obtain ⟨⟨h1, h2⟩, h3⟩ := h
  refine ⟨fun i o ho => ?_, fun i j hi hj hne e => ?_, h3⟩
  · have hm : o ∈ ops.toList := by
      have := Array.getElem?_eq_some_iff.1 ho
      obtain ⟨hi, e⟩ := this
      rw [← e]
      exact Array.getElem_mem_toList hi
    have := h1 o hm
    unfold dstOfR
    rw [ho]
    cases hd : o.dst with
    | none => rw [hd] at this; cases this
    | some d => simp [hd]
  · have hi' : i < ((List.range ops.size).map (dstOfR ops)).length := by simpa using hi
    have hj' : j < ((List.range ops.size).map (dstOfR ops)).length := by simpa using hj
    have := (List.getElem_inj (h₀ := hi') (h₁ := hj') h2).1 (by simpa using e)
    exact hne this


def slotR (ops : Array Oper) (a : Act) (i : Nat) : Value := a.eval (.tmp (dstOfR ops i))

theorem evalR_put_same {a : Act} {d : Nat} {v : Value} (h : d < a.tmps.size) : (a.put (some d) v).eval (.tmp d) = v := by
  simp [Act.put, Act.eval, h]
theorem evalR_put_other {a : Act} {d s : Nat} {v : Value} (h : d ≠ s) : (a.put (some d) v).eval (.tmp s) = a.eval (.tmp s) := by
  simp [Act.put, Act.eval, h]


def afterBR (o : Oper) (j : Nat) : Bool := o.after.toList.any fun e => Region.binds .any e && e.on == j
theorem afterBR_spec {o : Oper} {j : Nat} (h : afterBR o j = true) : ∃ e ∈ o.after, Region.binds .any e = true ∧ e.on = j := by
  unfold afterBR at h
  obtain ⟨e, he, h2⟩ := List.any_eq_true.1 h
  simp only [Bool.and_eq_true, beq_iff_eq] at h2
  exact ⟨e, by simpa using he, h2.1, h2.2⟩
def freeBR (ops : Array Oper) (s : Nat) : Bool := (List.range ops.size).all fun i => dstOfR ops i != s
theorem freeBR_spec {ops : Array Oper} {s : Nat} (h : freeBR ops s = true) : ∀ i, i < ops.size → dstOfR ops i ≠ s := by
  intro i hi
  unfold freeBR at h
  have := List.all_eq_true.1 h i (List.mem_range.2 hi)
  simpa using this

abbrev Rl := World → Value → Prop
def vl (v : Value) : Rl := fun _ x => x = v
def rOf (ks : List Rl) (i : Nat) : Rl := (ks[i]?).getD (vl undef)
/-- What stays in later worlds. -/
def StaysR (r : Rl) : Prop := ∀ (w w' : World) (v : Value), r w v → Below w.heap.size w w' → r w' v
theorem stays_vl (v : Value) : StaysR (vl v) := fun _ _ _ h _ => h
structure MidR (W : World) (A : Act) (ops : Array Oper) (K : Nat → Rl) (L : Nat → Bool) (a : Act) (w : World) : Prop where
  below : Gr W w
  defers : a.defers = A.defers
  size : a.tmps.size = A.tmps.size
  old : ∀ s, (∀ i, i < ops.size → dstOfR ops i ≠ s) → a.eval (.tmp s) = A.eval (.tmp s)
  rel : ∀ i, i < ops.size → L i = true → K i w (slotR ops a i)
def OutR (K : Nat → Rl) (i : Nat) (w : World) (v : Value) (w' : World) : Prop := K i w' v ∧ Gr w w'
theorem midR_step {W : World} {A : Act} {ops : Array Oper} {K : Nat → Rl} {L : Nat → Bool} {a : Act} {w : World} (hK : ∀ i, StaysR (K i)) (hd : dstBR ops A.tmps.size = true)
    (h : MidR W A ops K L a w) {i : Nat} {o : Oper} (ho : ops[i]? = some o) {v : Value} {w' : World} (hout : OutR K i w v w') :
    MidR W A ops K (fun j => if j = i then true else L j) (a.put o.dst v) w' := by
  obtain ⟨d1, d2, d3⟩ := dstBR_spec hd
  have his : i < ops.size := by
    rcases Nat.lt_or_ge i ops.size with k | k
    · exact k
    · simp [k] at ho
  rw [d1 i o ho]
  have ha : dstOfR ops i < a.tmps.size := by rw [h.size]; exact d3 i his
  have hsi : slotR ops (a.put (some (dstOfR ops i)) v) i = v := evalR_put_same ha
  have hso : ∀ j, j < ops.size → j ≠ i → slotR ops (a.put (some (dstOfR ops i)) v) j = slotR ops a j := fun j hj hne => evalR_put_other (d2 i j his hj (Ne.symm hne))
  refine ⟨h.below.trans hout.2, h.defers, by simp [Act.put, h.size], fun s hs => ?_, fun j hj hL => ?_⟩
  · rw [evalR_put_other (hs i his)]
    exact h.old s hs
  · by_cases e : j = i
    · subst e
      rw [hsi]
      exact hout.1
    · rw [hso j hj e]
      exact hK j _ _ _ (h.rel j hj (by simpa [e] using hL)) hout.2.below
structure CtxR (W : World) (A : Act) (ops : Array Oper) (ks : List Rl) (i : Nat) (o : Oper) (a : Act) (w : World) : Prop where
  below : Gr W w
  old : ∀ s, freeBR ops s = true → a.eval (.tmp s) = A.eval (.tmp s)
  val : ∀ j v, afterBR o j = true → rOf ks j = vl v → a.eval (.tmp (dstOfR ops j)) = v
  rel : ∀ j r, afterBR o j = true → rOf ks j = r → r w (a.eval (.tmp (dstOfR ops j)))
  want0 : o.guard = none → Region.wanted o (yielded ops a.tmps) = true
  want : ∀ j b, afterBR o j = true → o.guard = some (j, b) → rOf ks j = vl (.bool b) → Region.wanted o (yielded ops a.tmps) = true
  skip : ∀ j b c, afterBR o j = true → o.guard = some (j, b) → rOf ks j = vl (.bool c) → c ≠ b → Region.wanted o (yielded ops a.tmps) = false
def GoalR (P : Program) (Q : Exit → Act → World → Prop) (ops : Array Oper) (ks : List Rl) (i : Nat) (o : Oper) (a : Act) (w : World) : Prop :=
  (Region.wanted o (yielded ops a.tmps) = true ∧ ∀ Kk : Act → World → Prop, (∀ v w', OutR (rOf ks) i w v w' → Kk (a.put o.dst v) w') → o.wp P a w Kk Q) ∨ (Region.wanted o (yielded ops a.tmps) = false ∧ rOf ks i = vl undef)
def StepR (P : Program) (Q : Exit → Act → World → Prop) (W : World) (A : Act) (ops : Array Oper) (ks : List Rl) (i : Nat) (o : Oper) : Prop :=
  ∀ (a : Act) (w : World), CtxR W A ops ks i o a w → GoalR P Q ops ks i o a w
def StepsR (P : Program) (Q : Exit → Act → World → Prop) (W : World) (A : Act) (ops : Array Oper) (ks : List Rl) : Nat → List Oper → Prop
  | _, [] => True
  | i, o :: rest => StepR P Q W A ops ks i o ∧ StepsR P Q W A ops ks (i + 1) rest
theorem stepsR_get {P : Program} {Q : Exit → Act → World → Prop} {W : World} {A : Act} {ops : Array Oper} {ks : List Rl} : ∀ (l : List Oper) (n i : Nat) (o : Oper), StepsR P Q W A ops ks n l → l[i]? = some o → StepR P Q W A ops ks (n + i) o
  | [], _, _, _, _, h => by simp at h
  | x :: l, n, 0, o, hs, h => by simp at h; subst h; exact hs.1
  | x :: l, n, i + 1, o, hs, h => by
    have := stepsR_get l (n + 1) i o hs.2 (by simpa using h)
    rw [show n + (i + 1) = n + 1 + i by omega]
    exact this
/-- THE REGION: each operation by itself. -/
theorem wp_region_rel {P : Program} {id : Nat} {Q : Exit → Act → World → Prop} {A : Act} {W : World} {l : List Oper} (hm : P.follows .mixedOrders = true) (hl : lowBR l.toArray = true) (n : Nat) (hn : A.tmps.size = n) (hd0 : dstBR l.toArray n = true)
    (ks : List Rl) (hK : ∀ k ∈ ks, StaysR k) (hstep : StepsR P Q W A l.toArray ks 0 l)
    (hend : ∀ (a : Act) (w : World), a.defers = A.defers → Gr W w → (∀ i v, i < l.length → rOf ks i = vl v → a.eval (.tmp (dstOfR l.toArray i)) = v) → Q .normal a w) :
    (Code.region id l.toArray true).wp P Q A W := by
  have hd : dstBR l.toArray A.tmps.size = true := by rw [hn]; exact hd0
  have hKs : ∀ i, StaysR (rOf ks i) := fun i => by
    unfold rOf
    cases h : ks[i]? with
    | none => exact stays_vl _
    | some k => exact hK k (List.mem_of_getElem? h)
  refine wp_region_inv hm (lowBR_spec hl) (fun A L a w => MidR W A l.toArray (rOf ks) L a w) ?_ ?_ ?_
  · exact ⟨(Gr.refl _).drew, rfl, rfl, fun _ _ => rfl, fun _ _ h => by cases h⟩
  · intro L a w i o hM ho hi hafter Kk hKk
    have hs := stepsR_get l 0 i o hstep (by simpa using ho)
    rw [Nat.zero_add] at hs
    obtain ⟨d1, d2, d3⟩ := dstBR_spec hd
    have low := lowBR_spec hl i o ho
    have his : i < l.toArray.size := by
      rcases Nat.lt_or_ge i l.toArray.size with k | k
      · exact k
      · rw [Array.getElem?_eq_none k] at ho; cases ho
    have hLj : ∀ j, afterBR o j = true → j < l.toArray.size ∧ L j = true := fun j hj => by
      obtain ⟨e, he, hb, rfl⟩ := afterBR_spec hj
      exact ⟨by have := low e he hb; omega, hafter e he hb⟩
    have hy : ∀ j b, afterBR o j = true → rOf ks j = vl (.bool b) → yielded l.toArray a.tmps j = some b := fun j b hj hKj => by
      obtain ⟨h1, h2⟩ := hLj j hj
      have hv := hM.rel j h1 h2
      rw [hKj] at hv
      have hv' : slotR l.toArray a j = .bool b := hv
      have ho' : l.toArray[j]? = some l.toArray[j] := Array.getElem?_eq_getElem h1
      have hdj := d1 j _ ho'
      have hsz : dstOfR l.toArray j < a.tmps.size := by rw [hM.size]; exact d3 j h1
      unfold yielded
      rw [ho', Option.bind_some, hdj, Option.bind_some, Array.getElem?_eq_getElem hsz]
      unfold slotR at hv'
      simp only [Act.eval, Array.getD_eq_getD_getElem?, Array.getElem?_eq_getElem hsz, Option.getD_some] at hv'
      rw [hv']
    have hc : CtxR W A l.toArray ks i o a w := by
      refine ⟨hM.below, fun s h => hM.old s (freeBR_spec h), fun j v hj hKj => ?_, fun j r hj hKj => ?_, fun hg => ?_, fun j b hj hg hKj => ?_, fun j b c hj hg hKj hne => ?_⟩
      · have := hM.rel j (hLj j hj).1 (hLj j hj).2
        rw [hKj] at this
        exact this
      · have := hM.rel j (hLj j hj).1 (hLj j hj).2
        rw [hKj] at this
        exact this
      · unfold Region.wanted; rw [hg]
      · unfold Region.wanted; rw [hg]; simp only [hy j b hj hKj]; simp
      · unfold Region.wanted; rw [hg]; simp only [hy j c hj hKj]; simpa using hne
    rcases hs a w hc with ⟨hw, hs⟩ | ⟨hw, hv⟩
    · rw [if_pos hw]
      exact hs Kk fun v w' hout => hKk _ _ (midR_step hKs hd hM ho hout)
    · rw [if_neg (by rw [hw]; exact Bool.false_ne_true)]
      exact hKk _ _ (midR_step hKs hd hM ho ⟨by rw [hv]; rfl, Gr.refl _⟩)
  · intro L a w hM hall
    refine hend a w hM.defers hM.below fun i v hi hKi => ?_
    have := hM.rel i (by simpa using hi) (hall i (by simpa using hi))
    rw [hKi] at this
    exact this
/-- THE REGION: each operation by itself. -/
theorem wp_region_rel2 {P : Program} {id : Nat} {Q : Exit → Act → World → Prop} {A : Act} {W : World} {l : List Oper} (hm : P.follows .mixedOrders = true) (hl : lowBR l.toArray = true) (n : Nat) (hn : A.tmps.size = n) (hd0 : dstBR l.toArray n = true)
    (ks : List Rl) (hK : ∀ k ∈ ks, StaysR k) (hstep : StepsR P Q W A l.toArray ks 0 l)
    (hend : ∀ (a : Act) (w : World), MidR W A l.toArray (rOf ks) (fun _ => true) a w → Q .normal a w) :
    (Code.region id l.toArray true).wp P Q A W := by
  have hd : dstBR l.toArray A.tmps.size = true := by rw [hn]; exact hd0
  have hKs : ∀ i, StaysR (rOf ks i) := fun i => by
    unfold rOf
    cases h : ks[i]? with
    | none => exact stays_vl _
    | some k => exact hK k (List.mem_of_getElem? h)
  refine wp_region_inv hm (lowBR_spec hl) (fun A L a w => MidR W A l.toArray (rOf ks) L a w) ?_ ?_ ?_
  · exact ⟨(Gr.refl _).drew, rfl, rfl, fun _ _ => rfl, fun _ _ h => by cases h⟩
  · intro L a w i o hM ho hi hafter Kk hKk
    have hs := stepsR_get l 0 i o hstep (by simpa using ho)
    rw [Nat.zero_add] at hs
    obtain ⟨d1, d2, d3⟩ := dstBR_spec hd
    have low := lowBR_spec hl i o ho
    have his : i < l.toArray.size := by
      rcases Nat.lt_or_ge i l.toArray.size with k | k
      · exact k
      · rw [Array.getElem?_eq_none k] at ho; cases ho
    have hLj : ∀ j, afterBR o j = true → j < l.toArray.size ∧ L j = true := fun j hj => by
      obtain ⟨e, he, hb, rfl⟩ := afterBR_spec hj
      exact ⟨by have := low e he hb; omega, hafter e he hb⟩
    have hy : ∀ j b, afterBR o j = true → rOf ks j = vl (.bool b) → yielded l.toArray a.tmps j = some b := fun j b hj hKj => by
      obtain ⟨h1, h2⟩ := hLj j hj
      have hv := hM.rel j h1 h2
      rw [hKj] at hv
      have hv' : slotR l.toArray a j = .bool b := hv
      have ho' : l.toArray[j]? = some l.toArray[j] := Array.getElem?_eq_getElem h1
      have hdj := d1 j _ ho'
      have hsz : dstOfR l.toArray j < a.tmps.size := by rw [hM.size]; exact d3 j h1
      unfold yielded
      rw [ho', Option.bind_some, hdj, Option.bind_some, Array.getElem?_eq_getElem hsz]
      unfold slotR at hv'
      simp only [Act.eval, Array.getD_eq_getD_getElem?, Array.getElem?_eq_getElem hsz, Option.getD_some] at hv'
      rw [hv']
    have hc : CtxR W A l.toArray ks i o a w := by
      refine ⟨hM.below, fun s h => hM.old s (freeBR_spec h), fun j v hj hKj => ?_, fun j r hj hKj => ?_, fun hg => ?_, fun j b hj hg hKj => ?_, fun j b c hj hg hKj hne => ?_⟩
      · have := hM.rel j (hLj j hj).1 (hLj j hj).2
        rw [hKj] at this
        exact this
      · have := hM.rel j (hLj j hj).1 (hLj j hj).2
        rw [hKj] at this
        exact this
      · unfold Region.wanted; rw [hg]
      · unfold Region.wanted; rw [hg]; simp only [hy j b hj hKj]; simp
      · unfold Region.wanted; rw [hg]; simp only [hy j c hj hKj]; simpa using hne
    rcases hs a w hc with ⟨hw, hs⟩ | ⟨hw, hv⟩
    · rw [if_pos hw]
      exact hs Kk fun v w' hout => hKk _ _ (midR_step hKs hd hM ho hout)
    · rw [if_neg (by rw [hw]; exact Bool.false_ne_true)]
      exact hKk _ _ (midR_step hKs hd hM ho ⟨by rw [hv]; rfl, Gr.refl _⟩)
  · intro L a w hM hall
    exact hend a w ⟨hM.below, hM.defers, hM.size, hM.old, fun i hi _ => hM.rel i hi (hall i hi)⟩
/-- Values laid into their places, one behind the other. -/
def putVs : Act → List (Nat × Value) → Act
  | A, [] => A
  | A, (d, v) :: r => putVs (A.put (some d) v) r
theorem putVs_size : ∀ (r : List (Nat × Value)) (A : Act), (putVs A r).tmps.size = A.tmps.size ∧ (putVs A r).defers = A.defers
  | [], A => ⟨rfl, rfl⟩
  | (d, v) :: r, A => by
    obtain ⟨h1, h2⟩ := putVs_size r (A.put (some d) v)
    exact ⟨by rw [putVs, h1]; simp [Act.put], by rw [putVs, h2]; rfl⟩
theorem putVs_other : ∀ (r : List (Nat × Value)) (A : Act) (s : Nat), (∀ x ∈ r, x.1 ≠ s) → (putVs A r).eval (.tmp s) = A.eval (.tmp s)
  | [], A, s, _ => rfl
  | (d, v) :: r, A, s, h => by
    rw [putVs, putVs_other r _ s (fun x hx => h x (List.mem_cons_of_mem _ hx))]
    exact evalR_put_other (h (d, v) (List.mem_cons_self ..))
theorem putVs_at : ∀ (r : List (Nat × Value)) (A : Act) (d : Nat) (v : Value), (r.map (·.1)).Nodup → (d, v) ∈ r → d < A.tmps.size → (putVs A r).eval (.tmp d) = v
  | [], A, d, v, _, h, _ => by cases h
  | (d', v') :: r, A, d, v, hn, h, hs => by
    rw [List.map_cons, List.nodup_cons] at hn
    rw [putVs]
    rcases List.mem_cons.1 h with e | h
    · obtain ⟨e1, e2⟩ := Prod.mk.inj e
      rw [e1] at hs ⊢
      rw [e2, putVs_other r _ d' (fun x hx e => hn.1 (List.mem_map.2 ⟨x, hx, e⟩))]
      exact evalR_put_same hs
    · exact putVs_at r _ d v hn.2 h (by simpa [Act.put] using hs)
theorem act_eq {a b : Act} (h1 : a.tmps.size = b.tmps.size) (h2 : a.defers = b.defers) (h : ∀ s, s < b.tmps.size → a.eval (.tmp s) = b.eval (.tmp s)) : a = b := by
  cases a with
  | mk ta da =>
    cases b with
    | mk tb db =>
      simp only at h1 h2
      subst h2
      have : ta = tb := Array.ext h1 fun i hi1 hi2 => by
        have := h i hi2
        simpa [Act.eval, hi1, hi2] using this
      subst this
      rfl
/-- THE REGION, where each operation yields a known value: it goes on with all of them laid. -/
theorem wp_region_vals {P : Program} {id : Nat} {Q : Exit → Act → World → Prop} {A : Act} {W : World} {l : List Oper} (hm : P.follows .mixedOrders = true) (hl : lowBR l.toArray = true) (n : Nat) (hn : A.tmps.size = n) (hd0 : dstBR l.toArray n = true)
    (vs : List Value) (hlen : vs.length = l.length) (hstep : StepsR P Q W A l.toArray (vs.map vl) 0 l)
    (ds : List Nat) (hds : (List.range l.length).map (dstOfR l.toArray) = ds)
    (hend : ∀ w, Gr W w → Q .normal (putVs A (ds.zip vs)) w) :
    (Code.region id l.toArray true).wp P Q A W := by
  refine wp_region_rel2 hm hl n hn hd0 (vs.map vl) (fun k hk => by obtain ⟨v, _, rfl⟩ := List.mem_map.1 hk; exact stays_vl v) hstep ?_
  intro a w hM
  have hd : dstBR l.toArray A.tmps.size = true := by rw [hn]; exact hd0
  obtain ⟨d1, d2, d3⟩ := dstBR_spec hd
  have hsz : l.toArray.size = l.length := by simp
  have hdl : ds.length = l.length := by rw [← hds]; simp
  have hnd : ds.Nodup := by
    have h9 := hd
    unfold dstBR at h9
    simp only [Bool.and_eq_true, decide_eq_true_eq] at h9
    have h8 := h9.1.2
    rw [hsz, hds] at h8
    exact h8
  have ha : a = putVs A (ds.zip vs) := by
    refine act_eq (hM.size.trans (putVs_size _ _).1.symm) (hM.defers.trans (putVs_size _ _).2.symm) fun s hs => ?_
    rw [(putVs_size _ _).1] at hs
    by_cases hf : ∃ i, i < l.length ∧ dstOfR l.toArray i = s
    · obtain ⟨i, hi, rfl⟩ := hf
      have hr := hM.rel i (by simpa using hi) rfl
      have hiv : i < vs.length := by omega
      have hk : rOf (vs.map vl) i = vl vs[i] := by
        unfold rOf
        rw [List.getElem?_map, List.getElem?_eq_getElem hiv]
        rfl
      rw [hk] at hr
      refine Eq.trans hr (putVs_at _ _ _ _ ?_ ?_ hs).symm
      · rw [List.map_fst_zip (by omega)]; exact hnd
      · rw [List.mem_iff_getElem?]
        refine ⟨i, ?_⟩
        rw [List.getElem?_zip_eq_some]
        refine ⟨?_, List.getElem?_eq_getElem hiv⟩
        rw [← hds, List.getElem?_map, List.getElem?_range hi]
        rfl
    · have hno : ∀ i, i < l.toArray.size → dstOfR l.toArray i ≠ s := fun i hi e => hf ⟨i, by simpa using hi, e⟩
      rw [hM.old s hno]
      refine (putVs_other _ _ _ fun x hx e => ?_).symm
      have hx1 : x.1 ∈ ds := List.of_mem_zip hx |>.1
      rw [← hds] at hx1
      obtain ⟨i, hi, he⟩ := List.mem_map.1 hx1
      exact hf ⟨i, by simpa using hi, he.trans e⟩
  rw [ha]
  exact hend w hM.below
section
variable {P : Program} {Q : Exit → Act → World → Prop} {ops : Array Oper} {ks : List Rl} {i : Nat} {o : Oper} {a : Act} {w : World}
theorem goalR_run {v : Value} {w' : World} (hw : Region.wanted o (yielded ops a.tmps) = true) (hrun : (execOp a.eval o).run P w = .ok (.value v) w') (hout : OutR (rOf ks) i w v w') : GoalR P Q ops ks i o a w :=
  .inl ⟨hw, fun Kk hKk => by unfold Oper.wp; rw [hrun]; exact hKk v w' hout⟩
theorem goalR_val {v : Value} (hw : Region.wanted o (yielded ops a.tmps) = true) (hrun : (execOp a.eval o).run P w = .ok (.value v) w) (hv : rOf ks i = vl v) : GoalR P Q ops ks i o a w :=
  goalR_run hw hrun ⟨by rw [hv]; rfl, Gr.refl _⟩
theorem goalR_move {v : Value} (hw : Region.wanted o (yielded ops a.tmps) = true) (x : Operand) (h : o.op = .move x ∨ o.op = .assign x) (hx : a.eval x = v) (hv : rOf ks i = vl v) : GoalR P Q ops ks i o a w := by
  refine goalR_val hw ?_ hv
  rw [← hx]
  rcases h with h | h
  · exact BigFrame.run_move x h w
  · exact BigFrame.run_assign x h w
theorem goalR_call {f : FuncId} {args : Array Value} (hw : Region.wanted o (yielded ops a.tmps) = true) (hrun : (execOp a.eval o).run P w = .ok (.enter f args) w)
    (hc : Calls P f args w fun e w' => ∃ v, e = .returned v ∧ OutR (rOf ks) i w v w') : GoalR P Q ops ks i o a w :=
  .inl ⟨hw, fun Kk hKk => by
    unfold Oper.wp
    rw [hrun]
    exact hc.mono fun e w' ⟨v, he, hout⟩ => by subst he; exact hKk v w' hout⟩
theorem goalR_fn {f : FuncId} {xs : Array Operand} {ts : Array TypeId} {args : Array Value} (hw : Region.wanted o (yielded ops a.tmps) = true) (hop : o.op = .call { callee := .value (.func f), args := xs, argTypes := ts }) (hargs : xs.map a.eval = args) (hf : (callFunc f args).run P w = .ok (.enter f args) w)
    (hc : Calls P f args w fun e w' => ∃ v, e = .returned v ∧ OutR (rOf ks) i w v w') : GoalR P Q ops ks i o a w := by
  refine goalR_call hw ?_ hc
  unfold execOp
  rw [hop]
  simp [resolve, invoke, Act.eval, go_sem, hargs, hf]
theorem goalR_skip (hw : Region.wanted o (yielded ops a.tmps) = false) (hv : rOf ks i = vl undef) : GoalR P Q ops ks i o a w := .inr ⟨hw, hv⟩
theorem outR_val {v : Value} {w' : World} (hv : rOf ks i = vl v) (h : Gr w w') : OutR (rOf ks) i w v w' := ⟨by rw [hv]; rfl, h⟩
theorem outR_rel {r : Rl} {v : Value} {w' : World} (hv : rOf ks i = r) (hr : r w' v) (h : Gr w w') : OutR (rOf ks) i w v w' := ⟨by rw [hv]; exact hr, h⟩
end
end Go.Proofs.Ytnoackenjfpcmaa.Rg

/- The landed merge: how what is left of two rows is compared. -/
namespace Go.Proofs.Ytnoackenjfpcmaa
open Go.RowKit Go.Sort
set_option linter.unusedVariables false
set_option linter.unusedSimpArgs false

/-- The first entry of a row, in its cells, in any later world. -/
theorem hd_cells {w0 w : World} {x : HpV} {e : EntV} {q : List EntV} (h : HpOk w0 x) (hl : x.l = e :: q) (hb : Below w0.heap.size w0 w) :
    ∃ b off ka kc va vc, x.la = some ⟨b, off, none⟩ ∧ b < w0.heap.size ∧ Sl w ka e.key.length kc e.key ∧ Sl w va e.val.length vc e.val ∧ ∀ wx, Below w.heap.size w wx → wx.cell? ⟨b, off, none⟩ = some (.slice ka e.key.length kc) ∧ wx.cell? ⟨b, off + 1, none⟩ = some (.int .i64 e.seq) ∧ wx.cell? ⟨b, off + 2, none⟩ = some (.bool e.gone) ∧ wx.cell? ⟨b, off + 3, none⟩ = some (.int .i64 e.till) ∧ wx.cell? ⟨b, off + 4, none⟩ = some (.slice va e.val.length vc) := by
  obtain ⟨b, off, ka, kc, va, vc, ea, d0, d1, d2, d3, d4, s1, s2, i1, i2⟩ := RS.ent h.1 (i := 0) (o := e) (by rw [hl]; rfl)
  rw [Nat.zero_mul, Nat.add_zero] at d0 d1 d2 d3 d4
  refine ⟨b, off, ka, kc, va, vc, ea, World.block_lt_of_cell? _ _ d0, s1.later hb, s2.later hb, fun wx hx => ?_⟩
  have hb2 := hb.trans (hx.mono hb.size)
  exact ⟨cell_later hb2 d0, cell_later hb2 d1, cell_later hb2 d2, cell_later hb2 d3, cell_later hb2 d4⟩
theorem hmB (w : World) (u v : Value) (rx ry : Int) (a0 : Value) (a1 : Int) (a2 a3 a4 : Value) (b0 : Value) (b1 : Int) (b2 b3 b4 : Value) :
    let W := (((((w.alloc (.cells #[u, .int .i64 rx] 70)).alloc (.cells #[v, .int .i64 ry] 70)).alloc (.cells #[a0, .int .i64 a1, a2, a3, a4] 35)).alloc (.cells #[b0, .int .i64 b1, b2, b3, b4] 35)).drew)
    W.cell? ⟨w.heap.size, 1, none⟩ = some (.int .i64 rx) ∧ W.cell? ⟨w.heap.size + 1, 1, none⟩ = some (.int .i64 ry) ∧ W.cell? ⟨w.heap.size + 1 + 1, 0, none⟩ = some a0 ∧ W.cell? ⟨w.heap.size + 1 + 1, 1, none⟩ = some (.int .i64 a1) ∧ W.cell? ⟨w.heap.size + 1 + 1 + 1, 0, none⟩ = some b0 ∧ W.cell? ⟨w.heap.size + 1 + 1 + 1, 1, none⟩ = some (.int .i64 b1) := by
  have hc : ∀ (x : World) (o : Obj), Below x.heap.size x (x.alloc o) := fun x o => (Below.refl _ _).alloc (Nat.le_refl _) _
  obtain ⟨w1, h1⟩ : ∃ x, x = w.alloc (.cells #[u, .int .i64 rx] 70) := ⟨_, rfl⟩
  obtain ⟨w2, h2⟩ : ∃ x, x = w1.alloc (.cells #[v, .int .i64 ry] 70) := ⟨_, rfl⟩
  obtain ⟨w3, h3⟩ : ∃ x, x = w2.alloc (.cells #[a0, .int .i64 a1, a2, a3, a4] 35) := ⟨_, rfl⟩
  obtain ⟨w4, h4⟩ : ∃ x, x = w3.alloc (.cells #[b0, .int .i64 b1, b2, b3, b4] 35) := ⟨_, rfl⟩
  have e1 : w1.heap.size = w.heap.size + 1 := by rw [h1]; simp
  have e2 : w2.heap.size = w.heap.size + 1 + 1 := by rw [h2]; simp [e1]
  have e3 : w3.heap.size = w.heap.size + 1 + 1 + 1 := by rw [h3]; simp [e2]
  intro W
  have hW : W = w4.drew := by show (((((w.alloc _).alloc _).alloc _).alloc _).drew) = _; rw [h4, h3, h2, h1]
  have b1' : Below w1.heap.size w1 w2 := by rw [h2]; exact hc _ _
  have b2' : Below w2.heap.size w2 w3 := by rw [h3]; exact hc _ _
  have b3' : Below w3.heap.size w3 w4 := by rw [h4]; exact hc _ _
  have b4' : Below w4.heap.size w4 W := by rw [hW]; exact (Below.refl _ _).drew
  have q1 : w1.cell? ⟨w.heap.size, 1, none⟩ = some (.int .i64 rx) := by rw [h1, cell_of (heap_alloc_new w _)]; rfl
  have q2 : w2.cell? ⟨w.heap.size + 1, 1, none⟩ = some (.int .i64 ry) := by rw [← e1, h2, cell_of (heap_alloc_new w1 _)]; rfl
  have q3 : w3.cell? ⟨w.heap.size + 1 + 1, 0, none⟩ = some a0 := by rw [← e2, h3, cell_of (heap_alloc_new w2 _)]; rfl
  have q4 : w3.cell? ⟨w.heap.size + 1 + 1, 1, none⟩ = some (.int .i64 a1) := by rw [← e2, h3, cell_of (heap_alloc_new w2 _)]; rfl
  have q5 : w4.cell? ⟨w.heap.size + 1 + 1 + 1, 0, none⟩ = some b0 := by rw [← e3, h4, cell_of (heap_alloc_new w3 _)]; rfl
  have q6 : w4.cell? ⟨w.heap.size + 1 + 1 + 1, 1, none⟩ = some (.int .i64 b1) := by rw [← e3, h4, cell_of (heap_alloc_new w3 _)]; rfl
  exact ⟨cell_later b4' (cell_later b3' (cell_later b2' (cell_later b1' q1))), cell_later b4' (cell_later b3' (cell_later b2' q2)), cell_later b4' (cell_later b3' q3), cell_later b4' (cell_later b3' q4), cell_later b4' q5, cell_later b4' q6⟩
def kHc (ka1 ka2 : Option Addr) (kc1 kc2 kl1 kl2 m m5 m6 : Nat) (cv sq1 sq2 : Int) (rx ry : Nat) : List Rg.Rl :=
  [Rg.vl (.pointer (some ⟨m5, 0, none⟩)), Rg.vl (.slice ka1 kl1 kc1), Rg.vl (.pointer (some ⟨m6, 0, none⟩)), Rg.vl (.slice ka2 kl2 kc2), Rg.vl (.int .i64 cv),
   Rg.vl (.pointer (some ⟨m6, 1, none⟩)), Rg.vl (.int .i64 sq2), Rg.vl (.pointer (some ⟨m5, 1, none⟩)), Rg.vl (.int .i64 sq1), Rg.vl (.int .i64 (cmJ sq2 sq1)),
   Rg.vl (.pointer (some ⟨m, 1, none⟩)), Rg.vl (.int .i64 rx), Rg.vl (.pointer (some ⟨m + 1, 1, none⟩)), Rg.vl (.int .i64 ry), Rg.vl (.int .i64 (cmJ rx ry)),
   (fun w v => ∃ b, v = .slice (some ⟨b, 0, none⟩) 3 3 ∧ w.cell? ⟨b, 0, none⟩ = some (.int .i64 cv) ∧ w.cell? ⟨b, 1, none⟩ = some (.int .i64 (cmJ sq2 sq1)) ∧ w.cell? ⟨b, 2, none⟩ = some (.int .i64 (cmJ rx ry))),
   Rg.vl (.int .i64 (or3 cv (cmJ sq2 sq1) (cmJ rx ry))), Rg.vl (.int .i64 (or3 cv (cmJ sq2 sq1) (cmJ rx ry)))]
theorem kHc_stays (ka1 ka2 : Option Addr) (kc1 kc2 kl1 kl2 m m5 m6 : Nat) (cv sq1 sq2 : Int) (rx ry : Nat) : ∀ k ∈ kHc ka1 ka2 kc1 kc2 kl1 kl2 m m5 m6 cv sq1 sq2 rx ry, Rg.StaysR k := by
  intro k hk
  unfold kHc at hk
  simp only [List.mem_cons, List.not_mem_nil, or_false] at hk
  have hs : Rg.StaysR (fun w v => ∃ b, v = .slice (some ⟨b, 0, none⟩) 3 3 ∧ w.cell? ⟨b, 0, none⟩ = some (.int .i64 cv) ∧ w.cell? ⟨b, 1, none⟩ = some (.int .i64 (cmJ sq2 sq1)) ∧ w.cell? ⟨b, 2, none⟩ = some (.int .i64 (cmJ rx ry))) := by
    rintro w w' v ⟨b, e, z0, z1, z2⟩ hb
    exact ⟨b, e, cell_later hb z0, cell_later hb z1, cell_later hb z2⟩
  repeat (first | (rcases hk with rfl | hk; first | exact Rg.stays_vl _ | exact hs) | (subst hk; first | exact Rg.stays_vl _ | exact hs))
set_option maxHeartbeats 4000000 in
set_option maxRecDepth 100000 in
theorem hcmp_t {w0 w : World} {x y : HpV} (hx : HpOk w0 x) (hy : HpOk w0 y) (nx : x.l ≠ []) (ny : y.l ≠ []) (hb : Below w0.heap.size w0 w) :
    Calls Try.prog 37 #[.agg x.cells.toArray, .agg y.cells.toArray] w fun e w' => e = .returned (.int .i64 (hpC x y)) ∧ Gr w w' := by
  obtain ⟨lx, rx, ax, cx⟩ := x
  obtain ⟨ly, ry, ay, cy⟩ := y
  obtain ⟨e1, q1, rfl⟩ : ∃ e q, lx = e :: q := by cases lx with | nil => exact absurd rfl nx | cons a b => exact ⟨a, b, rfl⟩
  obtain ⟨e2, q2, rfl⟩ : ∃ e q, ly = e :: q := by cases ly with | nil => exact absurd rfl ny | cons a b => exact ⟨a, b, rfl⟩
  obtain ⟨b1, o1, ka1, kc1, va1, vc1, rfl, lt1, s1, -, h1⟩ := hd_cells hx rfl hb
  obtain ⟨b2, o2, ka2, kc2, va2, vc2, rfl, lt2, s2, -, h2⟩ := hd_cells hy rfl hb
  have eC : hpC ⟨e1 :: q1, rx, some ⟨b1, o1, none⟩, cx⟩ ⟨e2 :: q2, ry, some ⟨b2, o2, none⟩, cy⟩ = or3 (cmp e1.key e2.key) (cmJ e2.seq e1.seq) (cmJ rx ry) := rfl
  rw [eC]
  unfold HpV.cells
  simp only [List.length_cons]
  have HC : Hid (∀ wx, Gr w wx → Calls Try.prog 29 #[.slice ka1 e1.key.length kc1, .slice ka2 e2.key.length kc2] wx fun e w' => e = .returned (.int .i64 (cmp e1.key e2.key)) ∧ w' = wx) := fun wx hbx => compare_l (s1.later hbx.below) (s2.later hbx.below)
  have H1 := hidM h1
  have H2 := hidM h2
  generalize q1.length = n1
  generalize q2.length = n2
  generalize cmp e1.key e2.key = cv at HC ⊢
  generalize e1.key.length = kl1 at HC H1
  generalize e2.key.length = kl2 at HC H2
  generalize e1.val.length = vl1 at H1
  generalize e2.val.length = vl2 at H2
  generalize e1.seq = sq1 at H1 ⊢
  generalize e2.seq = sq2 at H2 ⊢
  generalize e1.gone = gn1 at H1
  generalize e2.gone = gn2 at H2
  generalize e1.till = tl1 at H1
  generalize e2.till = tl2 at H2
  clear hx hy nx ny hb lt1 lt2 s1 s2 h1 h2 eC
  have hba : ∀ o1 o2, Below w.heap.size w ((w.alloc o1).alloc o2) := fun o1 o2 => (((Below.refl _ w).alloc (Nat.le_refl _) _).alloc (by simp) _)
  have hbb : ∀ o1 o2 o3, Below w.heap.size w (((w.alloc o1).alloc o2).alloc o3) := fun o1 o2 o3 => (hba o1 o2).alloc (hba o1 o2).size _
  have hbc : ∀ o1 o2 o3 o4, Below w.heap.size w ((((w.alloc o1).alloc o2).alloc o3).alloc o4) := fun o1 o2 o3 o4 => (hbb o1 o2 o3).alloc (hbb o1 o2 o3).size _
  have A1 := fun o1 o2 => H1.out _ (hba o1 o2)
  have A2 := fun o1 o2 => H2.out _ (hba o1 o2)
  have B1 := fun o1 o2 o3 => H1.out _ (hbb o1 o2 o3)
  have B2 := fun o1 o2 o3 => H2.out _ (hbb o1 o2 o3)
  have C1 := fun o1 o2 o3 o4 => H1.out _ (hbc o1 o2 o3 o4)
  have C2 := fun o1 o2 o3 o4 => H2.out _ (hbc o1 o2 o3 o4)
  clear hba hbb hbc
  have HG0 : Hid (∀ o1 o2 o3 o4, Gr w ((((w.alloc o1).alloc o2).alloc o3).alloc o4).drew) := fun o1 o2 o3 o4 => (((((Gr.refl w).alloc _).alloc _).alloc _).alloc _).drew
  go_enter Try.func37, Try.ntmps37
  go_wp2_with fail
  go_region
  all_goals clear A1 A2 B1 B2 C1 C2 H1 H2
  all_goals go_wp2_with fail
  · have HG := HG0.out (.cells #[.slice (some ⟨b1, o1, none⟩) (n1 + 1) cx, .int .i64 rx] 70) (.cells #[.slice (some ⟨b2, o2, none⟩) (n2 + 1) cy, .int .i64 ry] 70) (.cells #[.slice ka1 kl1 kc1, .int .i64 sq1, .bool gn1, .int .i64 tl1, .slice va1 vl1 vc1] 35) (.cells #[.slice ka2 kl2 kc2, .int .i64 sq2, .bool gn2, .int .i64 tl2, .slice va2 vl2 vc2] 35)
    have HBX0 := hmB w (.slice (some ⟨b1, o1, none⟩) (n1 + 1) cx) (.slice (some ⟨b2, o2, none⟩) (n2 + 1) cy) (rx : Int) (ry : Int) (.slice ka1 kl1 kc1) sq1 (.bool gn1) (.int .i64 tl1) (.slice va1 vl1 vc1) (.slice ka2 kl2 kc2) sq2 (.bool gn2) (.int .i64 tl2) (.slice va2 vl2 vc2)
    generalize hW : (((((w.alloc (.cells #[.slice (some ⟨b1, o1, none⟩) (n1 + 1) cx, .int .i64 rx] 70)).alloc (.cells #[.slice (some ⟨b2, o2, none⟩) (n2 + 1) cy, .int .i64 ry] 70)).alloc (.cells #[.slice ka1 kl1 kc1, .int .i64 sq1, .bool gn1, .int .i64 tl1, .slice va1 vl1 vc1] 35)).alloc (.cells #[.slice ka2 kl2 kc2, .int .i64 sq2, .bool gn2, .int .i64 tl2, .slice va2 vl2 vc2] 35)).drew) = W at HG HBX0 ⊢
    have HBX : Hid (∀ wx, Gr W wx → wx.cell? ⟨w.heap.size, 1, none⟩ = some (.int .i64 rx) ∧ wx.cell? ⟨w.heap.size + 1, 1, none⟩ = some (.int .i64 ry) ∧ wx.cell? ⟨w.heap.size + 1 + 1, 0, none⟩ = some (.slice ka1 kl1 kc1) ∧ wx.cell? ⟨w.heap.size + 1 + 1, 1, none⟩ = some (.int .i64 sq1) ∧ wx.cell? ⟨w.heap.size + 1 + 1 + 1, 0, none⟩ = some (.slice ka2 kl2 kc2) ∧ wx.cell? ⟨w.heap.size + 1 + 1 + 1, 1, none⟩ = some (.int .i64 sq2)) := fun wx hx => ⟨cell_later hx.below HBX0.1, cell_later hx.below HBX0.2.1, cell_later hx.below HBX0.2.2.1, cell_later hx.below HBX0.2.2.2.1, cell_later hx.below HBX0.2.2.2.2.1, cell_later hx.below HBX0.2.2.2.2.2⟩
    clear hW HBX0 HG0
    refine Rg.wp_region_rel (by kernel_rfl) (by decide +kernel) 32 rfl (by decide +kernel) (kHc ka1 ka2 kc1 kc2 kl1 kl2 w.heap.size (w.heap.size + 1 + 1) (w.heap.size + 1 + 1 + 1) cv sq1 sq2 rx ry) (fun k hk => kHc_stays _ _ _ _ _ _ _ _ _ _ _ _ _ _ k hk) ?_ ?_
    rotate_left
    · intro a w' hd' hbel hv
      rename_i hk
      refine hk a w' ?_
      have h8 : a.eval (.tmp 4) = .int .i64 (or3 cv (cmJ sq2 sq1) (cmJ rx ry)) := hv 17 _ (by decide) rfl
      have h8' : a.tmps[4]?.getD undef = .int .i64 (or3 cv (cmJ sq2 sq1) (cmJ rx ry)) := by simpa [Act.eval] using h8
      go_wp2
      exact bodyPost_ret (v := .int .i64 (or3 cv (cmJ sq2 sq1) (cmJ rx ry))) (by simp [results, Try.results37, go_sem, h8']) hd' ⟨rfl, Gr.trans HG hbel⟩
    -- 0: slot 15
    refine ⟨fun a w c => ?_, ?_⟩
    · have hw := c.want0 rfl
      have e5 : a.eval (.tmp 5) = _ := (c.old 5 rfl).trans rfl
      exact Rg.goalR_val hw (by have ec : ∀ v, a.eval (.const v) = v := fun _ => rfl; generalize a.eval = ρ at ec e5 ⊢; simp [execOp, go_sem, ec, e5]) rfl
    -- 1: slot 16
    refine ⟨fun a w c => ?_, ?_⟩
    · have hw := c.want0 rfl
      have e15 : a.eval (.tmp 15) = _ := c.val 0 _ rfl rfl
      have y0 := (HBX.out w c.below).2.2.1
      exact Rg.goalR_val hw (by have ec : ∀ v, a.eval (.const v) = v := fun _ => rfl; generalize a.eval = ρ at ec e15 ⊢; simp [execOp, go_sem, ec, e15, y0]) rfl
    -- 2: slot 17
    refine ⟨fun a w c => ?_, ?_⟩
    · have hw := c.want0 rfl
      have e6 : a.eval (.tmp 6) = _ := (c.old 6 rfl).trans rfl
      exact Rg.goalR_val hw (by have ec : ∀ v, a.eval (.const v) = v := fun _ => rfl; generalize a.eval = ρ at ec e6 ⊢; simp [execOp, go_sem, ec, e6]) rfl
    -- 3: slot 18
    refine ⟨fun a w c => ?_, ?_⟩
    · have hw := c.want0 rfl
      have e17 : a.eval (.tmp 17) = _ := c.val 2 _ rfl rfl
      have y0 := (HBX.out w c.below).2.2.2.2.1
      exact Rg.goalR_val hw (by have ec : ∀ v, a.eval (.const v) = v := fun _ => rfl; generalize a.eval = ρ at ec e17 ⊢; simp [execOp, go_sem, ec, e17, y0]) rfl
    -- 4: slot 19
    refine ⟨fun a w c => ?_, ?_⟩
    · have hw := c.want0 rfl
      have e16 : a.eval (.tmp 16) = _ := c.val 1 _ rfl rfl
      have e18 : a.eval (.tmp 18) = _ := c.val 3 _ rfl rfl
      exact Rg.goalR_fn hw rfl (by simp only [List.map_toArray, List.map_cons, List.map_nil, e16, e18]) (by kernel_rfl) ((HC.out w (HG.trans c.below)).mono fun e w' ⟨he, hw'⟩ => ⟨_, he, Rg.outR_val rfl (by rw [hw']; exact Gr.refl _)⟩)
    -- 5: slot 20
    refine ⟨fun a w c => ?_, ?_⟩
    · have hw := c.want0 rfl
      have e6 : a.eval (.tmp 6) = _ := (c.old 6 rfl).trans rfl
      exact Rg.goalR_val hw (by have ec : ∀ v, a.eval (.const v) = v := fun _ => rfl; generalize a.eval = ρ at ec e6 ⊢; simp [execOp, go_sem, ec, e6]) rfl
    -- 6: slot 21
    refine ⟨fun a w c => ?_, ?_⟩
    · have hw := c.want0 rfl
      have e20 : a.eval (.tmp 20) = _ := c.val 5 _ rfl rfl
      have y0 := (HBX.out w c.below).2.2.2.2.2
      exact Rg.goalR_val hw (by have ec : ∀ v, a.eval (.const v) = v := fun _ => rfl; generalize a.eval = ρ at ec e20 ⊢; simp [execOp, go_sem, ec, e20, y0]) rfl
    -- 7: slot 22
    refine ⟨fun a w c => ?_, ?_⟩
    · have hw := c.want0 rfl
      have e5 : a.eval (.tmp 5) = _ := (c.old 5 rfl).trans rfl
      exact Rg.goalR_val hw (by have ec : ∀ v, a.eval (.const v) = v := fun _ => rfl; generalize a.eval = ρ at ec e5 ⊢; simp [execOp, go_sem, ec, e5]) rfl
    -- 8: slot 23
    refine ⟨fun a w c => ?_, ?_⟩
    · have hw := c.want0 rfl
      have e22 : a.eval (.tmp 22) = _ := c.val 7 _ rfl rfl
      have y0 := (HBX.out w c.below).2.2.2.1
      exact Rg.goalR_val hw (by have ec : ∀ v, a.eval (.const v) = v := fun _ => rfl; generalize a.eval = ρ at ec e22 ⊢; simp [execOp, go_sem, ec, e22, y0]) rfl
    -- 9: slot 24
    refine ⟨fun a w c => ?_, ?_⟩
    · have hw := c.want0 rfl
      have e21 : a.eval (.tmp 21) = _ := c.val 6 _ rfl rfl
      have e23 : a.eval (.tmp 23) = _ := c.val 8 _ rfl rfl
      exact Rg.goalR_fn hw rfl (by simp only [List.map_toArray, List.map_cons, List.map_nil, e21, e23]) (by kernel_rfl) ((@cmpM_any w sq2 sq1).mono fun e w' ⟨he, hw'⟩ => ⟨_, he, Rg.outR_val rfl (by rw [hw']; exact Gr.refl _)⟩)
    -- 10: slot 25
    refine ⟨fun a w c => ?_, ?_⟩
    · have hw := c.want0 rfl
      have e2 : a.eval (.tmp 2) = _ := (c.old 2 rfl).trans rfl
      exact Rg.goalR_val hw (by have ec : ∀ v, a.eval (.const v) = v := fun _ => rfl; generalize a.eval = ρ at ec e2 ⊢; simp [execOp, go_sem, ec, e2]) rfl
    -- 11: slot 26
    refine ⟨fun a w c => ?_, ?_⟩
    · have hw := c.want0 rfl
      have e25 : a.eval (.tmp 25) = _ := c.val 10 _ rfl rfl
      have y0 := (HBX.out w c.below).1
      exact Rg.goalR_val hw (by have ec : ∀ v, a.eval (.const v) = v := fun _ => rfl; generalize a.eval = ρ at ec e25 ⊢; simp [execOp, go_sem, ec, e25, y0]) rfl
    -- 12: slot 27
    refine ⟨fun a w c => ?_, ?_⟩
    · have hw := c.want0 rfl
      have e3 : a.eval (.tmp 3) = _ := (c.old 3 rfl).trans rfl
      exact Rg.goalR_val hw (by have ec : ∀ v, a.eval (.const v) = v := fun _ => rfl; generalize a.eval = ρ at ec e3 ⊢; simp [execOp, go_sem, ec, e3]) rfl
    -- 13: slot 28
    refine ⟨fun a w c => ?_, ?_⟩
    · have hw := c.want0 rfl
      have e27 : a.eval (.tmp 27) = _ := c.val 12 _ rfl rfl
      have y0 := (HBX.out w c.below).2.1
      exact Rg.goalR_val hw (by have ec : ∀ v, a.eval (.const v) = v := fun _ => rfl; generalize a.eval = ρ at ec e27 ⊢; simp [execOp, go_sem, ec, e27, y0]) rfl
    -- 14: slot 29
    refine ⟨fun a w c => ?_, ?_⟩
    · have hw := c.want0 rfl
      have e26 : a.eval (.tmp 26) = _ := c.val 11 _ rfl rfl
      have e28 : a.eval (.tmp 28) = _ := c.val 13 _ rfl rfl
      exact Rg.goalR_fn hw rfl (by simp only [List.map_toArray, List.map_cons, List.map_nil, e26, e28]) (by kernel_rfl) ((@cmpM2_any w (rx : Int) (ry : Int)).mono fun e w' ⟨he, hw'⟩ => ⟨_, he, Rg.outR_val rfl (by rw [hw']; exact Gr.refl _)⟩)
    -- 15: slot 30
    refine ⟨fun a w c => ?_, ?_⟩
    · have hw := c.want0 rfl
      have e19 : a.eval (.tmp 19) = _ := c.val 4 _ rfl rfl
      have e24 : a.eval (.tmp 24) = _ := c.val 9 _ rfl rfl
      have e29 : a.eval (.tmp 29) = _ := c.val 14 _ rfl rfl
      refine Rg.goalR_run (v := .slice (some ⟨w.heap.size, 0, none⟩) 3 3) (w' := w.alloc (.cells #[.int .i64 cv, .int .i64 (cmJ sq2 sq1), .int .i64 (cmJ rx ry)] 3)) hw ?_ (Rg.outR_rel rfl ⟨w.heap.size, rfl, (by rw [cell_of (heap_alloc_new w _)]; rfl), (by rw [cell_of (heap_alloc_new w _)]; rfl), (by rw [cell_of (heap_alloc_new w _)]; rfl)⟩ ((Gr.refl w).alloc _))
      have ec : ∀ v, a.eval (.const v) = v := fun _ => rfl
      generalize a.eval = ρ at ec e19 e24 e29 ⊢
      simp [execOp, go_sem, ec, e19, e24, e29]
    -- 16: slot 31
    refine ⟨fun a w c => ?_, ?_⟩
    · have hw := c.want0 rfl
      obtain ⟨b, e30, z0, z1, z2⟩ := c.rel 15 _ rfl rfl
      replace e30 : a.eval (.tmp 30) = _ := e30
      exact Rg.goalR_fn hw rfl (by simp only [List.map_toArray, List.map_cons, List.map_nil, e30]) (by kernel_rfl) ((or3_t z0 z1 z2).mono fun e w' ⟨he, hw'⟩ => ⟨_, he, Rg.outR_val rfl (by rw [hw']; exact Gr.refl _)⟩)
    -- 17: slot 4
    refine ⟨fun a w c => ?_, ?_⟩
    · exact Rg.goalR_move (c.want0 rfl) (.tmp 31) (.inr rfl) (c.val 16 _ rfl rfl) rfl
    exact True.intro
  · have HG := HG0.out (.cells #[.slice (some ⟨b1, o1, none⟩) (n1 + 1) cx, .int .i64 rx] 70) (.cells #[.slice (some ⟨b2, o2, none⟩) (n2 + 1) cy, .int .i64 ry] 70) (.cells #[.slice ka2 kl2 kc2, .int .i64 sq2, .bool gn2, .int .i64 tl2, .slice va2 vl2 vc2] 35) (.cells #[.slice ka1 kl1 kc1, .int .i64 sq1, .bool gn1, .int .i64 tl1, .slice va1 vl1 vc1] 35)
    have HBX0 := hmB w (.slice (some ⟨b1, o1, none⟩) (n1 + 1) cx) (.slice (some ⟨b2, o2, none⟩) (n2 + 1) cy) (rx : Int) (ry : Int) (.slice ka2 kl2 kc2) sq2 (.bool gn2) (.int .i64 tl2) (.slice va2 vl2 vc2) (.slice ka1 kl1 kc1) sq1 (.bool gn1) (.int .i64 tl1) (.slice va1 vl1 vc1)
    generalize hW : (((((w.alloc (.cells #[.slice (some ⟨b1, o1, none⟩) (n1 + 1) cx, .int .i64 rx] 70)).alloc (.cells #[.slice (some ⟨b2, o2, none⟩) (n2 + 1) cy, .int .i64 ry] 70)).alloc (.cells #[.slice ka2 kl2 kc2, .int .i64 sq2, .bool gn2, .int .i64 tl2, .slice va2 vl2 vc2] 35)).alloc (.cells #[.slice ka1 kl1 kc1, .int .i64 sq1, .bool gn1, .int .i64 tl1, .slice va1 vl1 vc1] 35)).drew) = W at HG HBX0 ⊢
    have HBX : Hid (∀ wx, Gr W wx → wx.cell? ⟨w.heap.size, 1, none⟩ = some (.int .i64 rx) ∧ wx.cell? ⟨w.heap.size + 1, 1, none⟩ = some (.int .i64 ry) ∧ wx.cell? ⟨w.heap.size + 1 + 1 + 1, 0, none⟩ = some (.slice ka1 kl1 kc1) ∧ wx.cell? ⟨w.heap.size + 1 + 1 + 1, 1, none⟩ = some (.int .i64 sq1) ∧ wx.cell? ⟨w.heap.size + 1 + 1, 0, none⟩ = some (.slice ka2 kl2 kc2) ∧ wx.cell? ⟨w.heap.size + 1 + 1, 1, none⟩ = some (.int .i64 sq2)) := fun wx hx => ⟨cell_later hx.below HBX0.1, cell_later hx.below HBX0.2.1, cell_later hx.below HBX0.2.2.2.2.1, cell_later hx.below HBX0.2.2.2.2.2, cell_later hx.below HBX0.2.2.1, cell_later hx.below HBX0.2.2.2.1⟩
    clear hW HBX0 HG0
    refine Rg.wp_region_rel (by kernel_rfl) (by decide +kernel) 32 rfl (by decide +kernel) (kHc ka1 ka2 kc1 kc2 kl1 kl2 w.heap.size (w.heap.size + 1 + 1 + 1) (w.heap.size + 1 + 1) cv sq1 sq2 rx ry) (fun k hk => kHc_stays _ _ _ _ _ _ _ _ _ _ _ _ _ _ k hk) ?_ ?_
    rotate_left
    · intro a w' hd' hbel hv
      rename_i hk
      refine hk a w' ?_
      have h8 : a.eval (.tmp 4) = .int .i64 (or3 cv (cmJ sq2 sq1) (cmJ rx ry)) := hv 17 _ (by decide) rfl
      have h8' : a.tmps[4]?.getD undef = .int .i64 (or3 cv (cmJ sq2 sq1) (cmJ rx ry)) := by simpa [Act.eval] using h8
      go_wp2
      exact bodyPost_ret (v := .int .i64 (or3 cv (cmJ sq2 sq1) (cmJ rx ry))) (by simp [results, Try.results37, go_sem, h8']) hd' ⟨rfl, Gr.trans HG hbel⟩
    -- 0: slot 15
    refine ⟨fun a w c => ?_, ?_⟩
    · have hw := c.want0 rfl
      have e5 : a.eval (.tmp 5) = _ := (c.old 5 rfl).trans rfl
      exact Rg.goalR_val hw (by have ec : ∀ v, a.eval (.const v) = v := fun _ => rfl; generalize a.eval = ρ at ec e5 ⊢; simp [execOp, go_sem, ec, e5]) rfl
    -- 1: slot 16
    refine ⟨fun a w c => ?_, ?_⟩
    · have hw := c.want0 rfl
      have e15 : a.eval (.tmp 15) = _ := c.val 0 _ rfl rfl
      have y0 := (HBX.out w c.below).2.2.1
      exact Rg.goalR_val hw (by have ec : ∀ v, a.eval (.const v) = v := fun _ => rfl; generalize a.eval = ρ at ec e15 ⊢; simp [execOp, go_sem, ec, e15, y0]) rfl
    -- 2: slot 17
    refine ⟨fun a w c => ?_, ?_⟩
    · have hw := c.want0 rfl
      have e6 : a.eval (.tmp 6) = _ := (c.old 6 rfl).trans rfl
      exact Rg.goalR_val hw (by have ec : ∀ v, a.eval (.const v) = v := fun _ => rfl; generalize a.eval = ρ at ec e6 ⊢; simp [execOp, go_sem, ec, e6]) rfl
    -- 3: slot 18
    refine ⟨fun a w c => ?_, ?_⟩
    · have hw := c.want0 rfl
      have e17 : a.eval (.tmp 17) = _ := c.val 2 _ rfl rfl
      have y0 := (HBX.out w c.below).2.2.2.2.1
      exact Rg.goalR_val hw (by have ec : ∀ v, a.eval (.const v) = v := fun _ => rfl; generalize a.eval = ρ at ec e17 ⊢; simp [execOp, go_sem, ec, e17, y0]) rfl
    -- 4: slot 19
    refine ⟨fun a w c => ?_, ?_⟩
    · have hw := c.want0 rfl
      have e16 : a.eval (.tmp 16) = _ := c.val 1 _ rfl rfl
      have e18 : a.eval (.tmp 18) = _ := c.val 3 _ rfl rfl
      exact Rg.goalR_fn hw rfl (by simp only [List.map_toArray, List.map_cons, List.map_nil, e16, e18]) (by kernel_rfl) ((HC.out w (HG.trans c.below)).mono fun e w' ⟨he, hw'⟩ => ⟨_, he, Rg.outR_val rfl (by rw [hw']; exact Gr.refl _)⟩)
    -- 5: slot 20
    refine ⟨fun a w c => ?_, ?_⟩
    · have hw := c.want0 rfl
      have e6 : a.eval (.tmp 6) = _ := (c.old 6 rfl).trans rfl
      exact Rg.goalR_val hw (by have ec : ∀ v, a.eval (.const v) = v := fun _ => rfl; generalize a.eval = ρ at ec e6 ⊢; simp [execOp, go_sem, ec, e6]) rfl
    -- 6: slot 21
    refine ⟨fun a w c => ?_, ?_⟩
    · have hw := c.want0 rfl
      have e20 : a.eval (.tmp 20) = _ := c.val 5 _ rfl rfl
      have y0 := (HBX.out w c.below).2.2.2.2.2
      exact Rg.goalR_val hw (by have ec : ∀ v, a.eval (.const v) = v := fun _ => rfl; generalize a.eval = ρ at ec e20 ⊢; simp [execOp, go_sem, ec, e20, y0]) rfl
    -- 7: slot 22
    refine ⟨fun a w c => ?_, ?_⟩
    · have hw := c.want0 rfl
      have e5 : a.eval (.tmp 5) = _ := (c.old 5 rfl).trans rfl
      exact Rg.goalR_val hw (by have ec : ∀ v, a.eval (.const v) = v := fun _ => rfl; generalize a.eval = ρ at ec e5 ⊢; simp [execOp, go_sem, ec, e5]) rfl
    -- 8: slot 23
    refine ⟨fun a w c => ?_, ?_⟩
    · have hw := c.want0 rfl
      have e22 : a.eval (.tmp 22) = _ := c.val 7 _ rfl rfl
      have y0 := (HBX.out w c.below).2.2.2.1
      exact Rg.goalR_val hw (by have ec : ∀ v, a.eval (.const v) = v := fun _ => rfl; generalize a.eval = ρ at ec e22 ⊢; simp [execOp, go_sem, ec, e22, y0]) rfl
    -- 9: slot 24
    refine ⟨fun a w c => ?_, ?_⟩
    · have hw := c.want0 rfl
      have e21 : a.eval (.tmp 21) = _ := c.val 6 _ rfl rfl
      have e23 : a.eval (.tmp 23) = _ := c.val 8 _ rfl rfl
      exact Rg.goalR_fn hw rfl (by simp only [List.map_toArray, List.map_cons, List.map_nil, e21, e23]) (by kernel_rfl) ((@cmpM_any w sq2 sq1).mono fun e w' ⟨he, hw'⟩ => ⟨_, he, Rg.outR_val rfl (by rw [hw']; exact Gr.refl _)⟩)
    -- 10: slot 25
    refine ⟨fun a w c => ?_, ?_⟩
    · have hw := c.want0 rfl
      have e2 : a.eval (.tmp 2) = _ := (c.old 2 rfl).trans rfl
      exact Rg.goalR_val hw (by have ec : ∀ v, a.eval (.const v) = v := fun _ => rfl; generalize a.eval = ρ at ec e2 ⊢; simp [execOp, go_sem, ec, e2]) rfl
    -- 11: slot 26
    refine ⟨fun a w c => ?_, ?_⟩
    · have hw := c.want0 rfl
      have e25 : a.eval (.tmp 25) = _ := c.val 10 _ rfl rfl
      have y0 := (HBX.out w c.below).1
      exact Rg.goalR_val hw (by have ec : ∀ v, a.eval (.const v) = v := fun _ => rfl; generalize a.eval = ρ at ec e25 ⊢; simp [execOp, go_sem, ec, e25, y0]) rfl
    -- 12: slot 27
    refine ⟨fun a w c => ?_, ?_⟩
    · have hw := c.want0 rfl
      have e3 : a.eval (.tmp 3) = _ := (c.old 3 rfl).trans rfl
      exact Rg.goalR_val hw (by have ec : ∀ v, a.eval (.const v) = v := fun _ => rfl; generalize a.eval = ρ at ec e3 ⊢; simp [execOp, go_sem, ec, e3]) rfl
    -- 13: slot 28
    refine ⟨fun a w c => ?_, ?_⟩
    · have hw := c.want0 rfl
      have e27 : a.eval (.tmp 27) = _ := c.val 12 _ rfl rfl
      have y0 := (HBX.out w c.below).2.1
      exact Rg.goalR_val hw (by have ec : ∀ v, a.eval (.const v) = v := fun _ => rfl; generalize a.eval = ρ at ec e27 ⊢; simp [execOp, go_sem, ec, e27, y0]) rfl
    -- 14: slot 29
    refine ⟨fun a w c => ?_, ?_⟩
    · have hw := c.want0 rfl
      have e26 : a.eval (.tmp 26) = _ := c.val 11 _ rfl rfl
      have e28 : a.eval (.tmp 28) = _ := c.val 13 _ rfl rfl
      exact Rg.goalR_fn hw rfl (by simp only [List.map_toArray, List.map_cons, List.map_nil, e26, e28]) (by kernel_rfl) ((@cmpM2_any w (rx : Int) (ry : Int)).mono fun e w' ⟨he, hw'⟩ => ⟨_, he, Rg.outR_val rfl (by rw [hw']; exact Gr.refl _)⟩)
    -- 15: slot 30
    refine ⟨fun a w c => ?_, ?_⟩
    · have hw := c.want0 rfl
      have e19 : a.eval (.tmp 19) = _ := c.val 4 _ rfl rfl
      have e24 : a.eval (.tmp 24) = _ := c.val 9 _ rfl rfl
      have e29 : a.eval (.tmp 29) = _ := c.val 14 _ rfl rfl
      refine Rg.goalR_run (v := .slice (some ⟨w.heap.size, 0, none⟩) 3 3) (w' := w.alloc (.cells #[.int .i64 cv, .int .i64 (cmJ sq2 sq1), .int .i64 (cmJ rx ry)] 3)) hw ?_ (Rg.outR_rel rfl ⟨w.heap.size, rfl, (by rw [cell_of (heap_alloc_new w _)]; rfl), (by rw [cell_of (heap_alloc_new w _)]; rfl), (by rw [cell_of (heap_alloc_new w _)]; rfl)⟩ ((Gr.refl w).alloc _))
      have ec : ∀ v, a.eval (.const v) = v := fun _ => rfl
      generalize a.eval = ρ at ec e19 e24 e29 ⊢
      simp [execOp, go_sem, ec, e19, e24, e29]
    -- 16: slot 31
    refine ⟨fun a w c => ?_, ?_⟩
    · have hw := c.want0 rfl
      obtain ⟨b, e30, z0, z1, z2⟩ := c.rel 15 _ rfl rfl
      replace e30 : a.eval (.tmp 30) = _ := e30
      exact Rg.goalR_fn hw rfl (by simp only [List.map_toArray, List.map_cons, List.map_nil, e30]) (by kernel_rfl) ((or3_t z0 z1 z2).mono fun e w' ⟨he, hw'⟩ => ⟨_, he, Rg.outR_val rfl (by rw [hw']; exact Gr.refl _)⟩)
    -- 17: slot 4
    refine ⟨fun a w c => ?_, ?_⟩
    · exact Rg.goalR_move (c.want0 rfl) (.tmp 31) (.inr rfl) (c.val 16 _ rfl rfl) rfl
    exact True.intro

end Go.Proofs.Ytnoackenjfpcmaa

/- The library contract that the program leans on (slices.SortFunc), laid over this dump by the kit's own command, in plain words. -/
namespace Go.Proofs
open Go.Shelf
def Try.laysSortFunc_ren : Go.Shelf.Ren := ⟨fun | 6 => 36 | 15 => 39 | 14 => 38 | 28 => 51 | 29 => 52 | 20 => 43 | 21 => 44 | 22 => 45 | 23 => 46 | 24 => 47 | 25 => 48 | 26 => 49 | 27 => 50 | 46 => 55 | 47 => 56 | 48 => 57 | 49 => 58 | 50 => 59 | 57 => 60 | n => n, fun | 22 => 66 | 24 => 70 | 25 => 74 | 3 => 3 | 39 => 32 | 0 => 0 | 53 => 89 | 55 => 54 | 4 => 4 | 46 => 82 | 45 => 81 | 50 => 86 | 5 => 5 | 9 => 9 | 66 => 92 | 70 => 96 | 76 => 98 | 77 => 99 | n => n, fun | n => n⟩
theorem Try.laysSortFunc : Go.Proofs.SlLaysF0.n6 Try.prog Try.laysSortFunc_ren := {
  mixed := by kernel_rfl
  f6 := ⟨Try.f36.name, by decide, Try.func36.trans (congrArg some (by kernel_rfl))⟩
  f14 := ⟨Try.f38.name, by decide, Try.func38.trans (congrArg some (by kernel_rfl))⟩
  f15 := Try.func39.trans (congrArg some (by kernel_rfl))
  f20 := ⟨Try.f43.name, by decide, Try.func43.trans (congrArg some (by kernel_rfl))⟩
  f21 := ⟨Try.f44.name, by decide, Try.func44.trans (congrArg some (by kernel_rfl))⟩
  f22 := ⟨Try.f45.name, by decide, Try.func45.trans (congrArg some (by kernel_rfl))⟩
  f23 := ⟨Try.f46.name, by decide, Try.func46.trans (congrArg some (by kernel_rfl))⟩
  f24 := ⟨Try.f47.name, by decide, Try.func47.trans (congrArg some (by kernel_rfl))⟩
  f25 := ⟨Try.f48.name, by decide, Try.func48.trans (congrArg some (by kernel_rfl))⟩
  f26 := ⟨Try.f49.name, by decide, Try.func49.trans (congrArg some (by kernel_rfl))⟩
  f27 := ⟨Try.f50.name, by decide, Try.func50.trans (congrArg some (by kernel_rfl))⟩
  f28 := Try.func51.trans (congrArg some (by kernel_rfl))
  f29 := Try.func52.trans (congrArg some (by kernel_rfl))
  f46 := ⟨Try.f55.name, by decide, Try.func55.trans (congrArg some (by kernel_rfl))⟩
  f47 := Try.func56.trans (congrArg some (by kernel_rfl))
  f48 := Try.func57.trans (congrArg some (by kernel_rfl))
  f49 := ⟨Try.f58.name, by decide, Try.func58.trans (congrArg some (by kernel_rfl))⟩
  f50 := ⟨Try.f59.name, by decide, Try.func59.trans (congrArg some (by kernel_rfl))⟩
  f57 := ⟨Try.f60.name, by decide, Try.func60.trans (congrArg some (by kernel_rfl))⟩
  t0 := Try.underlying0
  a0 := Try.isAgg0
  z0 := Try.sizeOf0
  v0 := Try.zeroValue0
  t3 := Try.underlying3
  a3 := Try.isAgg3
  z3 := Try.sizeOf3
  v3 := Try.zeroValue3
  t4 := Try.underlying4
  a4 := Try.isAgg4
  z4 := Try.sizeOf4
  v4 := Try.zeroValue4
  t5 := Try.underlying5
  a5 := Try.isAgg5
  z5 := Try.sizeOf5
  v5 := Try.zeroValue5
  t9 := Try.underlying9
  a9 := Try.isAgg9
  z9 := Try.sizeOf9
  v9 := Try.zeroValue9
  t22 := Try.underlying66
  a22 := Try.isAgg66
  z22 := Try.sizeOf66
  v22 := Try.zeroValue66
  t25 := Try.underlying74
  a25 := Try.isAgg74
  z25 := Try.sizeOf74
  v25 := Try.zeroValue74
  t39 := Try.underlying32
  a39 := Try.isAgg32
  z39 := Try.sizeOf32
  v39 := Try.zeroValue32
  t45 := Try.underlying81
  a45 := Try.isAgg81
  z45 := Try.sizeOf81
  v45 := Try.zeroValue81
  t46 := Try.underlying82
  a46 := Try.isAgg82
  z46 := Try.sizeOf82
  v46 := Try.zeroValue82
  t50 := Try.underlying86
  a50 := Try.isAgg86
  z50 := Try.sizeOf86
  v50 := Try.zeroValue86
  t53 := Try.underlying89
  a53 := Try.isAgg89
  z53 := Try.sizeOf89
  v53 := Try.zeroValue89
  t55 := Try.underlying54
  a55 := Try.isAgg54
  z55 := Try.sizeOf54
  v55 := Try.zeroValue54
  t66 := Try.underlying92
  a66 := Try.isAgg92
  z66 := Try.sizeOf92
  v66 := Try.zeroValue92
  t70 := Try.underlying96
  a70 := Try.isAgg96
  z70 := Try.sizeOf96
  v70 := Try.zeroValue96
  t76 := Try.underlying98
  a76 := Try.isAgg98
  z76 := Try.sizeOf98
  v76 := Try.zeroValue98
  t77 := Try.underlying99
  a77 := Try.isAgg99
  z77 := Try.sizeOf99
  v77 := Try.zeroValue99 }
end Go.Proofs
