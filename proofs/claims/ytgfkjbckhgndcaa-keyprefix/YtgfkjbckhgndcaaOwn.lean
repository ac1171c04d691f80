/- A region that draws its order, whose operations yield known values or rows of their own: what each does is told once, whatever the order. -/
import Derived.Test.YtgfkjbckhgndcaaInv
import Derived.Test.YtgfkjbckhgndcaaPut
namespace Go.Proofs.Ytgfkjbckhgndcaa
open Go.RowKit

/-- Every edge that binds leads backwards: by reckoning. -/
def lowB (ops : Array Oper) : Bool := (List.range ops.size).all fun i => match ops[i]? with
  | some o => o.after.all fun e => !Region.binds .any e || decide (e.on < i)
  | none => true

theorem lowB_spec {ops : Array Oper} (h : lowB ops = true) : ∀ (i : Nat) o, ops[i]? = some o → ∀ e ∈ o.after, Region.binds .any e = true → e.on < i := by
  intro i o ho e he hb
  have hi : i < ops.size := by
    rcases Nat.lt_or_ge i ops.size with k | k
    · exact k
    · simp [k] at ho
  unfold lowB at h
  have h1 := List.all_eq_true.1 h i (List.mem_range.2 hi)
  rw [ho] at h1
  have h2 := (Array.all_eq_true_iff_forall_mem.1 h1) e he
  rw [hb] at h2
  simpa using h2

/-- The places that the operations write: one each, unlike one another, within the frame. -/
def dstOf (ops : Array Oper) (i : Nat) : Nat := ((ops[i]?).bind (·.dst)).getD 0
def dstB (ops : Array Oper) (n : Nat) : Bool := (ops.toList.all fun o => o.dst.isSome) && decide (((List.range ops.size).map (dstOf ops)).Nodup) && ((List.range ops.size).all fun i => decide (dstOf ops i < n))
theorem dstB_spec {ops : Array Oper} {n : Nat} (h : dstB ops n = true) : (∀ i o, ops[i]? = some o → o.dst = some (dstOf ops i)) ∧ (∀ i j, i < ops.size → j < ops.size → i ≠ j → dstOf ops i ≠ dstOf ops j) ∧ (∀ i, i < ops.size → dstOf ops i < n) := by
  unfold dstB at h
  simp only [Bool.and_eq_true, decide_eq_true_eq, List.all_eq_true, List.mem_range] at h
  obtain ⟨⟨h1, h2⟩, h3⟩ := h
  refine ⟨fun i o ho => ?_, fun i j hi hj hne e => ?_, h3⟩
  · have hm : o ∈ ops.toList := by
      have := Array.getElem?_eq_some_iff.1 ho
      obtain ⟨hi, e⟩ := this
      rw [← e]
      exact Array.getElem_mem_toList hi
    have := h1 o hm
    unfold dstOf
    rw [ho]
    cases hd : o.dst with
    | none => rw [hd] at this; cases this
    | some d => simp [hd]
  · have hi' : i < ((List.range ops.size).map (dstOf ops)).length := by simpa using hi
    have hj' : j < ((List.range ops.size).map (dstOf ops)).length := by simpa using hj
    have := (List.getElem_inj (h₀ := hi') (h₁ := hj') h2).1 (by simpa using e)
    exact hne this

/-- What an operation yields: a known value; or what is its own memory, till another takes it over. -/
inductive Kind where
  | val (v : Value)
  | own (r : World → Value → Prop) (used : Option Nat)

def Keeps (B : Nat) (r : World → Value → Prop) : Prop :=
  (∀ (w w' : World) (g : Option Nat) (v : Value), r w v → w.grownBy w' g → (v.ownBlock = none ∨ v.ownBlock ≠ g) → r w' v) ∧ (∀ (w : World) (v : Value) (k : Nat), r w v → v.ownBlock = some k → B ≤ k ∧ k < w.heap.size)

theorem keeps_row (B : Nat) (xs : List Int) : Keeps B (fun w v => Row B w v xs) :=
  ⟨fun _ _ _ _ h hg hne => World.ownsRow.kept h hg hne, fun _ _ k h hk => World.ownsRow.lt h k hk⟩

def slot (ops : Array Oper) (a : Act) (i : Nat) : Value := a.eval (.tmp (dstOf ops i))

def Live (L : Nat → Bool) (u : Option Nat) : Prop := ∀ j, u = some j → L j = false

structure Mid (W : World) (A : Act) (ops : Array Oper) (K : Nat → Kind) (L : Nat → Bool) (a : Act) (w : World) : Prop where
  below : Below W.heap.size W w
  defers : a.defers = A.defers
  size : a.tmps.size = A.tmps.size
  old : ∀ s, (∀ i, i < ops.size → dstOf ops i ≠ s) → a.eval (.tmp s) = A.eval (.tmp s)
  vals : ∀ i v, i < ops.size → L i = true → K i = .val v → slot ops a i = v
  rows : ∀ i r u, i < ops.size → L i = true → K i = .own r u → Live L u → r w (slot ops a i)
  apart : ∀ i j r u r' u', i < ops.size → j < ops.size → i ≠ j → L i = true → L j = true → K i = .own r u → K j = .own r' u' → Live L u → Live L u' → (slot ops a i).ownBlock = none ∨ (slot ops a i).ownBlock ≠ (slot ops a j).ownBlock

/-- What operation i may do, in the state a, w: value v, world w'. -/
def Out (ops : Array Oper) (K : Nat → Kind) (i : Nat) (a : Act) (w : World) (v : Value) (w' : World) : Prop :=
  (K i = .val v ∧ w.grownBy w' none) ∨
  (∃ r u, K i = .own r u ∧ r w' v ∧ ((w.grownBy w' none ∧ ∀ k, v.ownBlock = some k → w.heap.size ≤ k) ∨ ∃ j rj, j < i ∧ K j = .own rj (some i) ∧ rj w (slot ops a j) ∧ w.grownBy w' (slot ops a j).ownBlock ∧ Moved w (slot ops a j) v))

theorem eval_put_same {a : Act} {d : Nat} {v : Value} (h : d < a.tmps.size) : (a.put (some d) v).eval (.tmp d) = v := by
  simp [Act.put, Act.eval, h]
theorem eval_put_other {a : Act} {d s : Nat} {v : Value} (h : d ≠ s) : (a.put (some d) v).eval (.tmp s) = a.eval (.tmp s) := by
  simp [Act.put, Act.eval, h]

theorem grown_weak {w w' : World} {g : Option Nat} (h : w.grownBy w' none) : w.grownBy w' g := ⟨h.os, h.tape, h.output, h.size, fun k hk _ => h.block k hk (by simp)⟩

theorem mid_step {W : World} {A : Act} {ops : Array Oper} {K : Nat → Kind} {L : Nat → Bool} {a : Act} {w : World} (hK : ∀ i r u, K i = .own r u → Keeps W.heap.size r ∧ ∀ j, u = some j → j < ops.size) (hd : dstB ops A.tmps.size = true)
    (h : Mid W A ops K L a w) {i : Nat} {o : Oper} (ho : ops[i]? = some o) (hi : L i = false) (hup : ∀ j rj, j < i → K j = .own rj (some i) → L j = true) {v : Value} {w' : World} (hout : Out ops K i a w v w') :
    Mid W A ops K (fun j => if j = i then true else L j) (a.put o.dst v) w' := by
  obtain ⟨d1, d2, d3⟩ := dstB_spec hd
  have his : i < ops.size := by
    rcases Nat.lt_or_ge i ops.size with k | k
    · exact k
    · simp [k] at ho
  rw [d1 i o ho]
  have ha : dstOf ops i < a.tmps.size := by rw [h.size]; exact d3 i his
  have hsi : slot ops (a.put (some (dstOf ops i)) v) i = v := eval_put_same ha
  have hso : ∀ j, j < ops.size → j ≠ i → slot ops (a.put (some (dstOf ops i)) v) j = slot ops a j := fun j hj hne => eval_put_other (d2 i j his hj (Ne.symm hne))
  have hlive : ∀ u, Live (fun j => if j = i then true else L j) u → Live L u ∧ u ≠ some i := fun u hu => by
    refine ⟨fun j hj => ?_, fun e => ?_⟩
    · have := hu j hj
      by_cases e : j = i
      · subst e; exact hi
      · simpa [e] using this
    · have := hu i e
      simp at this
  -- what the step does to the rows of the others
  have hkeep : ∀ j r u, j < ops.size → j ≠ i → L j = true → K j = .own r u → Live L u → u ≠ some i → r w' (slot ops a j) ∧ (∀ rr uu, K i = .own rr uu → (slot ops a j).ownBlock = none ∨ (slot ops a j).ownBlock ≠ v.ownBlock) := by
    intro j r u hj hne hL hKj hu hui
    have hr := h.rows j r u hj hL hKj hu
    rcases hout with ⟨_, hg⟩ | ⟨rr, uu, hKi, hrv, ⟨hg, hnew⟩ | ⟨m, rm, hm, hKm, hrm, hg, hmv⟩⟩
    · exact ⟨(hK j r u hKj).1.1 _ _ none _ hr hg (by cases hh : (slot ops a j).ownBlock <;> simp), fun rr uu e => by rename_i hv; rw [hv] at e; cases e⟩
    · refine ⟨(hK j r u hKj).1.1 _ _ none _ hr hg (by cases hh : (slot ops a j).ownBlock <;> simp), fun _ _ _ => ?_⟩
      cases hh : (slot ops a j).ownBlock with
      | none => exact .inl rfl
      | some k =>
        right
        intro e
        have h1 := (hK j r u hKj).1.2 _ _ _ hr hh
        have h2 := hnew k e.symm
        omega
    · have hjm : j ≠ m := fun e => by
        subst e
        rw [hKj] at hKm
        cases hKm
        exact hui rfl
      have hml : m < ops.size := by omega
      have hap := h.apart j m r u rm (some i) hj hml hjm hL (hup m rm hm hKm) hKj hKm hu (fun q hq => by cases hq; exact hi)
      refine ⟨(hK j r u hKj).1.1 _ _ _ _ hr hg hap, fun _ _ _ => ?_⟩
      rcases hap with e | e
      · exact .inl e
      · rcases hmv with q | ⟨g, q, hg'⟩
        · rw [q]; exact .inr e
        · cases hh : (slot ops a j).ownBlock with
          | none => exact .inl rfl
          | some k =>
            right
            rw [q]
            intro e'
            cases e'
            have h1 := (hK j r u hKj).1.2 _ _ _ hr hh
            omega
  refine ⟨?_, h.defers, by simp [Act.put, h.size], fun s hs => ?_, fun j u hj hL hKj => ?_, fun j r u hj hL hKj hu => ?_, fun j m r u r' u' hj hm hne hLj hLm hKj hKm hu hu' => ?_⟩
  · rcases hout with ⟨_, hg⟩ | ⟨rr, uu, hKi, hrv, ⟨hg, hnew⟩ | ⟨m, rm, hm, hKm, hrm, hg, hmv⟩⟩
    · exact Below.grown h.below hg h.below.size (fun k hk => by cases hk)
    · exact Below.grown h.below hg h.below.size (fun k hk => by cases hk)
    · exact Below.grown h.below hg h.below.size (fun k hk => ((hK m rm _ hKm).1.2 _ _ _ hrm hk).1)
  · rw [eval_put_other (hs i his)]
    exact h.old s hs
  · by_cases e : j = i
    · subst e
      rw [hsi]
      rcases hout with ⟨hv, _⟩ | ⟨rr, uu, hKi, _⟩
      · rw [hv] at hKj; cases hKj; rfl
      · rw [hKi] at hKj; cases hKj
    · rw [hso j hj e]
      exact h.vals j u hj (by simpa [e] using hL) hKj
  · by_cases e : j = i
    · subst e
      rw [hsi]
      rcases hout with ⟨hv, _⟩ | ⟨rr, uu, hKi, hrv, _⟩
      · rw [hv] at hKj; cases hKj
      · rw [hKi] at hKj; cases hKj; exact hrv
    · rw [hso j hj e]
      exact (hkeep j r u hj e (by simpa [e] using hL) hKj (hlive u hu).1 (hlive u hu).2).1
  · by_cases e : j = i
    · subst e
      have em : m ≠ j := Ne.symm hne
      rw [hsi, hso m hm em]
      rcases (hkeep m r' u' hm em (by simpa [em] using hLm) hKm (hlive u' hu').1 (hlive u' hu').2).2 r u hKj with q | q
      · cases hv : v.ownBlock with
        | none => exact .inl rfl
        | some k => rw [q]; exact .inr (by simp)
      · exact .inr (Ne.symm q)
    · rw [hso j hj e]
      by_cases em : m = i
      · subst em
        rw [hsi]
        exact (hkeep j r u hj e (by simpa [e] using hLj) hKj (hlive u hu).1 (hlive u hu).2).2 r' u' hKm
      · rw [hso m hm em]
        exact h.apart j m r u r' u' hj hm hne (by simpa [e] using hLj) (by simpa [em] using hLm) hKj hKm (hlive u hu).1 (hlive u' hu').1

/-- THE REGION: each operation by itself. -/
theorem wp_region_own {P : Program} {id : Nat} {Q : Exit → Act → World → Prop} {A : Act} {W : World} {ops : Array Oper} (hm : P.follows .mixedOrders = true) (hl : lowB ops = true) (hd : dstB ops A.tmps.size = true)
    (K : Nat → Kind) (hK : ∀ i r u, K i = .own r u → Keeps W.heap.size r ∧ ∀ j, u = some j → j < ops.size)
    (hup : ∀ i o, ops[i]? = some o → ∀ j rj, j < i → K j = .own rj (some i) → ∃ e ∈ o.after, Region.binds .any e = true ∧ e.on = j)
    (hstep : ∀ (i : Nat) (o : Oper) (L : Nat → Bool) (a : Act) (w : World), ops[i]? = some o → Mid W A ops K L a w → L i = false → (∀ e ∈ o.after, Region.binds .any e = true → L e.on = true) →
      (Region.wanted o (yielded ops a.tmps) = true ∧ ∀ Kk : Act → World → Prop, (∀ v w', Out ops K i a w v w' → Kk (a.put o.dst v) w') → o.wp P a w Kk Q) ∨ (Region.wanted o (yielded ops a.tmps) = false ∧ K i = .val undef))
    (hend : ∀ (a : Act) (w : World), Mid W A ops K (fun _ => true) a w → Q .normal a w) :
    (Code.region id ops true).wp P Q A W := by
  refine wp_region_inv hm (lowB_spec hl) (fun A L a w => Mid W A ops K L a w) ?_ ?_ ?_
  · exact ⟨(Below.refl _ _).drew, rfl, rfl, fun _ _ => rfl, (fun _ _ _ h => by cases h), (fun _ _ _ _ h => by cases h), (fun _ _ _ _ _ _ _ _ _ h => by cases h)⟩
  · intro L a w i o hM ho hi hafter Kk hKk
    have hup' : ∀ j rj, j < i → K j = .own rj (some i) → L j = true := fun j rj hj hKj => by
      obtain ⟨e, he, hb, rfl⟩ := hup i o ho j rj hj hKj
      exact hafter e he hb
    rcases hstep i o L a w ho hM hi hafter with ⟨hw, hs⟩ | ⟨hw, hv⟩
    · rw [if_pos hw]
      exact hs Kk fun v w' hout => hKk _ _ (mid_step hK hd hM ho hi hup' hout)
    · rw [if_neg (by rw [hw]; exact Bool.false_ne_true)]
      exact hKk _ _ (mid_step hK hd hM ho hi hup' (.inl ⟨hv, grow_refl _ _⟩))
  · intro L a w hM hall
    refine hend a w ⟨hM.below, hM.defers, hM.size, hM.old, fun i v hi _ => hM.vals i v hi (hall i hi), fun i r u hi _ hKi hu => ?_, fun i j r u r' u' hi hj hne _ _ hKi hKj hu hu' => ?_⟩
    · exact hM.rows i r u hi (hall i hi) hKi fun j hj => absurd (hu j hj) (by simp)
    · exact hM.apart i j r u r' u' hi hj hne (hall i hi) (hall j hj) hKi hKj (fun k hk => absurd (hu k hk) (by simp)) (fun k hk => absurd (hu' k hk) (by simp))
end Go.Proofs.Ytgfkjbckhgndcaa
