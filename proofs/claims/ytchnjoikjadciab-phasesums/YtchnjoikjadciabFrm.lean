/- The same, the frame told by what its places hold: four loads, four calls, four new blocks and four stores, in whatever order. -/
import Derived.Test.YtchnjoikjadciabCore
namespace Go.Proofs.Ytchnjoikjadciab
open Go.RowKit
set_option linter.unusedVariables false

/-- The twelve places. -/
def dd (n : Nat) : Nat := if n < 8 then 50 + n else n + 6
def Out12 (s : Nat) : Prop := (s < 14 ∨ 17 < s) ∧ (s < 50 ∨ 57 < s)
theorem dd_inj {m n : Nat} (hm : m < 12) (hn : n < 12) (h : dd m = dd n) : m = n := by
  unfold dd at h
  split at h <;> split at h <;> omega
theorem dd_out {n s : Nat} (hn : n < 12) (h : Out12 s) : dd n ≠ s := by
  unfold dd Out12 at *
  split <;> omega
theorem dd_lt {n : Nat} (hn : n < 12) : dd n < 86 := by unfold dd; split <;> omega
theorem ev_same {a : Act} {d : Nat} {v : Value} (h : d < a.tmps.size) : (a.put (some d) v).eval (.tmp d) = v := by simp [Act.put, Act.eval, h]
theorem ev_other {a : Act} {d s : Nat} {v : Value} (h : d ≠ s) : (a.put (some d) v).eval (.tmp s) = a.eval (.tmp s) := by simp [Act.put, Act.eval, h]

structure FI (A : Act) (wc : World) (U V : Nat → Array Value) (L : Nat → Bool) (a : Act) (w : World) : Prop where
  defers : a.defers = A.defers
  size : a.tmps.size = A.tmps.size
  full : A.tmps.size = 86
  old : ∀ s, Out12 s → a.eval (.tmp s) = A.eval (.tmp s)
  core : ∃ G, Core wc U V L (fun n => a.eval (.tmp (dd n))) G w

theorem core_congr {wc : World} {U V : Nat → Array Value} {L : Nat → Bool} {s s' : Nat → Value} {G : Nat → Nat} {w : World} (h : Core wc U V L s G w) (e : ∀ n, n < 12 → s' n = s n) : Core wc U V L s' G w :=
  ⟨h.1, fun j hj hL => by rw [e _ (by omega)]; exact h.2.1 j hj hL, fun j hj hL => by rw [e _ (by omega)]; exact h.2.2.1 j hj hL, fun j hj hL => by rw [e _ (by omega)]; exact h.2.2.2.1 j hj hL, h.2.2.2.2⟩

theorem fi_put {A : Act} {wc : World} {U V : Nat → Array Value} {L L' : Nat → Bool} {a : Act} {w w' : World} {n : Nat} {v : Value} {G : Nat → Nat} (h : FI A wc U V L a w) (hn : n < 12) (hc : Core wc U V L' (upd (fun n => a.eval (.tmp (dd n))) n v) G w') : FI A wc U V L' (a.put (some (dd n)) v) w' := by
  have hs : a.tmps.size = 86 := h.size.trans h.full
  refine ⟨h.defers, by simp [Act.put, h.size], h.full, fun s hs => (ev_other (dd_out hn hs)).trans (h.old s hs), G, core_congr hc fun m hm => ?_⟩
  by_cases e : m = n
  · subst e
    simp only [upd, if_true]
    exact ev_same (by rw [hs]; exact dd_lt hn)
  · simp only [upd, e, if_false]
    exact ev_other fun q => e (dd_inj hm hn q.symm)

section
variable {A : Act} {wc : World} {U V : Nat → Array Value} {L : Nat → Bool} {a : Act} {w : World} {o : Oper} {K : Act → World → Prop} {Q : Exit → Act → World → Prop}
theorem info26 : (Try.prog.info? 26).map (·.size) = some 4 := by kernel_rfl

theorem fi_load (h : FI A wc U V L a w) (j t g : Nat) (hj : j < 4) (ho : o.op = .load 26 (.tmp t)) (hd : o.dst = some (50 + 2 * j)) (ht : Out12 t) (hA : A.eval (.tmp t) = .pointer (some ⟨g, 0, none⟩)) (hg : wc.heap[g]? = some (.cells (U j) 26 (0, 0))) (hU : (U j).size = 4)
    (hK : ∀ a w, FI A wc U V (upd L (2 * j) true) a w → K a w) : o.wp Try.prog a w K Q := by
  obtain ⟨G, hc⟩ := h.core
  refine wp_load_row 26 (.tmp t) ho g ((h.old t ht).trans hA) 26 (U j) (0, 0) _ ((hc.1.block _ (lt_of_heap hg)).trans hg) Try.underlying26 rfl (by rw [hU]; exact info26) ?_
  rw [hd]
  have e : dd (2 * j) = 50 + 2 * j := by unfold dd; rw [if_pos (by omega)]
  rw [← e]
  exact hK _ _ (fi_put h (by omega) (core_load hc j hj))

theorem fi_call (h : FI A wc U V L a w) (j f : Nat) (hj : j < 4) (ts : Array TypeId) (ho : o.op = .call { callee := .value (.func f), args := #[.tmp (50 + 2 * j)], argTypes := ts }) (hd : o.dst = some (51 + 2 * j)) (hL : L (2 * j) = true) (hf : ∀ v, (callFunc f #[v]).run Try.prog w = .ok (.enter f #[v]) w)
    (hcall : Calls Try.prog f #[.agg (U j)] w fun e w' => e = .returned (.agg (V j)) ∧ Below w.heap.size w w')
    (hK : ∀ a w, FI A wc U V (upd L (2 * j + 1) true) a w → K a w) : o.wp Try.prog a w K Q := by
  obtain ⟨G, hc⟩ := h.core
  have e0 : a.eval (.tmp (50 + 2 * j)) = .agg (U j) := by
    have := hc.2.1 j hj hL
    have e : dd (2 * j) = 50 + 2 * j := by unfold dd; rw [if_pos (by omega)]
    simpa only [e] using this
  have hrun : (execOp a.eval o).run Try.prog w = .ok (.enter f #[.agg (U j)]) w := by
    unfold execOp
    rw [ho]
    have e0' : a.tmps[50 + 2 * j]?.getD undef = .agg (U j) := by simpa [Act.eval] using e0
    simp [resolve, invoke, go_sem, e0', hf]
  unfold Oper.wp
  rw [hrun]
  refine hcall.mono ?_
  rintro e w' ⟨rfl, hb⟩
  rw [hd]
  have e : dd (2 * j + 1) = 51 + 2 * j := by unfold dd; rw [if_pos (by omega)]; omega
  rw [← e]
  exact hK _ _ (fi_put h (by omega) (core_call hc j hj hb))

theorem fi_alloc (h : FI A wc U V L a w) (j : Nat) (hj : j < 4) (ho : o.op = .alloc 26) (hd : o.dst = some (14 + j)) (hL : L (8 + j) = false)
    (hK : ∀ a w, FI A wc U V (upd L (8 + j) true) a w → K a w) : o.wp Try.prog a w K Q := by
  obtain ⟨G, hc⟩ := h.core
  have hrun : (execOp a.eval o).run Try.prog w = .ok (.value (.pointer (some ⟨w.heap.size, 0, none⟩))) (w.alloc (.cells (c4 (fun _ => 0) (fun _ => 0)) 26)) := by
    unfold execOp
    rw [ho]
    simp [go_sem]
    rfl
  unfold Oper.wp
  rw [hrun]
  show K (a.put o.dst _) _
  rw [hd]
  have e : dd (8 + j) = 14 + j := by unfold dd; rw [if_neg (by omega)]; omega
  rw [← e]
  exact hK _ _ (fi_put h (by omega) (core_alloc hc j hj hL))

theorem fi_store (h : FI A wc U V L a w) (j : Nat) (hj : j < 4) (ho : o.op = .store 26 (.tmp (14 + j)) (.tmp (51 + 2 * j))) (hd : o.dst = none) (hL : L (8 + j) = true) (hL1 : L (2 * j + 1) = true) (hV : (V j).size = 4) (hV1 : (V j).all (·.oneCell') = true)
    (hK : ∀ a w, FI A wc U V (upd L (12 + j) true) a w → K a w) : o.wp Try.prog a w K Q := by
  obtain ⟨G, hc⟩ := h.core
  obtain ⟨k1, k2, k3⟩ := hc.2.2.2.1 j hj hL
  have e1 : dd (8 + j) = 14 + j := by unfold dd; rw [if_neg (by omega)]; omega
  have e2 : dd (2 * j + 1) = 51 + 2 * j := by unfold dd; rw [if_pos (by omega)]; omega
  have k4 := hc.2.2.1 j hj hL1
  simp only [e1] at k1
  simp only [e2] at k4
  refine wp_store_row 26 (.tmp (14 + j)) (.tmp (51 + 2 * j)) ho (G j) (V j) k1 k4 26 _ k3 (by rw [hV]; exact info26) (by split <;> simp [hV, c4_size]) hV1 ?_
  rw [hd]
  exact hK _ _ ⟨h.defers, h.size, h.full, h.old, G, core_store hc j hj hL⟩
end

theorem wanted_plain {o : Oper} {y : Nat → Option Bool} (h : o.guard = none) {p q : Prop} (hp : p) : if Region.wanted o y = true then p else q := by
  rw [if_pos (by unfold Region.wanted; rw [h])]
  exact hp

theorem act_eq {a b : Act} (hd : a.defers = b.defers) (hs : a.tmps.size = b.tmps.size) (h : ∀ s, s < b.tmps.size → a.eval (.tmp s) = b.eval (.tmp s)) : a = b := by
  obtain ⟨ta, da⟩ := a
  obtain ⟨tb, db⟩ := b
  simp only at hd hs
  subst hd
  have : ta = tb := by
    apply Array.ext hs
    intro i h1 h2
    have := h i h2
    simpa [Act.eval, Array.getD_eq_getD_getElem?, h1, h2] using this
  rw [this]

def puts (A : Act) (s : Nat → Value) : List Nat → Act
  | [] => A
  | n :: l => (puts A s l).put (some (dd n)) (s n)
theorem puts_size (A : Act) (s : Nat → Value) : ∀ l, (puts A s l).tmps.size = A.tmps.size
  | [] => rfl
  | n :: l => by simp [puts, Act.put, puts_size A s l]
theorem puts_defers (A : Act) (s : Nat → Value) : ∀ l, (puts A s l).defers = A.defers
  | [] => rfl
  | n :: l => by simp [puts, Act.put, puts_defers A s l]
theorem puts_out (A : Act) (s : Nat → Value) (t : Nat) : ∀ l, (∀ n ∈ l, dd n ≠ t) → (puts A s l).eval (.tmp t) = A.eval (.tmp t)
  | [], _ => rfl
  | n :: l, h => by
    simp only [puts]
    rw [ev_other (h n (by simp)), puts_out A s t l fun m hm => h m (by simp [hm])]
theorem puts_in (A : Act) (s : Nat → Value) (hA : A.tmps.size = 86) : ∀ l, (∀ n ∈ l, n < 12) → ∀ m ∈ l, (puts A s l).eval (.tmp (dd m)) = s m
  | [], _, m, hm => by cases hm
  | n :: l, h, m, hm => by
    simp only [puts]
    by_cases e : m = n
    · subst e
      exact ev_same (by rw [puts_size, hA]; exact dd_lt (h m (by simp)))
    · have hml : m ∈ l := by
        rcases List.mem_cons.1 hm with q | q
        · exact absurd q e
        · exact q
      rw [ev_other fun q => e (dd_inj (h m hm) (h n (by simp)) q.symm)]
      exact puts_in A s hA l (fun k hk => h k (by simp [hk])) m hml

theorem fi_end {A : Act} {wc : World} {U V : Nat → Array Value} {L : Nat → Bool} {a : Act} {w : World} (h : FI A wc U V L a w) :
    ∃ (s : Nat → Value) (G : Nat → Nat), Core wc U V L s G w ∧ a = puts A s [0, 1, 2, 3, 4, 5, 6, 7, 8, 9, 10, 11] := by
  obtain ⟨G, hc⟩ := h.core
  refine ⟨fun n => a.eval (.tmp (dd n)), G, hc, act_eq (by rw [puts_defers]; exact h.defers) (by rw [puts_size]; exact h.size) fun t ht => ?_⟩
  by_cases ho : Out12 t
  · rw [puts_out _ _ _ _ fun n hn => dd_out (by simp at hn; omega) ho]
    exact h.old t ho
  · obtain ⟨n, hn, rfl⟩ : ∃ n, n < 12 ∧ dd n = t := by
      unfold Out12 at ho
      by_cases q : t < 50
      · exact ⟨t - 6, by omega, by unfold dd; rw [if_neg (by omega)]; omega⟩
      · exact ⟨t - 50, by omega, by unfold dd; rw [if_pos (by omega)]; omega⟩
    rw [puts_in A _ h.full _ (fun n hn => by simp at hn; omega) n (by simp; omega)]
end Go.Proofs.Ytchnjoikjadciab
