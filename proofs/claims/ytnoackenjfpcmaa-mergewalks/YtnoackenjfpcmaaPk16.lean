import Derived.Shelf.SlSortCmp.QuietGrown
import Derived.WalkKit
import Derived.RegionTactic
import Derived.Test.YtnoackenjfpcmaaPk01
import Derived.Test.YtnoackenjfpcmaaPk09
import Derived.Test.YtnoackenjfpcmaaPk15
/- The landed merge: how what is left of two rows is compared. -/
namespace Go.Proofs.Ytnoackenjfpcmaa
open Go.RowKit Go.Sort
set_option linter.unusedVariables false
set_option linter.unusedSimpArgs false

theorem hidM {p : Prop} (h : p) : Hid p := h
def HpV.cells (x : HpV) : List Value := [.slice x.la x.l.length x.lc, .int .i64 x.row]
/-- What is left of a row stands in the world, and is small. -/
def HpOk (w : World) (x : HpV) : Prop := RS entE w x.la x.l.length x.lc x.l ∧ x.row < 100
theorem nanM_any {w : World} {a : Int} : Calls Try.prog 53 #[.int .i64 a] w fun e w' => e = .returned (.bool false) ∧ w' = w := by
  go_enter Try.func53, Try.ntmps53
  go_wp2
  go_ret
  simp
theorem nanM2_any {w : World} {a : Int} : Calls Try.prog 54 #[.int .i64 a] w fun e w' => e = .returned (.bool false) ∧ w' = w := by
  go_enter Try.func54, Try.ntmps54
  go_wp2
  go_ret
  simp
theorem cmpM_any {w : World} {a b : Int} : Calls Try.prog 41 #[.int .i64 a, .int .i64 b] w fun e w' => e = .returned (.int .i64 (cmJ a b)) ∧ w' = w := by
  unfold cmJ
  go_enter Try.func41, Try.ntmps41
  go_wp2_with (go_at_call 53; refine (@nanM_any _ _).mono ?_; rintro e w' ⟨rfl, rfl⟩)
  all_goals
    go_ret
    simp
    try omega
theorem cmpM2_any {w : World} {a b : Int} : Calls Try.prog 42 #[.int .i64 a, .int .i64 b] w fun e w' => e = .returned (.int .i64 (cmJ a b)) ∧ w' = w := by
  unfold cmJ
  go_enter Try.func42, Try.ntmps42
  go_wp2_with (go_at_call 54; refine (@nanM2_any _ _).mono ?_; rintro e w' ⟨rfl, rfl⟩)
  all_goals
    go_ret
    simp
    try omega
/-- cmp.Or of three. -/
theorem or3_t {w : World} {b : Nat} {x y z : Int} (h0 : w.cell? ⟨b, 0, none⟩ = some (.int .i64 x)) (h1 : w.cell? ⟨b, 1, none⟩ = some (.int .i64 y)) (h2 : w.cell? ⟨b, 2, none⟩ = some (.int .i64 z)) :
    Calls Try.prog 40 #[.slice (some ⟨b, 0, none⟩) 3 3] w fun e w' => e = .returned (.int .i64 (or3 x y z)) ∧ w' = w := by
  unfold or3
  go_enter Try.func40, Try.ntmps40
  by_cases qx : x = 0
  · rw [if_neg (not_not_intro qx)]
    subst qx
    by_cases qy : y = 0
    · rw [if_neg (not_not_intro qy)]
      subst qy
      by_cases qz : z = 0
      · subst qz
        go_wp2
        refine wp_loop_rounds 4 ?_
        rw [rounds_succ]
        go_wp2
        rw [rounds_succ]
        go_wp2
        rw [rounds_succ]
        go_wp2
        rw [rounds_succ]
        go_wp2
        go_ret
        simp
      · have qz' : (z != 0) = true := by simpa using qz
        go_wp2
        refine wp_loop_rounds 4 ?_
        rw [rounds_succ]
        go_wp2
        rw [rounds_succ]
        go_wp2
        rw [rounds_succ]
        go_wp2
        go_ret
        simp
    · rw [if_pos qy]
      have qy' : (y != 0) = true := by simpa using qy
      go_wp2
      refine wp_loop_rounds 4 ?_
      rw [rounds_succ]
      go_wp2
      rw [rounds_succ]
      go_wp2
      go_ret
      simp
  · rw [if_pos qx]
    have qx' : (x != 0) = true := by simpa using qx
    go_wp2
    refine wp_loop_rounds 4 ?_
    rw [rounds_succ]
    go_wp2
    go_ret
    simp
end Go.Proofs.Ytnoackenjfpcmaa

/- A region that draws its order, by an invariant: what holds of the operations that have come up, whatever their order, is enough. -/
namespace Go.Proofs.Ytnoackenjfpcmaa

theorem mem_ready {md : Region.Mode} {ops : Array Oper} {listed : Array Bool} {i : Nat} :
    i ∈ Region.ready md ops listed ↔ i < ops.size ∧ listed.getD i true = false ∧ ∃ o, ops[i]? = some o ∧ ∀ e ∈ o.after, Region.binds md e = true → listed.getD e.on false = true := by
  unfold Region.ready
  rw [List.mem_filter, List.mem_range]
  constructor
  · rintro ⟨h1, h2⟩
    cases ho : ops[i]? with
    | none => simp [ho] at h2
    | some o =>
      simp only [ho, Option.map_some, Option.getD_some, Bool.and_eq_true, Bool.not_eq_true', Array.all_eq_true_iff_forall_mem, Bool.or_eq_true] at h2
      refine ⟨h1, h2.1, o, rfl, fun e he hb => ?_⟩
      rcases h2.2 e he with h | h
      · rw [hb] at h; cases h
      · exact h
  · rintro ⟨h1, h2, o, ho, h3⟩
    refine ⟨h1, ?_⟩
    simp only [ho, Option.map_some, Option.getD_some, Bool.and_eq_true, Bool.not_eq_true', Array.all_eq_true_iff_forall_mem, Bool.or_eq_true]
    refine ⟨h2, fun e he => ?_⟩
    cases hb : Region.binds md e with
    | false => exact Or.inl rfl
    | true => exact Or.inr (h3 e he hb)

/-- How many of the first n have not come up. -/
def left (listed : Array Bool) : Nat → Nat
  | 0 => 0
  | n + 1 => left listed n + (if listed.getD n true then 0 else 1)

theorem left_set (listed : Array Bool) (i : Nat) (hi : listed.getD i true = false) : ∀ n, left (listed.setIfInBounds i true) n = left listed n - (if i < n then 1 else 0) ∧ (i < n → 0 < left listed n) := by
  have hlt : i < listed.size := by
    rcases Nat.lt_or_ge i listed.size with h | h
    · exact h
    · simp [h] at hi
  intro n
  induction n with
  | zero => simp [left]
  | succ n ih =>
    by_cases hn : n = i
    · subst hn
      have e1 : (listed.setIfInBounds n true).getD n true = true := by simp [hlt]
      simp only [left, e1, hi]
      have := ih.1
      simp at this
      simp
      omega
    · have e1 : (listed.setIfInBounds i true).getD n true = listed.getD n true := by
        simp [Ne.symm hn]
      simp only [left, e1]
      have h1 := ih.1
      have h2 := ih.2
      by_cases hin : i < n
      · simp only [hin, if_true, show i < n + 1 by omega] at *
        have := h2 trivial
        omega
      · simp only [hin, if_false] at h1
        refine ⟨?_, fun h => absurd h (by omega)⟩
        rw [if_neg (show ¬ i < n + 1 by omega)]
        omega

theorem left_zero (listed : Array Bool) : ∀ n, left listed n = 0 → ∀ i, i < n → listed.getD i true = true := by
  intro n
  induction n with
  | zero => intro _ i hi; omega
  | succ n ih =>
    intro h i hi
    simp only [left] at h
    rcases Nat.lt_or_ge i n with g | g
    · exact ih (by omega) i g
    · have : i = n := by omega
      subst this
      cases hl : listed.getD i true with
      | true => rfl
      | false => simp [hl] at h

theorem wp_region_inv {P : Program} {id : Nat} {Q : Exit → Act → World → Prop} {A : Act} {w : World} {ops : Array Oper} (hm : P.follows .mixedOrders = true)
    (hlow : ∀ (i : Nat) o, ops[i]? = some o → ∀ e ∈ o.after, Region.binds .any e = true → e.on < i)
    (Inv0 : Act → (Nat → Bool) → Act → World → Prop) (h0 : Inv0 A (fun _ => false) A w.drew)
    (hstep : ∀ (L : Nat → Bool) (a : Act) (w : World) (i : Nat) (o : Oper), Inv0 A L a w → ops[i]? = some o → L i = false → (∀ e ∈ o.after, Region.binds .any e = true → L e.on = true) →
      ∀ K : Act → World → Prop, (∀ a w, Inv0 A (fun j => if j = i then true else L j) a w → K a w) → if Region.wanted o (yielded ops a.tmps) = true then o.wp P a w K Q else K (a.put o.dst undef) w)
    (hend : ∀ (L : Nat → Bool) (a : Act) (w : World), Inv0 A L a w → (∀ i, i < ops.size → L i = true) → Q .normal a w) :
    (Code.region id ops true).wp P Q A w := by
  obtain ⟨Inv, hInv⟩ : ∃ Inv, Inv = Inv0 A := ⟨_, rfl⟩
  rw [← hInv] at h0 hstep hend
  clear hInv
  refine wp_region_any hm ?_
  have all : ∀ (listed : Array Bool), listed.size = ops.size → Region.ready .any ops listed = [] → ∀ i, i < ops.size → listed.getD i true = true := by
    intro listed hsz hr i
    induction i using Nat.strongRecOn with
    | _ i ih =>
      intro hi
      cases hl : listed.getD i true with
      | true => rfl
      | false =>
        have ho : ops[i]? = some ops[i] := Array.getElem?_eq_getElem hi
        have : i ∈ Region.ready .any ops listed := mem_ready.2 ⟨hi, hl, ops[i], ho, fun e he hb => by
          have hlt := hlow i _ ho e he hb
          have := ih e.on hlt (by omega)
          have hs : e.on < listed.size := by omega
          simpa [hs] using this⟩
        rw [hr] at this
        cases this
  have eqd : ∀ (listed : Array Bool) (j : Nat), j < listed.size → listed.getD j true = listed.getD j false := fun listed j hj => by simp [hj]
  have key : ∀ (fuel : Nat) (listed : Array Bool) (a : Act) (w : World), listed.size = ops.size → left listed ops.size ≤ fuel → Inv (fun j => listed.getD j false) a w → wpAny P .any ops Q fuel listed a w := by
    intro fuel
    induction fuel with
    | zero =>
      intro listed a w hsz hf hI
      have hz := left_zero listed ops.size (by omega)
      refine ⟨?_, hend _ a w hI fun i hi => by rw [← eqd listed i (by omega)]; exact hz i hi⟩
      cases hr : Region.ready .any ops listed with
      | nil => rfl
      | cons i rest =>
        have : i ∈ Region.ready .any ops listed := by rw [hr]; simp
        obtain ⟨h1, h2, _⟩ := mem_ready.1 this
        rw [hz i h1] at h2
        cases h2
    | succ fuel ih =>
      intro listed a w hsz hf hI
      refine ⟨fun hr => hend _ a w hI fun i hi => by rw [← eqd listed i (by omega)]; exact all listed hsz hr i hi, fun i hi => ?_⟩
      obtain ⟨h1, h2, o, ho, h3⟩ := mem_ready.1 hi
      have hs : i < listed.size := by omega
      refine wpOp_step ho fun K hK => hstep _ a w i o hI ho (by rw [← eqd listed i hs]; exact h2) h3 K fun a' w' hI' => hK a' w' ?_
      refine ih _ a' w' (by simpa using hsz) ?_ ?_
      · have hls := left_set listed i h2 ops.size
        have e := hls.1
        have p := hls.2 h1
        simp only [h1, if_true] at e
        omega
      · have : (fun j => (listed.setIfInBounds i true).getD j false) = fun j => if j = i then true else listed.getD j false := by
          funext j
          by_cases hj : j = i
          · subst hj; simp [hs]
          · simp [Ne.symm hj, hj]
        rw [this]; exact hI'
  refine key ops.size _ A _ (by simp) ?_ ?_
  · have : ∀ n, left (Array.replicate ops.size false) n ≤ n := by
      intro n
      induction n with
      | zero => simp [left]
      | succ n ih => simp only [left]; split <;> omega
    exact this ops.size
  · have : (fun j => (Array.replicate ops.size false).getD j false) = fun _ => false := by
      funext j
      simp only [Array.getD_eq_getD_getElem?, Array.getElem?_replicate]
      split <;> rfl
    rw [this]; exact h0
end Go.Proofs.Ytnoackenjfpcmaa

/- Draws and new blocks, and nothing else. -/
namespace Go.Proofs.Ytnoackenjfpcmaa
open Go.RowKit Go.Sort
set_option linter.unusedVariables false
set_option linter.unusedSimpArgs false

def Gr (w w' : World) : Prop := ∃ q os, w' = grow (w.drewN q) os
theorem Gr.refl (w : World) : Gr w w := ⟨0, #[], by rw [grow_empty]; rfl⟩
theorem Gr.alloc {w w' : World} (h : Gr w w') (o : Obj) : Gr w (w'.alloc o) := by
  obtain ⟨q, os, rfl⟩ := h
  exact ⟨q, os ++ #[o], by rw [alloc_eq_grow, grow_grow]⟩
theorem Gr.drew {w w' : World} (h : Gr w w') : Gr w w'.drew := by
  obtain ⟨q, os, rfl⟩ := h
  exact ⟨q + 1, os, by rw [drew_grow]; rfl⟩
theorem Gr.trans {w w' w'' : World} (h : Gr w w') (g : Gr w' w'') : Gr w w'' := by
  obtain ⟨q, os, rfl⟩ := h
  obtain ⟨q', os', rfl⟩ := g
  exact ⟨q + q', os ++ os', by show grow (grow ((w.drewN q).drewN q') os) os' = _; rw [grow_grow, World.drewN_drewN]⟩
theorem Gr.below {w w' : World} (h : Gr w w') : Below w.heap.size w w' := by
  obtain ⟨q, os, rfl⟩ := h
  refine ⟨rfl, rfl, rfl, by unfold grow; simp, fun k hk => ?_⟩
  unfold grow
  exact Array.getElem?_append_left hk
end Go.Proofs.Ytnoackenjfpcmaa
