import Derived.Test.YteaicilehigjlaaPk03
import Derived.Test.YteaicilehigjlaaPk04
import Derived.Test.YteaicilehigjlaaPk05
/- Batches, on lists: may one be, its bytes, what bytes tell; what follows. -/
namespace Go.Proofs.Yteaicilehigjlaa
set_option linter.unusedVariables false
set_option linter.unusedSimpArgs false

/-- A change. -/
structure OpV where
  key : List Int
  gone : Bool
  till : Int
  val : List Int
/-- What is wrong with a change: 0: nothing. -/
def may1 (o : OpV) : Nat :=
  if o.key.length = 0 ∨ o.till < 0 ∨ 4611686018427387904 < o.till ∨ (o.gone = true ∧ (o.till ≠ 0 ∨ 0 < o.val.length)) then 1 else if 512 < o.key.length ∨ 2048 < o.val.length then 2 else 0
def mayO : List OpV → Nat
  | [] => 0
  | o :: r => if may1 o ≠ 0 then may1 o else mayO r
def mayB (s : Int) (os : List OpV) : Nat :=
  if os.length < 1 ∨ 400 < os.length then 13 else if s < 1 ∨ 4611686018427387904 - ((os.length : Int) - 1) < s then 1 else mayO os
theorem may1_cases (o : OpV) : may1 o = 0 ∨ may1 o = 1 ∨ may1 o = 2 := by
  unfold may1
  split
  · exact .inr (.inl rfl)
  · split
    · exact .inr (.inr rfl)
    · exact .inl rfl
theorem mayO_cases : ∀ os : List OpV, mayO os = 0 ∨ mayO os = 1 ∨ mayO os = 2
  | [] => .inl rfl
  | o :: r => by
    unfold mayO
    split
    · exact may1_cases o
    · exact mayO_cases r
theorem mayO_all : ∀ {os : List OpV}, mayO os = 0 → ∀ o ∈ os, may1 o = 0
  | [], _, o, ho => by cases ho
  | p :: r, h, o, ho => by
    unfold mayO at h
    split at h
    · rename_i q; exact absurd h q
    · rename_i q
      rcases List.mem_cons.1 ho with e | e
      · rw [e]; exact Decidable.not_not.1 q
      · exact mayO_all h o e
theorem may1_ok {o : OpV} (h : may1 o = 0) : 1 ≤ o.key.length ∧ o.key.length ≤ 512 ∧ 0 ≤ o.till ∧ o.till ≤ 4611686018427387904 ∧ o.val.length ≤ 2048 ∧ (o.gone = true → o.till = 0 ∧ o.val = []) := by
  unfold may1 at h
  split at h
  · simp at h
  · rename_i q
    split at h
    · simp at h
    · rename_i q2
      refine ⟨by omega, by omega, by omega, by omega, by omega, fun hg => ?_⟩
      have : ¬ (o.till ≠ 0 ∨ 0 < o.val.length) := fun hx => q (.inr (.inr (.inr ⟨hg, hx⟩)))
      exact ⟨by omega, List.eq_nil_of_length_eq_zero (by omega)⟩
theorem mayB_ok {s : Int} {os : List OpV} (h : mayB s os = 0) : 1 ≤ os.length ∧ os.length ≤ 400 ∧ 1 ≤ s ∧ s ≤ 4611686018427387904 - ((os.length : Int) - 1) ∧ ∀ o ∈ os, may1 o = 0 := by
  unfold mayB at h
  split at h
  · simp at h
  · split at h
    · simp at h
    · exact ⟨by omega, by omega, by omega, by omega, mayO_all h⟩
/-- A change's bytes. -/
def flg (g : Bool) : Int := if g then 1 else 0
def enO (o : OpV) : List Int := flg o.gone :: (lb o.key ++ (if o.gone then [] else uv o.till.toNat ++ lb o.val))
def enOs : List OpV → List Int
  | [] => []
  | o :: r => enO o ++ enOs r
def enB (s : Int) (os : List OpV) : List Int := uv s.toNat ++ (uv os.length ++ enOs os)
def OkO (o : OpV) : Prop := Okb o.key ∧ Okb o.val
theorem okb_enO {o : OpV} (h : OkO o) : Okb (enO o) := by
  intro x hx
  unfold enO at hx
  rcases List.mem_cons.1 hx with e | e
  · rw [e]; unfold flg; split <;> omega
  · refine (Okb.app (okb_lb h.1) ?_) x e
    split
    · exact fun y hy => by cases hy
    · exact (okb_uv _).app (okb_lb h.2)
theorem okb_enOs : ∀ {os : List OpV}, (∀ o ∈ os, OkO o) → Okb (enOs os)
  | [], _ => fun x hx => by cases hx
  | o :: r, h => (okb_enO (h o (List.mem_cons_self ..))).app (okb_enOs fun p hp => h p (List.mem_cons_of_mem _ hp))
theorem okb_enB {s : Int} {os : List OpV} (h : ∀ o ∈ os, OkO o) : Okb (enB s os) := (okb_uv _).app ((okb_uv _).app (okb_enOs h))
theorem enOs_app : ∀ xs ys : List OpV, enOs (xs ++ ys) = enOs xs ++ enOs ys
  | [], ys => rfl
  | o :: r, ys => by rw [List.cons_append, enOs, enOs_app r ys, enOs, List.append_assoc]
theorem enO_len {o : OpV} (h : may1 o = 0) : (enO o).length ≤ 2700 := by
  have h1 := may1_ok h
  have h2 := uv_len64 (n := o.key.length) (by omega)
  have h3 := uv_len64 (n := o.val.length) (by omega)
  have h4 := uv_len64 (n := o.till.toNat) (by omega)
  unfold enO
  rw [List.length_cons, List.length_append, lb_len]
  split
  · simp; omega
  · rw [List.length_append, lb_len]; omega
theorem enOs_len : ∀ {os : List OpV}, (∀ o ∈ os, may1 o = 0) → (enOs os).length ≤ 2700 * os.length
  | [], _ => by simp [enOs]
  | o :: r, h => by
    have h1 := enO_len (h o (List.mem_cons_self ..))
    have h2 := enOs_len fun p hp => h p (List.mem_cons_of_mem _ hp)
    rw [enOs, List.length_append, List.length_cons]
    omega
/-- A reader: what is left, and the first error. -/
abbrev Rd := List Int × Nat
def rdN (most : Nat) (s : Rd) : Nat × Rd := if s.2 ≠ 0 then (0, s) else if (tk s.1).1 ≠ 0 then (0, (s.1, (tk s.1).1)) else if most < (tk s.1).2.1 then (0, (s.1, 3)) else ((tk s.1).2.1, (s.1.drop (tk s.1).2.2, 0))
def rdB (most : Nat) (s : Rd) : List Int × Rd := if s.2 ≠ 0 then ([], s) else if (tb s.1 most).1 ≠ 0 then ([], (s.1, (tb s.1 most).1)) else ((tb s.1 most).2.1, (s.1.drop (tb s.1 most).2.2, 0))
def rdF (s : Rd) : Bool × Rd := if s.2 ≠ 0 then (false, s) else match s.1 with
  | [] => (false, ([], 5))
  | c :: r => (c == 1, (r, if 1 < c then 3 else 0))
def rdE (s : Rd) : Rd := if s.2 = 0 ∧ 0 < s.1.length then (s.1, 3) else s
/-- A change, read. -/
def deO (s : Rd) : OpV × Rd :=
  if (rdF s).1 then (⟨(rdB 512 (rdF s).2).1, true, 0, []⟩, (rdB 512 (rdF s).2).2) else
    (⟨(rdB 512 (rdF s).2).1, false, ((rdN 4611686018427387904 (rdB 512 (rdF s).2).2).1 : Int), (rdB 2048 (rdN 4611686018427387904 (rdB 512 (rdF s).2).2).2).1⟩, (rdB 2048 (rdN 4611686018427387904 (rdB 512 (rdF s).2).2).2).2)
def deOs : Nat → Rd → List OpV × Rd
  | 0, s => ([], s)
  | n + 1, s => if (deO s).2.2 ≠ 0 then ([(deO s).1], (deO s).2) else ((deO s).1 :: (deOs n (deO s).2).1, (deOs n (deO s).2).2)
def deS (d : List Int) : Nat × Rd := rdN 4611686018427387904 (d, 0)
def deN (d : List Int) : Nat × Rd := rdN 400 (deS d).2
def deR (d : List Int) : List OpV × Rd := deOs (deN d).1 (deN d).2
/-- The error of bytes as a batch. -/
def deE (d : List Int) : Nat := if (rdE (deR d).2).2 = 0 then mayB ((deS d).1 : Int) (deR d).1 else (rdE (deR d).2).2
def deB (d : List Int) : (Int × List OpV) × Nat := if deE d ≠ 0 then ((0, []), deE d) else ((((deS d).1 : Int), (deR d).1), 0)

theorem rdN_err {most : Nat} {s : Rd} (h : s.2 ≠ 0) : rdN most s = (0, s) := by unfold rdN; rw [if_pos h]
theorem rdB_err {most : Nat} {s : Rd} (h : s.2 ≠ 0) : rdB most s = ([], s) := by unfold rdB; rw [if_pos h]
theorem rdF_err {s : Rd} (h : s.2 ≠ 0) : rdF s = (false, s) := by unfold rdF; rw [if_pos h]
theorem rdN_uv {most n : Nat} {t : List Int} (h : n ≤ most) (hn : n < 18446744073709551616) (ht : Okb t) : rdN most (uv n ++ t, 0) = (n, (t, 0)) := by
  unfold rdN
  simp only [tk_uv hn ht, ne_eq, not_true_eq_false, if_false]
  rw [if_neg (by omega), List.drop_left]
theorem rdN_cut {most n k : Nat} (hk : k < (uv n).length) : (rdN most ((uv n).take k, 0)).2.2 = 5 := by
  unfold rdN
  simp [tk_cut hk]
theorem rdB_lb {most : Nat} {s t : List Int} (h : s.length ≤ most) (hn : s.length < 18446744073709551616) (hs : Okb s) (ht : Okb t) : rdB most (lb s ++ t, 0) = (s, (t, 0)) := by
  unfold rdB
  simp only [tb_lb hs ht h hn, ne_eq, not_true_eq_false, if_false]
  rw [List.drop_left]
theorem rdB_cut {most k : Nat} {s : List Int} (h : s.length ≤ most) (hn : s.length < 18446744073709551616) (hs : Okb s) (hk : k < (lb s).length) : (rdB most ((lb s).take k, 0)).2.2 = 5 := by
  unfold rdB
  simp [tb_cut hs h hn hk]
theorem take_two (a b : List Int) (k : Nat) : (k < a.length ∧ (a ++ b).take k = a.take k) ∨ (a.length ≤ k ∧ (a ++ b).take k = a ++ b.take (k - a.length)) := by
  by_cases h : k < a.length
  · exact .inl ⟨h, by rw [List.take_append_of_le_length (by omega)]⟩
  · exact .inr ⟨by omega, by rw [List.take_append, List.take_of_length_le (by omega)]⟩
theorem okb_take {a : List Int} {k : Nat} (h : Okb a) : Okb (a.take k) := fun x hx => h x (List.mem_of_mem_take hx)

/-- A change that may be is read, whatever stands behind it. -/
theorem deO_enO {o : OpV} {t : List Int} (h : may1 o = 0) (ho : OkO o) (ht : Okb t) : deO (enO o ++ t, 0) = (o, (t, 0)) := by
  obtain ⟨key, gone, till, v⟩ := o
  have h1 := may1_ok h
  simp only at h1
  cases gone with
  | true =>
    obtain ⟨e1, e2⟩ := h1.2.2.2.2.2 rfl
    subst e1 e2
    have hF : rdF (enO ⟨key, true, 0, []⟩ ++ t, 0) = (true, (lb key ++ t, 0)) := by
      simp [rdF, enO, flg]
    unfold deO
    rw [hF]
    simp only [if_true]
    rw [rdB_lb h1.2.1 (by omega) ho.1 ht]
  | false =>
    have hok2 : Okb (lb v ++ t) := (okb_lb ho.2).app ht
    have hF : rdF (enO ⟨key, false, till, v⟩ ++ t, 0) = (false, (lb key ++ (uv till.toNat ++ (lb v ++ t)), 0)) := by
      simp [rdF, enO, flg]
    unfold deO
    rw [hF]
    simp only [Bool.false_eq_true, if_false]
    rw [rdB_lb h1.2.1 (by omega) ho.1 ((okb_uv _).app hok2)]
    simp only
    rw [rdN_uv (by omega) (by omega) hok2]
    simp only
    rw [rdB_lb h1.2.2.2.2.1 (by omega) ho.2 ht]
    simp only [Prod.mk.injEq, OpV.mk.injEq, and_true, true_and]
    omega
/-- Cut off it is an error. -/
theorem deO_cut {o : OpV} {k : Nat} (h : may1 o = 0) (ho : OkO o) (hk : k < (enO o).length) : (deO ((enO o).take k, 0)).2.2 ≠ 0 := by
  obtain ⟨key, gone, till, v⟩ := o
  have h1 := may1_ok h
  simp only at h1
  cases k with
  | zero =>
    have hF : rdF ([], 0) = (false, ([], 5)) := rfl
    unfold deO
    rw [List.take_zero, hF]
    simp [rdB, rdN]
  | succ k =>
    cases gone with
    | true =>
      have hF : rdF ((enO ⟨key, true, till, v⟩).take (k + 1), 0) = (true, ((lb key).take k, 0)) := by
        simp [rdF, enO, flg]
      have hkl : k < (lb key).length := by simp [enO] at hk; omega
      unfold deO
      rw [hF]
      simp only [if_true]
      rw [rdB_cut h1.2.1 (by omega) ho.1 hkl]
      simp
    | false =>
      have hF : rdF ((enO ⟨key, false, till, v⟩).take (k + 1), 0) = (false, ((lb key ++ (uv till.toNat ++ lb v)).take k, 0)) := by
        simp [rdF, enO, flg]
      have hkl : k < (lb key ++ (uv till.toNat ++ lb v)).length := by simp [enO] at hk ⊢; omega
      unfold deO
      rw [hF]
      simp only [Bool.false_eq_true, if_false]
      rcases take_two (lb key) (uv till.toNat ++ lb v) k with ⟨q, e⟩ | ⟨q, e⟩
      · rw [e]
        have e5 := rdB_cut (most := 512) h1.2.1 (by omega) ho.1 q
        rw [rdN_err (by rw [e5]; simp)]
        simp only
        rw [rdB_err (by rw [e5]; simp)]
        simp only
        rw [e5]
        simp
      · rw [e, rdB_lb h1.2.1 (by omega) ho.1 (okb_take ((okb_uv _).app (okb_lb ho.2)))]
        simp only
        rcases take_two (uv till.toNat) (lb v) (k - (lb key).length) with ⟨q2, e2⟩ | ⟨q2, e2⟩
        · rw [e2]
          have e5 := rdN_cut (most := 4611686018427387904) q2
          rw [rdB_err (by rw [e5]; simp)]
          simp only
          rw [e5]
          simp
        · rw [e2, rdN_uv (by omega) (by omega) (okb_take (okb_lb ho.2))]
          simp only
          rw [rdB_cut h1.2.2.2.2.1 (by omega) ho.2 (by simp at hkl q q2; omega)]
          simp
theorem deOs_enOs : ∀ {os : List OpV} {t : List Int}, (∀ o ∈ os, may1 o = 0 ∧ OkO o) → Okb t → deOs os.length (enOs os ++ t, 0) = (os, (t, 0))
  | [], t, _, _ => rfl
  | o :: r, t, h, ht => by
    have h1 := h o (List.mem_cons_self ..)
    have h2 : ∀ p ∈ r, may1 p = 0 ∧ OkO p := fun p hp => h p (List.mem_cons_of_mem _ hp)
    have hd : deO (enOs (o :: r) ++ t, 0) = (o, (enOs r ++ t, 0)) := by
      rw [enOs, List.append_assoc]
      exact deO_enO h1.1 h1.2 ((okb_enOs fun p hp => (h2 p hp).2).app ht)
    rw [List.length_cons, deOs, hd]
    simp only [ne_eq, not_true_eq_false, if_false]
    rw [deOs_enOs h2 ht]
theorem deOs_cut : ∀ {os : List OpV} {k : Nat}, (∀ o ∈ os, may1 o = 0 ∧ OkO o) → k < (enOs os).length → (deOs os.length ((enOs os).take k, 0)).2.2 ≠ 0
  | [], k, _, hk => by simp [enOs] at hk
  | o :: r, k, h, hk => by
    have h1 := h o (List.mem_cons_self ..)
    have h2 : ∀ p ∈ r, may1 p = 0 ∧ OkO p := fun p hp => h p (List.mem_cons_of_mem _ hp)
    rw [List.length_cons, deOs, enOs]
    rcases take_two (enO o) (enOs r) k with ⟨q, e⟩ | ⟨q, e⟩
    · rw [e, if_pos (deO_cut h1.1 h1.2 q)]
      exact deO_cut h1.1 h1.2 q
    · rw [e, deO_enO h1.1 h1.2 (okb_take (okb_enOs fun p hp => (h2 p hp).2))]
      simp only [ne_eq, not_true_eq_false, if_false]
      exact deOs_cut h2 (by rw [enOs, List.length_append] at hk; omega)
/-- What was encoded is told again; with more behind it is an error. -/
theorem deB_enB {s : Int} {os : List OpV} {t : List Int} (h : mayB s os = 0) (ho : ∀ o ∈ os, OkO o) (ht : Okb t) : (t = [] → deB (enB s os ++ t) = ((s, os), 0)) ∧ (t ≠ [] → (deB (enB s os ++ t)).2 ≠ 0) := by
  have h1 := mayB_ok h
  have hall : ∀ o ∈ os, may1 o = 0 ∧ OkO o := fun o hp => ⟨h1.2.2.2.2 o hp, ho o hp⟩
  have hokt : Okb (enOs os ++ t) := (okb_enOs ho).app ht
  have hS : deS (enB s os ++ t) = (s.toNat, (uv os.length ++ (enOs os ++ t), 0)) := by
    unfold deS enB
    rw [List.append_assoc, List.append_assoc]
    exact rdN_uv (by omega) (by omega) ((okb_uv _).app hokt)
  have hN : deN (enB s os ++ t) = (os.length, (enOs os ++ t, 0)) := by
    unfold deN
    rw [hS]
    exact rdN_uv h1.2.1 (by omega) hokt
  have hR : deR (enB s os ++ t) = (os, (t, 0)) := by
    unfold deR
    rw [hN]
    exact deOs_enOs hall ht
  have es : ((s.toNat : Nat) : Int) = s := by omega
  constructor
  · intro e
    subst e
    have hE : deE (enB s os ++ []) = 0 := by
      unfold deE
      rw [hR, hS]
      simp [rdE, es, h]
    unfold deB
    rw [if_neg (by rw [hE]; simp), hR, hS]
    simp only [es]
  · intro hne
    have hl : 0 < t.length := List.length_pos_iff.2 hne
    have hE : deE (enB s os ++ t) = 3 := by
      unfold deE
      rw [hR]
      have : rdE (t, 0) = (t, 3) := by unfold rdE; rw [if_pos ⟨rfl, hl⟩]
      rw [this]
      simp
    unfold deB
    rw [if_pos (by rw [hE]; simp), hE]
    simp
theorem deOs_err : ∀ {n : Nat} {s : Rd}, s.2 ≠ 0 → (deOs n s).2.2 ≠ 0
  | 0, s, h => h
  | n + 1, s, h => by
    have e : (deO s).2.2 ≠ 0 := by
      unfold deO
      rw [rdF_err h]
      simp only [Bool.false_eq_true, if_false]
      rw [rdB_err h]
      simp only
      rw [rdN_err h]
      simp only
      rw [rdB_err h]
      exact h
    rw [deOs, if_pos e]
    exact e
theorem deE_err {d : List Int} (h : (deR d).2.2 ≠ 0) : (deB d).2 ≠ 0 := by
  have : rdE (deR d).2 = (deR d).2 := by unfold rdE; rw [if_neg (by intro q; exact h q.1)]
  have hE : deE d ≠ 0 := by
    unfold deE
    rw [this, if_neg h]
    exact h
  unfold deB
  rw [if_pos hE]
  exact hE
theorem deB_cut {s : Int} {os : List OpV} {k : Nat} (h : mayB s os = 0) (ho : ∀ o ∈ os, OkO o) (hk : k < (enB s os).length) : (deB ((enB s os).take k)).2 ≠ 0 := by
  have h1 := mayB_ok h
  have hall : ∀ o ∈ os, may1 o = 0 ∧ OkO o := fun o hp => ⟨h1.2.2.2.2 o hp, ho o hp⟩
  have hoko := okb_enOs ho
  refine deE_err ?_
  unfold deR deN deS enB at *
  rcases take_two (uv s.toNat) (uv os.length ++ enOs os) k with ⟨q, e⟩ | ⟨q, e⟩
  · rw [e]
    have e5 := rdN_cut (most := 4611686018427387904) q
    refine deOs_err ?_
    rw [rdN_err (by rw [e5]; simp), e5]
    simp
  · rw [e, rdN_uv (by omega) (by omega) (okb_take ((okb_uv _).app hoko))]
    simp only
    rcases take_two (uv os.length) (enOs os) (k - (uv s.toNat).length) with ⟨q2, e2⟩ | ⟨q2, e2⟩
    · rw [e2]
      have e5 := rdN_cut (most := 400) q2
      refine deOs_err ?_
      rw [e5]
      simp
    · rw [e2, rdN_uv h1.2.1 (by omega) (okb_take hoko)]
      simp only
      exact deOs_cut hall (by simp at hk; omega)
end Go.Proofs.Yteaicilehigjlaa

/- Keys, on lists of bytes: parts, numbers, their order, what begins so; what follows. -/
namespace Go.Proofs.Yteaicilehigjlaa
set_option linter.unusedVariables false
theorem Okb.head {x : Int} {r : List Int} (h : Okb (x :: r)) : 0 ≤ x ∧ x < 256 := h x (List.mem_cons_self ..)

/-- A part's bytes: each 0 as 0 and 255; then 0 and 1. -/
def esc : List Int → List Int
  | [] => []
  | x :: r => if x = 0 then 0 :: 255 :: esc r else x :: esc r
def pt (xs : List Int) : List Int := esc xs ++ [0, 1]
theorem pt_nil : pt [] = [0, 1] := rfl
theorem pt_zero (r : List Int) : pt (0 :: r) = 0 :: 255 :: pt r := by simp [pt, esc]
theorem pt_cons {x : Int} (h : x ≠ 0) (r : List Int) : pt (x :: r) = x :: pt r := by simp [pt, esc, h]
theorem okb_pt : ∀ {xs : List Int}, Okb xs → Okb (pt xs)
  | [], _ => fun x hx => by simp [pt_nil] at hx; omega
  | x :: r, h => by
    have ih := okb_pt h.tail
    by_cases q : x = 0
    · subst q
      rw [pt_zero]
      intro y hy
      simp only [List.mem_cons] at hy
      rcases hy with e | e | e
      · omega
      · omega
      · exact ih y e
    · rw [pt_cons q]
      intro y hy
      rcases List.mem_cons.1 hy with e | e
      · rw [e]; exact h.head
      · exact ih y e
theorem pt_pos (xs : List Int) : 2 ≤ (pt xs).length := by simp [pt]
theorem esc_len : ∀ xs : List Int, (esc xs).length ≤ 2 * xs.length
  | [] => Nat.le_refl _
  | x :: r => by
    have := esc_len r
    unfold esc
    split
    · simp; omega
    · simp; omega
theorem pt_len (xs : List Int) : (pt xs).length ≤ 2 * xs.length + 2 := by
  have := esc_len xs
  simp [pt]
  omega

/-- The part at the beginning: an error (0: none), the part, how many bytes it has. -/
def tp : List Int → Nat × List Int × Nat
  | [] => (5, [], 0)
  | [x] => if x = 0 then (5, [], 0) else (5, [], 0)
  | x :: y :: r =>
    if x ≠ 0 then (if (tp (y :: r)).1 = 0 then (0, x :: (tp (y :: r)).2.1, (tp (y :: r)).2.2 + 1) else ((tp (y :: r)).1, [], 0))
    else if y = 1 then (0, [], 2)
    else if y = 255 then (if (tp r).1 = 0 then (0, 0 :: (tp r).2.1, (tp r).2.2 + 2) else ((tp r).1, [], 0))
    else (3, [], 0)
theorem tp_nil : tp [] = (5, [], 0) := by simp [tp]
theorem tp_lone : tp [0] = (5, [], 0) := by simp [tp]
theorem tp_plain {x : Int} (h : x ≠ 0) (r : List Int) : tp (x :: r) = if (tp r).1 = 0 then (0, x :: (tp r).2.1, (tp r).2.2 + 1) else ((tp r).1, [], 0) := by
  cases r with
  | nil => simp [tp]
  | cons y r => rw [tp, if_pos h]
theorem tp_end (r : List Int) : tp (0 :: 1 :: r) = (0, [], 2) := by simp [tp]
theorem tp_zero (r : List Int) : tp (0 :: 255 :: r) = if (tp r).1 = 0 then (0, 0 :: (tp r).2.1, (tp r).2.2 + 2) else ((tp r).1, [], 0) := by simp [tp]
theorem tp_bad {y : Int} (h1 : y ≠ 1) (h2 : y ≠ 255) (r : List Int) : tp (0 :: y :: r) = (3, [], 0) := by simp [tp, h1, h2]
/-- What was written is taken, whatever stands behind it. -/
theorem tp_pt : ∀ (xs t : List Int), tp (pt xs ++ t) = (0, xs, (pt xs).length)
  | [], t => by rw [pt_nil]; exact tp_end t
  | x :: r, t => by
    have ih := tp_pt r t
    by_cases q : x = 0
    · subst q
      rw [pt_zero, List.cons_append, List.cons_append, tp_zero, ih]
      simp
    · rw [pt_cons q, List.cons_append, tp_plain q, ih]
      simp
/-- Cut off it is no part. -/
theorem tp_cut : ∀ (xs : List Int) (k : Nat), k < (pt xs).length → tp ((pt xs).take k) = (5, [], 0)
  | [], k, h => by
    rw [pt_nil] at h ⊢
    simp at h
    have : k = 0 ∨ k = 1 := by omega
    rcases this with e | e <;> subst e
    · exact tp_nil
    · exact tp_lone
  | x :: r, k, h => by
    by_cases q : x = 0
    · subst q
      rw [pt_zero] at h ⊢
      simp at h
      match k, h with
      | 0, _ => exact tp_nil
      | 1, _ => exact tp_lone
      | k + 2, h =>
        have ih := tp_cut r k (by omega)
        rw [List.take_succ_cons, List.take_succ_cons, tp_zero, ih]
        simp
    · rw [pt_cons q] at h ⊢
      simp at h
      match k, h with
      | 0, _ => exact tp_nil
      | k + 1, h =>
        have ih := tp_cut r k (by omega)
        rw [List.take_succ_cons, tp_plain q, ih]
        simp
theorem tp_used : ∀ (n : Nat) (xs : List Int), xs.length ≤ n → (tp xs).1 = 0 → 2 ≤ (tp xs).2.2 ∧ (tp xs).2.2 ≤ xs.length ∧ (tp xs).2.1.length + 2 ≤ (tp xs).2.2
  | 0, xs, h, h0 => by
    have e : xs = [] := List.length_eq_zero_iff.1 (by omega)
    subst e
    simp [tp] at h0
  | n + 1, xs, h, h0 => by
    match xs, h, h0 with
    | [], _, h0 => simp [tp] at h0
    | [x], _, h0 => simp [tp] at h0
    | x :: y :: r, h, h0 =>
      simp at h
      by_cases q : x = 0
      · subst q
        by_cases y1 : y = 1
        · subst y1
          rw [tp_end]
          simp
        · by_cases y2 : y = 255
          · subst y2
            rw [tp_zero] at h0 ⊢
            by_cases t : (tp r).1 = 0
            · rw [if_pos t]
              have := tp_used n r (by omega) t
              simp
              omega
            · rw [if_neg t] at h0
              exact absurd h0 t
          · rw [tp_bad y1 y2] at h0
            simp at h0
      · rw [tp_plain q] at h0 ⊢
        by_cases t : (tp (y :: r)).1 = 0
        · rw [if_pos t]
          have := tp_used n (y :: r) (by simp; omega) t
          simp at this ⊢
          omega
        · rw [if_neg t] at h0
          exact absurd h0 t

/-- Which of two stands ahead. -/
def cmp : List Int → List Int → Int
  | [], [] => 0
  | [], _ :: _ => -1
  | _ :: _, [] => 1
  | x :: r, y :: q => if x < y then -1 else if y < x then 1 else cmp r q
theorem cmp_nil : ∀ b : List Int, 0 ≤ cmp b []
  | [] => by decide
  | _ :: _ => by simp [cmp]
theorem cmp_same (x : Int) (r q : List Int) : cmp (x :: r) (x :: q) = cmp r q := by simp [cmp]
theorem cmp_less {x y : Int} (h : x < y) (r q : List Int) : cmp (x :: r) (y :: q) = -1 := by simp [cmp, h]
theorem cmp_more {x y : Int} (h : y < x) (r q : List Int) : cmp (x :: r) (y :: q) = 1 := by
  have : ¬ x < y := by omega
  simp [cmp, h, this]
theorem cmp_neg : ∀ a b : List Int, cmp b a = - cmp a b
  | [], [] => rfl
  | [], _ :: _ => rfl
  | _ :: _, [] => rfl
  | x :: r, y :: q => by
    rcases Int.lt_trichotomy x y with h | h | h
    · rw [cmp_less h, cmp_more h]; rfl
    · subst h
      rw [cmp_same, cmp_same, cmp_neg r q]
    · rw [cmp_less h, cmp_more h]
theorem cmp_zero : ∀ {a b : List Int}, cmp a b = 0 ↔ a = b
  | [], [] => by simp [cmp]
  | [], _ :: _ => by simp [cmp]
  | _ :: _, [] => by simp [cmp]
  | x :: r, y :: q => by
    rcases Int.lt_trichotomy x y with h | h | h
    · rw [cmp_less h]
      simp
      omega
    · subst h
      rw [cmp_same, cmp_zero]
      simp
    · rw [cmp_more h]
      simp
      omega
theorem cmp_vals (a b : List Int) : cmp a b = -1 ∨ cmp a b = 0 ∨ cmp a b = 1 := by
  induction a generalizing b with
  | nil => cases b <;> simp [cmp]
  | cons x r ih =>
    cases b with
    | nil => simp [cmp]
    | cons y q =>
      rcases Int.lt_trichotomy x y with h | h | h
      · rw [cmp_less h]; simp
      · subst h; rw [cmp_same]; exact ih q
      · rw [cmp_more h]; simp
theorem cmp_pt : ∀ (x y s t : List Int), Okb x → Okb y → cmp (pt x ++ s) (pt y ++ t) = if cmp x y = 0 then cmp s t else cmp x y
  | [], [], s, t, _, _ => by
    rw [pt_nil]
    show cmp (0 :: 1 :: s) (0 :: 1 :: t) = _
    rw [cmp_same, cmp_same]
    simp [cmp]
  | [], y :: q, s, t, _, hy => by
    have h := hy.head
    have e : cmp [] (y :: q) = -1 := rfl
    rw [e, if_neg (by decide), pt_nil]
    by_cases z : y = 0
    · subst z
      rw [pt_zero]
      show cmp (0 :: 1 :: s) (0 :: 255 :: (pt q ++ t)) = _
      rw [cmp_same, cmp_less (by decide)]
    · rw [pt_cons z]
      exact cmp_less (by omega) _ _
  | x :: r, [], s, t, hx, _ => by
    have h := hx.head
    have e : cmp (x :: r) [] = 1 := rfl
    rw [e, if_neg (by decide), pt_nil]
    by_cases z : x = 0
    · subst z
      rw [pt_zero]
      show cmp (0 :: 255 :: (pt r ++ s)) (0 :: 1 :: t) = _
      rw [cmp_same, cmp_more (by decide)]
    · rw [pt_cons z]
      exact cmp_more (by omega) _ _
  | x :: r, y :: q, s, t, hx, hy => by
    have h1 := hx.head
    have h2 := hy.head
    have ih := cmp_pt r q s t hx.tail hy.tail
    have go : ∀ x y : Int, x ≠ y → 0 ≤ x → 0 ≤ y → ∃ s' t', pt (x :: r) ++ s = x :: s' ∧ pt (y :: q) ++ t = y :: t' := fun x y _ _ _ => by
      by_cases z : x = 0
      · by_cases z' : y = 0
        · subst z z'; exact ⟨_, _, by rw [pt_zero]; rfl, by rw [pt_zero]; rfl⟩
        · subst z; exact ⟨_, _, by rw [pt_zero]; rfl, by rw [pt_cons z']; rfl⟩
      · by_cases z' : y = 0
        · subst z'; exact ⟨_, _, by rw [pt_cons z]; rfl, by rw [pt_zero]; rfl⟩
        · exact ⟨_, _, by rw [pt_cons z]; rfl, by rw [pt_cons z']; rfl⟩
    rcases Int.lt_trichotomy x y with h | h | h
    · obtain ⟨s', t', e1, e2⟩ := go x y (by omega) h1.1 h2.1
      rw [e1, e2, cmp_less h, cmp_less h, if_neg (by decide)]
    · subst h
      rw [cmp_same]
      by_cases z : x = 0
      · subst z
        rw [pt_zero, pt_zero]
        show cmp (0 :: 255 :: (pt r ++ s)) (0 :: 255 :: (pt q ++ t)) = _
        rw [cmp_same, cmp_same, ih]
      · rw [pt_cons z, pt_cons z]
        show cmp (x :: (pt r ++ s)) (x :: (pt q ++ t)) = _
        rw [cmp_same, ih]
    · obtain ⟨s', t', e1, e2⟩ := go x y (by omega) h1.1 h2.1
      rw [e1, e2, cmp_more h, cmp_more h, if_neg (by decide)]

/-- Rows of parts, one behind the other. -/
def pts : List (List Int) → List Int
  | [] => []
  | x :: l => pt x ++ pts l
def cmpR : List (List Int) → List (List Int) → Int
  | [], [] => 0
  | [], _ :: _ => -1
  | _ :: _, [] => 1
  | x :: a, y :: b => if cmp x y = 0 then cmpR a b else cmp x y
theorem pts_cons (x : List Int) (l : List (List Int)) : ∃ c r, pts (x :: l) = c :: r := by
  have h := pt_pos x
  cases hp : pt x with
  | nil => rw [hp] at h; simp at h
  | cons c r => exact ⟨c, r ++ pts l, by rw [pts, hp]; rfl⟩
theorem cmp_pts : ∀ (a b : List (List Int)), (∀ x ∈ a, Okb x) → (∀ x ∈ b, Okb x) → cmp (pts a) (pts b) = cmpR a b
  | [], [], _, _ => rfl
  | [], y :: b, _, _ => by
    obtain ⟨c, r, e⟩ := pts_cons y b
    rw [e]
    rfl
  | x :: a, [], _, _ => by
    obtain ⟨c, r, e⟩ := pts_cons x a
    rw [e]
    rfl
  | x :: a, y :: b, ha, hb => by
    have ih := cmp_pts a b (fun z hz => ha z (List.mem_cons_of_mem _ hz)) (fun z hz => hb z (List.mem_cons_of_mem _ hz))
    rw [pts, pts, cmp_pt x y _ _ (ha x (List.mem_cons_self ..)) (hb y (List.mem_cons_self ..)), ih]
    rfl
theorem pts_app : ∀ a b : List (List Int), pts (a ++ b) = pts a ++ pts b
  | [], _ => rfl
  | x :: a, b => by rw [List.cons_append, pts, pts_app a b, pts, List.append_assoc]
/-- No part's bytes are the beginning of another one's. -/
theorem pt_begins {p q t : List Int} (h : pt q = pt p ++ t) : p = q := by
  have h1 := tp_pt q []
  rw [List.append_nil, h, tp_pt p t] at h1
  simp at h1
  exact h1.1

/-- Numbers, the highest byte first, keep the order. -/
theorem fx_low (a b : Nat) : ∀ k, a % 256 ^ k = b % 256 ^ k → fx a k = fx b k
  | 0, _ => rfl
  | k + 1, h => by
    have hp : 0 < 256 ^ k := Nat.pow_pos (by decide)
    have d1 : a % 256 ^ (k + 1) / 256 ^ k = a / 256 ^ k % 256 := by rw [Nat.pow_succ]; exact Nat.mod_mul_right_div_self ..
    have d2 : b % 256 ^ (k + 1) / 256 ^ k = b / 256 ^ k % 256 := by rw [Nat.pow_succ]; exact Nat.mod_mul_right_div_self ..
    have m1 : a % 256 ^ (k + 1) % 256 ^ k = a % 256 ^ k := Nat.mod_mod_of_dvd _ (Nat.pow_dvd_pow _ (by omega))
    have m2 : b % 256 ^ (k + 1) % 256 ^ k = b % 256 ^ k := Nat.mod_mod_of_dvd _ (Nat.pow_dvd_pow _ (by omega))
    rw [fx, fx, fx_low a b k (by rw [← m1, ← m2, h]), ← d1, ← d2, h]
theorem cmp_fx (a b : Nat) : ∀ k, cmp (fx a k) (fx b k) = if a % 256 ^ k < b % 256 ^ k then -1 else if b % 256 ^ k < a % 256 ^ k then 1 else 0
  | 0 => by simp [fx, cmp, Nat.mod_one]
  | k + 1 => by
    have hp : 0 < 256 ^ k := Nat.pow_pos (by decide)
    have e1 : a % 256 ^ (k + 1) = a / 256 ^ k % 256 * 256 ^ k + a % 256 ^ k := by
      rw [Nat.pow_succ, Nat.mod_mul]
      rw [Nat.mul_comm (256 ^ k)]
      omega
    have e2 : b % 256 ^ (k + 1) = b / 256 ^ k % 256 * 256 ^ k + b % 256 ^ k := by
      rw [Nat.pow_succ, Nat.mod_mul]
      rw [Nat.mul_comm (256 ^ k)]
      omega
    have l1 := Nat.mod_lt a hp
    have l2 := Nat.mod_lt b hp
    have ih := cmp_fx a b k
    rw [e1, e2, fx, fx]
    generalize a / 256 ^ k % 256 = x
    generalize b / 256 ^ k % 256 = y
    generalize a % 256 ^ k = s at *
    generalize b % 256 ^ k = t at *
    generalize 256 ^ k = M at *
    rcases Nat.lt_trichotomy x y with h | h | h
    · have : x * M + M ≤ y * M := by
        have := Nat.mul_le_mul_right M (show x + 1 ≤ y by omega)
        rw [Nat.add_mul, Nat.one_mul] at this
        exact this
      rw [cmp_less (by omega), if_pos (by omega)]
    · subst h
      rw [cmp_same, ih]
      simp only [Nat.add_lt_add_iff_left]
    · have : y * M + M ≤ x * M := by
        have := Nat.mul_le_mul_right M (show y + 1 ≤ x by omega)
        rw [Nat.add_mul, Nat.one_mul] at this
        exact this
      rw [cmp_more (by omega), if_neg (by omega), if_pos (by omega)]

/-- Where what begins so ends. -/
def aft : List Int → Option (List Int)
  | [] => none
  | x :: r => match aft r with
    | some s => some (x :: s)
    | none => if x = 255 then none else some [x + 1]
theorem okb_aft : ∀ {p e : List Int}, Okb p → aft p = some e → Okb e
  | [], e, _, h => by simp [aft] at h
  | x :: r, e, hp, h => by
    have hx := hp.head
    unfold aft at h
    cases hr : aft r with
    | some s =>
      rw [hr] at h
      simp at h
      subst h
      intro y hy
      rcases List.mem_cons.1 hy with q | q
      · rw [q]; exact hx
      · exact okb_aft hp.tail hr y q
    | none =>
      rw [hr] at h
      by_cases q : x = 255
      · simp [q] at h
      · simp [q] at h
        subst h
        intro y hy
        simp at hy
        omega
theorem between : ∀ (p b : List Int), Okb p → Okb b → (p <+: b ↔ 0 ≤ cmp b p ∧ ∀ e, aft p = some e → cmp b e < 0)
  | [], b, _, _ => by
    have := cmp_nil b
    simp [aft, this]
  | x :: r, [], _, _ => by simp [cmp]
  | x :: r, y :: q, hp, hb => by
    have hx := hp.head
    have hy := hb.head
    have ih := between r q hp.tail hb.tail
    rw [List.cons_prefix_cons]
    rcases Int.lt_trichotomy y x with h | h | h
    · rw [cmp_less h]
      constructor
      · rintro ⟨e, _⟩; omega
      · rintro ⟨e, _⟩; omega
    · subst h
      rw [cmp_same]
      unfold aft
      cases hr : aft r with
      | some s =>
        rw [hr] at ih
        simp only [true_and, ih, Option.some.injEq]
        constructor
        · rintro ⟨h1, h2⟩
          refine ⟨h1, fun e he => ?_⟩
          subst he
          rw [cmp_same]
          exact h2 s rfl
        · rintro ⟨h1, h2⟩
          refine ⟨h1, fun e he => ?_⟩
          subst he
          have := h2 _ rfl
          rw [cmp_same] at this
          exact this
      | none =>
        rw [hr] at ih
        simp only [true_and, ih]
        constructor
        · rintro ⟨h1, _⟩
          refine ⟨h1, fun e he => ?_⟩
          by_cases z : y = 255
          · simp [z] at he
          · simp [z] at he
            subst he
            rw [cmp_less (by omega)]
            decide
        · rintro ⟨h1, _⟩
          exact ⟨h1, fun e he => by cases he⟩
    · rw [cmp_more h]
      constructor
      · rintro ⟨e, _⟩; omega
      · rintro ⟨_, h2⟩
        exfalso
        cases hr : aft r with
        | some s =>
          have := h2 (x :: s) (by simp [aft, hr])
          rw [cmp_more h] at this
          omega
        | none =>
          have := h2 [x + 1] (by
            have : x ≠ 255 := by omega
            simp [aft, hr, this])
          rcases Int.lt_trichotomy y (x + 1) with g | g | g
          · omega
          · subst g
            rw [cmp_same] at this
            have := cmp_nil q
            omega
          · rw [cmp_more g] at this
            omega
end Go.Proofs.Yteaicilehigjlaa

/- Edits, on lists: may one be, its bytes, what bytes tell; what follows. -/
namespace Go.Proofs.Yteaicilehigjlaa
set_option linter.unusedVariables false
set_option linter.unusedSimpArgs false

/-- A line of a table, and an edit. -/
structure LnV where
  num : Int
  lvl : Int
  size : Int
  least : List Int
  most : List Int
structure EdV where
  log : Int
  next : Int
  seq : Int
  add : List LnV
  rem : List Int
def mayNo (n : Int) : Bool := decide (1 ≤ n ∧ n ≤ 1099511627776)
def mayKy (k : List Int) : Bool := decide (1 ≤ k.length ∧ k.length ≤ 512)
def mayMk (n : Int) : Bool := decide (0 ≤ n ∧ n ≤ 4611686018427387904)
def mayLn (t : LnV) : Bool := decide ((1 ≤ t.num ∧ t.num ≤ 1099511627776) ∧ (0 ≤ t.lvl ∧ t.lvl < 4) ∧ (1 ≤ t.size ∧ t.size ≤ 4194304) ∧ (1 ≤ t.least.length ∧ t.least.length ≤ 512) ∧ (1 ≤ t.most.length ∧ t.most.length ≤ 512) ∧ cmp t.least t.most ≤ 0)
def nosL (l : List LnV) : List Int := l.map (·.num)
def mayAd (l : List LnV) : Bool := decide (l.length ≤ 200) && (l.all mayLn && decide (nosL l).Nodup)
def mayRm (l : List Int) : Bool := decide (l.length ≤ 200) && (l.all mayNo && decide l.Nodup)
def mayEd (e : EdV) : Bool := (mayMk e.log && (mayMk e.next && mayMk e.seq)) && (mayAd e.add && mayRm e.rem)
/-- An edit's bytes. -/
def enLn (t : LnV) : List Int := uv t.num.toNat ++ (uv t.lvl.toNat ++ (uv t.size.toNat ++ (lb t.least ++ lb t.most)))
def enLns : List LnV → List Int
  | [] => []
  | t :: r => enLn t ++ enLns r
def enNs : List Int → List Int
  | [] => []
  | n :: r => uv n.toNat ++ enNs r
def enEd (e : EdV) : List Int := uv e.log.toNat ++ (uv e.next.toNat ++ (uv e.seq.toNat ++ (uv e.add.length ++ (enLns e.add ++ (uv e.rem.length ++ enNs e.rem)))))
def enEdV (e : EdV) : List Int := if mayEd e = true then enEd e else []
/-- What bytes tell. -/
def deLn (s : Rd) : LnV × Rd :=
  (⟨((rdN 1099511627776 s).1 : Int), ((rdN 3 (rdN 1099511627776 s).2).1 : Int), ((rdN 4194304 (rdN 3 (rdN 1099511627776 s).2).2).1 : Int), (rdB 512 (rdN 4194304 (rdN 3 (rdN 1099511627776 s).2).2).2).1, (rdB 512 (rdB 512 (rdN 4194304 (rdN 3 (rdN 1099511627776 s).2).2).2).2).1⟩,
    (rdB 512 (rdB 512 (rdN 4194304 (rdN 3 (rdN 1099511627776 s).2).2).2).2).2)
def deLns : Nat → Rd → List LnV × Rd
  | 0, s => ([], s)
  | n + 1, s => if (deLn s).2.2 ≠ 0 then ([(deLn s).1], (deLn s).2) else ((deLn s).1 :: (deLns n (deLn s).2).1, (deLns n (deLn s).2).2)
def deNs : Nat → Rd → List Int × Rd
  | 0, s => ([], s)
  | n + 1, s => if (rdN 1099511627776 s).2.2 ≠ 0 then ([((rdN 1099511627776 s).1 : Int)], (rdN 1099511627776 s).2) else (((rdN 1099511627776 s).1 : Int) :: (deNs n (rdN 1099511627776 s).2).1, (deNs n (rdN 1099511627776 s).2).2)
def e1S (d : List Int) : Nat × Rd := rdN 4611686018427387904 (d, 0)
def e2S (d : List Int) : Nat × Rd := rdN 4611686018427387904 (e1S d).2
def e3S (d : List Int) : Nat × Rd := rdN 4611686018427387904 (e2S d).2
def e4S (d : List Int) : Nat × Rd := rdN 200 (e3S d).2
def e5S (d : List Int) : List LnV × Rd := deLns (e4S d).1 (e4S d).2
def e6S (d : List Int) : Nat × Rd := rdN 200 (e5S d).2
def e7S (d : List Int) : List Int × Rd := deNs (e6S d).1 (e6S d).2
def edR (d : List Int) : EdV := ⟨((e1S d).1 : Int), ((e2S d).1 : Int), ((e3S d).1 : Int), (e5S d).1, (e7S d).1⟩
def edE (d : List Int) : Nat := if (rdE (e7S d).2).2 = 0 then (if mayEd (edR d) = true then 0 else 3) else (rdE (e7S d).2).2
def noEd : EdV := ⟨0, 0, 0, [], []⟩
def deEd (d : List Int) : EdV × Nat := if edE d ≠ 0 then (noEd, edE d) else (edR d, 0)

theorem mayLn_ok {t : LnV} (h : mayLn t = true) : (1 ≤ t.num ∧ t.num ≤ 1099511627776) ∧ (0 ≤ t.lvl ∧ t.lvl < 4) ∧ (1 ≤ t.size ∧ t.size ≤ 4194304) ∧ (1 ≤ t.least.length ∧ t.least.length ≤ 512) ∧ (1 ≤ t.most.length ∧ t.most.length ≤ 512) ∧ cmp t.least t.most ≤ 0 := of_decide_eq_true h
theorem mayNo_ok {n : Int} (h : mayNo n = true) : 1 ≤ n ∧ n ≤ 1099511627776 := of_decide_eq_true h
theorem mayMk_ok {n : Int} (h : mayMk n = true) : 0 ≤ n ∧ n ≤ 4611686018427387904 := of_decide_eq_true h
theorem mayAd_ok {l : List LnV} (h : mayAd l = true) : l.length ≤ 200 ∧ (∀ t ∈ l, mayLn t = true) ∧ (nosL l).Nodup := by
  unfold mayAd at h
  simp only [Bool.and_eq_true, decide_eq_true_eq, List.all_eq_true] at h
  exact h
theorem mayRm_ok {l : List Int} (h : mayRm l = true) : l.length ≤ 200 ∧ (∀ t ∈ l, mayNo t = true) ∧ l.Nodup := by
  unfold mayRm at h
  simp only [Bool.and_eq_true, decide_eq_true_eq, List.all_eq_true] at h
  exact h
theorem mayEd_ok {e : EdV} (h : mayEd e = true) : (0 ≤ e.log ∧ e.log ≤ 4611686018427387904) ∧ (0 ≤ e.next ∧ e.next ≤ 4611686018427387904) ∧ (0 ≤ e.seq ∧ e.seq ≤ 4611686018427387904) ∧ mayAd e.add = true ∧ mayRm e.rem = true := by
  unfold mayEd at h
  simp only [Bool.and_eq_true] at h
  exact ⟨mayMk_ok h.1.1, mayMk_ok h.1.2.1, mayMk_ok h.1.2.2, h.2.1, h.2.2⟩
def OkL (t : LnV) : Prop := Okb t.least ∧ Okb t.most
theorem okb_enLn {t : LnV} (h : OkL t) : Okb (enLn t) := (okb_uv _).app ((okb_uv _).app ((okb_uv _).app ((okb_lb h.1).app (okb_lb h.2))))
theorem okb_enLns : ∀ {l : List LnV}, (∀ t ∈ l, OkL t) → Okb (enLns l)
  | [], _ => fun x hx => by cases hx
  | t :: r, h => (okb_enLn (h t (List.mem_cons_self ..))).app (okb_enLns fun p hp => h p (List.mem_cons_of_mem _ hp))
theorem okb_enNs : ∀ l : List Int, Okb (enNs l)
  | [] => fun x hx => by cases hx
  | n :: r => (okb_uv _).app (okb_enNs r)
theorem okb_enEd {e : EdV} (h : ∀ t ∈ e.add, OkL t) : Okb (enEd e) := (okb_uv _).app ((okb_uv _).app ((okb_uv _).app ((okb_uv _).app ((okb_enLns h).app ((okb_uv _).app (okb_enNs _))))))
theorem enLns_app : ∀ xs ys : List LnV, enLns (xs ++ ys) = enLns xs ++ enLns ys
  | [], ys => rfl
  | o :: r, ys => by rw [List.cons_append, enLns, enLns_app r ys, enLns, List.append_assoc]
theorem enNs_app : ∀ xs ys : List Int, enNs (xs ++ ys) = enNs xs ++ enNs ys
  | [], ys => rfl
  | o :: r, ys => by rw [List.cons_append, enNs, enNs_app r ys, enNs, List.append_assoc]
theorem enLns_take {l : List LnV} {k : Nat} {t : LnV} (h : l[k]? = some t) : enLns (l.take (k + 1)) = enLns (l.take k) ++ enLn t := by
  obtain ⟨hk, rfl⟩ := List.getElem?_eq_some_iff.1 h
  rw [List.take_add_one, List.getElem?_eq_getElem hk, enLns_app]
  show _ ++ (enLn l[k] ++ []) = _
  rw [List.append_nil]
theorem enNs_take {l : List Int} {k : Nat} {t : Int} (h : l[k]? = some t) : enNs (l.take (k + 1)) = enNs (l.take k) ++ uv t.toNat := by
  obtain ⟨hk, rfl⟩ := List.getElem?_eq_some_iff.1 h
  rw [List.take_add_one, List.getElem?_eq_getElem hk, enNs_app]
  show _ ++ (uv l[k].toNat ++ []) = _
  rw [List.append_nil]
theorem enLn_len {t : LnV} (h : mayLn t = true) : (enLn t).length ≤ 1100 := by
  have h1 := mayLn_ok h
  have h2 := uv_len64 (n := t.least.length) (by omega)
  have h3 := uv_len64 (n := t.most.length) (by omega)
  have h4 := uv_len64 (n := t.num.toNat) (by omega)
  have h5 := uv_len64 (n := t.lvl.toNat) (by omega)
  have h6 := uv_len64 (n := t.size.toNat) (by omega)
  unfold enLn
  simp only [List.length_append, lb_len]
  omega
theorem enLns_len : ∀ {l : List LnV}, (∀ t ∈ l, mayLn t = true) → (enLns l).length ≤ 1100 * l.length
  | [], _ => by simp [enLns]
  | o :: r, h => by
    have h1 := enLn_len (h o (List.mem_cons_self ..))
    have h2 := enLns_len fun p hp => h p (List.mem_cons_of_mem _ hp)
    rw [enLns, List.length_append, List.length_cons]
    omega
theorem enNs_len : ∀ {l : List Int}, (∀ t ∈ l, mayNo t = true) → (enNs l).length ≤ 10 * l.length
  | [], _ => by simp [enNs]
  | o :: r, h => by
    have h0 := mayNo_ok (h o (List.mem_cons_self ..))
    have h1 := uv_len64 (n := o.toNat) (by omega)
    have h2 := enNs_len fun p hp => h p (List.mem_cons_of_mem _ hp)
    rw [enNs, List.length_append, List.length_cons]
    omega
theorem enEd_len {e : EdV} (h : mayEd e = true) : (enEd e).length ≤ 250000 := by
  have h1 := mayEd_ok h
  have h2 := mayAd_ok h1.2.2.2.1
  have h3 := mayRm_ok h1.2.2.2.2
  have h4 := enLns_len h2.2.1
  have h5 := enNs_len h3.2.1
  have := uv_len64 (n := e.log.toNat) (by omega)
  have := uv_len64 (n := e.next.toNat) (by omega)
  have := uv_len64 (n := e.seq.toNat) (by omega)
  have := uv_len64 (n := e.add.length) (by omega)
  have := uv_len64 (n := e.rem.length) (by omega)
  unfold enEd
  simp only [List.length_append]
  omega
/-- A line that may be is read, whatever stands behind it; cut off it is an error. -/
theorem deLn_enLn {o : LnV} {t : List Int} (h : mayLn o = true) (ho : OkL o) (ht : Okb t) : deLn (enLn o ++ t, 0) = (o, (t, 0)) := by
  obtain ⟨num, lvl, size, least, most⟩ := o
  have h1 := mayLn_ok h
  simp only at h1
  obtain ⟨ho1, ho2⟩ : Okb least ∧ Okb most := ho
  have k2 := (okb_lb ho2).app ht
  have k1 := (okb_lb ho1).app k2
  have k0 := (okb_uv size.toNat).app k1
  unfold deLn enLn
  simp only [List.append_assoc]
  rw [rdN_uv (by omega) (by omega) ((okb_uv lvl.toNat).app k0)]
  simp only
  rw [rdN_uv (by omega) (by omega) k0]
  simp only
  rw [rdN_uv (by omega) (by omega) k1]
  simp only
  rw [rdB_lb (by omega) (by omega) ho1 k2]
  simp only
  rw [rdB_lb (by omega) (by omega) ho2 ht]
  simp only [Prod.mk.injEq, LnV.mk.injEq, and_true, true_and]
  omega
theorem deLn_cut {o : LnV} {k : Nat} (h : mayLn o = true) (ho : OkL o) (hk : k < (enLn o).length) : (deLn ((enLn o).take k, 0)).2.2 ≠ 0 := by
  obtain ⟨num, lvl, size, least, most⟩ := o
  have h1 := mayLn_ok h
  simp only at h1
  obtain ⟨ho1, ho2⟩ : Okb least ∧ Okb most := ho
  have k2 := okb_lb ho2
  have k1 := (okb_lb ho1).app k2
  have k0 := (okb_uv size.toNat).app k1
  have kk := (okb_uv lvl.toNat).app k0
  unfold deLn enLn at *
  simp only [List.length_append] at hk
  rcases take_two (uv num.toNat) (uv lvl.toNat ++ (uv size.toNat ++ (lb least ++ lb most))) k with ⟨q, e⟩ | ⟨q, e⟩
  · rw [e]
    have e5 := rdN_cut (most := 1099511627776) q
    have n5 : (rdN 1099511627776 ((uv num.toNat).take k, 0)).2.2 ≠ 0 := by rw [e5]; simp
    simp only
    rw [rdN_err (most := 3) n5]
    simp only
    rw [rdN_err (most := 4194304) n5]
    simp only
    rw [rdB_err (most := 512) n5]
    simp only
    rw [rdB_err (most := 512) n5]
    exact n5
  · rw [e, rdN_uv (by omega) (by omega) (okb_take kk)]
    simp only
    rcases take_two (uv lvl.toNat) (uv size.toNat ++ (lb least ++ lb most)) (k - (uv num.toNat).length) with ⟨q2, e2⟩ | ⟨q2, e2⟩
    · rw [e2]
      have e5 := rdN_cut (most := 3) q2
      have n5 : (rdN 3 ((uv lvl.toNat).take (k - (uv num.toNat).length), 0)).2.2 ≠ 0 := by rw [e5]; simp
      rw [rdN_err (most := 4194304) n5]
      simp only
      rw [rdB_err (most := 512) n5]
      simp only
      rw [rdB_err (most := 512) n5]
      exact n5
    · rw [e2, rdN_uv (by omega) (by omega) (okb_take k0)]
      simp only
      rcases take_two (uv size.toNat) (lb least ++ lb most) (k - (uv num.toNat).length - (uv lvl.toNat).length) with ⟨q3, e3⟩ | ⟨q3, e3⟩
      · rw [e3]
        have e5 := rdN_cut (most := 4194304) q3
        have n5 : (rdN 4194304 ((uv size.toNat).take (k - (uv num.toNat).length - (uv lvl.toNat).length), 0)).2.2 ≠ 0 := by rw [e5]; simp
        rw [rdB_err (most := 512) n5]
        simp only
        rw [rdB_err (most := 512) n5]
        exact n5
      · rw [e3, rdN_uv (by omega) (by omega) (okb_take k1)]
        simp only
        rcases take_two (lb least) (lb most) (k - (uv num.toNat).length - (uv lvl.toNat).length - (uv size.toNat).length) with ⟨q4, e4⟩ | ⟨q4, e4⟩
        · rw [e4]
          have e5 := rdB_cut (most := 512) (s := least) (by omega) (by omega) ho1 q4
          have n5 : (rdB 512 ((lb least).take (k - (uv num.toNat).length - (uv lvl.toNat).length - (uv size.toNat).length), 0)).2.2 ≠ 0 := by rw [e5]; simp
          rw [rdB_err (most := 512) n5]
          exact n5
        · rw [e4, rdB_lb (by omega) (by omega) ho1 (okb_take k2)]
          simp only
          rw [rdB_cut (by omega) (by omega) ho2 (by omega)]
          simp
theorem deLns_enLns : ∀ {os : List LnV} {t : List Int}, (∀ o ∈ os, mayLn o = true ∧ OkL o) → Okb t → deLns os.length (enLns os ++ t, 0) = (os, (t, 0))
  | [], t, _, _ => rfl
  | o :: r, t, h, ht => by
    have h1 := h o (List.mem_cons_self ..)
    have h2 : ∀ p ∈ r, mayLn p = true ∧ OkL p := fun p hp => h p (List.mem_cons_of_mem _ hp)
    have hd : deLn (enLns (o :: r) ++ t, 0) = (o, (enLns r ++ t, 0)) := by
      rw [enLns, List.append_assoc]
      exact deLn_enLn h1.1 h1.2 ((okb_enLns fun p hp => (h2 p hp).2).app ht)
    rw [List.length_cons, deLns, hd]
    simp only [ne_eq, not_true_eq_false, if_false]
    rw [deLns_enLns h2 ht]
theorem deLns_cut : ∀ {os : List LnV} {k : Nat}, (∀ o ∈ os, mayLn o = true ∧ OkL o) → k < (enLns os).length → (deLns os.length ((enLns os).take k, 0)).2.2 ≠ 0
  | [], k, _, hk => by simp [enLns] at hk
  | o :: r, k, h, hk => by
    have h1 := h o (List.mem_cons_self ..)
    have h2 : ∀ p ∈ r, mayLn p = true ∧ OkL p := fun p hp => h p (List.mem_cons_of_mem _ hp)
    rw [List.length_cons, deLns, enLns]
    rcases take_two (enLn o) (enLns r) k with ⟨q, e⟩ | ⟨q, e⟩
    · rw [e, if_pos (deLn_cut h1.1 h1.2 q)]
      exact deLn_cut h1.1 h1.2 q
    · rw [e, deLn_enLn h1.1 h1.2 (okb_take (okb_enLns fun p hp => (h2 p hp).2))]
      simp only [ne_eq, not_true_eq_false, if_false]
      exact deLns_cut h2 (by rw [enLns, List.length_append] at hk; omega)
theorem deNs_enNs : ∀ {os : List Int} {t : List Int}, (∀ o ∈ os, mayNo o = true) → Okb t → deNs os.length (enNs os ++ t, 0) = (os, (t, 0))
  | [], t, _, _ => rfl
  | o :: r, t, h, ht => by
    have h1 := mayNo_ok (h o (List.mem_cons_self ..))
    have h2 : ∀ p ∈ r, mayNo p = true := fun p hp => h p (List.mem_cons_of_mem _ hp)
    have hd : rdN 1099511627776 (enNs (o :: r) ++ t, 0) = (o.toNat, (enNs r ++ t, 0)) := by
      rw [enNs, List.append_assoc]
      exact rdN_uv (by omega) (by omega) ((okb_enNs r).app ht)
    have eo : ((o.toNat : Nat) : Int) = o := by omega
    rw [List.length_cons, deNs, hd]
    simp only [ne_eq, not_true_eq_false, if_false]
    rw [deNs_enNs h2 ht, eo]
theorem deNs_cut : ∀ {os : List Int} {k : Nat}, (∀ o ∈ os, mayNo o = true) → k < (enNs os).length → (deNs os.length ((enNs os).take k, 0)).2.2 ≠ 0
  | [], k, _, hk => by simp [enNs] at hk
  | o :: r, k, h, hk => by
    have h1 := mayNo_ok (h o (List.mem_cons_self ..))
    have h2 : ∀ p ∈ r, mayNo p = true := fun p hp => h p (List.mem_cons_of_mem _ hp)
    rw [List.length_cons, deNs, enNs]
    rcases take_two (uv o.toNat) (enNs r) k with ⟨q, e⟩ | ⟨q, e⟩
    · have n5 : (rdN 1099511627776 ((uv o.toNat).take k, 0)).2.2 ≠ 0 := by rw [rdN_cut q]; simp
      rw [e, if_pos n5]
      exact n5
    · rw [e, rdN_uv (by omega) (by omega) (okb_take (okb_enNs r))]
      simp only [ne_eq, not_true_eq_false, if_false]
      exact deNs_cut h2 (by rw [enNs, List.length_append] at hk; omega)
theorem deLn_err {s : Rd} (h : s.2 ≠ 0) : (deLn s).2.2 ≠ 0 := by
  unfold deLn
  rw [rdN_err h]
  simp only
  rw [rdN_err h]
  simp only
  rw [rdN_err h]
  simp only
  rw [rdB_err h]
  simp only
  rw [rdB_err h]
  exact h
theorem deLns_err : ∀ {n : Nat} {s : Rd}, s.2 ≠ 0 → (deLns n s).2.2 ≠ 0
  | 0, s, h => h
  | n + 1, s, h => by
    have e := deLn_err h
    rw [deLns, if_pos e]
    exact e
theorem deNs_err : ∀ {n : Nat} {s : Rd}, s.2 ≠ 0 → (deNs n s).2.2 ≠ 0
  | 0, s, h => h
  | n + 1, s, h => by
    have e : (rdN 1099511627776 s).2.2 ≠ 0 := by rw [rdN_err h]; exact h
    rw [deNs, if_pos e]
    exact e
theorem rdE_err {s : Rd} (h : s.2 ≠ 0) : rdE s = s := by unfold rdE; rw [if_neg (by intro q; exact h q.1)]
theorem edE_err {d : List Int} (h : (e7S d).2.2 ≠ 0) : (deEd d).2 ≠ 0 := by
  have hE : edE d = (e7S d).2.2 := by
    unfold edE
    generalize e7S d = x at h ⊢
    rw [rdE_err h, if_neg h]
  unfold deEd
  rw [hE, if_pos h]
  exact h
theorem rdN_errne {most : Nat} {s : Rd} (h : s.2 ≠ 0) : (rdN most s).2.2 ≠ 0 := by rw [rdN_err h]; exact h
/-- What was encoded is told again; with more behind it is an error. -/
theorem deEd_enEd {e : EdV} {t : List Int} (h : mayEd e = true) (ho : ∀ o ∈ e.add, OkL o) (ht : Okb t) : (t = [] → deEd (enEd e ++ t) = (e, 0)) ∧ (t ≠ [] → (deEd (enEd e ++ t)).2 ≠ 0) := by
  obtain ⟨log, next, seq, add, rem⟩ := e
  have h1 := mayEd_ok h
  simp only at h1 ho
  have h2 := mayAd_ok h1.2.2.2.1
  have h3 := mayRm_ok h1.2.2.2.2
  have hall : ∀ o ∈ add, mayLn o = true ∧ OkL o := fun o hp => ⟨h2.2.1 o hp, ho o hp⟩
  have k7 : Okb (enNs rem ++ t) := (okb_enNs _).app ht
  have k6 := (okb_uv rem.length).app k7
  have k5 := (okb_enLns ho).app k6
  have k4 := (okb_uv add.length).app k5
  have k3 := (okb_uv seq.toNat).app k4
  have k2 := (okb_uv next.toNat).app k3
  have s1 : e1S (enEd ⟨log, next, seq, add, rem⟩ ++ t) = (log.toNat, (uv next.toNat ++ (uv seq.toNat ++ (uv add.length ++ (enLns add ++ (uv rem.length ++ (enNs rem ++ t))))), 0)) := by
    unfold e1S enEd
    simp only [List.append_assoc]
    exact rdN_uv (by omega) (by omega) k2
  have s2 : e2S (enEd ⟨log, next, seq, add, rem⟩ ++ t) = (next.toNat, (uv seq.toNat ++ (uv add.length ++ (enLns add ++ (uv rem.length ++ (enNs rem ++ t)))), 0)) := by
    unfold e2S
    rw [s1]
    exact rdN_uv (by omega) (by omega) k3
  have s3 : e3S (enEd ⟨log, next, seq, add, rem⟩ ++ t) = (seq.toNat, (uv add.length ++ (enLns add ++ (uv rem.length ++ (enNs rem ++ t))), 0)) := by
    unfold e3S
    rw [s2]
    exact rdN_uv (by omega) (by omega) k4
  have s4 : e4S (enEd ⟨log, next, seq, add, rem⟩ ++ t) = (add.length, (enLns add ++ (uv rem.length ++ (enNs rem ++ t)), 0)) := by
    unfold e4S
    rw [s3]
    exact rdN_uv (by omega) (by omega) k5
  have s5 : e5S (enEd ⟨log, next, seq, add, rem⟩ ++ t) = (add, (uv rem.length ++ (enNs rem ++ t), 0)) := by
    unfold e5S
    rw [s4]
    exact deLns_enLns hall k6
  have s6 : e6S (enEd ⟨log, next, seq, add, rem⟩ ++ t) = (rem.length, (enNs rem ++ t, 0)) := by
    unfold e6S
    rw [s5]
    exact rdN_uv (by omega) (by omega) k7
  have s7 : e7S (enEd ⟨log, next, seq, add, rem⟩ ++ t) = (rem, (t, 0)) := by
    unfold e7S
    rw [s6]
    exact deNs_enNs h3.2.1 ht
  have hR : edR (enEd ⟨log, next, seq, add, rem⟩ ++ t) = ⟨log, next, seq, add, rem⟩ := by
    unfold edR
    rw [s1, s2, s3, s5, s7]
    simp only [EdV.mk.injEq, and_true]
    omega
  constructor
  · intro e
    have hE : edE (enEd ⟨log, next, seq, add, rem⟩ ++ t) = 0 := by
      unfold edE
      rw [s7, hR, e]
      simp [rdE, h]
    unfold deEd
    rw [if_neg (by rw [hE]; simp), hR]
  · intro hne
    have hl : 0 < t.length := List.length_pos_iff.2 hne
    have hE : edE (enEd ⟨log, next, seq, add, rem⟩ ++ t) = 3 := by
      unfold edE
      rw [s7]
      have : rdE (t, 0) = (t, 3) := by unfold rdE; rw [if_pos ⟨rfl, hl⟩]
      simp [this]
    unfold deEd
    rw [if_pos (by rw [hE]; simp), hE]
    simp
theorem deEd_cut {e : EdV} {k : Nat} (h : mayEd e = true) (ho : ∀ o ∈ e.add, OkL o) (hk : k < (enEd e).length) : (deEd ((enEd e).take k)).2 ≠ 0 := by
  obtain ⟨log, next, seq, add, rem⟩ := e
  have h1 := mayEd_ok h
  simp only at h1 ho
  have h2 := mayAd_ok h1.2.2.2.1
  have h3 := mayRm_ok h1.2.2.2.2
  have hall : ∀ o ∈ add, mayLn o = true ∧ OkL o := fun o hp => ⟨h2.2.1 o hp, ho o hp⟩
  have k7 : Okb (enNs rem) := okb_enNs _
  have k6 := (okb_uv rem.length).app k7
  have k5 := (okb_enLns ho).app k6
  have k4 := (okb_uv add.length).app k5
  have k3 := (okb_uv seq.toNat).app k4
  have k2 := (okb_uv next.toNat).app k3
  refine edE_err ?_
  unfold enEd at hk ⊢
  simp only [List.length_append] at hk
  unfold e7S e6S e5S e4S e3S e2S e1S
  simp only
  rcases take_two (uv log.toNat) (uv next.toNat ++ (uv seq.toNat ++ (uv add.length ++ (enLns add ++ (uv rem.length ++ enNs rem))))) k with ⟨q, e⟩ | ⟨q, e⟩
  · rw [e]
    exact deNs_err (rdN_errne (deLns_err (rdN_errne (rdN_errne (rdN_errne (by rw [rdN_cut q]; simp))))))
  · rw [e, rdN_uv (by omega) (by omega) (okb_take k2)]
    simp only
    rcases take_two (uv next.toNat) (uv seq.toNat ++ (uv add.length ++ (enLns add ++ (uv rem.length ++ enNs rem)))) (k - (uv log.toNat).length) with ⟨q2, e2⟩ | ⟨q2, e2⟩
    · rw [e2]
      exact deNs_err (rdN_errne (deLns_err (rdN_errne (rdN_errne (by rw [rdN_cut q2]; simp)))))
    · rw [e2, rdN_uv (by omega) (by omega) (okb_take k3)]
      simp only
      rcases take_two (uv seq.toNat) (uv add.length ++ (enLns add ++ (uv rem.length ++ enNs rem))) (k - (uv log.toNat).length - (uv next.toNat).length) with ⟨q3, e3⟩ | ⟨q3, e3⟩
      · rw [e3]
        exact deNs_err (rdN_errne (deLns_err (rdN_errne (by rw [rdN_cut q3]; simp))))
      · rw [e3, rdN_uv (by omega) (by omega) (okb_take k4)]
        simp only
        rcases take_two (uv add.length) (enLns add ++ (uv rem.length ++ enNs rem)) (k - (uv log.toNat).length - (uv next.toNat).length - (uv seq.toNat).length) with ⟨q4, e4⟩ | ⟨q4, e4⟩
        · rw [e4]
          exact deNs_err (rdN_errne (deLns_err (by rw [rdN_cut q4]; simp)))
        · rw [e4, rdN_uv (by omega) (by omega) (okb_take k5)]
          simp only
          rcases take_two (enLns add) (uv rem.length ++ enNs rem) (k - (uv log.toNat).length - (uv next.toNat).length - (uv seq.toNat).length - (uv add.length).length) with ⟨q5, e5⟩ | ⟨q5, e5⟩
          · rw [e5]
            exact deNs_err (rdN_errne (deLns_cut hall q5))
          · rw [e5, deLns_enLns hall (okb_take k6)]
            simp only
            rcases take_two (uv rem.length) (enNs rem) (k - (uv log.toNat).length - (uv next.toNat).length - (uv seq.toNat).length - (uv add.length).length - (enLns add).length) with ⟨q6, e6⟩ | ⟨q6, e6⟩
            · rw [e6]
              exact deNs_err (by rw [rdN_cut q6]; simp)
            · rw [e6, rdN_uv (by omega) (by omega) (okb_take k7)]
              simp only
              exact deNs_cut h3.2.1 (by omega)
end Go.Proofs.Yteaicilehigjlaa
