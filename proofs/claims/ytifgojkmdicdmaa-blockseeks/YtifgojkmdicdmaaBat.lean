/- Batches, on lists: may one be, its bytes, what bytes tell; what follows. -/
import Derived.Test.YtifgojkmdicdmaaRdl
namespace Go.Proofs.Ytifgojkmdicdmaa
set_option linter.unusedVariables false
set_option linter.unusedSimpArgs false

/-- A change. -/
structure OpV where
  key : List Int
  gone : Bool
  till : Int
  val : List Int
/-- What is wrong with a change: 0: nothing. -/
def may1 (o : OpV) : Nat :=
  if o.key.length = 0 ∨ o.till < 0 ∨ 4611686018427387904 < o.till ∨ (o.gone = true ∧ (o.till ≠ 0 ∨ 0 < o.val.length)) then 1 else if 512 < o.key.length ∨ 2048 < o.val.length then 2 else 0
def mayO : List OpV → Nat
  | [] => 0
  | o :: r => if may1 o ≠ 0 then may1 o else mayO r
def mayB (s : Int) (os : List OpV) : Nat :=
  if os.length < 1 ∨ 400 < os.length then 13 else if s < 1 ∨ 4611686018427387904 - ((os.length : Int) - 1) < s then 1 else mayO os
theorem may1_cases (o : OpV) : may1 o = 0 ∨ may1 o = 1 ∨ may1 o = 2 := by
  unfold may1
  split
  · exact .inr (.inl rfl)
  · split
    · exact .inr (.inr rfl)
    · exact .inl rfl
theorem mayO_cases : ∀ os : List OpV, mayO os = 0 ∨ mayO os = 1 ∨ mayO os = 2
  | [] => .inl rfl
  | o :: r => by
    unfold mayO
    split
    · exact may1_cases o
    · exact mayO_cases r
theorem mayO_all : ∀ {os : List OpV}, mayO os = 0 → ∀ o ∈ os, may1 o = 0
  | [], _, o, ho => by cases ho
  | p :: r, h, o, ho => by
    unfold mayO at h
    split at h
    · rename_i q; exact absurd h q
    · rename_i q
      rcases List.mem_cons.1 ho with e | e
      · rw [e]; exact Decidable.not_not.1 q
      · exact mayO_all h o e
theorem may1_ok {o : OpV} (h : may1 o = 0) : 1 ≤ o.key.length ∧ o.key.length ≤ 512 ∧ 0 ≤ o.till ∧ o.till ≤ 4611686018427387904 ∧ o.val.length ≤ 2048 ∧ (o.gone = true → o.till = 0 ∧ o.val = []) := by
  unfold may1 at h
  split at h
  · simp at h
  · rename_i q
    split at h
    · simp at h
    · rename_i q2
      refine ⟨by omega, by omega, by omega, by omega, by omega, fun hg => ?_⟩
      have : ¬ (o.till ≠ 0 ∨ 0 < o.val.length) := fun hx => q (.inr (.inr (.inr ⟨hg, hx⟩)))
      exact ⟨by omega, List.eq_nil_of_length_eq_zero (by omega)⟩
theorem mayB_ok {s : Int} {os : List OpV} (h : mayB s os = 0) : 1 ≤ os.length ∧ os.length ≤ 400 ∧ 1 ≤ s ∧ s ≤ 4611686018427387904 - ((os.length : Int) - 1) ∧ ∀ o ∈ os, may1 o = 0 := by
  unfold mayB at h
  split at h
  · simp at h
  · split at h
    · simp at h
    · exact ⟨by omega, by omega, by omega, by omega, mayO_all h⟩
/-- A change's bytes. -/
def flg (g : Bool) : Int := if g then 1 else 0
def enO (o : OpV) : List Int := flg o.gone :: (lb o.key ++ (if o.gone then [] else uv o.till.toNat ++ lb o.val))
def enOs : List OpV → List Int
  | [] => []
  | o :: r => enO o ++ enOs r
def enB (s : Int) (os : List OpV) : List Int := uv s.toNat ++ (uv os.length ++ enOs os)
def OkO (o : OpV) : Prop := Okb o.key ∧ Okb o.val
theorem okb_enO {o : OpV} (h : OkO o) : Okb (enO o) := by
  intro x hx
  unfold enO at hx
  rcases List.mem_cons.1 hx with e | e
  · rw [e]; unfold flg; split <;> omega
  · refine (Okb.app (okb_lb h.1) ?_) x e
    split
    · exact fun y hy => by cases hy
    · exact (okb_uv _).app (okb_lb h.2)
theorem okb_enOs : ∀ {os : List OpV}, (∀ o ∈ os, OkO o) → Okb (enOs os)
  | [], _ => fun x hx => by cases hx
  | o :: r, h => (okb_enO (h o (List.mem_cons_self ..))).app (okb_enOs fun p hp => h p (List.mem_cons_of_mem _ hp))
theorem okb_enB {s : Int} {os : List OpV} (h : ∀ o ∈ os, OkO o) : Okb (enB s os) := (okb_uv _).app ((okb_uv _).app (okb_enOs h))
theorem enOs_app : ∀ xs ys : List OpV, enOs (xs ++ ys) = enOs xs ++ enOs ys
  | [], ys => rfl
  | o :: r, ys => by rw [List.cons_append, enOs, enOs_app r ys, enOs, List.append_assoc]
theorem enO_len {o : OpV} (h : may1 o = 0) : (enO o).length ≤ 2700 := by
  have h1 := may1_ok h
  have h2 := uv_len64 (n := o.key.length) (by omega)
  have h3 := uv_len64 (n := o.val.length) (by omega)
  have h4 := uv_len64 (n := o.till.toNat) (by omega)
  unfold enO
  rw [List.length_cons, List.length_append, lb_len]
  split
  · simp; omega
  · rw [List.length_append, lb_len]; omega
theorem enOs_len : ∀ {os : List OpV}, (∀ o ∈ os, may1 o = 0) → (enOs os).length ≤ 2700 * os.length
  | [], _ => by simp [enOs]
  | o :: r, h => by
    have h1 := enO_len (h o (List.mem_cons_self ..))
    have h2 := enOs_len fun p hp => h p (List.mem_cons_of_mem _ hp)
    rw [enOs, List.length_append, List.length_cons]
    omega
/-- A reader: what is left, and the first error. -/
abbrev Rd := List Int × Nat
def rdN (most : Nat) (s : Rd) : Nat × Rd := if s.2 ≠ 0 then (0, s) else if (tk s.1).1 ≠ 0 then (0, (s.1, (tk s.1).1)) else if most < (tk s.1).2.1 then (0, (s.1, 3)) else ((tk s.1).2.1, (s.1.drop (tk s.1).2.2, 0))
def rdB (most : Nat) (s : Rd) : List Int × Rd := if s.2 ≠ 0 then ([], s) else if (tb s.1 most).1 ≠ 0 then ([], (s.1, (tb s.1 most).1)) else ((tb s.1 most).2.1, (s.1.drop (tb s.1 most).2.2, 0))
def rdF (s : Rd) : Bool × Rd := if s.2 ≠ 0 then (false, s) else match s.1 with
  | [] => (false, ([], 5))
  | c :: r => (c == 1, (r, if 1 < c then 3 else 0))
def rdE (s : Rd) : Rd := if s.2 = 0 ∧ 0 < s.1.length then (s.1, 3) else s
/-- A change, read. -/
def deO (s : Rd) : OpV × Rd :=
  if (rdF s).1 then (⟨(rdB 512 (rdF s).2).1, true, 0, []⟩, (rdB 512 (rdF s).2).2) else
    (⟨(rdB 512 (rdF s).2).1, false, ((rdN 4611686018427387904 (rdB 512 (rdF s).2).2).1 : Int), (rdB 2048 (rdN 4611686018427387904 (rdB 512 (rdF s).2).2).2).1⟩, (rdB 2048 (rdN 4611686018427387904 (rdB 512 (rdF s).2).2).2).2)
def deOs : Nat → Rd → List OpV × Rd
  | 0, s => ([], s)
  | n + 1, s => if (deO s).2.2 ≠ 0 then ([(deO s).1], (deO s).2) else ((deO s).1 :: (deOs n (deO s).2).1, (deOs n (deO s).2).2)
def deS (d : List Int) : Nat × Rd := rdN 4611686018427387904 (d, 0)
def deN (d : List Int) : Nat × Rd := rdN 400 (deS d).2
def deR (d : List Int) : List OpV × Rd := deOs (deN d).1 (deN d).2
/-- The error of bytes as a batch. -/
def deE (d : List Int) : Nat := if (rdE (deR d).2).2 = 0 then mayB ((deS d).1 : Int) (deR d).1 else (rdE (deR d).2).2
def deB (d : List Int) : (Int × List OpV) × Nat := if deE d ≠ 0 then ((0, []), deE d) else ((((deS d).1 : Int), (deR d).1), 0)

theorem rdN_err {most : Nat} {s : Rd} (h : s.2 ≠ 0) : rdN most s = (0, s) := by unfold rdN; rw [if_pos h]
theorem rdB_err {most : Nat} {s : Rd} (h : s.2 ≠ 0) : rdB most s = ([], s) := by unfold rdB; rw [if_pos h]
theorem rdF_err {s : Rd} (h : s.2 ≠ 0) : rdF s = (false, s) := by unfold rdF; rw [if_pos h]
theorem rdN_uv {most n : Nat} {t : List Int} (h : n ≤ most) (hn : n < 18446744073709551616) (ht : Okb t) : rdN most (uv n ++ t, 0) = (n, (t, 0)) := by
  unfold rdN
  simp only [tk_uv hn ht, ne_eq, not_true_eq_false, if_false]
  rw [if_neg (by omega), List.drop_left]
theorem rdN_cut {most n k : Nat} (hk : k < (uv n).length) : (rdN most ((uv n).take k, 0)).2.2 = 5 := by
  unfold rdN
  simp [tk_cut hk]
theorem rdB_lb {most : Nat} {s t : List Int} (h : s.length ≤ most) (hn : s.length < 18446744073709551616) (hs : Okb s) (ht : Okb t) : rdB most (lb s ++ t, 0) = (s, (t, 0)) := by
  unfold rdB
  simp only [tb_lb hs ht h hn, ne_eq, not_true_eq_false, if_false]
  rw [List.drop_left]
theorem rdB_cut {most k : Nat} {s : List Int} (h : s.length ≤ most) (hn : s.length < 18446744073709551616) (hs : Okb s) (hk : k < (lb s).length) : (rdB most ((lb s).take k, 0)).2.2 = 5 := by
  unfold rdB
  simp [tb_cut hs h hn hk]
theorem take_two (a b : List Int) (k : Nat) : (k < a.length ∧ (a ++ b).take k = a.take k) ∨ (a.length ≤ k ∧ (a ++ b).take k = a ++ b.take (k - a.length)) := by
  by_cases h : k < a.length
  · exact .inl ⟨h, by rw [List.take_append_of_le_length (by omega)]⟩
  · exact .inr ⟨by omega, by rw [List.take_append, List.take_of_length_le (by omega)]⟩
theorem okb_take {a : List Int} {k : Nat} (h : Okb a) : Okb (a.take k) := fun x hx => h x (List.mem_of_mem_take hx)

/-- A change that may be is read, whatever stands behind it. -/
theorem deO_enO {o : OpV} {t : List Int} (h : may1 o = 0) (ho : OkO o) (ht : Okb t) : deO (enO o ++ t, 0) = (o, (t, 0)) := by
  obtain ⟨key, gone, till, v⟩ := o
  have h1 := may1_ok h
  simp only at h1
  cases gone with
  | true =>
    obtain ⟨e1, e2⟩ := h1.2.2.2.2.2 rfl
    subst e1 e2
    have hF : rdF (enO ⟨key, true, 0, []⟩ ++ t, 0) = (true, (lb key ++ t, 0)) := by
      simp [rdF, enO, flg]
    unfold deO
    rw [hF]
    simp only [if_true]
    rw [rdB_lb h1.2.1 (by omega) ho.1 ht]
  | false =>
    have hok2 : Okb (lb v ++ t) := (okb_lb ho.2).app ht
    have hF : rdF (enO ⟨key, false, till, v⟩ ++ t, 0) = (false, (lb key ++ (uv till.toNat ++ (lb v ++ t)), 0)) := by
      simp [rdF, enO, flg]
    unfold deO
    rw [hF]
    simp only [Bool.false_eq_true, if_false]
    rw [rdB_lb h1.2.1 (by omega) ho.1 ((okb_uv _).app hok2)]
    simp only
    rw [rdN_uv (by omega) (by omega) hok2]
    simp only
    rw [rdB_lb h1.2.2.2.2.1 (by omega) ho.2 ht]
    simp only [Prod.mk.injEq, OpV.mk.injEq, and_true, true_and]
    omega
/-- Cut off it is an error. -/
theorem deO_cut {o : OpV} {k : Nat} (h : may1 o = 0) (ho : OkO o) (hk : k < (enO o).length) : (deO ((enO o).take k, 0)).2.2 ≠ 0 := by
  obtain ⟨key, gone, till, v⟩ := o
  have h1 := may1_ok h
  simp only at h1
  cases k with
  | zero =>
    have hF : rdF ([], 0) = (false, ([], 5)) := rfl
    unfold deO
    rw [List.take_zero, hF]
    simp [rdB, rdN]
  | succ k =>
    cases gone with
    | true =>
      have hF : rdF ((enO ⟨key, true, till, v⟩).take (k + 1), 0) = (true, ((lb key).take k, 0)) := by
        simp [rdF, enO, flg]
      have hkl : k < (lb key).length := by simp [enO] at hk; omega
      unfold deO
      rw [hF]
      simp only [if_true]
      rw [rdB_cut h1.2.1 (by omega) ho.1 hkl]
      simp
    | false =>
      have hF : rdF ((enO ⟨key, false, till, v⟩).take (k + 1), 0) = (false, ((lb key ++ (uv till.toNat ++ lb v)).take k, 0)) := by
        simp [rdF, enO, flg]
      have hkl : k < (lb key ++ (uv till.toNat ++ lb v)).length := by simp [enO] at hk ⊢; omega
      unfold deO
      rw [hF]
      simp only [Bool.false_eq_true, if_false]
      rcases take_two (lb key) (uv till.toNat ++ lb v) k with ⟨q, e⟩ | ⟨q, e⟩
      · rw [e]
        have e5 := rdB_cut (most := 512) h1.2.1 (by omega) ho.1 q
        rw [rdN_err (by rw [e5]; simp)]
        simp only
        rw [rdB_err (by rw [e5]; simp)]
        simp only
        rw [e5]
        simp
      · rw [e, rdB_lb h1.2.1 (by omega) ho.1 (okb_take ((okb_uv _).app (okb_lb ho.2)))]
        simp only
        rcases take_two (uv till.toNat) (lb v) (k - (lb key).length) with ⟨q2, e2⟩ | ⟨q2, e2⟩
        · rw [e2]
          have e5 := rdN_cut (most := 4611686018427387904) q2
          rw [rdB_err (by rw [e5]; simp)]
          simp only
          rw [e5]
          simp
        · rw [e2, rdN_uv (by omega) (by omega) (okb_take (okb_lb ho.2))]
          simp only
          rw [rdB_cut h1.2.2.2.2.1 (by omega) ho.2 (by simp at hkl q q2; omega)]
          simp
theorem deOs_enOs : ∀ {os : List OpV} {t : List Int}, (∀ o ∈ os, may1 o = 0 ∧ OkO o) → Okb t → deOs os.length (enOs os ++ t, 0) = (os, (t, 0))
  | [], t, _, _ => rfl
  | o :: r, t, h, ht => by
    have h1 := h o (List.mem_cons_self ..)
    have h2 : ∀ p ∈ r, may1 p = 0 ∧ OkO p := fun p hp => h p (List.mem_cons_of_mem _ hp)
    have hd : deO (enOs (o :: r) ++ t, 0) = (o, (enOs r ++ t, 0)) := by
      rw [enOs, List.append_assoc]
      exact deO_enO h1.1 h1.2 ((okb_enOs fun p hp => (h2 p hp).2).app ht)
    rw [List.length_cons, deOs, hd]
    simp only [ne_eq, not_true_eq_false, if_false]
    rw [deOs_enOs h2 ht]
theorem deOs_cut : ∀ {os : List OpV} {k : Nat}, (∀ o ∈ os, may1 o = 0 ∧ OkO o) → k < (enOs os).length → (deOs os.length ((enOs os).take k, 0)).2.2 ≠ 0
  | [], k, _, hk => by simp [enOs] at hk
  | o :: r, k, h, hk => by
    have h1 := h o (List.mem_cons_self ..)
    have h2 : ∀ p ∈ r, may1 p = 0 ∧ OkO p := fun p hp => h p (List.mem_cons_of_mem _ hp)
    rw [List.length_cons, deOs, enOs]
    rcases take_two (enO o) (enOs r) k with ⟨q, e⟩ | ⟨q, e⟩
    · rw [e, if_pos (deO_cut h1.1 h1.2 q)]
      exact deO_cut h1.1 h1.2 q
    · rw [e, deO_enO h1.1 h1.2 (okb_take (okb_enOs fun p hp => (h2 p hp).2))]
      simp only [ne_eq, not_true_eq_false, if_false]
      exact deOs_cut h2 (by rw [enOs, List.length_append] at hk; omega)
/-- What was encoded is told again; with more behind it is an error. -/
theorem deB_enB {s : Int} {os : List OpV} {t : List Int} (h : mayB s os = 0) (ho : ∀ o ∈ os, OkO o) (ht : Okb t) : (t = [] → deB (enB s os ++ t) = ((s, os), 0)) ∧ (t ≠ [] → (deB (enB s os ++ t)).2 ≠ 0) := by
  have h1 := mayB_ok h
  have hall : ∀ o ∈ os, may1 o = 0 ∧ OkO o := fun o hp => ⟨h1.2.2.2.2 o hp, ho o hp⟩
  have hokt : Okb (enOs os ++ t) := (okb_enOs ho).app ht
  have hS : deS (enB s os ++ t) = (s.toNat, (uv os.length ++ (enOs os ++ t), 0)) := by
    unfold deS enB
    rw [List.append_assoc, List.append_assoc]
    exact rdN_uv (by omega) (by omega) ((okb_uv _).app hokt)
  have hN : deN (enB s os ++ t) = (os.length, (enOs os ++ t, 0)) := by
    unfold deN
    rw [hS]
    exact rdN_uv h1.2.1 (by omega) hokt
  have hR : deR (enB s os ++ t) = (os, (t, 0)) := by
    unfold deR
    rw [hN]
    exact deOs_enOs hall ht
  have es : ((s.toNat : Nat) : Int) = s := by omega
  constructor
  · intro e
    subst e
    have hE : deE (enB s os ++ []) = 0 := by
      unfold deE
      rw [hR, hS]
      simp [rdE, es, h]
    unfold deB
    rw [if_neg (by rw [hE]; simp), hR, hS]
    simp only [es]
  · intro hne
    have hl : 0 < t.length := List.length_pos_iff.2 hne
    have hE : deE (enB s os ++ t) = 3 := by
      unfold deE
      rw [hR]
      have : rdE (t, 0) = (t, 3) := by unfold rdE; rw [if_pos ⟨rfl, hl⟩]
      rw [this]
      simp
    unfold deB
    rw [if_pos (by rw [hE]; simp), hE]
    simp
theorem deOs_err : ∀ {n : Nat} {s : Rd}, s.2 ≠ 0 → (deOs n s).2.2 ≠ 0
  | 0, s, h => h
  | n + 1, s, h => by
    have e : (deO s).2.2 ≠ 0 := by
      unfold deO
      rw [rdF_err h]
      simp only [Bool.false_eq_true, if_false]
      rw [rdB_err h]
      simp only
      rw [rdN_err h]
      simp only
      rw [rdB_err h]
      exact h
    rw [deOs, if_pos e]
    exact e
theorem deE_err {d : List Int} (h : (deR d).2.2 ≠ 0) : (deB d).2 ≠ 0 := by
  have : rdE (deR d).2 = (deR d).2 := by unfold rdE; rw [if_neg (by intro q; exact h q.1)]
  have hE : deE d ≠ 0 := by
    unfold deE
    rw [this, if_neg h]
    exact h
  unfold deB
  rw [if_pos hE]
  exact hE
theorem deB_cut {s : Int} {os : List OpV} {k : Nat} (h : mayB s os = 0) (ho : ∀ o ∈ os, OkO o) (hk : k < (enB s os).length) : (deB ((enB s os).take k)).2 ≠ 0 := by
  have h1 := mayB_ok h
  have hall : ∀ o ∈ os, may1 o = 0 ∧ OkO o := fun o hp => ⟨h1.2.2.2.2 o hp, ho o hp⟩
  have hoko := okb_enOs ho
  refine deE_err ?_
  unfold deR deN deS enB at *
  rcases take_two (uv s.toNat) (uv os.length ++ enOs os) k with ⟨q, e⟩ | ⟨q, e⟩
  · rw [e]
    have e5 := rdN_cut (most := 4611686018427387904) q
    refine deOs_err ?_
    rw [rdN_err (by rw [e5]; simp), e5]
    simp
  · rw [e, rdN_uv (by omega) (by omega) (okb_take ((okb_uv _).app hoko))]
    simp only
    rcases take_two (uv os.length) (enOs os) (k - (uv s.toNat).length) with ⟨q2, e2⟩ | ⟨q2, e2⟩
    · rw [e2]
      have e5 := rdN_cut (most := 400) q2
      refine deOs_err ?_
      rw [e5]
      simp
    · rw [e2, rdN_uv h1.2.1 (by omega) (okb_take hoko)]
      simp only
      exact deOs_cut hall (by simp at hk; omega)
end Go.Proofs.Ytifgojkmdicdmaa
