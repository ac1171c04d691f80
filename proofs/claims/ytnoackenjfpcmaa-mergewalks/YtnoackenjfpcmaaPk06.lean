import Derived.Test.YtnoackenjfpcmaaPk03
import Derived.Test.YtnoackenjfpcmaaPk05
/- Batches, on lists: may one be, its bytes, what bytes tell; what follows. -/
namespace Go.Proofs.Ytnoackenjfpcmaa
set_option linter.unusedVariables false
set_option linter.unusedSimpArgs false

/-- A change. -/
structure OpV where
  key : List Int
  gone : Bool
  till : Int
  val : List Int
/-- What is wrong with a change: 0: nothing. -/
def may1 (o : OpV) : Nat :=
  if o.key.length = 0 ∨ o.till < 0 ∨ 4611686018427387904 < o.till ∨ (o.gone = true ∧ (o.till ≠ 0 ∨ 0 < o.val.length)) then 1 else if 512 < o.key.length ∨ 2048 < o.val.length then 2 else 0
def mayO : List OpV → Nat
  | [] => 0
  | o :: r => if may1 o ≠ 0 then may1 o else mayO r
def mayB (s : Int) (os : List OpV) : Nat :=
  if os.length < 1 ∨ 400 < os.length then 13 else if s < 1 ∨ 4611686018427387904 - ((os.length : Int) - 1) < s then 1 else mayO os
theorem may1_cases (o : OpV) : may1 o = 0 ∨ may1 o = 1 ∨ may1 o = 2 := by
  unfold may1
  split
  · exact .inr (.inl rfl)
  · split
    · exact .inr (.inr rfl)
    · exact .inl rfl
theorem mayO_cases : ∀ os : List OpV, mayO os = 0 ∨ mayO os = 1 ∨ mayO os = 2
  | [] => .inl rfl
  | o :: r => by
    unfold mayO
    split
    · exact may1_cases o
    · exact mayO_cases r
theorem mayO_all : ∀ {os : List OpV}, mayO os = 0 → ∀ o ∈ os, may1 o = 0
  | [], _, o, ho => by cases ho
  | p :: r, h, o, ho => by
    unfold mayO at h
    split at h
    · rename_i q; exact absurd h q
    · rename_i q
      rcases List.mem_cons.1 ho with e | e
      · rw [e]; exact Decidable.not_not.1 q
      · exact mayO_all h o e
theorem may1_ok {o : OpV} (h : may1 o = 0) : 1 ≤ o.key.length ∧ o.key.length ≤ 512 ∧ 0 ≤ o.till ∧ o.till ≤ 4611686018427387904 ∧ o.val.length ≤ 2048 ∧ (o.gone = true → o.till = 0 ∧ o.val = []) := by
  unfold may1 at h
  split at h
  · simp at h
  · rename_i q
    split at h
    · simp at h
    · rename_i q2
      refine ⟨by omega, by omega, by omega, by omega, by omega, fun hg => ?_⟩
      have : ¬ (o.till ≠ 0 ∨ 0 < o.val.length) := fun hx => q (.inr (.inr (.inr ⟨hg, hx⟩)))
      exact ⟨by omega, List.eq_nil_of_length_eq_zero (by omega)⟩
theorem mayB_ok {s : Int} {os : List OpV} (h : mayB s os = 0) : 1 ≤ os.length ∧ os.length ≤ 400 ∧ 1 ≤ s ∧ s ≤ 4611686018427387904 - ((os.length : Int) - 1) ∧ ∀ o ∈ os, may1 o = 0 := by
  unfold mayB at h
  split at h
  · simp at h
  · split at h
    · simp at h
    · exact ⟨by omega, by omega, by omega, by omega, mayO_all h⟩
/-- A change's bytes. -/
def flg (g : Bool) : Int := if g then 1 else 0
def enO (o : OpV) : List Int := flg o.gone :: (lb o.key ++ (if o.gone then [] else uv o.till.toNat ++ lb o.val))
def enOs : List OpV → List Int
  | [] => []
  | o :: r => enO o ++ enOs r
def enB (s : Int) (os : List OpV) : List Int := uv s.toNat ++ (uv os.length ++ enOs os)
def OkO (o : OpV) : Prop := Okb o.key ∧ Okb o.val
theorem okb_enO {o : OpV} (h : OkO o) : Okb (enO o) := by
  intro x hx
  unfold enO at hx
  rcases List.mem_cons.1 hx with e | e
  · rw [e]; unfold flg; split <;> omega
  · refine (Okb.app (okb_lb h.1) ?_) x e
    split
    · exact fun y hy => by cases hy
    · exact (okb_uv _).app (okb_lb h.2)
theorem okb_enOs : ∀ {os : List OpV}, (∀ o ∈ os, OkO o) → Okb (enOs os)
  | [], _ => fun x hx => by cases hx
  | o :: r, h => (okb_enO (h o (List.mem_cons_self ..))).app (okb_enOs fun p hp => h p (List.mem_cons_of_mem _ hp))
theorem okb_enB {s : Int} {os : List OpV} (h : ∀ o ∈ os, OkO o) : Okb (enB s os) := (okb_uv _).app ((okb_uv _).app (okb_enOs h))
theorem enOs_app : ∀ xs ys : List OpV, enOs (xs ++ ys) = enOs xs ++ enOs ys
  | [], ys => rfl
  | o :: r, ys => by rw [List.cons_append, enOs, enOs_app r ys, enOs, List.append_assoc]
theorem enO_len {o : OpV} (h : may1 o = 0) : (enO o).length ≤ 2700 := by
  have h1 := may1_ok h
  have h2 := uv_len64 (n := o.key.length) (by omega)
  have h3 := uv_len64 (n := o.val.length) (by omega)
  have h4 := uv_len64 (n := o.till.toNat) (by omega)
  unfold enO
  rw [List.length_cons, List.length_append, lb_len]
  split
  · simp; omega
  · rw [List.length_append, lb_len]; omega
theorem enOs_len : ∀ {os : List OpV}, (∀ o ∈ os, may1 o = 0) → (enOs os).length ≤ 2700 * os.length
  | [], _ => by simp [enOs]
  | o :: r, h => by
    have h1 := enO_len (h o (List.mem_cons_self ..))
    have h2 := enOs_len fun p hp => h p (List.mem_cons_of_mem _ hp)
    rw [enOs, List.length_append, List.length_cons]
    omega
/-- A reader: what is left, and the first error. -/
abbrev Rd := List Int × Nat
def rdN (most : Nat) (s : Rd) : Nat × Rd := if s.2 ≠ 0 then (0, s) else if (tk s.1).1 ≠ 0 then (0, (s.1, (tk s.1).1)) else if most < (tk s.1).2.1 then (0, (s.1, 3)) else ((tk s.1).2.1, (s.1.drop (tk s.1).2.2, 0))
def rdB (most : Nat) (s : Rd) : List Int × Rd := if s.2 ≠ 0 then ([], s) else if (tb s.1 most).1 ≠ 0 then ([], (s.1, (tb s.1 most).1)) else ((tb s.1 most).2.1, (s.1.drop (tb s.1 most).2.2, 0))
def rdF (s : Rd) : Bool × Rd := if s.2 ≠ 0 then (false, s) else match s.1 with
  | [] => (false, ([], 5))
  | c :: r => (c == 1, (r, if 1 < c then 3 else 0))
def rdE (s : Rd) : Rd := if s.2 = 0 ∧ 0 < s.1.length then (s.1, 3) else s
/-- A change, read. -/
def deO (s : Rd) : OpV × Rd :=
  if (rdF s).1 then (⟨(rdB 512 (rdF s).2).1, true, 0, []⟩, (rdB 512 (rdF s).2).2) else
    (⟨(rdB 512 (rdF s).2).1, false, ((rdN 4611686018427387904 (rdB 512 (rdF s).2).2).1 : Int), (rdB 2048 (rdN 4611686018427387904 (rdB 512 (rdF s).2).2).2).1⟩, (rdB 2048 (rdN 4611686018427387904 (rdB 512 (rdF s).2).2).2).2)
def deOs : Nat → Rd → List OpV × Rd
  | 0, s => ([], s)
  | n + 1, s => if (deO s).2.2 ≠ 0 then ([(deO s).1], (deO s).2) else ((deO s).1 :: (deOs n (deO s).2).1, (deOs n (deO s).2).2)
def deS (d : List Int) : Nat × Rd := rdN 4611686018427387904 (d, 0)
def deN (d : List Int) : Nat × Rd := rdN 400 (deS d).2
def deR (d : List Int) : List OpV × Rd := deOs (deN d).1 (deN d).2
/-- The error of bytes as a batch. -/
def deE (d : List Int) : Nat := if (rdE (deR d).2).2 = 0 then mayB ((deS d).1 : Int) (deR d).1 else (rdE (deR d).2).2
def deB (d : List Int) : (Int × List OpV) × Nat := if deE d ≠ 0 then ((0, []), deE d) else ((((deS d).1 : Int), (deR d).1), 0)

theorem rdN_err {most : Nat} {s : Rd} (h : s.2 ≠ 0) : rdN most s = (0, s) := by unfold rdN; rw [if_pos h]
theorem rdB_err {most : Nat} {s : Rd} (h : s.2 ≠ 0) : rdB most s = ([], s) := by unfold rdB; rw [if_pos h]
theorem rdF_err {s : Rd} (h : s.2 ≠ 0) : rdF s = (false, s) := by unfold rdF; rw [if_pos h]
theorem rdN_uv {most n : Nat} {t : List Int} (h : n ≤ most) (hn : n < 18446744073709551616) (ht : Okb t) : rdN most (uv n ++ t, 0) = (n, (t, 0)) := by
  unfold rdN
  simp only [tk_uv hn ht, ne_eq, not_true_eq_false, if_false]
  rw [if_neg (by omega), List.drop_left]
theorem rdN_cut {most n k : Nat} (hk : k < (uv n).length) : (rdN most ((uv n).take k, 0)).2.2 = 5 := by
  unfold rdN
  simp [tk_cut hk]
theorem rdB_lb {most : Nat} {s t : List Int} (h : s.length ≤ most) (hn : s.length < 18446744073709551616) (hs : Okb s) (ht : Okb t) : rdB most (lb s ++ t, 0) = (s, (t, 0)) := by
  unfold rdB
  simp only [tb_lb hs ht h hn, ne_eq, not_true_eq_false, if_false]
  rw [List.drop_left]
theorem rdB_cut {most k : Nat} {s : List Int} (h : s.length ≤ most) (hn : s.length < 18446744073709551616) (hs : Okb s) (hk : k < (lb s).length) : (rdB most ((lb s).take k, 0)).2.2 = 5 := by
  unfold rdB
  simp [tb_cut hs h hn hk]
theorem take_two (a b : List Int) (k : Nat) : (k < a.length ∧ (a ++ b).take k = a.take k) ∨ (a.length ≤ k ∧ (a ++ b).take k = a ++ b.take (k - a.length)) := by
  by_cases h : k < a.length
  · exact .inl ⟨h, by rw [List.take_append_of_le_length (by omega)]⟩
  · exact .inr ⟨by omega, by rw [List.take_append, List.take_of_length_le (by omega)]⟩
theorem okb_take {a : List Int} {k : Nat} (h : Okb a) : Okb (a.take k) := fun x hx => h x (List.mem_of_mem_take hx)

/-- A change that may be is read, whatever stands behind it. -/
theorem deO_enO {o : OpV} {t : List Int} (h : may1 o = 0) (ho : OkO o) (ht : Okb t) : deO (enO o ++ t, 0) = (o, (t, 0)) := by
  obtain ⟨key, gone, till, v⟩ := o
  have h1 := may1_ok h
  simp only at h1
  cases gone with
  | true =>
    obtain ⟨e1, e2⟩ := h1.2.2.2.2.2 rfl
    subst e1 e2
    have hF : rdF (enO ⟨key, true, 0, []⟩ ++ t, 0) = (true, (lb key ++ t, 0)) := by
      simp [rdF, enO, flg]
    unfold deO
    rw [hF]
    simp only [if_true]
    rw [rdB_lb h1.2.1 (by omega) ho.1 ht]
  | false =>
    have hok2 : Okb (lb v ++ t) := (okb_lb ho.2).app ht
    have hF : rdF (enO ⟨key, false, till, v⟩ ++ t, 0) = (false, (lb key ++ (uv till.toNat ++ (lb v ++ t)), 0)) := by
      simp [rdF, enO, flg]
    unfold deO
    rw [hF]
    simp only [Bool.false_eq_true, if_false]
    rw [rdB_lb h1.2.1 (by omega) ho.1 ((okb_uv _).app hok2)]
    simp only
    rw [rdN_uv (by omega) (by omega) hok2]
    simp only
    rw [rdB_lb h1.2.2.2.2.1 (by omega) ho.2 ht]
    simp only [Prod.mk.injEq, OpV.mk.injEq, and_true, true_and]
    omega
/-- Cut off it is an error. -/
theorem deO_cut {o : OpV} {k : Nat} (h : may1 o = 0) (ho : OkO o) (hk : k < (enO o).length) : (deO ((enO o).take k, 0)).2.2 ≠ 0 := by
  obtain ⟨key, gone, till, v⟩ := o
  have h1 := may1_ok h
  simp only at h1
  cases k with
  | zero =>
    have hF : rdF ([], 0) = (false, ([], 5)) := rfl
    unfold deO
    rw [List.take_zero, hF]
    simp [rdB, rdN]
  | succ k =>
    cases gone with
    | true =>
      have hF : rdF ((enO ⟨key, true, till, v⟩).take (k + 1), 0) = (true, ((lb key).take k, 0)) := by
        simp [rdF, enO, flg]
      have hkl : k < (lb key).length := by simp [enO] at hk; omega
      unfold deO
      rw [hF]
      simp only [if_true]
      rw [rdB_cut h1.2.1 (by omega) ho.1 hkl]
      simp
    | false =>
      have hF : rdF ((enO ⟨key, false, till, v⟩).take (k + 1), 0) = (false, ((lb key ++ (uv till.toNat ++ lb v)).take k, 0)) := by
        simp [rdF, enO, flg]
      have hkl : k < (lb key ++ (uv till.toNat ++ lb v)).length := by simp [enO] at hk ⊢; omega
      unfold deO
      rw [hF]
      simp only [Bool.false_eq_true, if_false]
      rcases take_two (lb key) (uv till.toNat ++ lb v) k with ⟨q, e⟩ | ⟨q, e⟩
      · rw [e]
        have e5 := rdB_cut (most := 512) h1.2.1 (by omega) ho.1 q
        rw [rdN_err (by rw [e5]; simp)]
        simp only
        rw [rdB_err (by rw [e5]; simp)]
        simp only
        rw [e5]
        simp
      · rw [e, rdB_lb h1.2.1 (by omega) ho.1 (okb_take ((okb_uv _).app (okb_lb ho.2)))]
        simp only
        rcases take_two (uv till.toNat) (lb v) (k - (lb key).length) with ⟨q2, e2⟩ | ⟨q2, e2⟩
        · rw [e2]
          have e5 := rdN_cut (most := 4611686018427387904) q2
          rw [rdB_err (by rw [e5]; simp)]
          simp only
          rw [e5]
          simp
        · rw [e2, rdN_uv (by omega) (by omega) (okb_take (okb_lb ho.2))]
          simp only
          rw [rdB_cut h1.2.2.2.2.1 (by omega) ho.2 (by simp at hkl q q2; omega)]
          simp
theorem deOs_enOs : ∀ {os : List OpV} {t : List Int}, (∀ o ∈ os, may1 o = 0 ∧ OkO o) → Okb t → deOs os.length (enOs os ++ t, 0) = (os, (t, 0))
  | [], t, _, _ => rfl
  | o :: r, t, h, ht => by
    have h1 := h o (List.mem_cons_self ..)
    have h2 : ∀ p ∈ r, may1 p = 0 ∧ OkO p := fun p hp => h p (List.mem_cons_of_mem _ hp)
    have hd : deO (enOs (o :: r) ++ t, 0) = (o, (enOs r ++ t, 0)) := by
      rw [enOs, List.append_assoc]
      exact deO_enO h1.1 h1.2 ((okb_enOs fun p hp => (h2 p hp).2).app ht)
    rw [List.length_cons, deOs, hd]
    simp only [ne_eq, not_true_eq_false, if_false]
    rw [deOs_enOs h2 ht]
theorem deOs_cut : ∀ {os : List OpV} {k : Nat}, (∀ o ∈ os, may1 o = 0 ∧ OkO o) → k < (enOs os).length → (deOs os.length ((enOs os).take k, 0)).2.2 ≠ 0
  | [], k, _, hk => by simp [enOs] at hk
  | o :: r, k, h, hk => by
    have h1 := h o (List.mem_cons_self ..)
    have h2 : ∀ p ∈ r, may1 p = 0 ∧ OkO p := fun p hp => h p (List.mem_cons_of_mem _ hp)
    rw [List.length_cons, deOs, enOs]
    rcases take_two (enO o) (enOs r) k with ⟨q, e⟩ | ⟨q, e⟩
    · rw [e, if_pos (deO_cut h1.1 h1.2 q)]
      exact deO_cut h1.1 h1.2 q
    · rw [e, deO_enO h1.1 h1.2 (okb_take (okb_enOs fun p hp => (h2 p hp).2))]
      simp only [ne_eq, not_true_eq_false, if_false]
      exact deOs_cut h2 (by rw [enOs, List.length_append] at hk; omega)
/-- What was encoded is told again; with more behind it is an error. -/
theorem deB_enB {s : Int} {os : List OpV} {t : List Int} (h : mayB s os = 0) (ho : ∀ o ∈ os, OkO o) (ht : Okb t) : (t = [] → deB (enB s os ++ t) = ((s, os), 0)) ∧ (t ≠ [] → (deB (enB s os ++ t)).2 ≠ 0) := by
  have h1 := mayB_ok h
  have hall : ∀ o ∈ os, may1 o = 0 ∧ OkO o := fun o hp => ⟨h1.2.2.2.2 o hp, ho o hp⟩
  have hokt : Okb (enOs os ++ t) := (okb_enOs ho).app ht
  have hS : deS (enB s os ++ t) = (s.toNat, (uv os.length ++ (enOs os ++ t), 0)) := by
    unfold deS enB
    rw [List.append_assoc, List.append_assoc]
    exact rdN_uv (by omega) (by omega) ((okb_uv _).app hokt)
  have hN : deN (enB s os ++ t) = (os.length, (enOs os ++ t, 0)) := by
    unfold deN
    rw [hS]
    exact rdN_uv h1.2.1 (by omega) hokt
  have hR : deR (enB s os ++ t) = (os, (t, 0)) := by
    unfold deR
    rw [hN]
    exact deOs_enOs hall ht
  have es : ((s.toNat : Nat) : Int) = s := by omega
  constructor
  · intro e
    subst e
    have hE : deE (enB s os ++ []) = 0 := by
      unfold deE
      rw [hR, hS]
      simp [rdE, es, h]
    unfold deB
    rw [if_neg (by rw [hE]; simp), hR, hS]
    simp only [es]
  · intro hne
    have hl : 0 < t.length := List.length_pos_iff.2 hne
    have hE : deE (enB s os ++ t) = 3 := by
      unfold deE
      rw [hR]
      have : rdE (t, 0) = (t, 3) := by unfold rdE; rw [if_pos ⟨rfl, hl⟩]
      rw [this]
      simp
    unfold deB
    rw [if_pos (by rw [hE]; simp), hE]
    simp
theorem deOs_err : ∀ {n : Nat} {s : Rd}, s.2 ≠ 0 → (deOs n s).2.2 ≠ 0
  | 0, s, h => h
  | n + 1, s, h => by
    have e : (deO s).2.2 ≠ 0 := by
      unfold deO
      rw [rdF_err h]
      simp only [Bool.false_eq_true, if_false]
      rw [rdB_err h]
      simp only
      rw [rdN_err h]
      simp only
      rw [rdB_err h]
      exact h
    rw [deOs, if_pos e]
    exact e
theorem deE_err {d : List Int} (h : (deR d).2.2 ≠ 0) : (deB d).2 ≠ 0 := by
  have : rdE (deR d).2 = (deR d).2 := by unfold rdE; rw [if_neg (by intro q; exact h q.1)]
  have hE : deE d ≠ 0 := by
    unfold deE
    rw [this, if_neg h]
    exact h
  unfold deB
  rw [if_pos hE]
  exact hE
theorem deB_cut {s : Int} {os : List OpV} {k : Nat} (h : mayB s os = 0) (ho : ∀ o ∈ os, OkO o) (hk : k < (enB s os).length) : (deB ((enB s os).take k)).2 ≠ 0 := by
  have h1 := mayB_ok h
  have hall : ∀ o ∈ os, may1 o = 0 ∧ OkO o := fun o hp => ⟨h1.2.2.2.2 o hp, ho o hp⟩
  have hoko := okb_enOs ho
  refine deE_err ?_
  unfold deR deN deS enB at *
  rcases take_two (uv s.toNat) (uv os.length ++ enOs os) k with ⟨q, e⟩ | ⟨q, e⟩
  · rw [e]
    have e5 := rdN_cut (most := 4611686018427387904) q
    refine deOs_err ?_
    rw [rdN_err (by rw [e5]; simp), e5]
    simp
  · rw [e, rdN_uv (by omega) (by omega) (okb_take ((okb_uv _).app hoko))]
    simp only
    rcases take_two (uv os.length) (enOs os) (k - (uv s.toNat).length) with ⟨q2, e2⟩ | ⟨q2, e2⟩
    · rw [e2]
      have e5 := rdN_cut (most := 400) q2
      refine deOs_err ?_
      rw [e5]
      simp
    · rw [e2, rdN_uv h1.2.1 (by omega) (okb_take hoko)]
      simp only
      exact deOs_cut hall (by simp at hk; omega)
end Go.Proofs.Ytnoackenjfpcmaa

/- Rows of structs, whatever they hold: those that are read, and those of one's own that are appended to. -/
namespace Go.Proofs.Ytnoackenjfpcmaa
open Go.RowKit
set_option linter.unusedVariables false
set_option linter.unusedSimpArgs false

/-- What a value leans on: the block of a slice that is not empty. -/
def Refs (v : Value) (b : Nat) : Prop := ∃ off l c, v = .slice (some ⟨b, off, none⟩) l c ∧ 0 < l
theorem refs_int {k : IntKind} {n : Int} {b : Nat} (h : Refs (.int k n) b) : False := by obtain ⟨_, _, _, e, _⟩ := h; cases e
theorem refs_bool {x : Bool} {b : Nat} (h : Refs (.bool x) b) : False := by obtain ⟨_, _, _, e, _⟩ := h; cases e
theorem refs_string {x : ByteArray} {b : Nat} (h : Refs (.string x) b) : False := by obtain ⟨_, _, _, e, _⟩ := h; cases e
theorem Sl.lt {w : World} {ao : Option Addr} {len cap : Nat} {xs : List Int} (h : Sl w ao len cap xs) {b : Nat} (hr : Refs (.slice ao len cap) b) : b < w.heap.size := by
  obtain ⟨off, l, c, e, h0⟩ := hr
  simp only [Value.slice.injEq] at e
  obtain ⟨rfl, rfl, rfl⟩ := e
  obtain ⟨_, b', off', e', hc⟩ := h.2.2.2.2.2 0 h0
  simp only [Option.some.injEq, Addr.mk.injEq, and_true] at e'
  obtain ⟨rfl, rfl⟩ := e'
  exact World.block_lt_of_cell? _ _ hc
theorem Sl.keep {w w' : World} {ao : Option Addr} {len cap : Nat} {xs : List Int} (h : Sl w ao len cap xs) (hk : ∀ b, Refs (.slice ao len cap) b → w'.heap[b]? = w.heap[b]?) : Sl w' ao len cap xs := by
  obtain ⟨e1, e2, e3, e4, e5, e6⟩ := h
  refine ⟨e1, e2, e3, e4, e5, fun k hkl => ?_⟩
  obtain ⟨h1, b, off, e, hc⟩ := e6 k hkl
  refine ⟨h1, b, off, e, ?_⟩
  rw [World.cell?_of_block (w := w) (a := ⟨b, off + k, none⟩) (hk b ⟨off, len, cap, by rw [e], by omega⟩)]
  exact hc

/-- Elements of a row: how one lies in cells. -/
structure El (α : Type) where
  ty : TypeId
  size : Nat
  M : World → List Value → α → Prop
  len : ∀ {w : World} {vs : List Value} {x : α}, M w vs x → vs.length = size
  one : ∀ {w : World} {vs : List Value} {x : α}, M w vs x → ∀ v ∈ vs, v.oneCell' = true
  lt : ∀ {w : World} {vs : List Value} {x : α}, M w vs x → ∀ v ∈ vs, ∀ b, Refs v b → b < w.heap.size
  keep : ∀ {w w' : World} {vs : List Value} {x : α}, M w vs x → (∀ v ∈ vs, ∀ b, Refs v b → w'.heap[b]? = w.heap[b]?) → M w' vs x
section
variable {α : Type} {E : El α}
/-- Elements side by side. -/
def Lay (E : El α) (w : World) : List Value → List α → Prop
  | us, [] => us = []
  | us, x :: xs => ∃ vs us', us = vs ++ us' ∧ E.M w vs x ∧ Lay E w us' xs
theorem Lay.len {w : World} : ∀ {us : List Value} {xs : List α}, Lay E w us xs → us.length = xs.length * E.size
  | us, [], h => by rw [show us = [] from h]; simp
  | us, x :: xs, h => by
    obtain ⟨vs, us', rfl, h1, h2⟩ := h
    rw [List.length_append, E.len h1, Lay.len h2, List.length_cons, Nat.add_mul, Nat.one_mul, Nat.add_comm]
theorem Lay.app {w : World} : ∀ {us us' : List Value} {xs ys : List α}, Lay E w us xs → Lay E w us' ys → Lay E w (us ++ us') (xs ++ ys)
  | us, us', [], ys, h, g => by rw [show us = [] from h]; exact g
  | us, us', x :: xs, ys, h, g => by
    obtain ⟨vs, us1, rfl, h1, h2⟩ := h
    exact ⟨vs, us1 ++ us', by rw [List.append_assoc], h1, h2.app g⟩
theorem Lay.lt {w : World} : ∀ {us : List Value} {xs : List α}, Lay E w us xs → ∀ u ∈ us, ∀ b, Refs u b → b < w.heap.size
  | us, [], h, u, hu, b, hr => by rw [show us = [] from h] at hu; cases hu
  | us, x :: xs, h, u, hu, b, hr => by
    obtain ⟨vs, us', rfl, h1, h2⟩ := h
    rcases List.mem_append.1 hu with q | q
    · exact E.lt h1 u q b hr
    · exact h2.lt u q b hr
theorem Lay.one {w : World} : ∀ {us : List Value} {xs : List α}, Lay E w us xs → ∀ u ∈ us, u.oneCell' = true
  | us, [], h, u, hu => by rw [show us = [] from h] at hu; cases hu
  | us, x :: xs, h, u, hu => by
    obtain ⟨vs, us', rfl, h1, h2⟩ := h
    rcases List.mem_append.1 hu with q | q
    · exact E.one h1 u q
    · exact h2.one u q
theorem Lay.keep {w w' : World} : ∀ {us : List Value} {xs : List α}, Lay E w us xs → (∀ u ∈ us, ∀ b, Refs u b → w'.heap[b]? = w.heap[b]?) → Lay E w' us xs
  | us, [], h, _ => h
  | us, x :: xs, h, hk => by
    obtain ⟨vs, us', rfl, h1, h2⟩ := h
    exact ⟨vs, us', rfl, E.keep h1 fun v hv => hk v (List.mem_append.2 (.inl hv)), h2.keep fun v hv => hk v (List.mem_append.2 (.inr hv))⟩
theorem Lay.later {w w' : World} {us : List Value} {xs : List α} (h : Lay E w us xs) (hb : Below w.heap.size w w') : Lay E w' us xs := h.keep fun u hu b hr => hb.block b (h.lt u hu b hr)
theorem El.later {w w' : World} {vs : List Value} {x : α} (h : E.M w vs x) (hb : Below w.heap.size w w') : E.M w' vs x := E.keep h fun u hu b hr => hb.block b (E.lt h u hu b hr)
theorem Lay.at {w : World} : ∀ {us : List Value} {xs : List α}, Lay E w us xs → ∀ {i : Nat} {x : α}, xs[i]? = some x → ∃ vs, E.M w vs x ∧ (∀ v ∈ vs, v ∈ us) ∧ ∀ (j : Nat) (v : Value), vs[j]? = some v → us[i * E.size + j]? = some v
  | us, [], h, i, x, hx => by simp at hx
  | us, y :: ys, h, 0, x, hx => by
    obtain ⟨vs, us', rfl, h1, h2⟩ := h
    obtain rfl : y = x := by simpa using hx
    refine ⟨vs, h1, fun v hv => List.mem_append.2 (.inl hv), fun j v hv => ?_⟩
    rw [Nat.zero_mul, Nat.zero_add, List.getElem?_append_left (List.getElem?_eq_some_iff.1 hv).1]
    exact hv
  | us, y :: ys, h, i + 1, x, hx => by
    obtain ⟨vs, us', rfl, h1, h2⟩ := h
    obtain ⟨vs2, g1, g2, g3⟩ := h2.at (i := i) (x := x) (by simpa using hx)
    refine ⟨vs2, g1, fun v hv => List.mem_append.2 (.inr (g2 v hv)), fun j v hv => ?_⟩
    have hl := E.len h1
    rw [List.getElem?_append_right (by rw [hl, Nat.add_mul]; omega), hl, show (i + 1) * E.size + j - E.size = i * E.size + j by rw [Nat.add_mul]; omega]
    exact g3 j v hv
/-- A row that is read: its shape, its cells, what they hold. -/
def RSu (E : El α) (w : World) (ao : Option Addr) (len cap : Nat) (us : List Value) (xs : List α) : Prop :=
  xs.length = len ∧ (ao = none → len = 0 ∧ cap = 0) ∧ len ≤ cap ∧ cap ≤ maxLen ∧ Lay E w us xs ∧ ∀ (j : Nat) (u : Value), us[j]? = some u → ∃ b off, ao = some ⟨b, off, none⟩ ∧ w.cell? ⟨b, off + j, none⟩ = some u
def RS (E : El α) (w : World) (ao : Option Addr) (len cap : Nat) (xs : List α) : Prop := ∃ us, RSu E w ao len cap us xs
def RSV (E : El α) (w : World) (v : Value) (xs : List α) : Prop := ∃ a c, v = .slice a xs.length c ∧ RS E w a xs.length c xs
theorem RSu.later {w w' : World} {ao : Option Addr} {len cap : Nat} {us : List Value} {xs : List α} (h : RSu E w ao len cap us xs) (hb : Below w.heap.size w w') : RSu E w' ao len cap us xs := by
  obtain ⟨h1, h2, h3, h4, h5, h6⟩ := h
  refine ⟨h1, h2, h3, h4, h5.later hb, fun j u hu => ?_⟩
  obtain ⟨b, off, e, hc⟩ := h6 j u hu
  exact ⟨b, off, e, cell_later hb hc⟩
theorem RS.later {w w' : World} {ao : Option Addr} {len cap : Nat} {xs : List α} (h : RS E w ao len cap xs) (hb : Below w.heap.size w w') : RS E w' ao len cap xs := by
  obtain ⟨us, h⟩ := h
  exact ⟨us, h.later hb⟩
theorem RSV.later {w w' : World} {v : Value} {xs : List α} (h : RSV E w v xs) (hb : Below w.heap.size w w') : RSV E w' v xs := by
  obtain ⟨a, c, e, h⟩ := h
  exact ⟨a, c, e, h.later hb⟩
theorem RS.nil (w : World) : RS E w none 0 0 [] := ⟨[], rfl, fun _ => ⟨rfl, rfl⟩, Nat.le_refl _, Nat.zero_le _, rfl, fun j u hu => by simp at hu⟩
theorem RSV.nil (w : World) : RSV E w (.slice none 0 0) [] := ⟨none, 0, rfl, RS.nil w⟩
/-- An element of a row that is read: its cells. -/
theorem RS.at {w : World} {ao : Option Addr} {len cap : Nat} {xs : List α} (h : RS E w ao len cap xs) (hp : 0 < E.size) {i : Nat} {x : α} (hx : xs[i]? = some x) :
    ∃ b off vs, ao = some ⟨b, off, none⟩ ∧ E.M w vs x ∧ ∀ (j : Nat) (v : Value), vs[j]? = some v → w.cell? ⟨b, off + (i * E.size + j), none⟩ = some v := by
  obtain ⟨us, h1, h2, h3, h4, h5, h6⟩ := h
  obtain ⟨vs, g1, _, g2⟩ := h5.at hx
  have hl := E.len g1
  obtain ⟨b, off, e, _⟩ := h6 _ _ (g2 0 _ (List.getElem?_eq_getElem (by omega)))
  refine ⟨b, off, vs, e, g1, fun j v hv => ?_⟩
  obtain ⟨b', off', e', hc⟩ := h6 _ _ (g2 j v hv)
  rw [e] at e'
  simp only [Option.some.injEq, Addr.mk.injEq, and_true] at e'
  obtain ⟨rfl, rfl⟩ := e'
  exact hc
/-- A row of one's own; its elements lean on blocks of F alone. -/
def RowF (E : El α) (B : Nat) (F : Nat → Prop) (w : World) (v : Value) (xs : List α) : Prop :=
  ∃ us, w.ownsRow B E.ty E.size v xs.length us ∧ Lay E w us xs ∧ (∀ u ∈ us, ∀ b, Refs u b → v.ownBlock ≠ some b) ∧ ∀ u ∈ us, ∀ b, Refs u b → F b
/-- A row of one's own. -/
def RowS (E : El α) (B : Nat) (w : World) (v : Value) (xs : List α) : Prop :=
  ∃ us, w.ownsRow B E.ty E.size v xs.length us ∧ Lay E w us xs ∧ ∀ u ∈ us, ∀ b, Refs u b → v.ownBlock ≠ some b
theorem RowF.s {B : Nat} {F : Nat → Prop} {w : World} {v : Value} {xs : List α} (h : RowF E B F w v xs) : RowS E B w v xs := by
  obtain ⟨us, h1, h2, h3, _⟩ := h
  exact ⟨us, h1, h2, h3⟩
theorem RowF.nil (B : Nat) (F : Nat → Prop) (w : World) : RowF E B F w (.slice none 0 0) [] := ⟨[], World.ownsRow_nil w B _ _, rfl, (fun u hu => by cases hu), fun u hu => by cases hu⟩
/-- It stays where a block alone is changed that it neither is nor leans on. -/
theorem RowF.grown {B : Nat} {F : Nat → Prop} {w w' : World} {v : Value} {xs : List α} {r : Option Nat} (h : RowF E B F w v xs) (hg : w.grownBy w' r) (h1 : ∀ b, v.ownBlock = some b → some b ≠ r) (h2 : ∀ b, F b → some b ≠ r) : RowF E B F w' v xs := by
  obtain ⟨us, hown, g2, g3, g4⟩ := h
  refine ⟨us, hown.kept hg ?_, g2.keep fun u hu b hr => hg.block b (g2.lt u hu b hr) (h2 b (g4 u hu b hr)), g3, g4⟩
  cases hv : v.ownBlock with
  | none => exact .inl rfl
  | some b => exact .inr (h1 b hv)
theorem RowF.own_lt {B : Nat} {F : Nat → Prop} {w : World} {v : Value} {xs : List α} (h : RowF E B F w v xs) {g : Nat} (hg : v.ownBlock = some g) : B ≤ g ∧ g < w.heap.size := by
  obtain ⟨us, hown, _⟩ := h
  exact World.ownsRow.lt hown g hg
theorem RowF.strong {B : Nat} {F : Nat → Prop} {w : World} {v : Value} {xs : List α} (h : RowF E B F w v xs) : RowF E B (fun b => F b ∧ b < w.heap.size) w v xs := by
  obtain ⟨us, hown, h2, h3, h4⟩ := h
  exact ⟨us, hown, h2, h3, fun u hu b hr => ⟨h4 u hu b hr, h2.lt u hu b hr⟩⟩
theorem RowF.weak {B : Nat} {F G : Nat → Prop} {w : World} {v : Value} {xs : List α} (h : RowF E B F w v xs) (hFG : ∀ b, F b → G b) : RowF E B G w v xs := by
  obtain ⟨us, hown, h2, h3, h4⟩ := h
  exact ⟨us, hown, h2, h3, fun u hu b hr => hFG b (h4 u hu b hr)⟩
theorem RowF.later {B : Nat} {F : Nat → Prop} {w w' : World} {v : Value} {xs : List α} (h : RowF E B F w v xs) (hb : Below w.heap.size w w') : RowF E B F w' v xs := by
  obtain ⟨us, hown, h2, h3, h4⟩ := h
  refine ⟨us, ⟨hown.1, ?_⟩, h2.later hb, h3, h4⟩
  rcases hown.2 with q | ⟨g, cap, cur, q1, q2, q3, q4⟩
  · exact .inl q
  · exact .inr ⟨g, cap, cur, q1, q2, by rw [hb.block g (Array.getElem?_eq_some_iff.1 q3).1]; exact q3, q4⟩
theorem RowS.nil (B : Nat) (w : World) : RowS E B w (.slice none 0 0) [] := ⟨[], World.ownsRow_nil w B _ _, rfl, fun u hu => by cases hu⟩
theorem RowS.later {B : Nat} {w w' : World} {v : Value} {xs : List α} (h : RowS E B w v xs) (hb : Below w.heap.size w w') : RowS E B w' v xs := by
  obtain ⟨us, hown, h2, h3⟩ := h
  refine ⟨us, ⟨hown.1, ?_⟩, h2.later hb, h3⟩
  rcases hown.2 with q | ⟨g, cap, cur, q1, q2, q3, q4⟩
  · exact .inl q
  · exact .inr ⟨g, cap, cur, q1, q2, by rw [hb.block g (Array.getElem?_eq_some_iff.1 q3).1]; exact q3, q4⟩
theorem RowS.base {B B' : Nat} {w : World} {v : Value} {xs : List α} (h : RowS E B w v xs) (hB : B' ≤ B) : RowS E B' w v xs := by
  obtain ⟨us, hown, h2, h3⟩ := h
  refine ⟨us, ⟨hown.1, ?_⟩, h2, h3⟩
  rcases hown.2 with q | ⟨g, cap, cur, q1, q2, q3⟩
  · exact .inl q
  · exact .inr ⟨g, cap, cur, q1, by omega, q3⟩
/-- It stays where another block alone is changed, one that its elements do not lean on. -/
theorem RowS.grown {B : Nat} {w w' : World} {v : Value} {xs : List α} {r : Option Nat} (h : RowS E B w v xs) (hg : w.grownBy w' r) (h1 : ∀ b, v.ownBlock = some b → some b ≠ r) (h2 : ∀ us, Lay E w us xs → ∀ u ∈ us, ∀ b, Refs u b → some b ≠ r) : RowS E B w' v xs := by
  obtain ⟨us, hown, g2, g3⟩ := h
  refine ⟨us, hown.kept hg ?_, g2.keep fun u hu b hr => hg.block b (g2.lt u hu b hr) (h2 us g2 u hu b hr), g3⟩
  cases hv : v.ownBlock with
  | none => exact .inl rfl
  | some b => exact .inr (h1 b hv)
theorem RowS.rs {B : Nat} {w : World} {v : Value} {xs : List α} (h : RowS E B w v xs) : ∃ ao cap, v = .slice ao xs.length cap ∧ RS E w ao xs.length cap xs := by
  obtain ⟨us, hown, h2, h3⟩ := h
  have hcells : ∀ g, v.ownBlock = some g → _ := fun g hg => World.ownsRow.cells hown (g := g) hg
  rcases hown.2 with ⟨rfl, h0⟩ | ⟨g, cap, cur, rfl, hbg, hg, hnc, hcm, hcs, htake⟩
  · have hx : xs = [] := List.eq_nil_of_length_eq_zero h0
    subst hx
    exact ⟨none, 0, rfl, RS.nil w⟩
  · refine ⟨some ⟨g, 0, none⟩, cap, rfl, us, rfl, (fun q => by cases q), hnc, hcm, h2, fun j u hu => ⟨g, 0, rfl, ?_⟩⟩
    have := hcells g rfl j u hu
    rw [Addr.add_lit] at this
    exact this
theorem RSV.ofRow {B : Nat} {w : World} {v : Value} {xs : List α} (h : RowS E B w v xs) : RSV E w v xs := by
  obtain ⟨a, c, e, h⟩ := h.rs
  exact ⟨a, c, e, h⟩
theorem RowS.own_lt {B : Nat} {w : World} {v : Value} {xs : List α} (h : RowS E B w v xs) {g : Nat} (hg : v.ownBlock = some g) : B ≤ g ∧ g < w.heap.size := by
  obtain ⟨us, hown, _⟩ := h
  exact World.ownsRow.lt hown g hg
/-- One element in a new row. -/
theorem rs_one {w : World} {vs : List Value} {x : α} (h : E.M w vs x) : RSu E (w.alloc (.cells vs.toArray E.ty)) (some ⟨w.heap.size, 0, none⟩) 1 1 vs [x] := by
  have hb : Below w.heap.size w (w.alloc (.cells vs.toArray E.ty)) := (Below.refl _ w).alloc (Nat.le_refl _) _
  refine ⟨rfl, (fun q => by cases q), Nat.le_refl _, by unfold maxLen; omega, ⟨vs, [], by simp, El.later h hb, rfl⟩, fun j u hu => ⟨_, _, rfl, ?_⟩⟩
  rw [Nat.zero_add, cell_of_row _ _ _ _ _ _ (heap_alloc_new w _)]
  simpa using hu
/-- Elements appended to a row of one's own. -/
theorem run_appF (E : El α) (t : TypeId) (z : Value) (bytes : Nat) (ht : Try.prog.underlying t = some (.slice E.ty)) (hinfo : (Try.prog.info? E.ty).map (fun i => (i.zero, i.size, i.bytes)) = some (some z, E.size, bytes)) (hz1 : z.cells.size = E.size) (hp : 0 < E.size)
    {B : Nat} {w : World} (ty : TypeId) {v : Value} {xs ys : List α} {F : Nat → Prop} (hrow : RowF E B F w v xs) {ao : Option Addr} {m c : Nat} {us : List Value} (hs : RSu E w ao m c us ys) (hsep : ∀ u ∈ us, ∀ b, Refs u b → v.ownBlock ≠ some b) (hF : ∀ u ∈ us, ∀ b, Refs u b → F b)
    (h63 : xs.length + m ≤ 140737488355328) (hb : (xs.length + m) * bytes ≤ 140737488355328) (hbase : B ≤ w.heap.size) :
    ∃ v' w', (Builtin.append_ #[t, t] ty #[v, .slice ao m c]).run Try.prog w = .ok v' w' ∧ RowF E B F w' v' (xs ++ ys) ∧ w.grownBy w' v.ownBlock ∧ Moved w v v' := by
  obtain ⟨i, hi, hz, hsize, hbytes⟩ := info_parts hinfo
  obtain ⟨ws, hown, hlay, hrf, hrF⟩ := hrow
  obtain ⟨e1, e2, e3, e4, e5, e6⟩ := hs
  cases ao with
  | none =>
    obtain ⟨rfl, rfl⟩ := e2 rfl
    have hy : ys = [] := List.eq_nil_of_length_eq_zero e1
    subst hy
    refine ⟨v, w, run_append_owned_none (P := Try.prog) (w := w) B t ty E.ty i E.size ht hi v _ _ hown, ?_, ⟨rfl, rfl, rfl, Nat.le_refl _, fun _ _ _ => rfl⟩, .inl rfl⟩
    rw [List.append_nil]
    exact ⟨ws, hown, hlay, hrf, hrF⟩
  | some ad =>
    have hl : us.length = m * E.size := by rw [e5.len, e1]
    have hnews : ∀ j u, us[j]? = some u → w.cell? (ad.add j) = some u := fun j u hu => by
      obtain ⟨b, off, e, hc⟩ := e6 j u hu
      simp only [Option.some.injEq] at e
      subst e
      rw [Addr.add_lit]
      exact hc
    have h1 := e5.one
    obtain ⟨v', w', hr, h2, h3, _⟩ := run_append_own (P := Try.prog) w B t ty E.ty i z E.size bytes ht hi hz hsize hbytes hz1 hp v xs.length _ hown ad m c us hl hnews h1 (by simp only [maxLen]; omega) hb hbase
    have hmv : Moved w v v' := by
      rcases hown.2 with ⟨rfl, h0⟩ | ⟨g, cap, cur, rfl, hbg, hg, hnc, hcm, hcs, htake⟩
      · by_cases hm : m = 0
        · subst hm
          have hu : us = [] := List.eq_nil_of_length_eq_zero (by rw [hl, Nat.zero_mul])
          have : (Builtin.append_ #[t, t] ty #[.slice none 0 0, .slice (some ad) 0 c]).run Try.prog w = .ok (.slice none 0 0) w := by
            simp [Builtin.append_, run_underlying ht, sizeOf, typeInfo, hi, Builtin.lenOf, Builtin.firstCells, loadCells, loadCellsFrom]
          rw [this] at hr
          simp at hr
          rw [← hr.1]
          exact .inl rfl
        · have hr' := run_append_nil (P := Try.prog) w t ty E.ty i z ht hi hz ad m c _ (by rw [hsize]; exact hl) hnews (by omega) (by omega) (by rw [hbytes]; rw [h0, Nat.zero_add] at hb; omega)
          rw [hr'] at hr
          simp at hr
          rw [← hr.1]
          exact .inr ⟨w.heap.size, rfl, Nat.le_refl _⟩
      · by_cases hroom : xs.length + m ≤ cap
        · have hr' := run_append_room (P := Try.prog) w t ty E.ty i ht hi g xs.length cap cur hg ad m c _ (by rw [hsize]; exact hl) hnews h1 hroom (by rw [hsize, hl, hcs, ← Nat.add_mul]; exact Nat.mul_le_mul_right _ hroom)
          rw [hr'] at hr
          simp at hr
          rw [← hr.1]
          exact .inl rfl
        · have holds : ∀ j u, ws[j]? = some u → w.cell? ((⟨g, 0, none⟩ : Addr).add j) = some u := World.ownsRow.cells hown (g := g) rfl
          have hr' := run_append_grow (P := Try.prog) w t ty E.ty i z ht hi hz ⟨g, 0, none⟩ xs.length cap _ (by rw [hsize]; exact hown.1) holds ad m c _ (by rw [hsize]; exact hl) hnews (by omega) (by omega) (growslice_fits (by omega) (by rw [hbytes]; exact hb))
          rw [hr'] at hr
          simp at hr
          rw [← hr.1]
          exact .inr ⟨w.heap.size, rfl, Nat.le_refl _⟩
    have hall : ∀ u ∈ ws ++ us, ∀ b, Refs u b → b < w.heap.size ∧ v.ownBlock ≠ some b := fun u hu b hrb => by
      rcases List.mem_append.1 hu with q | q
      · exact ⟨hlay.lt u q b hrb, hrf u q b hrb⟩
      · exact ⟨e5.lt u q b hrb, hsep u q b hrb⟩
    refine ⟨v', w', hr, ⟨ws ++ us, by rw [List.length_append, e1]; exact h2, ((hlay.app e5).keep fun u hu b hrb => ?_), (fun u hu b hrb => ?_), fun u hu b hrb => ?_⟩, h3, hmv⟩
    · have := hall u hu b hrb
      exact h3.block b this.1 (fun e => this.2 e.symm)
    · have := hall u hu b hrb
      rcases hmv with q | ⟨g, q1, q2⟩
      · rw [q]; exact this.2
      · rw [q1]
        intro e
        simp only [Option.some.injEq] at e
        omega
    · rcases List.mem_append.1 hu with q | q
      · exact hrF u q b hrb
      · exact hF u q b hrb
/-- Elements appended to a row of one's own, whatever they lean on. -/
theorem run_appS (E : El α) (t : TypeId) (z : Value) (bytes : Nat) (ht : Try.prog.underlying t = some (.slice E.ty)) (hinfo : (Try.prog.info? E.ty).map (fun i => (i.zero, i.size, i.bytes)) = some (some z, E.size, bytes)) (hz1 : z.cells.size = E.size) (hp : 0 < E.size)
    {B : Nat} {w : World} (ty : TypeId) {v : Value} {xs ys : List α} (hrow : RowS E B w v xs) {ao : Option Addr} {m c : Nat} {us : List Value} (hs : RSu E w ao m c us ys) (hsep : ∀ u ∈ us, ∀ b, Refs u b → v.ownBlock ≠ some b)
    (h63 : xs.length + m ≤ 140737488355328) (hb : (xs.length + m) * bytes ≤ 140737488355328) (hbase : B ≤ w.heap.size) :
    ∃ v' w', (Builtin.append_ #[t, t] ty #[v, .slice ao m c]).run Try.prog w = .ok v' w' ∧ RowS E B w' v' (xs ++ ys) ∧ w.grownBy w' v.ownBlock ∧ Moved w v v' := by
  obtain ⟨ws, q1, q2, q3⟩ := hrow
  obtain ⟨v', w', h1, h2, h3⟩ := run_appF E t z bytes ht hinfo hz1 hp ty (F := fun _ => True) (B := B) ⟨ws, q1, q2, q3, fun _ _ _ _ => trivial⟩ hs hsep (fun _ _ _ _ => trivial) h63 hb hbase
  exact ⟨v', w', h1, h2.s, h3⟩
theorem wpList_appF (E : El α) {t : TypeId} {z : Value} {bytes : Nat} (ht : Try.prog.underlying t = some (.slice E.ty)) (hinfo : (Try.prog.info? E.ty).map (fun i => (i.zero, i.size, i.bytes)) = some (some z, E.size, bytes)) (hz1 : z.cells.size = E.size) (hp : 0 < E.size)
    {w : World} {ops : Array Oper} {rest : List Oper} {o : Oper} {a : Act} {Q : Exit → Act → World → Prop} (hgd : o.guard = none) (s x : Operand)
    (ho : o.op = .call { callee := .builtin .append, args := #[s, x], argTypes := #[t, t] }) {B : Nat} {v : Value} {xs ys : List α} (hs : a.eval s = v) {F : Nat → Prop} (hrow : RowF E B F w v xs) {ao : Option Addr} {m c : Nat} {us : List Value} (hx : a.eval x = .slice ao m c)
    (hr : RSu E w ao m c us ys) (hsep : ∀ u ∈ us, ∀ b, Refs u b → v.ownBlock ≠ some b) (hF : ∀ u ∈ us, ∀ b, Refs u b → F b) (h63 : xs.length + m ≤ 140737488355328) (hb : (xs.length + m) * bytes ≤ 140737488355328) (hbase : B ≤ w.heap.size)
    (h : ∀ v' w', RowF E B F w' v' (xs ++ ys) → w.grownBy w' v.ownBlock → Moved w v v' → wpList Try.prog ops Q rest (a.put o.dst v') w') : wpList Try.prog ops Q (o :: rest) a w :=
  wpList_plain hgd fun K hK => by
    obtain ⟨v', w', hr, h2, h3, h4⟩ := run_appF E t z bytes ht hinfo hz1 hp o.type hrow hr hsep hF h63 hb hbase
    unfold Oper.wp execOp
    simp only [ho, resolve, invoke, builtin, Sem.run_bind, Sem.run_pure, Result.andThen_ok, List.map_toArray, List.map_cons, List.map_nil, hs, hx, hr]
    exact hK _ _ (h v' w' h2 h3 h4)
theorem wpList_appS (E : El α) {t : TypeId} {z : Value} {bytes : Nat} (ht : Try.prog.underlying t = some (.slice E.ty)) (hinfo : (Try.prog.info? E.ty).map (fun i => (i.zero, i.size, i.bytes)) = some (some z, E.size, bytes)) (hz1 : z.cells.size = E.size) (hp : 0 < E.size)
    {w : World} {ops : Array Oper} {rest : List Oper} {o : Oper} {a : Act} {Q : Exit → Act → World → Prop} (hgd : o.guard = none) (s x : Operand)
    (ho : o.op = .call { callee := .builtin .append, args := #[s, x], argTypes := #[t, t] }) {B : Nat} {v : Value} {xs ys : List α} (hs : a.eval s = v) (hrow : RowS E B w v xs) {ao : Option Addr} {m c : Nat} {us : List Value} (hx : a.eval x = .slice ao m c)
    (hr : RSu E w ao m c us ys) (hsep : ∀ u ∈ us, ∀ b, Refs u b → v.ownBlock ≠ some b) (h63 : xs.length + m ≤ 140737488355328) (hb : (xs.length + m) * bytes ≤ 140737488355328) (hbase : B ≤ w.heap.size)
    (h : ∀ v' w', RowS E B w' v' (xs ++ ys) → w.grownBy w' v.ownBlock → Moved w v v' → wpList Try.prog ops Q rest (a.put o.dst v') w') : wpList Try.prog ops Q (o :: rest) a w :=
  wpList_plain hgd fun K hK => by
    obtain ⟨v', w', hr, h2, h3, h4⟩ := run_appS E t z bytes ht hinfo hz1 hp o.type hrow hr hsep h63 hb hbase
    unfold Oper.wp execOp
    simp only [ho, resolve, invoke, builtin, Sem.run_bind, Sem.run_pure, Result.andThen_ok, List.map_toArray, List.map_cons, List.map_nil, hs, hx, hr]
    exact hK _ _ (h v' w' h2 h3 h4)
theorem RowS.below {B : Nat} {w w' : World} {v : Value} {xs : List α} (h : RowS E B w v xs) (hg : w.grownBy w' v.ownBlock) (hB : B ≤ w.heap.size) : Below B w w' :=
  Below.grown (Below.refl B w) hg hB (fun k hk => (h.own_lt hk).1)
end
end Go.Proofs.Ytnoackenjfpcmaa

/- Changes and entries in memory; a batch as a value. -/
namespace Go.Proofs.Ytnoackenjfpcmaa
open Go.RowKit
set_option linter.unusedVariables false
set_option linter.unusedSimpArgs false

theorem cell_of {w : World} {p : Nat} {C : Array Value} {t : TypeId} {f : Nat × Nat} (h : w.heap[p]? = some (.cells C t f)) (k : Nat) : w.cell? ⟨p, k, none⟩ = C[k]? := by
  simp [World.cell?, h]
theorem cell_below {B : Nat} {w w' : World} {p k : Nat} {v : Value} (h : Below B w w') (hp : p < B) (hc : w.cell? ⟨p, k, none⟩ = some v) : w'.cell? ⟨p, k, none⟩ = some v := (h.cell (p := ⟨p, k, none⟩) hp).trans hc
def In64 (n : Int) : Prop := -9223372036854775808 ≤ n ∧ n ≤ 9223372036854775807
/-- A change in four cells. -/
def OpM (w : World) (vs : List Value) (o : OpV) : Prop :=
  ∃ ka kc va vc, vs = [.slice ka o.key.length kc, .bool o.gone, .int .i64 o.till, .slice va o.val.length vc] ∧ Sl w ka o.key.length kc o.key ∧ Sl w va o.val.length vc o.val ∧ In64 o.till
theorem RS.len {α : Type} {E : El α} {w : World} {ao : Option Addr} {len cap : Nat} {xs : List α} (h : RS E w ao len cap xs) : xs.length = len ∧ len ≤ cap ∧ cap ≤ maxLen := by
  obtain ⟨us, h1, h2, h3, h4, _⟩ := h
  exact ⟨h1, h3, h4⟩
theorem mayO_drop {os : List OpV} {k : Nat} {o : OpV} (h : os[k]? = some o) : mayO (os.drop k) = if may1 o ≠ 0 then may1 o else mayO (os.drop (k + 1)) := by
  obtain ⟨hk, rfl⟩ := List.getElem?_eq_some_iff.1 h
  rw [List.drop_eq_getElem_cons hk, mayO]

end Go.Proofs.Ytnoackenjfpcmaa
