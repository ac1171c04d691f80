import Derived.Test.YtjgfklbhagcbaabPk04
import Derived.Test.YtjgfklbhagcbaabPk05
import Derived.Test.YtjgfklbhagcbaabPk09
/- Numbers, and bytes with their length ahead, read at the beginning of a list of bytes; what follows. -/
namespace Go.Proofs.Ytjgfklbhagcbaab
open Go.RowKit
set_option linter.unusedVariables false
set_option linter.unusedSimpArgs false

/-- Where the number at the beginning ends. -/
def enL : List Int → Nat
  | [] => 0
  | x :: r => if 128 ≤ x then enL r + 1 else 0
theorem end_enL : ∀ xs : List Int, Okb xs → IsEnd (xof xs) xs.length (enL xs)
  | [], _ => ⟨Nat.le_refl _, (fun j hj => by cases hj), (fun h => by cases h)⟩
  | x :: r, h => by
    have ih := end_enL r h.tail
    have hx := h x (List.mem_cons_self ..)
    unfold enL
    by_cases q : 128 ≤ x
    · rw [if_pos q]
      refine ⟨by have := ih.1; simp; omega, fun j hj => ?_, fun hl => ?_⟩
      · cases j with
        | zero => rw [xof_zero]; omega
        | succ j => rw [xof_succ]; exact ih.2.1 j (by omega)
      · rw [xof_succ]
        exact ih.2.2 (by simp at hl; omega)
    · rw [if_neg q]
      exact ⟨by simp, (fun j hj => by cases hj), (fun _ => by rw [xof_zero]; omega)⟩
theorem end_one {X : Nat → Nat} {len E F : Nat} (h : IsEnd X len E) (g : IsEnd X len F) : E = F := by
  rcases Nat.lt_trichotomy E F with q | q | q
  · have h1 := g.2.1 E q
    have h2 := h.2.2 (by have := g.1; omega)
    omega
  · exact q
  · have h1 := h.2.1 F q
    have h2 := g.2.2 (by have := h.1; omega)
    omega

/-- A number at the beginning: the error, the number, how many bytes it has. -/
def tk (xs : List Int) : Nat × Nat × Nat :=
  if ¬ enL xs < xs.length then (5, 0, 0) else if ¬ good (xof xs) (enL xs) then (3, 0, 0) else (0, val (xof xs) (enL xs + 1), enL xs + 1)
theorem takeV_tk (xs : List Int) : takeV (xof xs) xs.length (enL xs) = .tuple #[.int .u64 ((tk xs).2.1 : Nat), .int .i64 ((tk xs).2.2 : Nat), .int .i64 ((tk xs).1 : Nat)] := by
  unfold takeV tk
  by_cases h1 : enL xs < xs.length
  · rw [if_pos h1, if_neg (not_not_intro h1)]
    by_cases h2 : good (xof xs) (enL xs)
    · rw [if_pos h2, if_neg (not_not_intro h2)]; rfl
    · rw [if_neg h2, if_pos h2]; rfl
  · rw [if_neg h1, if_pos h1]; rfl
theorem tk_case (xs : List Int) : ((tk xs).1 = 5 ∧ tk xs = (5, 0, 0)) ∨ ((tk xs).1 = 3 ∧ tk xs = (3, 0, 0)) ∨ ((tk xs).1 = 0 ∧ 1 ≤ (tk xs).2.2 ∧ (tk xs).2.2 ≤ xs.length) := by
  unfold tk
  by_cases h1 : enL xs < xs.length
  · rw [if_neg (not_not_intro h1)]
    by_cases h2 : good (xof xs) (enL xs)
    · rw [if_neg (not_not_intro h2)]; exact .inr (.inr ⟨rfl, Nat.succ_le_succ (Nat.zero_le _), h1⟩)
    · rw [if_pos h2]; exact .inr (.inl ⟨rfl, rfl⟩)
  · rw [if_pos h1]; exact .inl ⟨rfl, rfl⟩
theorem tk_used {xs : List Int} (h : (tk xs).1 = 0) : 1 ≤ (tk xs).2.2 ∧ (tk xs).2.2 ≤ xs.length := by
  rcases tk_case xs with ⟨q, _⟩ | ⟨q, _⟩ | ⟨_, q⟩
  · omega
  · omega
  · exact q
theorem tk_lt (xs : List Int) : (tk xs).2.1 < 18446744073709551616 := by
  unfold tk
  split
  · simp
  · split
    · simp
    · rename_i h
      exact val_good (Decidable.not_not.1 h)
theorem tk_err (xs : List Int) : (tk xs).1 = 0 ∨ (tk xs).1 = 3 ∨ (tk xs).1 = 5 := by
  rcases tk_case xs with ⟨q, _⟩ | ⟨q, _⟩ | ⟨q, _⟩
  · exact .inr (.inr q)
  · exact .inr (.inl q)
  · exact .inl q
/-- What was written is read, whatever stands behind it. -/
theorem tk_uv {n : Nat} {t : List Int} (hn : n < 18446744073709551616) (ht : Okb t) : tk (uv n ++ t) = (0, n, (uv n).length) := by
  have hok : Okb (uv n ++ t) := (okb_uv n).app ht
  have hZ : Begins (xof (uv n ++ t)) (uv n) := begins_xof hok
  have hul := uv_pos n
  have hE : enL (uv n ++ t) = (uv n).length - 1 := end_one (end_enL _ hok) (uv_end hZ (by simp))
  have hv : val (xof (uv n ++ t)) (enL (uv n ++ t) + 1) = n := by rw [hE]; exact uv_val hZ
  have hg : good (xof (uv n ++ t)) (enL (uv n ++ t)) := by rw [hE]; exact uv_good hn hZ
  unfold tk
  rw [if_neg (by rw [hE]; simp; omega), if_neg (not_not_intro hg), hv, hE]
  simp
  omega
/-- Cut off it is short. -/
theorem tk_cut {n k : Nat} (hk : k < (uv n).length) : tk ((uv n).take k) = (5, 0, 0) := by
  have hZ : Begins (xof (uv n)) (uv n) := begins_xof' (okb_uv _)
  have hc := (takeV_cut (n := n) hZ hk).1
  have hokt : Okb ((uv n).take k) := fun x hx => okb_uv n x (List.mem_of_mem_take hx)
  have hl : ((uv n).take k).length = k := by rw [List.length_take]; omega
  have hend := end_enL _ hokt
  rw [hl] at hend
  have hE : enL ((uv n).take k) = k := by
    refine end_one hend ⟨Nat.le_refl _, fun i hi => ?_, fun h => absurd h (by omega)⟩
    have : xof ((uv n).take k) i = xof (uv n) i := by
      unfold xof
      rw [List.getD_eq_getElem?_getD, List.getElem?_take_of_lt hi, List.getD_eq_getElem?_getD]
    rw [this]
    exact hc.2.1 i hi
  unfold tk
  rw [if_pos (by rw [hE, hl]; omega)]
/-- Bytes with their length ahead: the error, the bytes, how many bytes all of it has. -/
def tb (xs : List Int) (most : Nat) : Nat × List Int × Nat :=
  if (tk xs).1 ≠ 0 then ((tk xs).1, [], 0) else if most < (tk xs).2.1 then (2, [], 0) else if xs.length < (tk xs).2.2 + (tk xs).2.1 then (5, [], 0) else (0, (xs.drop (tk xs).2.2).take (tk xs).2.1, (tk xs).2.2 + (tk xs).2.1)
theorem tb_used {xs : List Int} {most : Nat} (h : (tb xs most).1 = 0) : 1 ≤ (tb xs most).2.2 ∧ (tb xs most).2.2 ≤ xs.length ∧ (tb xs most).2.1.length ≤ most := by
  unfold tb at h ⊢
  split at h
  · rename_i q; exact absurd h q
  · rename_i q0
    rw [if_neg q0]
    split at h
    · simp at h
    · rename_i q1
      rw [if_neg q1]
      split at h
      · simp at h
      · rename_i q2
        rw [if_neg q2]
        have := tk_used (Decidable.not_not.1 q0)
        refine ⟨by simp; omega, by simp; omega, ?_⟩
        rw [List.length_take, List.length_drop]
        omega
theorem tb_okb {xs : List Int} {most : Nat} (h : Okb xs) : Okb (tb xs most).2.1 := by
  unfold tb
  split
  · exact fun x hx => by cases hx
  · split
    · exact fun x hx => by cases hx
    · split
      · exact fun x hx => by cases hx
      · exact fun x hx => h x (List.mem_of_mem_drop (List.mem_of_mem_take hx))
/-- Bytes with their length ahead. -/
def lb (s : List Int) : List Int := uv s.length ++ s
theorem okb_lb {s : List Int} (h : Okb s) : Okb (lb s) := (okb_uv _).app h
theorem lb_len (s : List Int) : (lb s).length = (uv s.length).length + s.length := by simp [lb]
theorem lb_pos (s : List Int) : 0 < (lb s).length := by have := uv_pos s.length; rw [lb_len]; omega
theorem tb_lb {s t : List Int} {most : Nat} (hs : Okb s) (ht : Okb t) (hm : s.length ≤ most) (h64 : s.length < 18446744073709551616) : tb (lb s ++ t) most = (0, s, (lb s).length) := by
  have e : lb s ++ t = uv s.length ++ (s ++ t) := by unfold lb; rw [List.append_assoc]
  unfold tb
  rw [e, tk_uv h64 (hs.app ht)]
  rw [if_neg (by simp), if_neg (by simp; omega), if_neg (by simp)]
  simp only [Prod.mk.injEq, true_and]
  refine ⟨?_, by rw [lb_len]⟩
  rw [List.drop_append_of_le_length (Nat.le_refl _), List.drop_of_length_le (Nat.le_refl _), List.nil_append, List.take_append_of_le_length (Nat.le_refl _), List.take_of_length_le (Nat.le_refl _)]
theorem tb_cut {s : List Int} {k most : Nat} (hs : Okb s) (hm : s.length ≤ most) (h64 : s.length < 18446744073709551616) (hk : k < (lb s).length) : (tb ((lb s).take k) most).1 = 5 := by
  rw [lb_len] at hk
  by_cases hj : k < (uv s.length).length
  · have e : (lb s).take k = (uv s.length).take k := by unfold lb; rw [List.take_append_of_le_length (by omega)]
    unfold tb
    rw [e, tk_cut hj]
    rfl
  · have e : (lb s).take k = uv s.length ++ s.take (k - (uv s.length).length) := by
      unfold lb
      rw [List.take_append, List.take_of_length_le (by omega)]
    unfold tb
    rw [e, tk_uv h64 (fun x hx => hs x (List.mem_of_mem_take hx)), if_neg (by simp), if_neg (by simp; omega), if_pos (by simp; omega)]
theorem bs_cut {ys : List Int} (hok : Okb ys) {i n : Nat} (h : i + n ≤ ys.length) : bs (fun k => xof ys (i + k)) n = (ys.drop i).take n := by
  apply List.ext_getElem
  · rw [bs_length, List.length_take, List.length_drop]; omega
  · intro k h1 h2
    have hk : k < n := by rw [bs_length] at h1; exact h1
    have hik : i + k < ys.length := by omega
    have h0 := hok ys[i + k] (List.getElem_mem hik)
    simp [bs, xof, List.getElem?_eq_getElem hik]
    omega
theorem tbR_tb {xs : List Int} (hok : Okb xs) (most : Nat) : tbR (xof xs) xs.length (enL xs) (most : Int) = ((tb xs most).2.1, ((tb xs most).2.2 : Int), ((tb xs most).1 : Int)) := by
  unfold tbR tb tk
  by_cases h1 : enL xs < xs.length
  · rw [if_pos h1, if_neg (not_not_intro h1)]
    by_cases h2 : good (xof xs) (enL xs)
    · rw [if_pos h2, if_neg (not_not_intro h2)]
      simp only [ne_eq, not_true_eq_false, if_false]
      by_cases h3 : most < val (xof xs) (enL xs + 1)
      · rw [if_pos (by omega), if_pos h3]; rfl
      · rw [if_neg (by omega), if_neg h3]
        by_cases h4 : xs.length < enL xs + 1 + val (xof xs) (enL xs + 1)
        · rw [if_pos h4, if_pos h4]; rfl
        · rw [if_neg h4, if_neg h4, bs_cut hok (by omega)]
          simp
    · rw [if_neg h2, if_pos h2]; rfl
  · rw [if_neg h1, if_pos h1]; rfl
end Go.Proofs.Ytjgfklbhagcbaab

/- Batches, on lists: may one be, its bytes, what bytes tell; what follows. -/
namespace Go.Proofs.Ytjgfklbhagcbaab
set_option linter.unusedVariables false
set_option linter.unusedSimpArgs false

/-- A change. -/
structure OpV where
  key : List Int
  gone : Bool
  till : Int
  val : List Int
/-- What is wrong with a change: 0: nothing. -/
def may1 (o : OpV) : Nat :=
  if o.key.length = 0 ∨ o.till < 0 ∨ 4611686018427387904 < o.till ∨ (o.gone = true ∧ (o.till ≠ 0 ∨ 0 < o.val.length)) then 1 else if 512 < o.key.length ∨ 2048 < o.val.length then 2 else 0
def mayO : List OpV → Nat
  | [] => 0
  | o :: r => if may1 o ≠ 0 then may1 o else mayO r
def mayB (s : Int) (os : List OpV) : Nat :=
  if os.length < 1 ∨ 400 < os.length then 13 else if s < 1 ∨ 4611686018427387904 - ((os.length : Int) - 1) < s then 1 else mayO os
theorem may1_cases (o : OpV) : may1 o = 0 ∨ may1 o = 1 ∨ may1 o = 2 := by
  unfold may1
  split
  · exact .inr (.inl rfl)
  · split
    · exact .inr (.inr rfl)
    · exact .inl rfl
theorem mayO_cases : ∀ os : List OpV, mayO os = 0 ∨ mayO os = 1 ∨ mayO os = 2
  | [] => .inl rfl
  | o :: r => by
    unfold mayO
    split
    · exact may1_cases o
    · exact mayO_cases r
theorem mayO_all : ∀ {os : List OpV}, mayO os = 0 → ∀ o ∈ os, may1 o = 0
  | [], _, o, ho => by cases ho
  | p :: r, h, o, ho => by
    unfold mayO at h
    split at h
    · rename_i q; exact absurd h q
    · rename_i q
      rcases List.mem_cons.1 ho with e | e
      · rw [e]; exact Decidable.not_not.1 q
      · exact mayO_all h o e
theorem may1_ok {o : OpV} (h : may1 o = 0) : 1 ≤ o.key.length ∧ o.key.length ≤ 512 ∧ 0 ≤ o.till ∧ o.till ≤ 4611686018427387904 ∧ o.val.length ≤ 2048 ∧ (o.gone = true → o.till = 0 ∧ o.val = []) := by
  unfold may1 at h
  split at h
  · simp at h
  · rename_i q
    split at h
    · simp at h
    · rename_i q2
      refine ⟨by omega, by omega, by omega, by omega, by omega, fun hg => ?_⟩
      have : ¬ (o.till ≠ 0 ∨ 0 < o.val.length) := fun hx => q (.inr (.inr (.inr ⟨hg, hx⟩)))
      exact ⟨by omega, List.eq_nil_of_length_eq_zero (by omega)⟩
theorem mayB_ok {s : Int} {os : List OpV} (h : mayB s os = 0) : 1 ≤ os.length ∧ os.length ≤ 400 ∧ 1 ≤ s ∧ s ≤ 4611686018427387904 - ((os.length : Int) - 1) ∧ ∀ o ∈ os, may1 o = 0 := by
  unfold mayB at h
  split at h
  · simp at h
  · split at h
    · simp at h
    · exact ⟨by omega, by omega, by omega, by omega, mayO_all h⟩
/-- A change's bytes. -/
def flg (g : Bool) : Int := if g then 1 else 0
def enO (o : OpV) : List Int := flg o.gone :: (lb o.key ++ (if o.gone then [] else uv o.till.toNat ++ lb o.val))
def enOs : List OpV → List Int
  | [] => []
  | o :: r => enO o ++ enOs r
def enB (s : Int) (os : List OpV) : List Int := uv s.toNat ++ (uv os.length ++ enOs os)
def OkO (o : OpV) : Prop := Okb o.key ∧ Okb o.val
theorem okb_enO {o : OpV} (h : OkO o) : Okb (enO o) := by
  intro x hx
  unfold enO at hx
  rcases List.mem_cons.1 hx with e | e
  · rw [e]; unfold flg; split <;> omega
  · refine (Okb.app (okb_lb h.1) ?_) x e
    split
    · exact fun y hy => by cases hy
    · exact (okb_uv _).app (okb_lb h.2)
theorem okb_enOs : ∀ {os : List OpV}, (∀ o ∈ os, OkO o) → Okb (enOs os)
  | [], _ => fun x hx => by cases hx
  | o :: r, h => (okb_enO (h o (List.mem_cons_self ..))).app (okb_enOs fun p hp => h p (List.mem_cons_of_mem _ hp))
theorem okb_enB {s : Int} {os : List OpV} (h : ∀ o ∈ os, OkO o) : Okb (enB s os) := (okb_uv _).app ((okb_uv _).app (okb_enOs h))
theorem enOs_app : ∀ xs ys : List OpV, enOs (xs ++ ys) = enOs xs ++ enOs ys
  | [], ys => rfl
  | o :: r, ys => by rw [List.cons_append, enOs, enOs_app r ys, enOs, List.append_assoc]
theorem enO_len {o : OpV} (h : may1 o = 0) : (enO o).length ≤ 2700 := by
  have h1 := may1_ok h
  have h2 := uv_len64 (n := o.key.length) (by omega)
  have h3 := uv_len64 (n := o.val.length) (by omega)
  have h4 := uv_len64 (n := o.till.toNat) (by omega)
  unfold enO
  rw [List.length_cons, List.length_append, lb_len]
  split
  · simp; omega
  · rw [List.length_append, lb_len]; omega
theorem enOs_len : ∀ {os : List OpV}, (∀ o ∈ os, may1 o = 0) → (enOs os).length ≤ 2700 * os.length
  | [], _ => by simp [enOs]
  | o :: r, h => by
    have h1 := enO_len (h o (List.mem_cons_self ..))
    have h2 := enOs_len fun p hp => h p (List.mem_cons_of_mem _ hp)
    rw [enOs, List.length_append, List.length_cons]
    omega
/-- A reader: what is left, and the first error. -/
abbrev Rd := List Int × Nat
def rdN (most : Nat) (s : Rd) : Nat × Rd := if s.2 ≠ 0 then (0, s) else if (tk s.1).1 ≠ 0 then (0, (s.1, (tk s.1).1)) else if most < (tk s.1).2.1 then (0, (s.1, 3)) else ((tk s.1).2.1, (s.1.drop (tk s.1).2.2, 0))
def rdB (most : Nat) (s : Rd) : List Int × Rd := if s.2 ≠ 0 then ([], s) else if (tb s.1 most).1 ≠ 0 then ([], (s.1, (tb s.1 most).1)) else ((tb s.1 most).2.1, (s.1.drop (tb s.1 most).2.2, 0))
def rdF (s : Rd) : Bool × Rd := if s.2 ≠ 0 then (false, s) else match s.1 with
  | [] => (false, ([], 5))
  | c :: r => (c == 1, (r, if 1 < c then 3 else 0))
def rdE (s : Rd) : Rd := if s.2 = 0 ∧ 0 < s.1.length then (s.1, 3) else s
/-- A change, read. -/
def deO (s : Rd) : OpV × Rd :=
  if (rdF s).1 then (⟨(rdB 512 (rdF s).2).1, true, 0, []⟩, (rdB 512 (rdF s).2).2) else
    (⟨(rdB 512 (rdF s).2).1, false, ((rdN 4611686018427387904 (rdB 512 (rdF s).2).2).1 : Int), (rdB 2048 (rdN 4611686018427387904 (rdB 512 (rdF s).2).2).2).1⟩, (rdB 2048 (rdN 4611686018427387904 (rdB 512 (rdF s).2).2).2).2)
def deOs : Nat → Rd → List OpV × Rd
  | 0, s => ([], s)
  | n + 1, s => if (deO s).2.2 ≠ 0 then ([(deO s).1], (deO s).2) else ((deO s).1 :: (deOs n (deO s).2).1, (deOs n (deO s).2).2)
def deS (d : List Int) : Nat × Rd := rdN 4611686018427387904 (d, 0)
def deN (d : List Int) : Nat × Rd := rdN 400 (deS d).2
def deR (d : List Int) : List OpV × Rd := deOs (deN d).1 (deN d).2
/-- The error of bytes as a batch. -/
def deE (d : List Int) : Nat := if (rdE (deR d).2).2 = 0 then mayB ((deS d).1 : Int) (deR d).1 else (rdE (deR d).2).2
def deB (d : List Int) : (Int × List OpV) × Nat := if deE d ≠ 0 then ((0, []), deE d) else ((((deS d).1 : Int), (deR d).1), 0)

theorem rdN_err {most : Nat} {s : Rd} (h : s.2 ≠ 0) : rdN most s = (0, s) := by unfold rdN; rw [if_pos h]
theorem rdB_err {most : Nat} {s : Rd} (h : s.2 ≠ 0) : rdB most s = ([], s) := by unfold rdB; rw [if_pos h]
theorem rdF_err {s : Rd} (h : s.2 ≠ 0) : rdF s = (false, s) := by unfold rdF; rw [if_pos h]
theorem rdN_uv {most n : Nat} {t : List Int} (h : n ≤ most) (hn : n < 18446744073709551616) (ht : Okb t) : rdN most (uv n ++ t, 0) = (n, (t, 0)) := by
  unfold rdN
  simp only [tk_uv hn ht, ne_eq, not_true_eq_false, if_false]
  rw [if_neg (by omega), List.drop_left]
theorem rdN_cut {most n k : Nat} (hk : k < (uv n).length) : (rdN most ((uv n).take k, 0)).2.2 = 5 := by
  unfold rdN
  simp [tk_cut hk]
theorem rdB_lb {most : Nat} {s t : List Int} (h : s.length ≤ most) (hn : s.length < 18446744073709551616) (hs : Okb s) (ht : Okb t) : rdB most (lb s ++ t, 0) = (s, (t, 0)) := by
  unfold rdB
  simp only [tb_lb hs ht h hn, ne_eq, not_true_eq_false, if_false]
  rw [List.drop_left]
theorem rdB_cut {most k : Nat} {s : List Int} (h : s.length ≤ most) (hn : s.length < 18446744073709551616) (hs : Okb s) (hk : k < (lb s).length) : (rdB most ((lb s).take k, 0)).2.2 = 5 := by
  unfold rdB
  simp [tb_cut hs h hn hk]
theorem take_two (a b : List Int) (k : Nat) : (k < a.length ∧ (a ++ b).take k = a.take k) ∨ (a.length ≤ k ∧ (a ++ b).take k = a ++ b.take (k - a.length)) := by
  by_cases h : k < a.length
  · exact .inl ⟨h, by rw [List.take_append_of_le_length (by omega)]⟩
  · exact .inr ⟨by omega, by rw [List.take_append, List.take_of_length_le (by omega)]⟩
theorem okb_take {a : List Int} {k : Nat} (h : Okb a) : Okb (a.take k) := fun x hx => h x (List.mem_of_mem_take hx)

/-- A change that may be is read, whatever stands behind it. -/
theorem deO_enO {o : OpV} {t : List Int} (h : may1 o = 0) (ho : OkO o) (ht : Okb t) : deO (enO o ++ t, 0) = (o, (t, 0)) := by
  obtain ⟨key, gone, till, v⟩ := o
  have h1 := may1_ok h
  simp only at h1
  cases gone with
  | true =>
    obtain ⟨e1, e2⟩ := h1.2.2.2.2.2 rfl
    subst e1 e2
    have hF : rdF (enO ⟨key, true, 0, []⟩ ++ t, 0) = (true, (lb key ++ t, 0)) := by
      simp [rdF, enO, flg]
    unfold deO
    rw [hF]
    simp only [if_true]
    rw [rdB_lb h1.2.1 (by omega) ho.1 ht]
  | false =>
    have hok2 : Okb (lb v ++ t) := (okb_lb ho.2).app ht
    have hF : rdF (enO ⟨key, false, till, v⟩ ++ t, 0) = (false, (lb key ++ (uv till.toNat ++ (lb v ++ t)), 0)) := by
      simp [rdF, enO, flg]
    unfold deO
    rw [hF]
    simp only [Bool.false_eq_true, if_false]
    rw [rdB_lb h1.2.1 (by omega) ho.1 ((okb_uv _).app hok2)]
    simp only
    rw [rdN_uv (by omega) (by omega) hok2]
    simp only
    rw [rdB_lb h1.2.2.2.2.1 (by omega) ho.2 ht]
    simp only [Prod.mk.injEq, OpV.mk.injEq, and_true, true_and]
    omega
/-- Cut off it is an error. -/
theorem deO_cut {o : OpV} {k : Nat} (h : may1 o = 0) (ho : OkO o) (hk : k < (enO o).length) : (deO ((enO o).take k, 0)).2.2 ≠ 0 := by
  obtain ⟨key, gone, till, v⟩ := o
  have h1 := may1_ok h
  simp only at h1
  cases k with
  | zero =>
    have hF : rdF ([], 0) = (false, ([], 5)) := rfl
    unfold deO
    rw [List.take_zero, hF]
    simp [rdB, rdN]
  | succ k =>
    cases gone with
    | true =>
      have hF : rdF ((enO ⟨key, true, till, v⟩).take (k + 1), 0) = (true, ((lb key).take k, 0)) := by
        simp [rdF, enO, flg]
      have hkl : k < (lb key).length := by simp [enO] at hk; omega
      unfold deO
      rw [hF]
      simp only [if_true]
      rw [rdB_cut h1.2.1 (by omega) ho.1 hkl]
      simp
    | false =>
      have hF : rdF ((enO ⟨key, false, till, v⟩).take (k + 1), 0) = (false, ((lb key ++ (uv till.toNat ++ lb v)).take k, 0)) := by
        simp [rdF, enO, flg]
      have hkl : k < (lb key ++ (uv till.toNat ++ lb v)).length := by simp [enO] at hk ⊢; omega
      unfold deO
      rw [hF]
      simp only [Bool.false_eq_true, if_false]
      rcases take_two (lb key) (uv till.toNat ++ lb v) k with ⟨q, e⟩ | ⟨q, e⟩
      · rw [e]
        have e5 := rdB_cut (most := 512) h1.2.1 (by omega) ho.1 q
        rw [rdN_err (by rw [e5]; simp)]
        simp only
        rw [rdB_err (by rw [e5]; simp)]
        simp only
        rw [e5]
        simp
      · rw [e, rdB_lb h1.2.1 (by omega) ho.1 (okb_take ((okb_uv _).app (okb_lb ho.2)))]
        simp only
        rcases take_two (uv till.toNat) (lb v) (k - (lb key).length) with ⟨q2, e2⟩ | ⟨q2, e2⟩
        · rw [e2]
          have e5 := rdN_cut (most := 4611686018427387904) q2
          rw [rdB_err (by rw [e5]; simp)]
          simp only
          rw [e5]
          simp
        · rw [e2, rdN_uv (by omega) (by omega) (okb_take (okb_lb ho.2))]
          simp only
          rw [rdB_cut h1.2.2.2.2.1 (by omega) ho.2 (by simp at hkl q q2; omega)]
          simp
theorem deOs_enOs : ∀ {os : List OpV} {t : List Int}, (∀ o ∈ os, may1 o = 0 ∧ OkO o) → Okb t → deOs os.length (enOs os ++ t, 0) = (os, (t, 0))
  | [], t, _, _ => rfl
  | o :: r, t, h, ht => by
    have h1 := h o (List.mem_cons_self ..)
    have h2 : ∀ p ∈ r, may1 p = 0 ∧ OkO p := fun p hp => h p (List.mem_cons_of_mem _ hp)
    have hd : deO (enOs (o :: r) ++ t, 0) = (o, (enOs r ++ t, 0)) := by
      rw [enOs, List.append_assoc]
      exact deO_enO h1.1 h1.2 ((okb_enOs fun p hp => (h2 p hp).2).app ht)
    rw [List.length_cons, deOs, hd]
    simp only [ne_eq, not_true_eq_false, if_false]
    rw [deOs_enOs h2 ht]
theorem deOs_cut : ∀ {os : List OpV} {k : Nat}, (∀ o ∈ os, may1 o = 0 ∧ OkO o) → k < (enOs os).length → (deOs os.length ((enOs os).take k, 0)).2.2 ≠ 0
  | [], k, _, hk => by simp [enOs] at hk
  | o :: r, k, h, hk => by
    have h1 := h o (List.mem_cons_self ..)
    have h2 : ∀ p ∈ r, may1 p = 0 ∧ OkO p := fun p hp => h p (List.mem_cons_of_mem _ hp)
    rw [List.length_cons, deOs, enOs]
    rcases take_two (enO o) (enOs r) k with ⟨q, e⟩ | ⟨q, e⟩
    · rw [e, if_pos (deO_cut h1.1 h1.2 q)]
      exact deO_cut h1.1 h1.2 q
    · rw [e, deO_enO h1.1 h1.2 (okb_take (okb_enOs fun p hp => (h2 p hp).2))]
      simp only [ne_eq, not_true_eq_false, if_false]
      exact deOs_cut h2 (by rw [enOs, List.length_append] at hk; omega)
/-- What was encoded is told again; with more behind it is an error. -/
theorem deB_enB {s : Int} {os : List OpV} {t : List Int} (h : mayB s os = 0) (ho : ∀ o ∈ os, OkO o) (ht : Okb t) : (t = [] → deB (enB s os ++ t) = ((s, os), 0)) ∧ (t ≠ [] → (deB (enB s os ++ t)).2 ≠ 0) := by
  have h1 := mayB_ok h
  have hall : ∀ o ∈ os, may1 o = 0 ∧ OkO o := fun o hp => ⟨h1.2.2.2.2 o hp, ho o hp⟩
  have hokt : Okb (enOs os ++ t) := (okb_enOs ho).app ht
  have hS : deS (enB s os ++ t) = (s.toNat, (uv os.length ++ (enOs os ++ t), 0)) := by
    unfold deS enB
    rw [List.append_assoc, List.append_assoc]
    exact rdN_uv (by omega) (by omega) ((okb_uv _).app hokt)
  have hN : deN (enB s os ++ t) = (os.length, (enOs os ++ t, 0)) := by
    unfold deN
    rw [hS]
    exact rdN_uv h1.2.1 (by omega) hokt
  have hR : deR (enB s os ++ t) = (os, (t, 0)) := by
    unfold deR
    rw [hN]
    exact deOs_enOs hall ht
  have es : ((s.toNat : Nat) : Int) = s := by omega
  constructor
  · intro e
    subst e
    have hE : deE (enB s os ++ []) = 0 := by
      unfold deE
      rw [hR, hS]
      simp [rdE, es, h]
    unfold deB
    rw [if_neg (by rw [hE]; simp), hR, hS]
    simp only [es]
  · intro hne
    have hl : 0 < t.length := List.length_pos_iff.2 hne
    have hE : deE (enB s os ++ t) = 3 := by
      unfold deE
      rw [hR]
      have : rdE (t, 0) = (t, 3) := by unfold rdE; rw [if_pos ⟨rfl, hl⟩]
      rw [this]
      simp
    unfold deB
    rw [if_pos (by rw [hE]; simp), hE]
    simp
theorem deOs_err : ∀ {n : Nat} {s : Rd}, s.2 ≠ 0 → (deOs n s).2.2 ≠ 0
  | 0, s, h => h
  | n + 1, s, h => by
    have e : (deO s).2.2 ≠ 0 := by
      unfold deO
      rw [rdF_err h]
      simp only [Bool.false_eq_true, if_false]
      rw [rdB_err h]
      simp only
      rw [rdN_err h]
      simp only
      rw [rdB_err h]
      exact h
    rw [deOs, if_pos e]
    exact e
theorem deE_err {d : List Int} (h : (deR d).2.2 ≠ 0) : (deB d).2 ≠ 0 := by
  have : rdE (deR d).2 = (deR d).2 := by unfold rdE; rw [if_neg (by intro q; exact h q.1)]
  have hE : deE d ≠ 0 := by
    unfold deE
    rw [this, if_neg h]
    exact h
  unfold deB
  rw [if_pos hE]
  exact hE
theorem deB_cut {s : Int} {os : List OpV} {k : Nat} (h : mayB s os = 0) (ho : ∀ o ∈ os, OkO o) (hk : k < (enB s os).length) : (deB ((enB s os).take k)).2 ≠ 0 := by
  have h1 := mayB_ok h
  have hall : ∀ o ∈ os, may1 o = 0 ∧ OkO o := fun o hp => ⟨h1.2.2.2.2 o hp, ho o hp⟩
  have hoko := okb_enOs ho
  refine deE_err ?_
  unfold deR deN deS enB at *
  rcases take_two (uv s.toNat) (uv os.length ++ enOs os) k with ⟨q, e⟩ | ⟨q, e⟩
  · rw [e]
    have e5 := rdN_cut (most := 4611686018427387904) q
    refine deOs_err ?_
    rw [rdN_err (by rw [e5]; simp), e5]
    simp
  · rw [e, rdN_uv (by omega) (by omega) (okb_take ((okb_uv _).app hoko))]
    simp only
    rcases take_two (uv os.length) (enOs os) (k - (uv s.toNat).length) with ⟨q2, e2⟩ | ⟨q2, e2⟩
    · rw [e2]
      have e5 := rdN_cut (most := 400) q2
      refine deOs_err ?_
      rw [e5]
      simp
    · rw [e2, rdN_uv h1.2.1 (by omega) (okb_take hoko)]
      simp only
      exact deOs_cut hall (by simp at hk; omega)
end Go.Proofs.Ytjgfklbhagcbaab

/- Edits, on lists: may one be, its bytes, what bytes tell; what follows. -/
namespace Go.Proofs.Ytjgfklbhagcbaab
set_option linter.unusedVariables false
set_option linter.unusedSimpArgs false

/-- A line of a table, and an edit. -/
structure LnV where
  num : Int
  lvl : Int
  size : Int
  least : List Int
  most : List Int
structure EdV where
  log : Int
  next : Int
  seq : Int
  add : List LnV
  rem : List Int
def mayNo (n : Int) : Bool := decide (1 ≤ n ∧ n ≤ 1099511627776)
def mayKy (k : List Int) : Bool := decide (1 ≤ k.length ∧ k.length ≤ 512)
def mayMk (n : Int) : Bool := decide (0 ≤ n ∧ n ≤ 4611686018427387904)
def mayLn (t : LnV) : Bool := decide ((1 ≤ t.num ∧ t.num ≤ 1099511627776) ∧ (0 ≤ t.lvl ∧ t.lvl < 4) ∧ (1 ≤ t.size ∧ t.size ≤ 4194304) ∧ (1 ≤ t.least.length ∧ t.least.length ≤ 512) ∧ (1 ≤ t.most.length ∧ t.most.length ≤ 512) ∧ cmp t.least t.most ≤ 0)
def nosL (l : List LnV) : List Int := l.map (·.num)
def mayAd (l : List LnV) : Bool := decide (l.length ≤ 200) && (l.all mayLn && decide (nosL l).Nodup)
def mayRm (l : List Int) : Bool := decide (l.length ≤ 200) && (l.all mayNo && decide l.Nodup)
def mayEd (e : EdV) : Bool := (mayMk e.log && (mayMk e.next && mayMk e.seq)) && (mayAd e.add && mayRm e.rem)
/-- An edit's bytes. -/
def enLn (t : LnV) : List Int := uv t.num.toNat ++ (uv t.lvl.toNat ++ (uv t.size.toNat ++ (lb t.least ++ lb t.most)))
def enLns : List LnV → List Int
  | [] => []
  | t :: r => enLn t ++ enLns r
def enNs : List Int → List Int
  | [] => []
  | n :: r => uv n.toNat ++ enNs r
def enEd (e : EdV) : List Int := uv e.log.toNat ++ (uv e.next.toNat ++ (uv e.seq.toNat ++ (uv e.add.length ++ (enLns e.add ++ (uv e.rem.length ++ enNs e.rem)))))
def enEdV (e : EdV) : List Int := if mayEd e = true then enEd e else []
/-- What bytes tell. -/
def deLn (s : Rd) : LnV × Rd :=
  (⟨((rdN 1099511627776 s).1 : Int), ((rdN 3 (rdN 1099511627776 s).2).1 : Int), ((rdN 4194304 (rdN 3 (rdN 1099511627776 s).2).2).1 : Int), (rdB 512 (rdN 4194304 (rdN 3 (rdN 1099511627776 s).2).2).2).1, (rdB 512 (rdB 512 (rdN 4194304 (rdN 3 (rdN 1099511627776 s).2).2).2).2).1⟩,
    (rdB 512 (rdB 512 (rdN 4194304 (rdN 3 (rdN 1099511627776 s).2).2).2).2).2)
def deLns : Nat → Rd → List LnV × Rd
  | 0, s => ([], s)
  | n + 1, s => if (deLn s).2.2 ≠ 0 then ([(deLn s).1], (deLn s).2) else ((deLn s).1 :: (deLns n (deLn s).2).1, (deLns n (deLn s).2).2)
def deNs : Nat → Rd → List Int × Rd
  | 0, s => ([], s)
  | n + 1, s => if (rdN 1099511627776 s).2.2 ≠ 0 then ([((rdN 1099511627776 s).1 : Int)], (rdN 1099511627776 s).2) else (((rdN 1099511627776 s).1 : Int) :: (deNs n (rdN 1099511627776 s).2).1, (deNs n (rdN 1099511627776 s).2).2)
def e1S (d : List Int) : Nat × Rd := rdN 4611686018427387904 (d, 0)
def e2S (d : List Int) : Nat × Rd := rdN 4611686018427387904 (e1S d).2
def e3S (d : List Int) : Nat × Rd := rdN 4611686018427387904 (e2S d).2
def e4S (d : List Int) : Nat × Rd := rdN 200 (e3S d).2
def e5S (d : List Int) : List LnV × Rd := deLns (e4S d).1 (e4S d).2
def e6S (d : List Int) : Nat × Rd := rdN 200 (e5S d).2
def e7S (d : List Int) : List Int × Rd := deNs (e6S d).1 (e6S d).2
def edR (d : List Int) : EdV := ⟨((e1S d).1 : Int), ((e2S d).1 : Int), ((e3S d).1 : Int), (e5S d).1, (e7S d).1⟩
def edE (d : List Int) : Nat := if (rdE (e7S d).2).2 = 0 then (if mayEd (edR d) = true then 0 else 3) else (rdE (e7S d).2).2
def noEd : EdV := ⟨0, 0, 0, [], []⟩
def deEd (d : List Int) : EdV × Nat := if edE d ≠ 0 then (noEd, edE d) else (edR d, 0)

theorem mayLn_ok {t : LnV} (h : mayLn t = true) : (1 ≤ t.num ∧ t.num ≤ 1099511627776) ∧ (0 ≤ t.lvl ∧ t.lvl < 4) ∧ (1 ≤ t.size ∧ t.size ≤ 4194304) ∧ (1 ≤ t.least.length ∧ t.least.length ≤ 512) ∧ (1 ≤ t.most.length ∧ t.most.length ≤ 512) ∧ cmp t.least t.most ≤ 0 := of_decide_eq_true h
theorem mayNo_ok {n : Int} (h : mayNo n = true) : 1 ≤ n ∧ n ≤ 1099511627776 := of_decide_eq_true h
theorem mayMk_ok {n : Int} (h : mayMk n = true) : 0 ≤ n ∧ n ≤ 4611686018427387904 := of_decide_eq_true h
theorem mayAd_ok {l : List LnV} (h : mayAd l = true) : l.length ≤ 200 ∧ (∀ t ∈ l, mayLn t = true) ∧ (nosL l).Nodup := by
  unfold mayAd at h
  simp only [Bool.and_eq_true, decide_eq_true_eq, List.all_eq_true] at h
  exact h
theorem mayRm_ok {l : List Int} (h : mayRm l = true) : l.length ≤ 200 ∧ (∀ t ∈ l, mayNo t = true) ∧ l.Nodup := by
  unfold mayRm at h
  simp only [Bool.and_eq_true, decide_eq_true_eq, List.all_eq_true] at h
  exact h
theorem mayEd_ok {e : EdV} (h : mayEd e = true) : (0 ≤ e.log ∧ e.log ≤ 4611686018427387904) ∧ (0 ≤ e.next ∧ e.next ≤ 4611686018427387904) ∧ (0 ≤ e.seq ∧ e.seq ≤ 4611686018427387904) ∧ mayAd e.add = true ∧ mayRm e.rem = true := by
  unfold mayEd at h
  simp only [Bool.and_eq_true] at h
  exact ⟨mayMk_ok h.1.1, mayMk_ok h.1.2.1, mayMk_ok h.1.2.2, h.2.1, h.2.2⟩
def OkL (t : LnV) : Prop := Okb t.least ∧ Okb t.most
theorem okb_enLn {t : LnV} (h : OkL t) : Okb (enLn t) := (okb_uv _).app ((okb_uv _).app ((okb_uv _).app ((okb_lb h.1).app (okb_lb h.2))))
theorem okb_enLns : ∀ {l : List LnV}, (∀ t ∈ l, OkL t) → Okb (enLns l)
  | [], _ => fun x hx => by cases hx
  | t :: r, h => (okb_enLn (h t (List.mem_cons_self ..))).app (okb_enLns fun p hp => h p (List.mem_cons_of_mem _ hp))
theorem okb_enNs : ∀ l : List Int, Okb (enNs l)
  | [] => fun x hx => by cases hx
  | n :: r => (okb_uv _).app (okb_enNs r)
theorem okb_enEd {e : EdV} (h : ∀ t ∈ e.add, OkL t) : Okb (enEd e) := (okb_uv _).app ((okb_uv _).app ((okb_uv _).app ((okb_uv _).app ((okb_enLns h).app ((okb_uv _).app (okb_enNs _))))))
theorem enLns_app : ∀ xs ys : List LnV, enLns (xs ++ ys) = enLns xs ++ enLns ys
  | [], ys => rfl
  | o :: r, ys => by rw [List.cons_append, enLns, enLns_app r ys, enLns, List.append_assoc]
theorem enNs_app : ∀ xs ys : List Int, enNs (xs ++ ys) = enNs xs ++ enNs ys
  | [], ys => rfl
  | o :: r, ys => by rw [List.cons_append, enNs, enNs_app r ys, enNs, List.append_assoc]
theorem enLns_take {l : List LnV} {k : Nat} {t : LnV} (h : l[k]? = some t) : enLns (l.take (k + 1)) = enLns (l.take k) ++ enLn t := by
  obtain ⟨hk, rfl⟩ := List.getElem?_eq_some_iff.1 h
  rw [List.take_add_one, List.getElem?_eq_getElem hk, enLns_app]
  show _ ++ (enLn l[k] ++ []) = _
  rw [List.append_nil]
theorem enNs_take {l : List Int} {k : Nat} {t : Int} (h : l[k]? = some t) : enNs (l.take (k + 1)) = enNs (l.take k) ++ uv t.toNat := by
  obtain ⟨hk, rfl⟩ := List.getElem?_eq_some_iff.1 h
  rw [List.take_add_one, List.getElem?_eq_getElem hk, enNs_app]
  show _ ++ (uv l[k].toNat ++ []) = _
  rw [List.append_nil]
theorem enLn_len {t : LnV} (h : mayLn t = true) : (enLn t).length ≤ 1100 := by
  have h1 := mayLn_ok h
  have h2 := uv_len64 (n := t.least.length) (by omega)
  have h3 := uv_len64 (n := t.most.length) (by omega)
  have h4 := uv_len64 (n := t.num.toNat) (by omega)
  have h5 := uv_len64 (n := t.lvl.toNat) (by omega)
  have h6 := uv_len64 (n := t.size.toNat) (by omega)
  unfold enLn
  simp only [List.length_append, lb_len]
  omega
theorem enLns_len : ∀ {l : List LnV}, (∀ t ∈ l, mayLn t = true) → (enLns l).length ≤ 1100 * l.length
  | [], _ => by simp [enLns]
  | o :: r, h => by
    have h1 := enLn_len (h o (List.mem_cons_self ..))
    have h2 := enLns_len fun p hp => h p (List.mem_cons_of_mem _ hp)
    rw [enLns, List.length_append, List.length_cons]
    omega
theorem enNs_len : ∀ {l : List Int}, (∀ t ∈ l, mayNo t = true) → (enNs l).length ≤ 10 * l.length
  | [], _ => by simp [enNs]
  | o :: r, h => by
    have h0 := mayNo_ok (h o (List.mem_cons_self ..))
    have h1 := uv_len64 (n := o.toNat) (by omega)
    have h2 := enNs_len fun p hp => h p (List.mem_cons_of_mem _ hp)
    rw [enNs, List.length_append, List.length_cons]
    omega
theorem enEd_len {e : EdV} (h : mayEd e = true) : (enEd e).length ≤ 250000 := by
  have h1 := mayEd_ok h
  have h2 := mayAd_ok h1.2.2.2.1
  have h3 := mayRm_ok h1.2.2.2.2
  have h4 := enLns_len h2.2.1
  have h5 := enNs_len h3.2.1
  have := uv_len64 (n := e.log.toNat) (by omega)
  have := uv_len64 (n := e.next.toNat) (by omega)
  have := uv_len64 (n := e.seq.toNat) (by omega)
  have := uv_len64 (n := e.add.length) (by omega)
  have := uv_len64 (n := e.rem.length) (by omega)
  unfold enEd
  simp only [List.length_append]
  omega
/-- A line that may be is read, whatever stands behind it; cut off it is an error. -/
theorem deLn_enLn {o : LnV} {t : List Int} (h : mayLn o = true) (ho : OkL o) (ht : Okb t) : deLn (enLn o ++ t, 0) = (o, (t, 0)) := by
  obtain ⟨num, lvl, size, least, most⟩ := o
  have h1 := mayLn_ok h
  simp only at h1
  obtain ⟨ho1, ho2⟩ : Okb least ∧ Okb most := ho
  have k2 := (okb_lb ho2).app ht
  have k1 := (okb_lb ho1).app k2
  have k0 := (okb_uv size.toNat).app k1
  unfold deLn enLn
  simp only [List.append_assoc]
  rw [rdN_uv (by omega) (by omega) ((okb_uv lvl.toNat).app k0)]
  simp only
  rw [rdN_uv (by omega) (by omega) k0]
  simp only
  rw [rdN_uv (by omega) (by omega) k1]
  simp only
  rw [rdB_lb (by omega) (by omega) ho1 k2]
  simp only
  rw [rdB_lb (by omega) (by omega) ho2 ht]
  simp only [Prod.mk.injEq, LnV.mk.injEq, and_true, true_and]
  omega
theorem deLn_cut {o : LnV} {k : Nat} (h : mayLn o = true) (ho : OkL o) (hk : k < (enLn o).length) : (deLn ((enLn o).take k, 0)).2.2 ≠ 0 := by
  obtain ⟨num, lvl, size, least, most⟩ := o
  have h1 := mayLn_ok h
  simp only at h1
  obtain ⟨ho1, ho2⟩ : Okb least ∧ Okb most := ho
  have k2 := okb_lb ho2
  have k1 := (okb_lb ho1).app k2
  have k0 := (okb_uv size.toNat).app k1
  have kk := (okb_uv lvl.toNat).app k0
  unfold deLn enLn at *
  simp only [List.length_append] at hk
  rcases take_two (uv num.toNat) (uv lvl.toNat ++ (uv size.toNat ++ (lb least ++ lb most))) k with ⟨q, e⟩ | ⟨q, e⟩
  · rw [e]
    have e5 := rdN_cut (most := 1099511627776) q
    have n5 : (rdN 1099511627776 ((uv num.toNat).take k, 0)).2.2 ≠ 0 := by rw [e5]; simp
    simp only
    rw [rdN_err (most := 3) n5]
    simp only
    rw [rdN_err (most := 4194304) n5]
    simp only
    rw [rdB_err (most := 512) n5]
    simp only
    rw [rdB_err (most := 512) n5]
    exact n5
  · rw [e, rdN_uv (by omega) (by omega) (okb_take kk)]
    simp only
    rcases take_two (uv lvl.toNat) (uv size.toNat ++ (lb least ++ lb most)) (k - (uv num.toNat).length) with ⟨q2, e2⟩ | ⟨q2, e2⟩
    · rw [e2]
      have e5 := rdN_cut (most := 3) q2
      have n5 : (rdN 3 ((uv lvl.toNat).take (k - (uv num.toNat).length), 0)).2.2 ≠ 0 := by rw [e5]; simp
      rw [rdN_err (most := 4194304) n5]
      simp only
      rw [rdB_err (most := 512) n5]
      simp only
      rw [rdB_err (most := 512) n5]
      exact n5
    · rw [e2, rdN_uv (by omega) (by omega) (okb_take k0)]
      simp only
      rcases take_two (uv size.toNat) (lb least ++ lb most) (k - (uv num.toNat).length - (uv lvl.toNat).length) with ⟨q3, e3⟩ | ⟨q3, e3⟩
      · rw [e3]
        have e5 := rdN_cut (most := 4194304) q3
        have n5 : (rdN 4194304 ((uv size.toNat).take (k - (uv num.toNat).length - (uv lvl.toNat).length), 0)).2.2 ≠ 0 := by rw [e5]; simp
        rw [rdB_err (most := 512) n5]
        simp only
        rw [rdB_err (most := 512) n5]
        exact n5
      · rw [e3, rdN_uv (by omega) (by omega) (okb_take k1)]
        simp only
        rcases take_two (lb least) (lb most) (k - (uv num.toNat).length - (uv lvl.toNat).length - (uv size.toNat).length) with ⟨q4, e4⟩ | ⟨q4, e4⟩
        · rw [e4]
          have e5 := rdB_cut (most := 512) (s := least) (by omega) (by omega) ho1 q4
          have n5 : (rdB 512 ((lb least).take (k - (uv num.toNat).length - (uv lvl.toNat).length - (uv size.toNat).length), 0)).2.2 ≠ 0 := by rw [e5]; simp
          rw [rdB_err (most := 512) n5]
          exact n5
        · rw [e4, rdB_lb (by omega) (by omega) ho1 (okb_take k2)]
          simp only
          rw [rdB_cut (by omega) (by omega) ho2 (by omega)]
          simp
theorem deLns_enLns : ∀ {os : List LnV} {t : List Int}, (∀ o ∈ os, mayLn o = true ∧ OkL o) → Okb t → deLns os.length (enLns os ++ t, 0) = (os, (t, 0))
  | [], t, _, _ => rfl
  | o :: r, t, h, ht => by
    have h1 := h o (List.mem_cons_self ..)
    have h2 : ∀ p ∈ r, mayLn p = true ∧ OkL p := fun p hp => h p (List.mem_cons_of_mem _ hp)
    have hd : deLn (enLns (o :: r) ++ t, 0) = (o, (enLns r ++ t, 0)) := by
      rw [enLns, List.append_assoc]
      exact deLn_enLn h1.1 h1.2 ((okb_enLns fun p hp => (h2 p hp).2).app ht)
    rw [List.length_cons, deLns, hd]
    simp only [ne_eq, not_true_eq_false, if_false]
    rw [deLns_enLns h2 ht]
theorem deLns_cut : ∀ {os : List LnV} {k : Nat}, (∀ o ∈ os, mayLn o = true ∧ OkL o) → k < (enLns os).length → (deLns os.length ((enLns os).take k, 0)).2.2 ≠ 0
  | [], k, _, hk => by simp [enLns] at hk
  | o :: r, k, h, hk => by
    have h1 := h o (List.mem_cons_self ..)
    have h2 : ∀ p ∈ r, mayLn p = true ∧ OkL p := fun p hp => h p (List.mem_cons_of_mem _ hp)
    rw [List.length_cons, deLns, enLns]
    rcases take_two (enLn o) (enLns r) k with ⟨q, e⟩ | ⟨q, e⟩
    · rw [e, if_pos (deLn_cut h1.1 h1.2 q)]
      exact deLn_cut h1.1 h1.2 q
    · rw [e, deLn_enLn h1.1 h1.2 (okb_take (okb_enLns fun p hp => (h2 p hp).2))]
      simp only [ne_eq, not_true_eq_false, if_false]
      exact deLns_cut h2 (by rw [enLns, List.length_append] at hk; omega)
theorem deNs_enNs : ∀ {os : List Int} {t : List Int}, (∀ o ∈ os, mayNo o = true) → Okb t → deNs os.length (enNs os ++ t, 0) = (os, (t, 0))
  | [], t, _, _ => rfl
  | o :: r, t, h, ht => by
    have h1 := mayNo_ok (h o (List.mem_cons_self ..))
    have h2 : ∀ p ∈ r, mayNo p = true := fun p hp => h p (List.mem_cons_of_mem _ hp)
    have hd : rdN 1099511627776 (enNs (o :: r) ++ t, 0) = (o.toNat, (enNs r ++ t, 0)) := by
      rw [enNs, List.append_assoc]
      exact rdN_uv (by omega) (by omega) ((okb_enNs r).app ht)
    have eo : ((o.toNat : Nat) : Int) = o := by omega
    rw [List.length_cons, deNs, hd]
    simp only [ne_eq, not_true_eq_false, if_false]
    rw [deNs_enNs h2 ht, eo]
theorem deNs_cut : ∀ {os : List Int} {k : Nat}, (∀ o ∈ os, mayNo o = true) → k < (enNs os).length → (deNs os.length ((enNs os).take k, 0)).2.2 ≠ 0
  | [], k, _, hk => by simp [enNs] at hk
  | o :: r, k, h, hk => by
    have h1 := mayNo_ok (h o (List.mem_cons_self ..))
    have h2 : ∀ p ∈ r, mayNo p = true := fun p hp => h p (List.mem_cons_of_mem _ hp)
    rw [List.length_cons, deNs, enNs]
    rcases take_two (uv o.toNat) (enNs r) k with ⟨q, e⟩ | ⟨q, e⟩
    · have n5 : (rdN 1099511627776 ((uv o.toNat).take k, 0)).2.2 ≠ 0 := by rw [rdN_cut q]; simp
      rw [e, if_pos n5]
      exact n5
    · rw [e, rdN_uv (by omega) (by omega) (okb_take (okb_enNs r))]
      simp only [ne_eq, not_true_eq_false, if_false]
      exact deNs_cut h2 (by rw [enNs, List.length_append] at hk; omega)
theorem deLn_err {s : Rd} (h : s.2 ≠ 0) : (deLn s).2.2 ≠ 0 := by
  unfold deLn
  rw [rdN_err h]
  simp only
  rw [rdN_err h]
  simp only
  rw [rdN_err h]
  simp only
  rw [rdB_err h]
  simp only
  rw [rdB_err h]
  exact h
theorem deLns_err : ∀ {n : Nat} {s : Rd}, s.2 ≠ 0 → (deLns n s).2.2 ≠ 0
  | 0, s, h => h
  | n + 1, s, h => by
    have e := deLn_err h
    rw [deLns, if_pos e]
    exact e
theorem deNs_err : ∀ {n : Nat} {s : Rd}, s.2 ≠ 0 → (deNs n s).2.2 ≠ 0
  | 0, s, h => h
  | n + 1, s, h => by
    have e : (rdN 1099511627776 s).2.2 ≠ 0 := by rw [rdN_err h]; exact h
    rw [deNs, if_pos e]
    exact e
theorem rdE_err {s : Rd} (h : s.2 ≠ 0) : rdE s = s := by unfold rdE; rw [if_neg (by intro q; exact h q.1)]
theorem edE_err {d : List Int} (h : (e7S d).2.2 ≠ 0) : (deEd d).2 ≠ 0 := by
  have hE : edE d = (e7S d).2.2 := by
    unfold edE
    generalize e7S d = x at h ⊢
    rw [rdE_err h, if_neg h]
  unfold deEd
  rw [hE, if_pos h]
  exact h
theorem rdN_errne {most : Nat} {s : Rd} (h : s.2 ≠ 0) : (rdN most s).2.2 ≠ 0 := by rw [rdN_err h]; exact h
/-- What was encoded is told again; with more behind it is an error. -/
theorem deEd_enEd {e : EdV} {t : List Int} (h : mayEd e = true) (ho : ∀ o ∈ e.add, OkL o) (ht : Okb t) : (t = [] → deEd (enEd e ++ t) = (e, 0)) ∧ (t ≠ [] → (deEd (enEd e ++ t)).2 ≠ 0) := by
  obtain ⟨log, next, seq, add, rem⟩ := e
  have h1 := mayEd_ok h
  simp only at h1 ho
  have h2 := mayAd_ok h1.2.2.2.1
  have h3 := mayRm_ok h1.2.2.2.2
  have hall : ∀ o ∈ add, mayLn o = true ∧ OkL o := fun o hp => ⟨h2.2.1 o hp, ho o hp⟩
  have k7 : Okb (enNs rem ++ t) := (okb_enNs _).app ht
  have k6 := (okb_uv rem.length).app k7
  have k5 := (okb_enLns ho).app k6
  have k4 := (okb_uv add.length).app k5
  have k3 := (okb_uv seq.toNat).app k4
  have k2 := (okb_uv next.toNat).app k3
  have s1 : e1S (enEd ⟨log, next, seq, add, rem⟩ ++ t) = (log.toNat, (uv next.toNat ++ (uv seq.toNat ++ (uv add.length ++ (enLns add ++ (uv rem.length ++ (enNs rem ++ t))))), 0)) := by
    unfold e1S enEd
    simp only [List.append_assoc]
    exact rdN_uv (by omega) (by omega) k2
  have s2 : e2S (enEd ⟨log, next, seq, add, rem⟩ ++ t) = (next.toNat, (uv seq.toNat ++ (uv add.length ++ (enLns add ++ (uv rem.length ++ (enNs rem ++ t)))), 0)) := by
    unfold e2S
    rw [s1]
    exact rdN_uv (by omega) (by omega) k3
  have s3 : e3S (enEd ⟨log, next, seq, add, rem⟩ ++ t) = (seq.toNat, (uv add.length ++ (enLns add ++ (uv rem.length ++ (enNs rem ++ t))), 0)) := by
    unfold e3S
    rw [s2]
    exact rdN_uv (by omega) (by omega) k4
  have s4 : e4S (enEd ⟨log, next, seq, add, rem⟩ ++ t) = (add.length, (enLns add ++ (uv rem.length ++ (enNs rem ++ t)), 0)) := by
    unfold e4S
    rw [s3]
    exact rdN_uv (by omega) (by omega) k5
  have s5 : e5S (enEd ⟨log, next, seq, add, rem⟩ ++ t) = (add, (uv rem.length ++ (enNs rem ++ t), 0)) := by
    unfold e5S
    rw [s4]
    exact deLns_enLns hall k6
  have s6 : e6S (enEd ⟨log, next, seq, add, rem⟩ ++ t) = (rem.length, (enNs rem ++ t, 0)) := by
    unfold e6S
    rw [s5]
    exact rdN_uv (by omega) (by omega) k7
  have s7 : e7S (enEd ⟨log, next, seq, add, rem⟩ ++ t) = (rem, (t, 0)) := by
    unfold e7S
    rw [s6]
    exact deNs_enNs h3.2.1 ht
  have hR : edR (enEd ⟨log, next, seq, add, rem⟩ ++ t) = ⟨log, next, seq, add, rem⟩ := by
    unfold edR
    rw [s1, s2, s3, s5, s7]
    simp only [EdV.mk.injEq, and_true]
    omega
  constructor
  · intro e
    have hE : edE (enEd ⟨log, next, seq, add, rem⟩ ++ t) = 0 := by
      unfold edE
      rw [s7, hR, e]
      simp [rdE, h]
    unfold deEd
    rw [if_neg (by rw [hE]; simp), hR]
  · intro hne
    have hl : 0 < t.length := List.length_pos_iff.2 hne
    have hE : edE (enEd ⟨log, next, seq, add, rem⟩ ++ t) = 3 := by
      unfold edE
      rw [s7]
      have : rdE (t, 0) = (t, 3) := by unfold rdE; rw [if_pos ⟨rfl, hl⟩]
      simp [this]
    unfold deEd
    rw [if_pos (by rw [hE]; simp), hE]
    simp
theorem deEd_cut {e : EdV} {k : Nat} (h : mayEd e = true) (ho : ∀ o ∈ e.add, OkL o) (hk : k < (enEd e).length) : (deEd ((enEd e).take k)).2 ≠ 0 := by
  obtain ⟨log, next, seq, add, rem⟩ := e
  have h1 := mayEd_ok h
  simp only at h1 ho
  have h2 := mayAd_ok h1.2.2.2.1
  have h3 := mayRm_ok h1.2.2.2.2
  have hall : ∀ o ∈ add, mayLn o = true ∧ OkL o := fun o hp => ⟨h2.2.1 o hp, ho o hp⟩
  have k7 : Okb (enNs rem) := okb_enNs _
  have k6 := (okb_uv rem.length).app k7
  have k5 := (okb_enLns ho).app k6
  have k4 := (okb_uv add.length).app k5
  have k3 := (okb_uv seq.toNat).app k4
  have k2 := (okb_uv next.toNat).app k3
  refine edE_err ?_
  unfold enEd at hk ⊢
  simp only [List.length_append] at hk
  unfold e7S e6S e5S e4S e3S e2S e1S
  simp only
  rcases take_two (uv log.toNat) (uv next.toNat ++ (uv seq.toNat ++ (uv add.length ++ (enLns add ++ (uv rem.length ++ enNs rem))))) k with ⟨q, e⟩ | ⟨q, e⟩
  · rw [e]
    exact deNs_err (rdN_errne (deLns_err (rdN_errne (rdN_errne (rdN_errne (by rw [rdN_cut q]; simp))))))
  · rw [e, rdN_uv (by omega) (by omega) (okb_take k2)]
    simp only
    rcases take_two (uv next.toNat) (uv seq.toNat ++ (uv add.length ++ (enLns add ++ (uv rem.length ++ enNs rem)))) (k - (uv log.toNat).length) with ⟨q2, e2⟩ | ⟨q2, e2⟩
    · rw [e2]
      exact deNs_err (rdN_errne (deLns_err (rdN_errne (rdN_errne (by rw [rdN_cut q2]; simp)))))
    · rw [e2, rdN_uv (by omega) (by omega) (okb_take k3)]
      simp only
      rcases take_two (uv seq.toNat) (uv add.length ++ (enLns add ++ (uv rem.length ++ enNs rem))) (k - (uv log.toNat).length - (uv next.toNat).length) with ⟨q3, e3⟩ | ⟨q3, e3⟩
      · rw [e3]
        exact deNs_err (rdN_errne (deLns_err (rdN_errne (by rw [rdN_cut q3]; simp))))
      · rw [e3, rdN_uv (by omega) (by omega) (okb_take k4)]
        simp only
        rcases take_two (uv add.length) (enLns add ++ (uv rem.length ++ enNs rem)) (k - (uv log.toNat).length - (uv next.toNat).length - (uv seq.toNat).length) with ⟨q4, e4⟩ | ⟨q4, e4⟩
        · rw [e4]
          exact deNs_err (rdN_errne (deLns_err (by rw [rdN_cut q4]; simp)))
        · rw [e4, rdN_uv (by omega) (by omega) (okb_take k5)]
          simp only
          rcases take_two (enLns add) (uv rem.length ++ enNs rem) (k - (uv log.toNat).length - (uv next.toNat).length - (uv seq.toNat).length - (uv add.length).length) with ⟨q5, e5⟩ | ⟨q5, e5⟩
          · rw [e5]
            exact deNs_err (rdN_errne (deLns_cut hall q5))
          · rw [e5, deLns_enLns hall (okb_take k6)]
            simp only
            rcases take_two (uv rem.length) (enNs rem) (k - (uv log.toNat).length - (uv next.toNat).length - (uv seq.toNat).length - (uv add.length).length - (enLns add).length) with ⟨q6, e6⟩ | ⟨q6, e6⟩
            · rw [e6]
              exact deNs_err (by rw [rdN_cut q6]; simp)
            · rw [e6, rdN_uv (by omega) (by omega) (okb_take k7)]
              simp only
              exact deNs_cut h3.2.1 (by omega)
end Go.Proofs.Ytjgfklbhagcbaab
