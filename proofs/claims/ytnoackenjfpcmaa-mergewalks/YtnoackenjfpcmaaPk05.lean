import Derived.Test.YtnoackenjfpcmaaPk03
import Derived.Test.YtnoackenjfpcmaaPk04
/- What TakeBytes answers. -/
namespace Go.Proofs.Ytnoackenjfpcmaa
open Go.RowKit
set_option linter.unusedVariables false

/-- What TakeBytes answers, where the length's number ends at E: the bytes, how many are used, the error. -/
def tbR (X : Nat → Nat) (len E : Nat) (most : Int) : List Int × Int × Int :=
  if E < len then (if good X E then
    (if most < 0 ∨ most < (val X (E + 1) : Int) then ([], 0, 2) else if len < E + 1 + val X (E + 1) then ([], 0, 5) else (bs (fun k => X (E + 1 + k)) (val X (E + 1)), (E : Int) + 1 + (val X (E + 1) : Int), 0))
    else ([], 0, 3)) else ([], 0, 5)

/-- A slice of bytes that the callee made, or nil. -/
def Got (w w' : World) (e : Ending) (r : List Int × Int × Int) : Prop :=
  ∃ ao cap, e = .returned (.tuple #[.slice ao r.1.length cap, .int .i64 r.2.1, .int .i64 r.2.2]) ∧ (ao = none → r.1.length = 0 ∧ cap = 0) ∧ r.1.length ≤ cap ∧ cap ≤ maxLen ∧ Byt w' ao r.1.length (xof r.1) ∧ Below w.heap.size w w' ∧ Row w.heap.size w' (.slice ao r.1.length cap) r.1
theorem got_nil (w : World) (K F : Int) : Got w w (.returned (.tuple #[.slice none 0 0, .int .i64 K, .int .i64 F])) ([], K, F) :=
  ⟨none, 0, rfl, fun _ => ⟨rfl, rfl⟩, Nat.le_refl _, Nat.zero_le _, (fun k hk => by cases hk), Below.refl _ _, Row.nil _ _⟩

theorem Byt.cut {w : World} {ao : Option Addr} {len l m : Nat} {X : Nat → Nat} (h : Byt w ao len X) (b off : Nat) (e : ao = some ⟨b, off, none⟩) (hl : l + m ≤ len) : Byt w (some ⟨b, off + l, none⟩) m (fun k => X (l + k)) := fun k hk => by
  obtain ⟨h1, b', off', e', hc⟩ := h (l + k) (by omega)
  rw [e] at e'
  simp only [Option.some.injEq, Addr.mk.injEq, and_true] at e'
  obtain ⟨rfl, rfl⟩ := e'
  exact ⟨h1, b, off + l, rfl, by rw [Nat.add_assoc]; exact hc⟩

end Go.Proofs.Ytnoackenjfpcmaa

/- What the document's own TakeBytes answers. -/
namespace Go.Proofs.Ytnoackenjfpcmaa
open Go.RowKit
set_option linter.unusedVariables false

end Go.Proofs.Ytnoackenjfpcmaa

/- Numbers, and bytes with their length ahead, read at the beginning of a list of bytes; what follows. -/
namespace Go.Proofs.Ytnoackenjfpcmaa
open Go.RowKit
set_option linter.unusedVariables false
set_option linter.unusedSimpArgs false

/-- Where the number at the beginning ends. -/
def enL : List Int → Nat
  | [] => 0
  | x :: r => if 128 ≤ x then enL r + 1 else 0
theorem end_enL : ∀ xs : List Int, Okb xs → IsEnd (xof xs) xs.length (enL xs)
  | [], _ => ⟨Nat.le_refl _, (fun j hj => by cases hj), (fun h => by cases h)⟩
  | x :: r, h => by
    have ih := end_enL r h.tail
    have hx := h x (List.mem_cons_self ..)
    unfold enL
    by_cases q : 128 ≤ x
    · rw [if_pos q]
      refine ⟨by have := ih.1; simp; omega, fun j hj => ?_, fun hl => ?_⟩
      · cases j with
        | zero => rw [xof_zero]; omega
        | succ j => rw [xof_succ]; exact ih.2.1 j (by omega)
      · rw [xof_succ]
        exact ih.2.2 (by simp at hl; omega)
    · rw [if_neg q]
      exact ⟨by simp, (fun j hj => by cases hj), (fun _ => by rw [xof_zero]; omega)⟩
theorem end_one {X : Nat → Nat} {len E F : Nat} (h : IsEnd X len E) (g : IsEnd X len F) : E = F := by
  rcases Nat.lt_trichotomy E F with q | q | q
  · have h1 := g.2.1 E q
    have h2 := h.2.2 (by have := g.1; omega)
    omega
  · exact q
  · have h1 := h.2.1 F q
    have h2 := g.2.2 (by have := h.1; omega)
    omega

/-- A number at the beginning: the error, the number, how many bytes it has. -/
def tk (xs : List Int) : Nat × Nat × Nat :=
  if ¬ enL xs < xs.length then (5, 0, 0) else if ¬ good (xof xs) (enL xs) then (3, 0, 0) else (0, val (xof xs) (enL xs + 1), enL xs + 1)
theorem takeV_tk (xs : List Int) : takeV (xof xs) xs.length (enL xs) = .tuple #[.int .u64 ((tk xs).2.1 : Nat), .int .i64 ((tk xs).2.2 : Nat), .int .i64 ((tk xs).1 : Nat)] := by
  unfold takeV tk
  by_cases h1 : enL xs < xs.length
  · rw [if_pos h1, if_neg (not_not_intro h1)]
    by_cases h2 : good (xof xs) (enL xs)
    · rw [if_pos h2, if_neg (not_not_intro h2)]; rfl
    · rw [if_neg h2, if_pos h2]; rfl
  · rw [if_neg h1, if_pos h1]; rfl
theorem tk_case (xs : List Int) : ((tk xs).1 = 5 ∧ tk xs = (5, 0, 0)) ∨ ((tk xs).1 = 3 ∧ tk xs = (3, 0, 0)) ∨ ((tk xs).1 = 0 ∧ 1 ≤ (tk xs).2.2 ∧ (tk xs).2.2 ≤ xs.length) := by
  unfold tk
  by_cases h1 : enL xs < xs.length
  · rw [if_neg (not_not_intro h1)]
    by_cases h2 : good (xof xs) (enL xs)
    · rw [if_neg (not_not_intro h2)]; exact .inr (.inr ⟨rfl, Nat.succ_le_succ (Nat.zero_le _), h1⟩)
    · rw [if_pos h2]; exact .inr (.inl ⟨rfl, rfl⟩)
  · rw [if_pos h1]; exact .inl ⟨rfl, rfl⟩
theorem tk_used {xs : List Int} (h : (tk xs).1 = 0) : 1 ≤ (tk xs).2.2 ∧ (tk xs).2.2 ≤ xs.length := by
  rcases tk_case xs with ⟨q, _⟩ | ⟨q, _⟩ | ⟨_, q⟩
  · omega
  · omega
  · exact q
theorem tk_lt (xs : List Int) : (tk xs).2.1 < 18446744073709551616 := by
  unfold tk
  split
  · simp
  · split
    · simp
    · rename_i h
      exact val_good (Decidable.not_not.1 h)
theorem tk_err (xs : List Int) : (tk xs).1 = 0 ∨ (tk xs).1 = 3 ∨ (tk xs).1 = 5 := by
  rcases tk_case xs with ⟨q, _⟩ | ⟨q, _⟩ | ⟨q, _⟩
  · exact .inr (.inr q)
  · exact .inr (.inl q)
  · exact .inl q
/-- What was written is read, whatever stands behind it. -/
theorem tk_uv {n : Nat} {t : List Int} (hn : n < 18446744073709551616) (ht : Okb t) : tk (uv n ++ t) = (0, n, (uv n).length) := by
  have hok : Okb (uv n ++ t) := (okb_uv n).app ht
  have hZ : Begins (xof (uv n ++ t)) (uv n) := begins_xof hok
  have hul := uv_pos n
  have hE : enL (uv n ++ t) = (uv n).length - 1 := end_one (end_enL _ hok) (uv_end hZ (by simp))
  have hv : val (xof (uv n ++ t)) (enL (uv n ++ t) + 1) = n := by rw [hE]; exact uv_val hZ
  have hg : good (xof (uv n ++ t)) (enL (uv n ++ t)) := by rw [hE]; exact uv_good hn hZ
  unfold tk
  rw [if_neg (by rw [hE]; simp; omega), if_neg (not_not_intro hg), hv, hE]
  simp
  omega
/-- Cut off it is short. -/
theorem tk_cut {n k : Nat} (hk : k < (uv n).length) : tk ((uv n).take k) = (5, 0, 0) := by
  have hZ : Begins (xof (uv n)) (uv n) := begins_xof' (okb_uv _)
  have hc := (takeV_cut (n := n) hZ hk).1
  have hokt : Okb ((uv n).take k) := fun x hx => okb_uv n x (List.mem_of_mem_take hx)
  have hl : ((uv n).take k).length = k := by rw [List.length_take]; omega
  have hend := end_enL _ hokt
  rw [hl] at hend
  have hE : enL ((uv n).take k) = k := by
    refine end_one hend ⟨Nat.le_refl _, fun i hi => ?_, fun h => absurd h (by omega)⟩
    have : xof ((uv n).take k) i = xof (uv n) i := by
      unfold xof
      rw [List.getD_eq_getElem?_getD, List.getElem?_take_of_lt hi, List.getD_eq_getElem?_getD]
    rw [this]
    exact hc.2.1 i hi
  unfold tk
  rw [if_pos (by rw [hE, hl]; omega)]
/-- Bytes with their length ahead: the error, the bytes, how many bytes all of it has. -/
def tb (xs : List Int) (most : Nat) : Nat × List Int × Nat :=
  if (tk xs).1 ≠ 0 then ((tk xs).1, [], 0) else if most < (tk xs).2.1 then (2, [], 0) else if xs.length < (tk xs).2.2 + (tk xs).2.1 then (5, [], 0) else (0, (xs.drop (tk xs).2.2).take (tk xs).2.1, (tk xs).2.2 + (tk xs).2.1)
theorem tb_used {xs : List Int} {most : Nat} (h : (tb xs most).1 = 0) : 1 ≤ (tb xs most).2.2 ∧ (tb xs most).2.2 ≤ xs.length ∧ (tb xs most).2.1.length ≤ most := by
  unfold tb at h ⊢
  split at h
  · rename_i q; exact absurd h q
  · rename_i q0
    rw [if_neg q0]
    split at h
    · simp at h
    · rename_i q1
      rw [if_neg q1]
      split at h
      · simp at h
      · rename_i q2
        rw [if_neg q2]
        have := tk_used (Decidable.not_not.1 q0)
        refine ⟨by simp; omega, by simp; omega, ?_⟩
        rw [List.length_take, List.length_drop]
        omega
theorem tb_okb {xs : List Int} {most : Nat} (h : Okb xs) : Okb (tb xs most).2.1 := by
  unfold tb
  split
  · exact fun x hx => by cases hx
  · split
    · exact fun x hx => by cases hx
    · split
      · exact fun x hx => by cases hx
      · exact fun x hx => h x (List.mem_of_mem_drop (List.mem_of_mem_take hx))
/-- Bytes with their length ahead. -/
def lb (s : List Int) : List Int := uv s.length ++ s
theorem okb_lb {s : List Int} (h : Okb s) : Okb (lb s) := (okb_uv _).app h
theorem lb_len (s : List Int) : (lb s).length = (uv s.length).length + s.length := by simp [lb]
theorem lb_pos (s : List Int) : 0 < (lb s).length := by have := uv_pos s.length; rw [lb_len]; omega
theorem tb_lb {s t : List Int} {most : Nat} (hs : Okb s) (ht : Okb t) (hm : s.length ≤ most) (h64 : s.length < 18446744073709551616) : tb (lb s ++ t) most = (0, s, (lb s).length) := by
  have e : lb s ++ t = uv s.length ++ (s ++ t) := by unfold lb; rw [List.append_assoc]
  unfold tb
  rw [e, tk_uv h64 (hs.app ht)]
  rw [if_neg (by simp), if_neg (by simp; omega), if_neg (by simp)]
  simp only [Prod.mk.injEq, true_and]
  refine ⟨?_, by rw [lb_len]⟩
  rw [List.drop_append_of_le_length (Nat.le_refl _), List.drop_of_length_le (Nat.le_refl _), List.nil_append, List.take_append_of_le_length (Nat.le_refl _), List.take_of_length_le (Nat.le_refl _)]
theorem tb_cut {s : List Int} {k most : Nat} (hs : Okb s) (hm : s.length ≤ most) (h64 : s.length < 18446744073709551616) (hk : k < (lb s).length) : (tb ((lb s).take k) most).1 = 5 := by
  rw [lb_len] at hk
  by_cases hj : k < (uv s.length).length
  · have e : (lb s).take k = (uv s.length).take k := by unfold lb; rw [List.take_append_of_le_length (by omega)]
    unfold tb
    rw [e, tk_cut hj]
    rfl
  · have e : (lb s).take k = uv s.length ++ s.take (k - (uv s.length).length) := by
      unfold lb
      rw [List.take_append, List.take_of_length_le (by omega)]
    unfold tb
    rw [e, tk_uv h64 (fun x hx => hs x (List.mem_of_mem_take hx)), if_neg (by simp), if_neg (by simp; omega), if_pos (by simp; omega)]
theorem bs_cut {ys : List Int} (hok : Okb ys) {i n : Nat} (h : i + n ≤ ys.length) : bs (fun k => xof ys (i + k)) n = (ys.drop i).take n := by
  apply List.ext_getElem
  · rw [bs_length, List.length_take, List.length_drop]; omega
  · intro k h1 h2
    have hk : k < n := by rw [bs_length] at h1; exact h1
    have hik : i + k < ys.length := by omega
    have h0 := hok ys[i + k] (List.getElem_mem hik)
    simp [bs, xof, List.getElem?_eq_getElem hik]
    omega
theorem tbR_tb {xs : List Int} (hok : Okb xs) (most : Nat) : tbR (xof xs) xs.length (enL xs) (most : Int) = ((tb xs most).2.1, ((tb xs most).2.2 : Int), ((tb xs most).1 : Int)) := by
  unfold tbR tb tk
  by_cases h1 : enL xs < xs.length
  · rw [if_pos h1, if_neg (not_not_intro h1)]
    by_cases h2 : good (xof xs) (enL xs)
    · rw [if_pos h2, if_neg (not_not_intro h2)]
      simp only [ne_eq, not_true_eq_false, if_false]
      by_cases h3 : most < val (xof xs) (enL xs + 1)
      · rw [if_pos (by omega), if_pos h3]; rfl
      · rw [if_neg (by omega), if_neg h3]
        by_cases h4 : xs.length < enL xs + 1 + val (xof xs) (enL xs + 1)
        · rw [if_pos h4, if_pos h4]; rfl
        · rw [if_neg h4, if_neg h4, bs_cut hok (by omega)]
          simp
    · rw [if_neg h2, if_pos h2]; rfl
  · rw [if_neg h1, if_pos h1]; rfl
end Go.Proofs.Ytnoackenjfpcmaa
