/- The landed block, on lists: how it reads; that it takes what the document takes. -/
import Derived.Test.YtifgojkmdicdmaaBlk
import Derived.Test.YtifgojkmdicdmaaBlt1
namespace Go.Proofs.Ytifgojkmdicdmaa
set_option linter.unusedVariables false
set_option linter.unusedSimpArgs false

/-- A number as the landed block takes it. -/
def nmL (d : List Int) : Nat × Rd := rdN 4611686018427387904 (d, 0)
theorem nmL_def (d : List Int) : nmL d = if (tk d).1 ≠ 0 then (0, (d, (tk d).1)) else if 4611686018427387904 < (tk d).2.1 then (0, (d, 3)) else ((tk d).2.1, (d.drop (tk d).2.2, 0)) := by
  unfold nmL rdN
  rw [if_neg (by simp)]
/-- A key: an error; the key, what is left. -/
def kE (key d : List Int) : Nat × List Int × List Int :=
  if (nmL d).2.2 ≠ 0 then ((nmL d).2.2, [], [])
  else if key.length < (nmL d).1 then (3, [], [])
  else if (nmL (nmL d).2.1).2.2 ≠ 0 then ((nmL (nmL d).2.1).2.2, [], [])
  else if 512 < (nmL d).1 + (nmL (nmL d).2.1).1 then (2, [], [])
  else if (nmL (nmL d).2.1).2.1.length < (nmL (nmL d).2.1).1 then (5, [], [])
  else (0, key.take (nmL d).1 ++ (nmL (nmL d).2.1).2.1.take (nmL (nmL d).2.1).1, (nmL (nmL d).2.1).2.1.drop (nmL (nmL d).2.1).1)
theorem kE_len (key d : List Int) : (kE key d).2.1.length ≤ 512 := by
  unfold kE
  split
  · simp
  split
  · simp
  split
  · simp
  split
  · simp
  split
  · simp
  · simp only [List.length_append, List.length_take]; omega
theorem rdN_zero {most : Nat} {d : List Int} : rdN most (d, 0) = if (tk d).1 ≠ 0 then (0, (d, (tk d).1)) else if most < (tk d).2.1 then (0, (d, 3)) else ((tk d).2.1, (d.drop (tk d).2.2, 0)) := by
  unfold rdN
  rw [if_neg (by simp)]
theorem kE_num {key d : List Int} (hk : key.length ≤ 512) : ((kE key d).1 = 0 ↔ (kNum key (d, 0)).2.2.2 = 0) ∧ ((kE key d).1 = 0 → (kE key d).2.1 = keyK key (d, 0) ∧ (kE key d).2.2 = (kNum key (d, 0)).2.2.1.drop (kNum key (d, 0)).2.1) := by
  by_cases q1 : (tk d).1 = 0
  · by_cases q2 : key.length < (tk d).2.1
    · have r1 : rdN key.length (d, 0) = (0, (d, 3)) := by rw [rdN_zero, if_neg (not_not_intro q1), if_pos q2]
      have r2 : rdN 9223372036854775808 (d, 3) = (0, (d, 3)) := rdN_err (by simp)
      have h1 : (kE key d).1 ≠ 0 := by
        unfold kE
        rw [nmL_def, if_neg (not_not_intro q1)]
        by_cases q3 : 4611686018427387904 < (tk d).2.1
        · rw [if_pos q3]; simp
        · rw [if_neg q3]; simp [q2]
      have h2 : (kNum key (d, 0)).2.2.2 ≠ 0 := by
        unfold kNum
        rw [r1]
        simp only
        rw [r2]
        simp
      exact ⟨⟨fun h => absurd h h1, fun h => absurd h h2⟩, fun h => absurd h h1⟩
    · have r1 : rdN key.length (d, 0) = ((tk d).2.1, (d.drop (tk d).2.2, 0)) := by rw [rdN_zero, if_neg (not_not_intro q1), if_neg q2]
      have m1 : nmL d = ((tk d).2.1, (d.drop (tk d).2.2, 0)) := by rw [nmL_def, if_neg (not_not_intro q1), if_neg (by omega)]
      generalize (tk d).2.1 = n at *
      generalize d.drop (tk d).2.2 = r at *
      by_cases q3 : (tk r).1 = 0
      · by_cases q4 : 4611686018427387904 < (tk r).2.1
        · have m2 : nmL r = (0, (r, 3)) := by rw [nmL_def, if_neg (not_not_intro q3), if_pos q4]
          have h1 : (kE key d).1 ≠ 0 := by
            unfold kE
            rw [m1]
            simp only
            rw [m2]
            simp [q2]
          have h2 : (kNum key (d, 0)).2.2.2 ≠ 0 := by
            unfold kNum
            rw [r1]
            simp only
            by_cases q5 : 9223372036854775808 < (tk r).2.1
            · rw [show rdN 9223372036854775808 (r, 0) = (0, (r, 3)) by rw [rdN_zero, if_neg (not_not_intro q3), if_pos q5]]
              simp
            · rw [show rdN 9223372036854775808 (r, 0) = ((tk r).2.1, (r.drop (tk r).2.2, 0)) by rw [rdN_zero, if_neg (not_not_intro q3), if_neg q5]]
              simp only [ne_eq, not_true_eq_false, if_false]
              rw [if_pos (by omega)]
              simp
          exact ⟨⟨fun h => absurd h h1, fun h => absurd h h2⟩, fun h => absurd h h1⟩
        · have m2 : nmL r = ((tk r).2.1, (r.drop (tk r).2.2, 0)) := by rw [nmL_def, if_neg (not_not_intro q3), if_neg q4]
          have r2 : rdN 9223372036854775808 (r, 0) = ((tk r).2.1, (r.drop (tk r).2.2, 0)) := by rw [rdN_zero, if_neg (not_not_intro q3), if_neg (by omega)]
          generalize (tk r).2.1 = m at *
          generalize r.drop (tk r).2.2 = t at *
          have e1 : kE key d = if 512 < n + m then (2, [], []) else if t.length < m then (5, [], []) else (0, key.take n ++ t.take m, t.drop m) := by
            unfold kE
            rw [m1]
            simp only
            rw [m2]
            simp only [ne_eq, not_true_eq_false, if_false]
            rw [if_neg q2]
          have e2 : kNum key (d, 0) = (n, m, if 512 < n + m then (t, 2) else if t.length < m then (t, 5) else (t, 0)) := by
            unfold kNum
            rw [r1]
            simp only
            rw [r2]
            simp only [ne_eq, not_true_eq_false, if_false]
            by_cases z : 512 < n + m
            · rw [if_pos (.inr z), if_pos z]
            · rw [if_neg (by omega), if_neg z]
          unfold keyK
          rw [e1, e2]
          by_cases z : 512 < n + m
          · rw [if_pos z, if_pos z]; simp
          · rw [if_neg z, if_neg z]
            by_cases y : t.length < m
            · rw [if_pos y, if_pos y]; simp
            · rw [if_neg y, if_neg y]; simp
      · have m2 : nmL r = (0, (r, (tk r).1)) := by rw [nmL_def, if_pos q3]
        have r2 : rdN 9223372036854775808 (r, 0) = (0, (r, (tk r).1)) := by rw [rdN_zero, if_pos q3]
        have h1 : (kE key d).1 ≠ 0 := by
          unfold kE
          rw [m1]
          simp only
          rw [m2]
          simp [q2, q3]
        have h2 : (kNum key (d, 0)).2.2.2 ≠ 0 := by
          unfold kNum
          rw [r1]
          simp only
          rw [r2]
          simp [q3]
        exact ⟨⟨fun h => absurd h h1, fun h => absurd h h2⟩, fun h => absurd h h1⟩
  · have r1 : rdN key.length (d, 0) = (0, (d, (tk d).1)) := by rw [rdN_zero, if_pos q1]
    have r2 : rdN 9223372036854775808 (d, (tk d).1) = (0, (d, (tk d).1)) := rdN_err q1
    have h1 : (kE key d).1 ≠ 0 := by
      unfold kE
      rw [nmL_def, if_pos q1]
      simp [q1]
    have h2 : (kNum key (d, 0)).2.2.2 ≠ 0 := by
      unfold kNum
      rw [r1]
      simp only
      rw [r2]
      simp [q1]
    exact ⟨⟨fun h => absurd h h1, fun h => absurd h h2⟩, fun h => absurd h h1⟩

def noE : EntV := ⟨[], 0, false, 0, []⟩
/-- An entry: an error; the entry, what is left. -/
def tE (key d : List Int) : Nat × EntV × List Int :=
  if (kE key d).1 ≠ 0 then ((kE key d).1, noE, [])
  else if (deV (kE key d).2.1 ((kE key d).2.2, 0)).2.2 ≠ 0 then ((deV (kE key d).2.1 ((kE key d).2.2, 0)).2.2, noE, [])
  else (0, (deV (kE key d).2.1 ((kE key d).2.2, 0)).1, (deV (kE key d).2.1 ((kE key d).2.2, 0)).2.1)
theorem tE_key (key d : List Int) : (tE key d).2.1.key.length ≤ 512 := by
  unfold tE
  split
  · simp [noE]
  · split
    · simp [noE]
    · simp only; rw [deV_key]; exact kE_len key d
theorem tE_de {key d : List Int} (hk : key.length ≤ 512) (h : (kNum key (d, 0)).2.2.2 = 0) : ((tE key d).1 = 0 ↔ (deE1 key (d, 0)).2.2 = 0) ∧ ((tE key d).1 = 0 → (tE key d).2.1 = (deE1 key (d, 0)).1 ∧ (deE1 key (d, 0)).2 = ((tE key d).2.2, 0)) := by
  obtain ⟨a1, a2⟩ := kE_num (d := d) hk
  have b1 := a1.2 h
  obtain ⟨c1, c2⟩ := a2 b1
  unfold tE
  rw [if_neg (not_not_intro b1)]
  have e : deV (kE key d).2.1 ((kE key d).2.2, 0) = deE1 key (d, 0) := by unfold deE1; rw [c1, c2]
  rw [e]
  by_cases q : (deE1 key (d, 0)).2.2 = 0
  · rw [if_neg (not_not_intro q)]
    refine ⟨⟨fun _ => q, fun _ => rfl⟩, fun _ => ⟨rfl, Prod.ext rfl q⟩⟩
  · rw [if_pos q]
    exact ⟨⟨fun z => absurd z q, fun z => absurd z q⟩, fun z => absurd z q⟩
theorem tE_bad {key d : List Int} (hk : key.length ≤ 512) (h : (kNum key (d, 0)).2.2.2 ≠ 0) : (tE key d).1 ≠ 0 := by
  have a1 := (kE_num (d := d) hk).1
  have b1 : (kE key d).1 ≠ 0 := fun q => h (a1.1 q)
  unfold tE
  rw [if_pos b1]
  exact b1
theorem tE_less {key d : List Int} (hk : key.length ≤ 512) (h : (tE key d).1 = 0) : (tE key d).2.2.length < d.length := by
  have h1 : (kNum key (d, 0)).2.2.2 = 0 := Classical.byContradiction fun q => tE_bad hk q h
  have h2 := (tE_de hk h1).2 h
  have h3 := deE1_less (key := key) (s := (d, 0)) rfl h1
  rw [h2.2] at h3
  exact h3
/-- All entries: an error, or they. -/
def tA : Nat → List Int → List Int → Nat × List EntV
  | 0, _, _ => (0, [])
  | n + 1, key, d => if d = [] then (0, []) else if (tE key d).1 ≠ 0 then ((tE key d).1, [])
    else ((tA n (tE key d).2.1.key (tE key d).2.2).1, (tE key d).2.1 :: (tA n (tE key d).2.1.key (tE key d).2.2).2)
theorem deEs_err {n : Nat} {key : List Int} {s : Rd} (h : s.2 ≠ 0) : deEs n key s = ([], s) := by
  cases n with
  | zero => rfl
  | succ n => unfold deEs; rw [if_pos (.inr h)]
theorem tA_de : ∀ (n : Nat) (key d : List Int), key.length ≤ 512 → ((tA n key d).1 = 0 ↔ (deEs n key (d, 0)).2.2 = 0) ∧ ((tA n key d).1 = 0 → (tA n key d).2 = (deEs n key (d, 0)).1)
  | 0, key, d, hk => by simp [tA, deEs]
  | n + 1, key, d, hk => by
    unfold tA deEs
    by_cases q : d = []
    · rw [if_pos q, if_pos (.inl (by rw [q]; rfl))]; simp
    · have q' : ¬ d.length = 0 := fun z => q (List.eq_nil_of_length_eq_zero z)
      rw [if_neg q, if_neg (show ¬ (((d, 0) : Rd).1.length = 0 ∨ ((d, 0) : Rd).2 ≠ 0) by simpa using q)]
      by_cases h : (kNum key (d, 0)).2.2.2 = 0
      · rw [if_neg (not_not_intro h)]
        obtain ⟨a1, a2⟩ := tE_de hk h
        by_cases z : (tE key d).1 = 0
        · rw [if_neg (not_not_intro z)]
          obtain ⟨b1, b2⟩ := a2 z
          rw [← b1, b2]
          obtain ⟨c1, c2⟩ := tA_de n (tE key d).2.1.key (tE key d).2.2 (tE_key key d)
          exact ⟨c1, fun y => by rw [c2 y]⟩
        · rw [if_pos z]
          have z2 : (deE1 key (d, 0)).2.2 ≠ 0 := fun y => z (a1.2 y)
          rw [deEs_err z2]
          exact ⟨⟨fun y => absurd y z, fun y => absurd y z2⟩, fun y => absurd y z⟩
      · rw [if_pos h, if_pos (tE_bad hk h)]
        exact ⟨⟨fun y => absurd y (tE_bad hk h), fun y => absurd y h⟩, fun y => absurd y (tE_bad hk h)⟩
/-- What the landed Decode answers. -/
def allL (b : List Int) : Nat × List EntV := tA b.length [] (bodyN b)
def tkEL (b : List Int) : Nat :=
  if b.length < 4 then 5 else if lastN b = 0 ∨ (b.length - 4) / 4 < lastN b then 3 else if (allL b).1 ≠ 0 then (allL b).1
  else if blkE ((allL b).2.take 401) ≠ 0 ∨ blkB ((allL b).2.take 401) ≠ b then 3 else 0
def tkBL (b : List Int) : List EntV := if tkEL b = 0 then (allL b).2.take 401 else []
theorem take_few {l : List EntV} (h : blkE (l.take 401) = 0) : l.take 401 = l := by
  have := blkE_ok h
  rw [List.length_take] at this
  exact List.take_of_length_le (by omega)
theorem tkL (b : List Int) : (tkEL b = 0 ↔ tkE b = 0) ∧ tkBL b = tkB b := by
  have key : (tkEL b = 0 ↔ tkE b = 0) ∧ (tkE b = 0 → (allL b).2.take 401 = (deBk b).1) := by
    obtain ⟨a1, a2⟩ := tA_de b.length [] (bodyN b) (by simp)
    rw [show tA b.length [] (bodyN b) = allL b from rfl, show deEs b.length [] (bodyN b, 0) = deBk b from rfl] at a1 a2
    unfold tkEL tkE
    by_cases q1 : b.length < 4
    · rw [if_pos q1, if_pos q1]; simp
    rw [if_neg q1, if_neg q1]
    by_cases q2 : lastN b = 0 ∨ (b.length - 4) / 4 < lastN b
    · rw [if_pos q2, if_pos q2]; simp
    rw [if_neg q2, if_neg q2]
    by_cases q3 : (allL b).1 = 0
    · have q4 := a1.1 q3
      rw [if_neg (not_not_intro q3), if_neg (not_not_intro q4), a2 q3]
      by_cases q5 : blkE (deBk b).1 = 0
      · have q6 : (deBk b).1.take 401 = (deBk b).1 := List.take_of_length_le (by have := blkE_ok q5; omega)
        rw [q6]
        exact ⟨Iff.rfl, fun _ => rfl⟩
      · have q6 : blkE ((deBk b).1.take 401) ≠ 0 := fun z => q5 (by rw [take_few z] at z; exact z)
        rw [if_pos (.inl q6), if_pos (.inl q5)]
        simp
    · have q4 : (deBk b).2.2 ≠ 0 := fun z => q3 (a1.2 z)
      rw [if_pos q3, if_pos q4]
      exact ⟨⟨fun y => absurd y q3, fun y => absurd y q4⟩, fun y => absurd y q4⟩
  refine ⟨key.1, ?_⟩
  unfold tkBL tkB
  by_cases q : tkE b = 0
  · rw [if_pos (key.1.2 q), if_pos q, key.2 q]
  · rw [if_neg (fun z => q (key.1.1 z)), if_neg q]
end Go.Proofs.Ytifgojkmdicdmaa
