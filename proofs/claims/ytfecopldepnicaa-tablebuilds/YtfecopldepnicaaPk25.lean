import Derived.Laws.BitsAllLaws
import Derived.Test.YtfecopldepnicaaPk06
import Derived.Test.YtfecopldepnicaaPk13
import Derived.Test.YtfecopldepnicaaPk15
import Derived.Test.YtfecopldepnicaaPk16
import Derived.Test.YtfecopldepnicaaPk21
/- The landed block, on lists: how it reads; that it takes what the document takes. -/
namespace Go.Proofs.Ytfecopldepnicaa
set_option linter.unusedVariables false
set_option linter.unusedSimpArgs false

/-- A number as the landed block takes it. -/
def nmL (d : List Int) : Nat × Rd := rdN 4611686018427387904 (d, 0)
theorem nmL_def (d : List Int) : nmL d = if (tk d).1 ≠ 0 then (0, (d, (tk d).1)) else if 4611686018427387904 < (tk d).2.1 then (0, (d, 3)) else ((tk d).2.1, (d.drop (tk d).2.2, 0)) := by
  unfold nmL rdN
  rw [if_neg (by simp)]
/-- A key: an error; the key, what is left. -/
def kE (key d : List Int) : Nat × List Int × List Int :=
  if (nmL d).2.2 ≠ 0 then ((nmL d).2.2, [], [])
  else if key.length < (nmL d).1 then (3, [], [])
  else if (nmL (nmL d).2.1).2.2 ≠ 0 then ((nmL (nmL d).2.1).2.2, [], [])
  else if 512 < (nmL d).1 + (nmL (nmL d).2.1).1 then (2, [], [])
  else if (nmL (nmL d).2.1).2.1.length < (nmL (nmL d).2.1).1 then (5, [], [])
  else (0, key.take (nmL d).1 ++ (nmL (nmL d).2.1).2.1.take (nmL (nmL d).2.1).1, (nmL (nmL d).2.1).2.1.drop (nmL (nmL d).2.1).1)
theorem kE_len (key d : List Int) : (kE key d).2.1.length ≤ 512 := by
  unfold kE
  split
  · simp
  split
  · simp
  split
  · simp
  split
  · simp
  split
  · simp
  · simp only [List.length_append, List.length_take]; omega
theorem rdN_zero {most : Nat} {d : List Int} : rdN most (d, 0) = if (tk d).1 ≠ 0 then (0, (d, (tk d).1)) else if most < (tk d).2.1 then (0, (d, 3)) else ((tk d).2.1, (d.drop (tk d).2.2, 0)) := by
  unfold rdN
  rw [if_neg (by simp)]
theorem kE_num {key d : List Int} (hk : key.length ≤ 512) : ((kE key d).1 = 0 ↔ (kNum key (d, 0)).2.2.2 = 0) ∧ ((kE key d).1 = 0 → (kE key d).2.1 = keyK key (d, 0) ∧ (kE key d).2.2 = (kNum key (d, 0)).2.2.1.drop (kNum key (d, 0)).2.1) := by
  by_cases q1 : (tk d).1 = 0
  · by_cases q2 : key.length < (tk d).2.1
    · have r1 : rdN key.length (d, 0) = (0, (d, 3)) := by rw [rdN_zero, if_neg (not_not_intro q1), if_pos q2]
      have r2 : rdN 9223372036854775808 (d, 3) = (0, (d, 3)) := rdN_err (by simp)
      have h1 : (kE key d).1 ≠ 0 := by
        unfold kE
        rw [nmL_def, if_neg (not_not_intro q1)]
        by_cases q3 : 4611686018427387904 < (tk d).2.1
        · rw [if_pos q3]; simp
        · rw [if_neg q3]; simp [q2]
      have h2 : (kNum key (d, 0)).2.2.2 ≠ 0 := by
        unfold kNum
        rw [r1]
        simp only
        rw [r2]
        simp
      exact ⟨⟨fun h => absurd h h1, fun h => absurd h h2⟩, fun h => absurd h h1⟩
    · have r1 : rdN key.length (d, 0) = ((tk d).2.1, (d.drop (tk d).2.2, 0)) := by rw [rdN_zero, if_neg (not_not_intro q1), if_neg q2]
      have m1 : nmL d = ((tk d).2.1, (d.drop (tk d).2.2, 0)) := by rw [nmL_def, if_neg (not_not_intro q1), if_neg (by omega)]
      generalize (tk d).2.1 = n at *
      generalize d.drop (tk d).2.2 = r at *
      by_cases q3 : (tk r).1 = 0
      · by_cases q4 : 4611686018427387904 < (tk r).2.1
        · have m2 : nmL r = (0, (r, 3)) := by rw [nmL_def, if_neg (not_not_intro q3), if_pos q4]
          have h1 : (kE key d).1 ≠ 0 := by
            unfold kE
            rw [m1]
            simp only
            rw [m2]
            simp [q2]
          have h2 : (kNum key (d, 0)).2.2.2 ≠ 0 := by
            unfold kNum
            rw [r1]
            simp only
            by_cases q5 : 9223372036854775808 < (tk r).2.1
            · rw [show rdN 9223372036854775808 (r, 0) = (0, (r, 3)) by rw [rdN_zero, if_neg (not_not_intro q3), if_pos q5]]
              simp
            · rw [show rdN 9223372036854775808 (r, 0) = ((tk r).2.1, (r.drop (tk r).2.2, 0)) by rw [rdN_zero, if_neg (not_not_intro q3), if_neg q5]]
              simp only [ne_eq, not_true_eq_false, if_false]
              rw [if_pos (by omega)]
              simp
          exact ⟨⟨fun h => absurd h h1, fun h => absurd h h2⟩, fun h => absurd h h1⟩
        · have m2 : nmL r = ((tk r).2.1, (r.drop (tk r).2.2, 0)) := by rw [nmL_def, if_neg (not_not_intro q3), if_neg q4]
          have r2 : rdN 9223372036854775808 (r, 0) = ((tk r).2.1, (r.drop (tk r).2.2, 0)) := by rw [rdN_zero, if_neg (not_not_intro q3), if_neg (by omega)]
          generalize (tk r).2.1 = m at *
          generalize r.drop (tk r).2.2 = t at *
          have e1 : kE key d = if 512 < n + m then (2, [], []) else if t.length < m then (5, [], []) else (0, key.take n ++ t.take m, t.drop m) := by
            unfold kE
            rw [m1]
            simp only
            rw [m2]
            simp only [ne_eq, not_true_eq_false, if_false]
            rw [if_neg q2]
          have e2 : kNum key (d, 0) = (n, m, if 512 < n + m then (t, 2) else if t.length < m then (t, 5) else (t, 0)) := by
            unfold kNum
            rw [r1]
            simp only
            rw [r2]
            simp only [ne_eq, not_true_eq_false, if_false]
            by_cases z : 512 < n + m
            · rw [if_pos (.inr z), if_pos z]
            · rw [if_neg (by omega), if_neg z]
          unfold keyK
          rw [e1, e2]
          by_cases z : 512 < n + m
          · rw [if_pos z, if_pos z]; simp
          · rw [if_neg z, if_neg z]
            by_cases y : t.length < m
            · rw [if_pos y, if_pos y]; simp
            · rw [if_neg y, if_neg y]; simp
      · have m2 : nmL r = (0, (r, (tk r).1)) := by rw [nmL_def, if_pos q3]
        have r2 : rdN 9223372036854775808 (r, 0) = (0, (r, (tk r).1)) := by rw [rdN_zero, if_pos q3]
        have h1 : (kE key d).1 ≠ 0 := by
          unfold kE
          rw [m1]
          simp only
          rw [m2]
          simp [q2, q3]
        have h2 : (kNum key (d, 0)).2.2.2 ≠ 0 := by
          unfold kNum
          rw [r1]
          simp only
          rw [r2]
          simp [q3]
        exact ⟨⟨fun h => absurd h h1, fun h => absurd h h2⟩, fun h => absurd h h1⟩
  · have r1 : rdN key.length (d, 0) = (0, (d, (tk d).1)) := by rw [rdN_zero, if_pos q1]
    have r2 : rdN 9223372036854775808 (d, (tk d).1) = (0, (d, (tk d).1)) := rdN_err q1
    have h1 : (kE key d).1 ≠ 0 := by
      unfold kE
      rw [nmL_def, if_pos q1]
      simp [q1]
    have h2 : (kNum key (d, 0)).2.2.2 ≠ 0 := by
      unfold kNum
      rw [r1]
      simp only
      rw [r2]
      simp [q1]
    exact ⟨⟨fun h => absurd h h1, fun h => absurd h h2⟩, fun h => absurd h h1⟩

def noE : EntV := ⟨[], 0, false, 0, []⟩
/-- An entry: an error; the entry, what is left. -/
def tE (key d : List Int) : Nat × EntV × List Int :=
  if (kE key d).1 ≠ 0 then ((kE key d).1, noE, [])
  else if (deV (kE key d).2.1 ((kE key d).2.2, 0)).2.2 ≠ 0 then ((deV (kE key d).2.1 ((kE key d).2.2, 0)).2.2, noE, [])
  else (0, (deV (kE key d).2.1 ((kE key d).2.2, 0)).1, (deV (kE key d).2.1 ((kE key d).2.2, 0)).2.1)
theorem tE_key (key d : List Int) : (tE key d).2.1.key.length ≤ 512 := by
  unfold tE
  split
  · simp [noE]
  · split
    · simp [noE]
    · simp only; rw [deV_key]; exact kE_len key d
theorem tE_de {key d : List Int} (hk : key.length ≤ 512) (h : (kNum key (d, 0)).2.2.2 = 0) : ((tE key d).1 = 0 ↔ (deE1 key (d, 0)).2.2 = 0) ∧ ((tE key d).1 = 0 → (tE key d).2.1 = (deE1 key (d, 0)).1 ∧ (deE1 key (d, 0)).2 = ((tE key d).2.2, 0)) := by
  obtain ⟨a1, a2⟩ := kE_num (d := d) hk
  have b1 := a1.2 h
  obtain ⟨c1, c2⟩ := a2 b1
  unfold tE
  rw [if_neg (not_not_intro b1)]
  have e : deV (kE key d).2.1 ((kE key d).2.2, 0) = deE1 key (d, 0) := by unfold deE1; rw [c1, c2]
  rw [e]
  by_cases q : (deE1 key (d, 0)).2.2 = 0
  · rw [if_neg (not_not_intro q)]
    refine ⟨⟨fun _ => q, fun _ => rfl⟩, fun _ => ⟨rfl, Prod.ext rfl q⟩⟩
  · rw [if_pos q]
    exact ⟨⟨fun z => absurd z q, fun z => absurd z q⟩, fun z => absurd z q⟩
theorem tE_bad {key d : List Int} (hk : key.length ≤ 512) (h : (kNum key (d, 0)).2.2.2 ≠ 0) : (tE key d).1 ≠ 0 := by
  have a1 := (kE_num (d := d) hk).1
  have b1 : (kE key d).1 ≠ 0 := fun q => h (a1.1 q)
  unfold tE
  rw [if_pos b1]
  exact b1
theorem tE_less {key d : List Int} (hk : key.length ≤ 512) (h : (tE key d).1 = 0) : (tE key d).2.2.length < d.length := by
  have h1 : (kNum key (d, 0)).2.2.2 = 0 := Classical.byContradiction fun q => tE_bad hk q h
  have h2 := (tE_de hk h1).2 h
  have h3 := deE1_less (key := key) (s := (d, 0)) rfl h1
  rw [h2.2] at h3
  exact h3
/-- All entries: an error, or they. -/
def tA : Nat → List Int → List Int → Nat × List EntV
  | 0, _, _ => (0, [])
  | n + 1, key, d => if d = [] then (0, []) else if (tE key d).1 ≠ 0 then ((tE key d).1, [])
    else ((tA n (tE key d).2.1.key (tE key d).2.2).1, (tE key d).2.1 :: (tA n (tE key d).2.1.key (tE key d).2.2).2)
theorem deEs_err {n : Nat} {key : List Int} {s : Rd} (h : s.2 ≠ 0) : deEs n key s = ([], s) := by
  cases n with
  | zero => rfl
  | succ n => unfold deEs; rw [if_pos (.inr h)]
theorem tA_de : ∀ (n : Nat) (key d : List Int), key.length ≤ 512 → ((tA n key d).1 = 0 ↔ (deEs n key (d, 0)).2.2 = 0) ∧ ((tA n key d).1 = 0 → (tA n key d).2 = (deEs n key (d, 0)).1)
  | 0, key, d, hk => by simp [tA, deEs]
  | n + 1, key, d, hk => by
    unfold tA deEs
    by_cases q : d = []
    · rw [if_pos q, if_pos (.inl (by rw [q]; rfl))]; simp
    · have q' : ¬ d.length = 0 := fun z => q (List.eq_nil_of_length_eq_zero z)
      rw [if_neg q, if_neg (show ¬ (((d, 0) : Rd).1.length = 0 ∨ ((d, 0) : Rd).2 ≠ 0) by simpa using q)]
      by_cases h : (kNum key (d, 0)).2.2.2 = 0
      · rw [if_neg (not_not_intro h)]
        obtain ⟨a1, a2⟩ := tE_de hk h
        by_cases z : (tE key d).1 = 0
        · rw [if_neg (not_not_intro z)]
          obtain ⟨b1, b2⟩ := a2 z
          rw [← b1, b2]
          obtain ⟨c1, c2⟩ := tA_de n (tE key d).2.1.key (tE key d).2.2 (tE_key key d)
          exact ⟨c1, fun y => by rw [c2 y]⟩
        · rw [if_pos z]
          have z2 : (deE1 key (d, 0)).2.2 ≠ 0 := fun y => z (a1.2 y)
          rw [deEs_err z2]
          exact ⟨⟨fun y => absurd y z, fun y => absurd y z2⟩, fun y => absurd y z⟩
      · rw [if_pos h, if_pos (tE_bad hk h)]
        exact ⟨⟨fun y => absurd y (tE_bad hk h), fun y => absurd y h⟩, fun y => absurd y (tE_bad hk h)⟩
/-- What the landed Decode answers. -/
def allL (b : List Int) : Nat × List EntV := tA b.length [] (bodyN b)
def tkEL (b : List Int) : Nat :=
  if b.length < 4 then 5 else if lastN b = 0 ∨ (b.length - 4) / 4 < lastN b then 3 else if (allL b).1 ≠ 0 then (allL b).1
  else if blkE ((allL b).2.take 401) ≠ 0 ∨ blkB ((allL b).2.take 401) ≠ b then 3 else 0
def tkBL (b : List Int) : List EntV := if tkEL b = 0 then (allL b).2.take 401 else []
theorem take_few {l : List EntV} (h : blkE (l.take 401) = 0) : l.take 401 = l := by
  have := blkE_ok h
  rw [List.length_take] at this
  exact List.take_of_length_le (by omega)
theorem tkL (b : List Int) : (tkEL b = 0 ↔ tkE b = 0) ∧ tkBL b = tkB b := by
  have key : (tkEL b = 0 ↔ tkE b = 0) ∧ (tkE b = 0 → (allL b).2.take 401 = (deBk b).1) := by
    obtain ⟨a1, a2⟩ := tA_de b.length [] (bodyN b) (by simp)
    rw [show tA b.length [] (bodyN b) = allL b from rfl, show deEs b.length [] (bodyN b, 0) = deBk b from rfl] at a1 a2
    unfold tkEL tkE
    by_cases q1 : b.length < 4
    · rw [if_pos q1, if_pos q1]; simp
    rw [if_neg q1, if_neg q1]
    by_cases q2 : lastN b = 0 ∨ (b.length - 4) / 4 < lastN b
    · rw [if_pos q2, if_pos q2]; simp
    rw [if_neg q2, if_neg q2]
    by_cases q3 : (allL b).1 = 0
    · have q4 := a1.1 q3
      rw [if_neg (not_not_intro q3), if_neg (not_not_intro q4), a2 q3]
      by_cases q5 : blkE (deBk b).1 = 0
      · have q6 : (deBk b).1.take 401 = (deBk b).1 := List.take_of_length_le (by have := blkE_ok q5; omega)
        rw [q6]
        exact ⟨Iff.rfl, fun _ => rfl⟩
      · have q6 : blkE ((deBk b).1.take 401) ≠ 0 := fun z => q5 (by rw [take_few z] at z; exact z)
        rw [if_pos (.inl q6), if_pos (.inl q5)]
        simp
    · have q4 : (deBk b).2.2 ≠ 0 := fun z => q3 (a1.2 z)
      rw [if_pos q3, if_pos q4]
      exact ⟨⟨fun y => absurd y q3, fun y => absurd y q4⟩, fun y => absurd y q4⟩
  refine ⟨key.1, ?_⟩
  unfold tkBL tkB
  by_cases q : tkE b = 0
  · rw [if_pos (key.1.2 q), if_pos q, key.2 q]
  · rw [if_neg (fun z => q (key.1.1 z)), if_neg q]
end Go.Proofs.Ytfecopldepnicaa

/- Tables, on lists: how the program reads them; that what was written is read so. -/
namespace Go.Proofs.Ytfecopldepnicaa
set_option linter.unusedVariables false
set_option linter.unusedSimpArgs false

/-- A number of four bytes at a place. -/
def wd (b : List Int) (i : Nat) : Nat := fv (xof (b.drop i)) 4
/-- A part that, with its sum, ends within the room: place and length. -/
def spO (p n room : Nat) : Option (Nat × Nat) := if p + n + 4 ≤ room then some (p, n) else none
def ofS (b : List Int) (s : Nat × Nat) : List Int := (b.drop s.1).take s.2
def okS (b : List Int) (s : Nat × Nat) : Bool := decide (wd b (s.1 + s.2) = mask (more 0 (nl (ofS b s))))
/-- The foot: an error; where the index and the filter stand. -/
def ftE (b : List Int) : Nat × (Nat × Nat) × (Nat × Nat) :=
  if b.length < 32 then (5, (0, 0), (0, 0))
  else if b.drop (b.length - 8) ≠ magT then (3, (0, 0), (0, 0))
  else if okS b (b.length - 32, 20) = false then (4, (0, 0), (0, 0))
  else match spO (wd b (b.length - 32)) (wd b (b.length - 28)) (b.length - 32), spO (wd b (b.length - 24)) (wd b (b.length - 20)) (b.length - 32) with
    | some i, some f => (0, i, f)
    | _, _ => (3, (0, 0), (0, 0))
/-- A row of the index: where the block stands, its last key. -/
structure RowV where
  sp : Nat × Nat
  last : List Int
/-- A row read, and how many bytes it has. -/
def rwT (xs : List Int) (room : Nat) : Option (RowV × Nat) :=
  if (tb xs 512).1 ≠ 0 ∨ (tb xs 512).2.1 = [] then none
  else if (tk (xs.drop (tb xs 512).2.2)).1 ≠ 0 then none
  else if (tk (xs.drop ((tb xs 512).2.2 + (tk (xs.drop (tb xs 512).2.2)).2.2))).1 ≠ 0 then none
  else match spO (tk (xs.drop (tb xs 512).2.2)).2.1 (tk (xs.drop ((tb xs 512).2.2 + (tk (xs.drop (tb xs 512).2.2)).2.2))).2.1 room with
    | none => none
    | some s => some (⟨s, (tb xs 512).2.1⟩, (tb xs 512).2.2 + (tk (xs.drop (tb xs 512).2.2)).2.2 + (tk (xs.drop ((tb xs 512).2.2 + (tk (xs.drop (tb xs 512).2.2)).2.2))).2.2)
/-- All rows. -/
def ixT : Nat → List Int → Nat → Option (List RowV)
  | 0, xs, _ => if xs = [] then some [] else none
  | n + 1, xs, room => if xs = [] then some [] else match rwT xs room with
    | none => none
    | some r => (ixT n (xs.drop r.2) room).map (r.1 :: ·)
/-- Parts, each once. -/
def spU (l : List (Nat × Nat)) : List (Nat × Nat) := l.foldl (fun out s => if s ∈ out then out else out ++ [s]) []
/-- The entries of blocks, few more than may be. -/
def teK : List (List Int) → List EntV → Nat × List EntV
  | [], acc => (0, acc)
  | x :: r, acc => if tkEL x ≠ 0 then (tkEL x, []) else teK r (if acc.length ≤ 4000 then acc ++ tkBL x else acc)
/-- The index's rows, from a place on. -/
def rowsB : Nat → List (List EntV) → List RowV
  | _, [] => []
  | pos, c :: r => ⟨(pos, (blkB c).length), lastK [] c⟩ :: rowsB (pos + (blkB c).length + 4) r
def rowsT (l : List EntV) : List RowV := rowsB 0 (cutT l)
/-- Where the index and the filter of a table stand. -/
def ixS (l : List EntV) : Nat × Nat := ((bodT (cutT l)).length, (idxT l).length)
def flS (l : List EntV) : Nat × Nat := ((bodT (cutT l)).length + (idxT l).length + 4, (filT l).length)

theorem rwT_used {xs : List Int} {room : Nat} {r : RowV × Nat} (h : rwT xs room = some r) : 1 ≤ r.2 ∧ r.2 ≤ xs.length ∧ r.1.sp.1 + r.1.sp.2 + 4 ≤ room ∧ r.1.last.length ≤ 512 := by
  unfold rwT at h
  split at h
  · cases h
  rename_i h1
  split at h
  · cases h
  rename_i h2
  split at h
  · cases h
  rename_i h3
  simp only [not_or, Classical.not_not] at h1 h2 h3
  have t1 := tb_used h1.1
  have t2 := tk_used h2
  have t3 := tk_used h3
  rw [List.length_drop] at t2 t3
  split at h
  · cases h
  · rename_i s hs
    unfold spO at hs
    split at hs
    · rename_i q
      cases hs
      cases h
      exact ⟨by show 1 ≤ _ + _ + _; omega, by show _ + _ + _ ≤ _; omega, q, t1.2.2⟩
    · cases hs
theorem okS_at {a x t : List Int} (h : Okb x) (ht : Okb t) : okS (a ++ (sm x ++ t)) (a.length, x.length) = true ∧ ofS (a ++ (sm x ++ t)) (a.length, x.length) = x := by
  have e : a ++ (sm x ++ t) = (a ++ x) ++ (fx (mask (more 0 (nl x))) 4 ++ t) := by unfold sm; simp only [List.append_assoc]
  have h1 : ofS (a ++ (sm x ++ t)) (a.length, x.length) = x := by
    unfold ofS
    simp only
    rw [List.drop_left' rfl]
    unfold sm
    rw [List.append_assoc]
    exact List.take_left' rfl
  refine ⟨?_, h1⟩
  unfold okS
  rw [h1]
  unfold wd
  simp only
  rw [e, List.drop_left' (by rw [List.length_append]), fv_four (mask_lt _) t ht]
  simp
theorem ftE_tbl {l : List EntV} (h : tblE l = 0) (ho : ∀ e ∈ l, OkE e) : ftE (tblB l) = (0, ixS l, flS l) ∧ okS (tblB l) (ixS l) = true ∧ okS (tblB l) (flS l) = true ∧ ofS (tblB l) (ixS l) = idxT l ∧ ofS (tblB l) (flS l) = filT l := by
  obtain ⟨h1, h2, h3, h4, h5⟩ := tblE_ok h
  have hblk := cutT_blk h3 h4
  have hlen := tbl_len l
  have hoi : Okb (idxT l) := okb_idxB fun c hc e he => ho e ((hblk c hc).2 e he)
  have hof : Okb (filT l) := fil_ok _
  have hoft : Okb (ftT l) := (okb_fx _ _).app ((okb_fx _ _).app ((okb_fx _ _).app ((okb_fx _ _).app (okb_fx _ _))))
  have hmg : Okb magT := fun x hx => by simp [magT] at hx; omega
  have hA : tblB l = (bodT (cutT l) ++ (sm (idxT l) ++ sm (filT l))) ++ (sm (ftT l) ++ magT) := by unfold tblB; simp only [List.append_assoc]
  obtain ⟨n0, n1, n2, n3⟩ := ftN_foot (l := l) (A := bodT (cutT l) ++ (sm (idxT l) ++ sm (filT l))) h5 h2
  rw [← hA] at n0 n1 n2 n3
  have hAl : (bodT (cutT l) ++ (sm (idxT l) ++ sm (filT l))).length = (tblB l).length - 32 := by rw [hlen]; simp only [List.length_append, sm_len]; omega
  have hft := okS_at (a := bodT (cutT l) ++ (sm (idxT l) ++ sm (filT l))) hoft hmg
  rw [← hA, hAl, ft_len] at hft
  have hix := okS_at (a := bodT (cutT l)) (x := idxT l) (t := sm (filT l) ++ (sm (ftT l) ++ magT)) hoi ((okb_sm hof).app ((okb_sm hoft).app hmg))
  have hfl := okS_at (a := bodT (cutT l) ++ sm (idxT l)) (x := filT l) (t := sm (ftT l) ++ magT) hof ((okb_sm hoft).app hmg)
  rw [List.length_append, sm_len, List.append_assoc, ← Nat.add_assoc] at hfl
  refine ⟨?_, hix.1, hfl.1, hix.2, hfl.2⟩
  have hmag : (tblB l).drop ((tblB l).length - 8) = magT := by
    have e : (tblB l).length - 8 = (bodT (cutT l) ++ (sm (idxT l) ++ sm (filT l))).length + 24 := by rw [hAl]; omega
    rw [e, hA, ← List.drop_drop, List.drop_left' rfl]
    exact List.drop_left' (by rw [sm_len, ft_len])
  have w0 : wd (tblB l) ((tblB l).length - 32) = (bodT (cutT l)).length := n0
  have w1 : wd (tblB l) ((tblB l).length - 28) = (idxT l).length := by rw [← n1]; unfold wd ftN; rw [show (tblB l).length - 28 = (tblB l).length - 32 + 4 * 1 by omega]
  have w2 : wd (tblB l) ((tblB l).length - 24) = (bodT (cutT l)).length + (idxT l).length + 4 := by rw [← n2]; unfold wd ftN; rw [show (tblB l).length - 24 = (tblB l).length - 32 + 4 * 2 by omega]
  have w3 : wd (tblB l) ((tblB l).length - 20) = (filT l).length := by rw [← n3]; unfold wd ftN; rw [show (tblB l).length - 20 = (tblB l).length - 32 + 4 * 3 by omega]
  unfold ftE
  rw [if_neg (by omega), if_neg (by rw [hmag]; simp), if_neg (by rw [hft.1]; decide), w0, w1, w2, w3]
  unfold spO
  rw [if_pos (by omega), if_pos (by omega)]
  rfl
theorem ixT_idx : ∀ (bs : List (List EntV)) (n pos room : Nat), (∀ c ∈ bs, c ≠ [] ∧ ∀ e ∈ c, mayE e = true ∧ OkE e) → bs.length ≤ n → pos + (bodT bs).length ≤ room → room ≤ 4611686018427387904 → ixT n (idxB pos bs) room = some (rowsB pos bs)
  | [], 0, pos, room, _, _, _, _ => by simp [ixT, idxB, rowsB]
  | [], n + 1, pos, room, _, _, _, _ => by simp [ixT, idxB, rowsB]
  | c :: r, 0, pos, room, _, hn, _, _ => by simp at hn
  | c :: r, n + 1, pos, room, h, hn, hm, h62 => by
    have hc := h c (by simp)
    have hr : ∀ x ∈ r, x ≠ [] ∧ ∀ e ∈ x, mayE e = true ∧ OkE e := fun x hx => h x (by simp [hx])
    obtain ⟨e, hem, hke⟩ := lastK_mem (prev := []) hc.1
    have hk5 : (lastK [] c).length ≤ 512 := by rw [hke]; exact (mayE_ok (hc.2 e hem).1).2.1
    have hk1 : lastK [] c ≠ [] := by rw [hke]; intro z; have := (mayE_ok (hc.2 e hem).1).1; rw [z] at this; simp at this
    have hko : Okb (lastK [] c) := by rw [hke]; exact (hc.2 e hem).2.1
    have hbl : (bodT (c :: r)).length = (blkB c).length + 4 + (bodT r).length := by rw [bodT_cons, List.length_append, sm_len]
    have hio : Okb (idxB (pos + (blkB c).length + 4) r) := okb_idxB fun x hx e he => ((hr x hx).2 e he).2
    have r1 : tb (idxB pos (c :: r)) 512 = (0, lastK [] c, (lb (lastK [] c)).length) := tb_lb hko ((okb_uv _).app ((okb_uv _).app hio)) hk5 (by omega)
    have d1 : (idxB pos (c :: r)).drop (lb (lastK [] c)).length = uv pos ++ (uv (blkB c).length ++ idxB (pos + (blkB c).length + 4) r) := List.drop_left' rfl
    have r2 := tk_uv (n := pos) (t := uv (blkB c).length ++ idxB (pos + (blkB c).length + 4) r) (by omega) ((okb_uv _).app hio)
    have d2 : (idxB pos (c :: r)).drop ((lb (lastK [] c)).length + (uv pos).length) = uv (blkB c).length ++ idxB (pos + (blkB c).length + 4) r := by rw [← List.drop_drop, d1]; exact List.drop_left' rfl
    have r3 := tk_uv (n := (blkB c).length) (t := idxB (pos + (blkB c).length + 4) r) (by omega) hio
    have d3 : (idxB pos (c :: r)).drop ((lb (lastK [] c)).length + (uv pos).length + (uv (blkB c).length).length) = idxB (pos + (blkB c).length + 4) r := by rw [← List.drop_drop, d2]; exact List.drop_left' rfl
    have hrw : rwT (idxB pos (c :: r)) room = some (⟨(pos, (blkB c).length), lastK [] c⟩, (lb (lastK [] c)).length + (uv pos).length + (uv (blkB c).length).length) := by
      unfold rwT
      rw [r1]
      simp only
      rw [d1, r2]
      simp only
      rw [d2, r3]
      simp only
      unfold spO
      rw [if_neg (by simp [hk1]), if_neg (by simp), if_neg (by simp), if_pos (by omega)]
    have hne : idxB pos (c :: r) ≠ [] := fun z => by
      have := lb_pos (lastK [] c)
      have z2 : (idxB pos (c :: r)).length = 0 := by rw [z]; rfl
      rw [show idxB pos (c :: r) = lb (lastK [] c) ++ _ from rfl, List.length_append] at z2
      omega
    unfold ixT
    rw [if_neg hne, hrw]
    simp only
    rw [d3, ixT_idx r n (pos + (blkB c).length + 4) room hr (by simp at hn; omega) (by omega) h62]
    rfl
theorem rowsB_len : ∀ (bs : List (List EntV)) (pos : Nat), (rowsB pos bs).length = bs.length
  | [], pos => rfl
  | c :: r, pos => by show (rowsB _ r).length + 1 = _; rw [rowsB_len]; rfl
theorem idxB_len : ∀ (bs : List (List EntV)) (pos : Nat), bs.length ≤ (idxB pos bs).length
  | [], pos => by simp
  | c :: r, pos => by
    have h1 := idxB_len r (pos + (blkB c).length + 4)
    have h2 := lb_pos (lastK [] c)
    show r.length + 1 ≤ (lb (lastK [] c) ++ _).length
    simp only [List.length_append]
    omega
theorem spU_step (l : List (Nat × Nat)) (s : Nat × Nat) : spU (l ++ [s]) = if s ∈ spU l then spU l else spU l ++ [s] := by
  unfold spU
  rw [List.foldl_append]
  rfl
theorem spU_mem : ∀ {l : List (Nat × Nat)} {s : Nat × Nat}, s ∈ spU l ↔ s ∈ l := fun {l} => by
  have : ∀ (l out : List (Nat × Nat)) (s : Nat × Nat), s ∈ l.foldl (fun out s => if s ∈ out then out else out ++ [s]) out ↔ s ∈ out ∨ s ∈ l := fun l => by
    induction l with
    | nil => intro out s; simp
    | cons x r ih =>
      intro out s
      rw [List.foldl_cons, ih]
      split
      · rename_i q
        constructor
        · rintro (a | a)
          · exact .inl a
          · exact .inr (by simp [a])
        · rintro (a | a)
          · exact .inl a
          · rcases List.mem_cons.1 a with z | z
            · rw [z]; exact .inl q
            · exact .inr z
      · simp [or_assoc]
  intro s
  unfold spU
  rw [this]
  simp
theorem spU_len (l : List (Nat × Nat)) : (spU l).length ≤ l.length := by
  have : ∀ (l out : List (Nat × Nat)), (l.foldl (fun out s => if s ∈ out then out else out ++ [s]) out).length ≤ out.length + l.length := fun l => by
    induction l with
    | nil => intro out; simp
    | cons x r ih =>
      intro out
      rw [List.foldl_cons]
      refine Nat.le_trans (ih _) ?_
      split <;> simp <;> omega
  have := this l []
  simpa [spU] using this
theorem spU_once : ∀ (l : List (Nat × Nat)), l.Nodup → spU l = l := fun l h => by
  have : ∀ (l out : List (Nat × Nat)), (out ++ l).Nodup → l.foldl (fun out s => if s ∈ out then out else out ++ [s]) out = out ++ l := fun l => by
    induction l with
    | nil => intro out _; simp
    | cons x r ih =>
      intro out hn
      rw [List.foldl_cons]
      have hx : x ∉ out := fun q => by
        rw [List.nodup_append] at hn
        exact hn.2.2 x q x (by simp) rfl
      rw [if_neg hx, ih _ (by simpa using hn)]
      simp
  have := this l [] (by simpa using h)
  simpa [spU] using this
theorem rowsB_ge : ∀ (bs : List (List EntV)) (pos : Nat), ∀ r ∈ rowsB pos bs, pos ≤ r.sp.1
  | [], pos, r, h => by cases h
  | c :: t, pos, r, h => by
    rcases List.mem_cons.1 h with z | z
    · rw [z]; exact Nat.le_refl _
    · have := rowsB_ge t _ r z
      omega
theorem rowsB_once : ∀ (bs : List (List EntV)) (pos : Nat), ((rowsB pos bs).map (·.sp)).Nodup
  | [], pos => List.nodup_nil
  | c :: t, pos => by
    show (_ :: (rowsB _ t).map (·.sp)).Nodup
    rw [List.nodup_cons]
    refine ⟨fun h => ?_, rowsB_once t _⟩
    obtain ⟨r, hr, he⟩ := List.mem_map.1 h
    have h1 := rowsB_ge t _ r hr
    rw [he] at h1
    simp at h1
    omega
theorem rows_at : ∀ (bs : List (List EntV)) (pre post : List Int), (∀ c ∈ bs, ∀ e ∈ c, OkE e) → Okb post → (∀ r ∈ rowsB pre.length bs, okS (pre ++ (bodT bs ++ post)) r.sp = true) ∧ (rowsB pre.length bs).map (fun r => ofS (pre ++ (bodT bs ++ post)) r.sp) = bs.map blkB
  | [], pre, post, _, _ => ⟨fun r h => by simp [rowsB] at h, rfl⟩
  | c :: t, pre, post, h, hp => by
    have hb : Okb (blkB c) := okb_blk (h c (by simp))
    have hbt : Okb (bodT t) := by
      intro x hx
      unfold bodT at hx
      obtain ⟨y, hy, hxy⟩ := List.mem_flatten.1 hx
      obtain ⟨c', hc', rfl⟩ := List.mem_map.1 hy
      exact okb_sm (okb_blk (h c' (by simp [hc']))) x hxy
    have h1 := okS_at (a := pre) (x := blkB c) (t := bodT t ++ post) hb (hbt.app hp)
    have ih := rows_at t (pre ++ sm (blkB c)) post (fun x hx => h x (by simp [hx])) hp
    rw [List.length_append, sm_len, List.append_assoc, ← Nat.add_assoc] at ih
    rw [bodT_cons, List.append_assoc]
    refine ⟨fun r hr => ?_, ?_⟩
    · rcases List.mem_cons.1 hr with z | z
      · rw [z]; exact h1.1
      · exact ih.1 r z
    · show _ :: _ = _ :: _
      rw [← ih.2]
      congr 1
      exact h1.2
theorem teK_blk : ∀ (bs : List (List EntV)) (acc : List EntV), (∀ c ∈ bs, blkE c = 0 ∧ ∀ e ∈ c, OkE e) → acc.length + bs.flatten.length ≤ 4000 → teK (bs.map blkB) acc = (0, acc ++ bs.flatten)
  | [], acc, _, _ => by simp [teK]
  | c :: r, acc, h, hl => by
    have hc := h c (by simp)
    obtain ⟨t1, t2⟩ := tk_of_blk hc.1 hc.2
    obtain ⟨u1, u2⟩ := tkL (blkB c)
    rw [List.flatten_cons, List.length_append] at hl
    rw [List.map_cons]
    unfold teK
    rw [if_neg (by rw [u1.2 t1]; simp), u2, t2, if_pos (by omega), teK_blk r (acc ++ c) (fun x hx => h x (by simp [hx])) (by rw [List.length_append]; omega)]
    simp
/-- What the program reads off a table. -/
theorem read_tbl {l : List EntV} (h : tblE l = 0) (ho : ∀ e ∈ l, OkE e) :
    (∀ n, (idxT l).length ≤ n → ixT n (idxT l) (ixS l).1 = some (rowsT l)) ∧ spU ((rowsT l).map (·.sp)) = (rowsT l).map (·.sp) ∧ (∀ s ∈ (rowsT l).map (·.sp), okS (tblB l) s = true) ∧ ((rowsT l).map (·.sp)).map (ofS (tblB l)) = (cutT l).map blkB ∧ teK ((cutT l).map blkB) [] = (0, l) := by
  obtain ⟨h1, h2, h3, h4, h5⟩ := tblE_ok h
  have hblk := cutT_blk h3 h4
  have hlen := tbl_len l
  have hoi : Okb (idxT l) := okb_idxB fun c hc e he => ho e ((hblk c hc).2 e he)
  have hof : Okb (filT l) := fil_ok _
  have hoft : Okb (ftT l) := (okb_fx _ _).app ((okb_fx _ _).app ((okb_fx _ _).app ((okb_fx _ _).app (okb_fx _ _))))
  have hmg : Okb magT := fun x hx => by simp [magT] at hx; omega
  have hr := rows_at (cutT l) [] (sm (idxT l) ++ (sm (filT l) ++ (sm (ftT l) ++ magT))) (fun c hc e he => ho e ((hblk c hc).2 e he)) ((okb_sm hoi).app ((okb_sm hof).app ((okb_sm hoft).app hmg)))
  rw [List.nil_append] at hr
  refine ⟨fun n hn => ?_, spU_once _ (rowsB_once _ _), fun s hs => ?_, ?_, ?_⟩
  · have hi := idxB_len (cutT l) 0
    exact ixT_idx (cutT l) n 0 _ (fun c hc => ⟨cutB_ne l 0 [] c hc, fun e he => ⟨h3 e ((hblk c hc).2 e he), ho e ((hblk c hc).2 e he)⟩⟩) (by unfold idxT at hn; omega) (by show 0 + _ ≤ (bodT (cutT l)).length; omega) (by show (bodT (cutT l)).length ≤ _; omega)
  · obtain ⟨r, hrm, rfl⟩ := List.mem_map.1 hs
    exact hr.1 r hrm
  · rw [List.map_map]
    exact hr.2
  · have := teK_blk (cutT l) [] (fun c hc => ⟨(hblk c hc).1, fun e he => ho e ((hblk c hc).2 e he)⟩) (by rw [cutT_flat]; simp; omega)
    rw [cutT_flat] at this
    simpa using this
theorem okE_enEs : ∀ {l : List EntV} {i : Nat} {prev : List Int}, (∀ e ∈ l, mayE e = true) → Okb prev → Okb (enEs i prev l) → ∀ e ∈ l, OkE e
  | [], i, prev, _, _, _, e, he => by cases he
  | x :: r, i, prev, hm, hp, ho, e, he => by
    have hx := mayE_ok (hm x (by simp))
    have ho' : Okb (enE (shI i x.key prev) x ++ enEs (i + 1) x.key r) := ho
    have oe : Okb (enE (shI i x.key prev) x) := fun y hy => ho' y (by simp [hy])
    have hs := (shI_ok i x.key prev).2.2
    have ok1 : Okb x.key := by
      rw [← List.take_append_drop (shI i x.key prev) x.key, ← hs]
      refine Okb.app (fun y hy => hp y (List.mem_of_mem_take hy)) (fun y hy => oe y ?_)
      unfold enE lb
      simp [hy]
    have ok2 : Okb x.val := by
      cases hg : x.gone with
      | true => rw [(hx.2.2.2.2.2.2.2 hg).2]; intro y hy; cases hy
      | false =>
        intro y hy
        refine oe y ?_
        unfold enE lb
        rw [hg]
        simp [hy]
    rcases List.mem_cons.1 he with z | z
    · rw [z]; exact ⟨ok1, ok2⟩
    · exact okE_enEs (i := i + 1) (prev := x.key) (fun y hy => hm y (by simp [hy])) ok1 (fun y hy => ho' y (by simp [hy])) e z
theorem okE_tbl {l : List EntV} (h : tblE l = 0) (hb : Okb (tblB l)) : ∀ e ∈ l, OkE e := fun e he => by
  obtain ⟨h1, h2, h3, h4, h5⟩ := tblE_ok h
  have hf := cutT_flat l
  rw [← hf] at he
  obtain ⟨c, hc, hec⟩ := List.mem_flatten.1 he
  have hblk := cutT_blk h3 h4 c hc
  have hbo : Okb (bodT (cutT l)) := fun y hy => hb y (by unfold tblB; simp [hy])
  have hco : Okb (blkB c) := fun y hy => hbo y (by
    unfold bodT
    refine List.mem_flatten.2 ⟨sm (blkB c), List.mem_map.2 ⟨c, hc, rfl⟩, ?_⟩
    unfold sm
    simp [hy])
  exact okE_enEs (i := 0) (prev := []) (fun x hx => h3 x (hblk.2 x hx)) (fun y hy => by cases hy) (fun y hy => hco y (by unfold blkB; simp [hy])) e hec
/-- What is opened is a table of its entries. -/
theorem opT_is {b : List Int} (hb : Okb b) (h : (opT tkD b).1 = 0) : tblE (opT tkD b).2 = 0 ∧ tblB (opT tkD b).2 = b ∧ ∀ e ∈ (opT tkD b).2, OkE e := by
  obtain ⟨h1, h2⟩ := opT_tbl h
  exact ⟨h1, h2, okE_tbl h1 (by rw [h2]; exact hb)⟩
end Go.Proofs.Ytfecopldepnicaa

/- The document's own filters: Hash, Probes. -/
namespace Go.Proofs.Ytfecopldepnicaa
open Go.RowKit
set_option linter.unusedVariables false
set_option linter.unusedSimpArgs false

/-- A whole number in a cell. -/
def numE : El Nat where
  ty := 3
  size := 1
  M := fun _ vs x => vs = [.int .i64 (x : Int)]
  len := fun h => by rw [h]; rfl
  one := fun h v hv => by rw [h] at hv; rw [List.mem_singleton.1 hv]; rfl
  lt := fun h v hv b hr => by rw [h] at hv; rw [List.mem_singleton.1 hv] at hr; exact (refs_int hr).elim
  keep := fun h _ => h
theorem numE_info : (Try.prog.info? numE.ty).map (fun i => (i.zero, i.size, i.bytes)) = some (some (.int .i64 0), numE.size, 8) := by kernel_rfl
theorem RS.num {w : World} {ao : Option Addr} {len cap : Nat} {xs : List Nat} (h : RS numE w ao len cap xs) {i : Nat} {x : Nat} (hx : xs[i]? = some x) : ∃ b off, ao = some ⟨b, off, none⟩ ∧ w.cell? ⟨b, off + i, none⟩ = some (.int .i64 (x : Int)) := by
  obtain ⟨b, off, vs, e, hM, hc⟩ := RS.at h (by decide) hx
  have hM' : vs = [.int .i64 (x : Int)] := hM
  subst hM'
  refine ⟨b, off, e, ?_⟩
  have := hc 0 _ rfl
  rw [show off + (i * numE.size + 0) = off + i by show off + (i * 1 + 0) = off + i; omega] at this
  exact this
theorem RS.length {α : Type} {E : El α} {w : World} {ao : Option Addr} {len cap : Nat} {xs : List α} (h : RS E w ao len cap xs) : xs.length = len ∧ len ≤ cap ∧ cap ≤ maxLen := by
  obtain ⟨us, h1, h2, h3, h4, _⟩ := h
  exact ⟨h1, h3, h4⟩
theorem xof_toNat {xs : List Int} {k : Nat} {c : Int} (h : xs[k]? = some c) : xof xs k = c.toNat := by simp [xof, h]

set_option maxHeartbeats 1000000 in
set_option maxRecDepth 100000 in
theorem rhash_any {w : World} {ao : Option Addr} {len cap : Nat} {xs : List Int} (h : Sl w ao len cap xs) :
    Calls Try.prog 83 #[.slice ao len cap] w fun e w' => e = .returned (.int .u64 (hsh xs : Nat)) ∧ w' = w := by
  have HS : Hid (Sl w ao len cap xs) := h
  have hln := h.1
  have hl63 : len ≤ 2 ^ 63 - 1 := by have := h.2.2.2; unfold maxLen at this; omega
  clear h
  go_enter Try.func83, Try.ntmps83
  go_wp2_with fail
  go_loopg [3, 5, 8] len (fun g v _ i wr => ∃ k : Nat, k + g = len ∧ i = .int .i64 (k : Int) ∧ v = .int .u64 ((hsh (xs.take k) : Nat) : Int) ∧ wr = w)
  case atStart => exact ⟨0, by omega, rfl, rfl, rfl⟩
  case round =>
    obtain ⟨k, hk, rfl, rfl, hw⟩ := hrel
    obtain rfl := hw.symm
    by_cases hkl : k < len
    · have hkl' : (k : Int) < (len : Int) := by omega
      obtain ⟨h8, b, off, rfl, hc⟩ := HS.out.2.2.2.2.2 k hkl
      have hkx : k < xs.length := by omega
      have e1 := hsh_take (List.getElem?_eq_getElem hkx)
      have e2 := xof_toNat (List.getElem?_eq_getElem hkx)
      have hlt := hsh_lt (xs.take k)
      obtain ⟨H, hH⟩ : ∃ H, H = hsh (xs.take k) := ⟨_, rfl⟩
      obtain ⟨c, hcc⟩ : ∃ c, c = xof xs k := ⟨_, rfl⟩
      rw [← hcc] at hc h8 e2
      rw [← hH] at hlt e1 ⊢
      unfold hst at e1
      rw [← e2] at e1
      have hx := u64_xor_nat H c hlt (by omega)
      have hZ : H ^^^ c < 2 ^ 64 := Nat.xor_lt_two_pow (n := 64) (by omega) (by omega)
      obtain ⟨Z, hZZ⟩ : ∃ Z, Z = H ^^^ c := ⟨_, rfl⟩
      rw [← hZZ] at hx e1 hZ
      have HST : Hid (IntKind.u64.wrap ((Z : Int) * 1099511628211) = ((hsh (xs.take (k + 1)) : Nat) : Int)) := by show _ = _; rw [IntKind.wrap_u64, e1]; omega
      have hk62 : k ≤ 2 ^ 63 - 2 := by omega
      obtain ⟨GK, HG⟩ : ∃ g, Hid (g < gk ∧ k + 1 + g = len) := ⟨gk - 1, by omega, by omega⟩
      clear hk e1 e2 hH hcc hZZ hkx
      go_wp2_with fail
      go_roundg GK
      case measure => exact HG.out.1
      case rel => exact ⟨k + 1, HG.out.2, by go_num, by rw [← HST.out], rfl⟩
    · have hkl' : (len : Int) ≤ (k : Int) := by omega
      have HE : Hid (xs.take k = xs) := List.take_of_length_le (by omega)
      clear hk hkl
      go_wp2_with fail
      exact bodyPost_ret (v := .int .u64 ((hsh (xs.take k) : Nat) : Int)) (by simp [results, Try.results83, go_sem]) rfl ⟨by rw [HE.out], rfl⟩

def prI (key : List Int) (m : Int) : List Nat := if m < 1 then [] else prbs key m.toNat

set_option maxHeartbeats 2000000 in
set_option maxRecDepth 100000 in
theorem rprobes_any {w : World} {ao : Option Addr} {len cap : Nat} {xs : List Int} {m : Int} (h : Sl w ao len cap xs) (hm : -9223372036854775808 ≤ m ∧ m ≤ 9223372036854775807) :
    Calls Try.prog 57 #[.slice ao len cap, .int .i64 m] w fun e w' => ∃ v, e = .returned v ∧ RowS numE w.heap.size w' v (prI xs m) ∧ Below w.heap.size w w' := by
  unfold prI
  by_cases q : m < 1
  · rw [if_pos q]
    clear h hm
    go_enter Try.func57, Try.ntmps57
    go_wp2_with fail
    exact bodyPost_ret (v := .slice none 0 0) (by simp [results, Try.results57, go_sem]) rfl ⟨_, rfl, RowS.nil _ _, Below.refl _ _⟩
  · rw [if_neg q]
    obtain ⟨M, rfl⟩ := Int.eq_ofNat_of_zero_le (by omega : 0 ≤ m)
    have hM : M ≠ 0 := by omega
    have hM1 : ¬ ((M : Int) < 1) := by omega
    have hM63 : M ≤ 2 ^ 63 - 1 := by omega
    have hh := rhash_any h
    have hlt := hsh_lt xs
    rw [show ((M : Int)).toNat = M by omega]
    have HP : Hid (∀ j, j < 6 → (prbs xs M).take (j + 1) = (prbs xs M).take j ++ [prb1 (hsh xs) M j]) := fun j hj => prbs_take hM hj
    have HL : Hid ((prbs xs M).length = 6) := prbs_len hM
    obtain ⟨H, hH⟩ : ∃ H, H = hsh xs := ⟨_, rfl⟩
    rw [← hH] at hh hlt HP
    generalize prbs xs M = P at HP HL
    clear h hm q hH
    go_enter Try.func57, Try.ntmps57
    go_wp2_with (go_at_call 83; refine hh.mono ?_; rintro e w' ⟨rfl, hw⟩; obtain rfl := hw.symm)
    have H0 : Hid (RowS numE w.heap.size w (.slice none 0 0) (P.take 0) ∧ Below w.heap.size w w) := ⟨by rw [List.take_zero]; exact RowS.nil _ _, Below.refl _ _⟩
    clear hh
    go_loopg [6, 7, 12] 6 (fun g v _ i wr => ∃ j : Nat, j + g = 6 ∧ i = .int .u64 (j : Int) ∧ Hid (RowS numE w.heap.size wr v (P.take j) ∧ Below w.heap.size w wr))
    case atStart => exact ⟨0, by omega, rfl, H0⟩
    case round =>
      obtain ⟨j, hj, rfl, HJ⟩ := hrel
      by_cases hj6 : j < 6
      · have hj6' : (j : Int) < 6 := by omega
        have hD : bits .or .u64 ((H : Int) / 8589934592 * 2) 1 = ((H / 8589934592 * 2 + 1 : Nat) : Int) := by
          have e := u64_or_nat (H / 8589934592 * 2) 1 (by omega) (by decide)
          rw [show ((H / 8589934592 * 2 : Nat) : Int) = (H : Int) / 8589934592 * 2 by omega] at e
          rw [show ((1 : Nat) : Int) = 1 from rfl] at e
          rw [e]
          congr 1
          have := Nat.two_pow_add_eq_or_of_lt (i := 1) (b := 1) (by decide) (H / 8589934592)
          rw [show 2 ^ 1 * (H / 8589934592) = H / 8589934592 * 2 by omega] at this
          exact this.symm
        obtain ⟨Dn, hDn⟩ : ∃ D, D = H / 8589934592 * 2 + 1 := ⟨_, rfl⟩
        rw [← hDn] at hD
        obtain ⟨X, hX⟩ : ∃ X, X = j * Dn := ⟨_, rfl⟩
        obtain ⟨A, hA⟩ : ∃ A, A = X % 18446744073709551616 := ⟨_, rfl⟩
        have hw1 : IntKind.u64.wrap ((j : Int) * (Dn : Int)) = (A : Int) := by rw [IntKind.wrap_u64, ← Int.natCast_mul, ← hX]; omega
        obtain ⟨B, hB⟩ : ∃ B, B = (H + A) % 18446744073709551616 := ⟨_, rfl⟩
        have hw2 : IntKind.u64.wrap ((H : Int) + (A : Int)) = (B : Int) := by rw [IntKind.wrap_u64]; omega
        obtain ⟨Pn, hPn⟩ : ∃ Q, Q = B % M := ⟨_, rfl⟩
        have hPM : Pn < M := by rw [hPn]; exact Nat.mod_lt _ (by omega)
        have hw3 : (B : Int).tmod (M : Int) = (Pn : Int) := by rw [hPn]; exact (Int.ofNat_tmod B M).symm
        have hw4 : wrap64 (Pn : Int) = (Pn : Int) := by unfold wrap64; omega
        have hpr : prb1 H M j = Pn := by
          unfold prb1
          rw [← hDn, ← hX, hPn]
          congr 1
          omega
        have hst := HP.out j hj6
        rw [hpr] at hst
        have HT : Hid (P.take (j + 1) = P.take j ++ [Pn]) := hst
        have hb1 : Below wr.heap.size wr (wr.alloc (.cells #[.int .i64 (Pn : Int)] 3)) := (Below.refl _ _).alloc (Nat.le_refl _) _
        have hone := rs_one (E := numE) (w := wr) (vs := [.int .i64 (Pn : Int)]) (x := Pn) rfl
        have HA : Hid (RowS numE w.heap.size (wr.alloc (.cells #[.int .i64 (Pn : Int)] 3)) u6 (P.take j) ∧ Below w.heap.size w (wr.alloc (.cells #[.int .i64 (Pn : Int)] 3)) ∧ (P.take j).length ≤ 6) := ⟨HJ.out.1.later hb1, HJ.out.2.trans (hb1.mono HJ.out.2.size), by rw [List.length_take]; omega⟩
        have HO : Hid (RSu numE (wr.alloc (.cells #[.int .i64 (Pn : Int)] 3)) (some ⟨wr.heap.size, 0, none⟩) 1 1 [.int .i64 (Pn : Int)] [Pn]) := hone
        have HSE : Hid (∀ u ∈ [Value.int .i64 (Pn : Int)], ∀ b, Refs u b → u6.ownBlock ≠ some b) := fun u hu b hr => by rw [List.mem_singleton.1 hu] at hr; exact (refs_int hr).elim
        obtain ⟨GJ, HG⟩ : ∃ g, Hid (g < gk ∧ j + 1 + g = 6) := ⟨gk - 1, by omega, by omega⟩
        clear hDn hX hA hPn hpr hst hb1 hone hj HJ
        have hPn63 : Pn ≤ 2 ^ 63 - 1 := Nat.le_trans (Nat.le_of_lt hPM) hM63
        have hB64 : B < 18446744073709551616 := by clear hD hw1 hw2 hw3 hw4; omega
        have hM0 : (M : Int) ≠ 0 := by clear hD hw1 hw2 hw3 hw4 hB; omega
        clear hB
        go_wp2_with (at_builtin; refine wpList_appS numE (t := 89) (z := .int .i64 0) (bytes := 8) Try.underlying89 numE_info rfl (by decide) rfl (.tmp 15) (.tmp 28) rfl rfl HA.out.1 rfl HO.out HSE.out (by have := HA.out.2.2; omega) (by have := HA.out.2.2; omega) HA.out.2.1.size ?_; intro v9 w9 r9 g9 m9)
        have HF : Hid (RowS numE w.heap.size w9 v9 (P.take (j + 1)) ∧ Below w.heap.size w w9) := ⟨by rw [HT.out]; exact r9, HA.out.2.1.trans (HA.out.1.below g9 HA.out.2.1.size)⟩
        go_roundg GJ
        case measure => exact HG.out.1
        case rel => exact ⟨j + 1, HG.out.2, by go_num, HF⟩
      · have hj6' : (6 : Int) ≤ (j : Int) := by omega
        have HE : Hid (P.take j = P) := List.take_of_length_le (by have := HL.out; omega)
        clear hj hj6
        go_wp2_with fail
        exact bodyPost_ret (v := u6) (by simp [results, Try.results57, go_sem]) rfl ⟨u6, rfl, by rw [← HE.out]; exact HJ.out.1, HJ.out.2⟩
end Go.Proofs.Ytfecopldepnicaa
