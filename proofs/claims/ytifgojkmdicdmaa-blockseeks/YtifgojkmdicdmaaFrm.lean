/- Frames, on lists of bytes: one behind the other, taken, scanned; what follows. -/
import Derived.Test.YtifgojkmdicdmaaRdl
import Derived.Test.YtifgojkmdicdmaaUvx
import Derived.Test.YtifgojkmdicdmaaCrc
namespace Go.Proofs.Ytifgojkmdicdmaa
set_option linter.unusedVariables false
set_option linter.unusedSimpArgs false

/-- Bytes as natural numbers. -/
def nl (xs : List Int) : List Nat := xs.map Int.toNat
/-- The frame at the beginning: an error (0: none), its record, how many bytes it has. -/
def tf (xs : List Int) : Nat × List Int × Nat :=
  if xs.length < 4 then (5, [], 0)
  else if ¬ enL (xs.drop 4) < (xs.drop 4).length then (5, [], 0)
  else if ¬ good (xof (xs.drop 4)) (enL (xs.drop 4)) then (3, [], 0)
  else if 1048576 < val (xof (xs.drop 4)) (enL (xs.drop 4) + 1) then (2, [], 0)
  else if (xs.drop 4).length < enL (xs.drop 4) + 1 + val (xof (xs.drop 4)) (enL (xs.drop 4) + 1) then (5, [], 0)
  else if fv (xof xs) 4 ≠ mask (more 0 (nl ((xs.drop 4).take (enL (xs.drop 4) + 1 + val (xof (xs.drop 4)) (enL (xs.drop 4) + 1))))) then (4, [], 0)
  else (0, ((xs.drop 4).drop (enL (xs.drop 4) + 1)).take (val (xof (xs.drop 4)) (enL (xs.drop 4) + 1)), 4 + (enL (xs.drop 4) + 1) + val (xof (xs.drop 4)) (enL (xs.drop 4) + 1))

/-- A record's frame. -/
def bd (r : List Int) : List Int := uv r.length ++ r
def fr (r : List Int) : List Int := fx (mask (more 0 (nl (bd r)))) 4 ++ bd r
theorem fx4 (n : Nat) : (fx n 4).length = 4 := fx_length n 4
theorem fr_len (r : List Int) : (fr r).length = 4 + ((uv r.length).length + r.length) := by simp [fr, bd, fx4]
theorem okb_fr {r : List Int} (h : Okb r) : Okb (fr r) := (okb_fx _ 4).app ((okb_uv _).app h)
theorem fr_pos (r : List Int) : 5 ≤ (fr r).length := by have := uv_pos r.length; rw [fr_len]; omega
theorem drop4 (n : Nat) (t : List Int) : (fx n 4 ++ t).drop 4 = t := by
  rw [List.drop_append_of_le_length (by rw [fx4]; omega), List.drop_of_length_le (by rw [fx4]; omega)]
  rfl
theorem fv_four {n : Nat} (hn : n < 4294967296) (t : List Int) (ht : Okb t) : fv (xof (fx n 4 ++ t)) 4 = n := by
  have h := fv_fx n 4 (xof (fx n 4 ++ t)) 0 0 (fun k hk => by
    rw [Nat.zero_add]
    have hb := begins_xof (xs := fx n 4) (ys := t) ((okb_fx n 4).app ht) k (by rw [fx4]; exact hk)
    exact hb) rfl
  rw [Nat.zero_add, Nat.zero_mul, Nat.zero_add] at h
  rw [h]
  exact Nat.mod_eq_of_lt (by omega)

/-- What was framed is taken, whatever stands behind it. -/
theorem tf_fr {r t : List Int} (hr : Okb r) (ht : Okb t) (hl : r.length ≤ 1048576) : tf (fr r ++ t) = (0, r, (fr r).length) := by
  have hok : Okb (bd r ++ t) := ((okb_uv _).app hr).app ht
  have hd : (fr r ++ t).drop 4 = bd r ++ t := by unfold fr; rw [List.append_assoc, drop4]
  have hZ : Begins (xof (bd r ++ t)) (uv r.length) := by
    unfold bd
    rw [List.append_assoc]
    exact begins_xof (by rw [← List.append_assoc]; exact hok)
  have hul := uv_pos r.length
  have hbl : (bd r ++ t).length = (uv r.length).length + r.length + t.length := by simp [bd]; omega
  have hE : enL (bd r ++ t) = (uv r.length).length - 1 := end_one (end_enL _ hok) (uv_end hZ (by omega))
  have hv : val (xof (bd r ++ t)) (enL (bd r ++ t) + 1) = r.length := by rw [hE]; exact uv_val hZ
  have hg : good (xof (bd r ++ t)) (enL (bd r ++ t)) := by rw [hE]; exact uv_good (by omega) hZ
  have hE1 : enL (bd r ++ t) + 1 = (uv r.length).length := by omega
  have hfl := fr_len r
  have htk : (bd r ++ t).take ((uv r.length).length + r.length) = bd r := by
    rw [List.take_append_of_le_length (by simp [bd]), List.take_of_length_le (by simp [bd])]
  have hsum : fv (xof (fr r ++ t)) 4 = mask (more 0 (nl (bd r))) := by
    unfold fr
    rw [List.append_assoc]
    exact fv_four (mask_lt _) _ hok
  unfold tf
  rw [if_neg (by rw [List.length_append]; omega), hd, hv, hE1, if_neg (by rw [hE]; omega), if_neg (not_not_intro hg), if_neg (by omega), if_neg (by rw [hbl]; omega), htk, if_neg (not_not_intro hsum)]
  simp only [Prod.mk.injEq, true_and]
  refine ⟨?_, by omega⟩
  unfold bd
  rw [List.append_assoc, List.drop_append_of_le_length (Nat.le_refl _), List.drop_of_length_le (Nat.le_refl _), List.nil_append, List.take_append_of_le_length (Nat.le_refl _), List.take_of_length_le (Nat.le_refl _)]

/-- Cut off it is no frame. -/
theorem tf_cut {r : List Int} {k : Nat} (hr : Okb r) (hl : r.length ≤ 1048576) (hk : k < (fr r).length) : (tf ((fr r).take k)).1 ≠ 0 := by
  have hfl := fr_len r
  have hul := uv_pos r.length
  by_cases h4 : k < 4
  · unfold tf
    rw [if_pos (by rw [List.length_take]; omega)]
    simp
  obtain ⟨j, rfl⟩ : ∃ j, k = 4 + j := ⟨k - 4, by omega⟩
  have hd : ((fr r).take (4 + j)).drop 4 = (bd r).take j := by
    unfold fr
    rw [List.drop_take, drop4]
    congr 1
    omega
  have hok : Okb (bd r) := (okb_uv _).app hr
  have hokt : Okb ((bd r).take j) := fun x hx => hok x (List.mem_of_mem_take hx)
  have hbl : (bd r).length = (uv r.length).length + r.length := by simp [bd]
  have hjl : ((bd r).take j).length = j := by rw [List.length_take]; omega
  have hend := end_enL _ hokt
  unfold tf
  rw [if_neg (by rw [List.length_take]; omega), hd]
  by_cases hj : j < (uv r.length).length
  · have hZ : Begins (xof (uv r.length)) (uv r.length) := begins_xof' (okb_uv _)
    have hc := (takeV_cut (n := r.length) hZ hj).1
    have he : (bd r).take j = (uv r.length).take j := by unfold bd; rw [List.take_append_of_le_length (by omega)]
    have hxo : ∀ i, i < j → xof ((bd r).take j) i = xof (uv r.length) i := fun i hi => by
      rw [he]
      unfold xof
      rw [List.getD_eq_getElem?_getD, List.getElem?_take_of_lt hi, List.getD_eq_getElem?_getD]
    have hE : enL ((bd r).take j) = j := by
      rw [hjl] at hend
      refine end_one hend ⟨Nat.le_refl _, fun i hi => ?_, fun h => absurd h (by omega)⟩
      rw [hxo i hi]
      exact hc.2.1 i hi
    rw [if_pos (by omega)]
    simp
  · have hZ : Begins (xof ((bd r).take j)) (uv r.length) := by
      have he : (bd r).take j = uv r.length ++ r.take (j - (uv r.length).length) := by
        unfold bd
        rw [List.take_append, List.take_of_length_le (by omega)]
      rw [he] at hokt ⊢
      exact begins_xof hokt
    have hE : enL ((bd r).take j) = (uv r.length).length - 1 := end_one hend (by rw [hjl]; exact uv_end hZ (by omega))
    have hv : val (xof ((bd r).take j)) (enL ((bd r).take j) + 1) = r.length := by rw [hE]; exact uv_val hZ
    have hg : good (xof ((bd r).take j)) (enL ((bd r).take j)) := by rw [hE]; exact uv_good (by omega) hZ
    have hE1 : enL ((bd r).take j) + 1 = (uv r.length).length := by omega
    rw [hv, hE1, if_neg (by omega), if_neg (not_not_intro hg), if_neg (by omega), if_pos (by omega)]
    simp
/-- How much a frame that is told has: more than four bytes, and no more than there are. -/
theorem tf_used {xs : List Int} (h : (tf xs).1 = 0) : 5 ≤ (tf xs).2.2 ∧ (tf xs).2.2 ≤ xs.length := by
  unfold tf at h ⊢
  split at h
  · simp at h
  split at h
  · simp at h
  split at h
  · simp at h
  split at h
  · simp at h
  split at h
  · simp at h
  split at h
  · simp at h
  rename_i h1 h2 h3 h4 h5 h6
  rw [if_neg h1, if_neg h2, if_neg h3, if_neg h4, if_neg h5, if_neg h6]
  have hd : (xs.drop 4).length = xs.length - 4 := List.length_drop
  simp only
  omega

theorem tf_okb {xs : List Int} (h : Okb xs) : Okb (tf xs).2.1 := by
  have hn : Okb [] := fun x hx => by cases hx
  unfold tf
  split
  · exact hn
  split
  · exact hn
  split
  · exact hn
  split
  · exact hn
  split
  · exact hn
  split
  · exact hn
  exact fun x hx => h x (List.mem_of_mem_drop (List.mem_of_mem_drop (List.mem_of_mem_take hx)))

/-- The records up to what is none, and where that stands. -/
def scn : Nat → List Int → List (List Int) × Nat
  | 0, _ => ([], 0)
  | f + 1, xs => if xs = [] then ([], 0) else if (tf xs).1 = 0 then ((tf xs).2.1 :: (scn f (xs.drop (tf xs).2.2)).1, (tf xs).2.2 + (scn f (xs.drop (tf xs).2.2)).2) else ([], 0)
def scan (xs : List Int) : List (List Int) × Nat := scn xs.length xs
theorem scn_more : ∀ (f g : Nat) (xs : List Int), xs.length ≤ f → xs.length ≤ g → scn f xs = scn g xs
  | 0, g, xs, h, _ => by
    have e : xs = [] := List.length_eq_zero_iff.1 (by omega)
    subst e
    cases g <;> simp [scn]
  | f + 1, 0, xs, _, h => by
    have e : xs = [] := List.length_eq_zero_iff.1 (by omega)
    subst e
    simp [scn]
  | f + 1, g + 1, xs, hf, hg => by
    unfold scn
    by_cases q : xs = []
    · rw [if_pos q, if_pos q]
    rw [if_neg q, if_neg q]
    by_cases t : (tf xs).1 = 0
    · rw [if_pos t, if_pos t]
      have hu := tf_used t
      have hl : (xs.drop (tf xs).2.2).length = xs.length - (tf xs).2.2 := List.length_drop
      rw [scn_more f g (xs.drop (tf xs).2.2) (by omega) (by omega)]
    · rw [if_neg t, if_neg t]
theorem scan_nil : scan [] = ([], 0) := rfl
theorem scan_on {xs : List Int} (h : (tf xs).1 = 0) : scan xs = ((tf xs).2.1 :: (scan (xs.drop (tf xs).2.2)).1, (tf xs).2.2 + (scan (xs.drop (tf xs).2.2)).2) := by
  have hu := tf_used h
  have hl : (xs.drop (tf xs).2.2).length = xs.length - (tf xs).2.2 := List.length_drop
  obtain ⟨f, hf⟩ : ∃ f, xs.length = f + 1 := ⟨xs.length - 1, by omega⟩
  have hne : xs ≠ [] := fun e => by rw [e] at hf; simp at hf
  unfold scan
  rw [hf]
  conv => lhs; unfold scn
  rw [if_neg hne, if_pos h, scn_more f _ (xs.drop (tf xs).2.2) (by omega) (Nat.le_refl _)]
theorem scan_stop {xs : List Int} (h : (tf xs).1 ≠ 0) : scan xs = ([], 0) := by
  unfold scan
  cases xs.length with
  | zero => rfl
  | succ f =>
    unfold scn
    by_cases q : xs = []
    · rw [if_pos q]
    · rw [if_neg q, if_neg h]
theorem scan_fr {r t : List Int} (hr : Okb r) (ht : Okb t) (hl : r.length ≤ 1048576) : scan (fr r ++ t) = (r :: (scan t).1, (fr r).length + (scan t).2) := by
  have h := tf_fr hr ht hl
  rw [scan_on (by rw [h]), h]
  simp only
  rw [List.drop_append_of_le_length (Nat.le_refl _), List.drop_of_length_le (Nat.le_refl _), List.nil_append]
theorem scan_le : ∀ (f : Nat) (xs : List Int), xs.length ≤ f → (scan xs).2 ≤ xs.length
  | 0, xs, h => by
    have e : xs = [] := List.length_eq_zero_iff.1 (by omega)
    subst e
    exact Nat.le_refl _
  | f + 1, xs, h => by
    by_cases t : (tf xs).1 = 0
    · rw [scan_on t]
      have hu := tf_used t
      have hl : (xs.drop (tf xs).2.2).length = xs.length - (tf xs).2.2 := List.length_drop
      have := scan_le f (xs.drop (tf xs).2.2) (by omega)
      simp only
      omega
    · rw [scan_stop t]
      exact Nat.zero_le _

/-- Frames, one behind the other. -/
def frs : List (List Int) → List Int
  | [] => []
  | r :: l => fr r ++ frs l
def Recs (l : List (List Int)) : Prop := ∀ r ∈ l, Okb r ∧ r.length ≤ 1048576
theorem okb_frs : ∀ {l : List (List Int)}, Recs l → Okb (frs l)
  | [], _ => fun x hx => by cases hx
  | r :: l, h => (okb_fr (h r (List.mem_cons_self ..)).1).app (okb_frs fun s hs => h s (List.mem_cons_of_mem _ hs))
theorem frs_app : ∀ l m : List (List Int), frs (l ++ m) = frs l ++ frs m
  | [], _ => rfl
  | r :: l, m => by rw [List.cons_append, frs, frs_app l m, frs, List.append_assoc]
theorem scan_frs : ∀ {l : List (List Int)} {t : List Int}, Recs l → Okb t → scan (frs l ++ t) = (l ++ (scan t).1, (frs l).length + (scan t).2)
  | [], t, _, _ => by simp [frs]
  | r :: l, t, h, ht => by
    have h' : Recs l := fun s hs => h s (List.mem_cons_of_mem _ hs)
    have hr := h r (List.mem_cons_self ..)
    rw [frs, List.append_assoc, scan_fr hr.1 ((okb_frs h').app ht) hr.2, scan_frs h' ht]
    simp [Nat.add_assoc]
/-- How many frames end by the place c. -/
def whole : List (List Int) → Nat → Nat
  | [], _ => 0
  | r :: l, c => if (fr r).length ≤ c then whole l (c - (fr r).length) + 1 else 0
theorem whole_le : ∀ (l : List (List Int)) (c : Nat), whole l c ≤ l.length
  | [], _ => Nat.le_refl _
  | r :: l, c => by
    unfold whole
    split
    · have := whole_le l (c - (fr r).length); simp; omega
    · simp
/-- Cut off anywhere, the whole ones ahead are told, and where the last of them ends. -/
theorem scan_take : ∀ {l : List (List Int)} {c : Nat}, Recs l → c ≤ (frs l).length → scan ((frs l).take c) = (l.take (whole l c), (frs (l.take (whole l c))).length)
  | [], c, _, _ => by simp [frs, whole, scan_nil]
  | r :: l, c, h, hc => by
    have h' : Recs l := fun s hs => h s (List.mem_cons_of_mem _ hs)
    have hr := h r (List.mem_cons_self ..)
    unfold whole
    by_cases q : (fr r).length ≤ c
    · rw [if_pos q, frs, List.take_append, List.take_of_length_le q]
      rw [frs, List.length_append] at hc
      have ih := scan_take (c := c - (fr r).length) h' (by omega)
      have hok : Okb ((frs l).take (c - (fr r).length)) := fun x hx => okb_frs h' x (List.mem_of_mem_take hx)
      rw [scan_fr hr.1 hok hr.2, ih, List.take_succ_cons, frs, List.length_append]
    · rw [if_neg q, frs, List.take_append_of_le_length (by omega), scan_stop (tf_cut hr.1 hr.2 (by omega))]
      simp [frs]
end Go.Proofs.Ytifgojkmdicdmaa
