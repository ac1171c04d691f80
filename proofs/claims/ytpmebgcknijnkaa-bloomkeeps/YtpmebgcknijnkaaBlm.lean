/- Filters, on lists: the hash, its probes, a filter's bytes; what follows. -/
import Derived.Test.YtpmebgcknijnkaaByt
namespace Go.Proofs.Ytpmebgcknijnkaa
set_option linter.unusedVariables false
set_option linter.unusedSimpArgs false

def hst (h : Nat) (c : Int) : Nat := 1099511628211 * (h ^^^ c.toNat) % 18446744073709551616
def hsh (key : List Int) : Nat := key.foldl hst 14695981039346656037
theorem hst_lt (h : Nat) (c : Int) : hst h c < 18446744073709551616 := by unfold hst; omega
theorem hsh_lt (key : List Int) : hsh key < 18446744073709551616 := by
  unfold hsh
  rcases List.eq_nil_or_concat key with rfl | ⟨r, c, rfl⟩
  · simp only [List.foldl_nil]; omega
  · rw [List.concat_eq_append, List.foldl_append]; exact hst_lt _ _
theorem hsh_take {key : List Int} {k : Nat} {c : Int} (h : key[k]? = some c) : hsh (key.take (k + 1)) = hst (hsh (key.take k)) c := by
  unfold hsh
  rw [List.take_add_one, h, List.foldl_append]
  rfl
/-- One probe. -/
def prb1 (h m j : Nat) : Nat := (h + j * (h / 8589934592 * 2 + 1)) % 18446744073709551616 % m
def prbs (key : List Int) (m : Nat) : List Nat := if m = 0 then [] else (List.range 6).map (prb1 (hsh key) m)
theorem prbs_len {key : List Int} {m : Nat} (h : m ≠ 0) : (prbs key m).length = 6 := by unfold prbs; rw [if_neg h]; simp
theorem prbs_lt {key : List Int} {m p : Nat} (h : p ∈ prbs key m) : p < m := by
  unfold prbs at h
  split at h
  · cases h
  · rename_i q
    obtain ⟨j, _, rfl⟩ := List.mem_map.1 h
    exact Nat.mod_lt _ (by omega)
theorem prbs_at {key : List Int} {m j : Nat} (h : m ≠ 0) (hj : j < 6) : (prbs key m)[j]? = some (prb1 (hsh key) m j) := by
  unfold prbs
  rw [if_neg h, List.getElem?_map, List.getElem?_range hj]
  rfl
theorem prbs_take {key : List Int} {m j : Nat} (h : m ≠ 0) (hj : j < 6) : (prbs key m).take (j + 1) = (prbs key m).take j ++ [prb1 (hsh key) m j] := by
  rw [List.take_add_one, prbs_at h hj]
  rfl
/-- A bit set. -/
def orb (x : Int) (p : Nat) : Int := ((x.toNat ||| 2 ^ (p % 8) : Nat) : Int)
def setb (b : List Int) (p : Nat) : List Int := b.modify (p / 8) (orb · p)
theorem setb_len (b : List Int) (p : Nat) : (setb b p).length = b.length := by unfold setb; exact List.length_modify ..
def setbs (b : List Int) (ps : List Nat) : List Int := ps.foldl setb b
theorem setbs_len : ∀ (ps : List Nat) (b : List Int), (setbs b ps).length = b.length
  | [], b => rfl
  | p :: r, b => by show (setbs (setb b p) r).length = _; rw [setbs_len r, setb_len]
theorem setbs_app (b : List Int) (ps qs : List Nat) : setbs b (ps ++ qs) = setbs (setbs b ps) qs := List.foldl_append
theorem orb_ok {x : Int} (h : 0 ≤ x ∧ x < 256) (p : Nat) : 0 ≤ orb x p ∧ orb x p < 256 := by
  unfold orb
  have h1 : x.toNat < 2 ^ 8 := by omega
  have h2 : 2 ^ (p % 8) < 2 ^ 8 := Nat.pow_lt_pow_right (by decide) (by omega)
  have := Nat.or_lt_two_pow h1 h2
  omega
theorem setb_ok {b : List Int} (h : Okb b) (p : Nat) : Okb (setb b p) := by
  intro x hx
  unfold setb at hx
  obtain ⟨i, hi, rfl⟩ := List.getElem_of_mem hx
  rw [List.getElem_modify]
  split
  · exact orb_ok (h _ (List.getElem_mem _)) p
  · exact h _ (List.getElem_mem _)
theorem setbs_ok : ∀ (ps : List Nat) {b : List Int}, Okb b → Okb (setbs b ps)
  | [], _, h => h
  | p :: r, _, h => setbs_ok r (setb_ok h p)
theorem orb_comm (x : Int) (p q : Nat) : orb (orb x p) q = orb (orb x q) p := by
  unfold orb
  simp only [Int.toNat_natCast]
  rw [Nat.or_assoc, Nat.or_comm (2 ^ (p % 8)), ← Nat.or_assoc]
theorem setb_comm (b : List Int) (p q : Nat) : setb (setb b p) q = setb (setb b q) p := by
  unfold setb
  apply List.ext_getElem?
  intro i
  simp only [List.getElem?_modify]
  by_cases h1 : p / 8 = i <;> by_cases h2 : q / 8 = i <;> simp [h1, h2]
  cases b[i]? with
  | none => rfl
  | some x => simp [orb_comm]
theorem setbs_perm {ps qs : List Nat} (h : ps.Perm qs) (b : List Int) : setbs b ps = setbs b qs :=
  h.foldl_eq' (fun x _ y _ z => setb_comm z x y) b
/-- The bytes of a filter of n keys. -/
def fsz (n : Nat) : Nat := (max 64 (10 * n) + 7) / 8
def fil (keys : List (List Int)) : List Int := setbs (List.replicate (fsz keys.length) 0) (keys.flatMap fun k => prbs k (8 * fsz keys.length))
theorem fil_len (keys : List (List Int)) : (fil keys).length = fsz keys.length := by unfold fil; rw [setbs_len, List.length_replicate]
theorem okb_zeros (n : Nat) : Okb (List.replicate n 0) := fun x hx => by rw [List.eq_of_mem_replicate hx]; omega
theorem fil_ok (keys : List (List Int)) : Okb (fil keys) := setbs_ok _ (okb_zeros _)
theorem fil_perm {a b : List (List Int)} (h : a.Perm b) : fil a = fil b := by
  unfold fil
  rw [h.length_eq]
  exact setbs_perm (h.flatMap_right _) _
/-- Is the bit set? -/
def hasb (f : List Int) (p : Nat) : Bool := (f.getD (p / 8) 0).toNat.testBit (p % 8)
def has (f key : List Int) : Bool := if f.length = 0 ∨ 1048576 < f.length then true else (prbs key (8 * f.length)).all (hasb f)
theorem hasb_keep {b : List Int} {p : Nat} (q : Nat) (h : hasb b p = true) : hasb (setb b q) p = true := by
  unfold hasb setb at *
  rw [List.getD_eq_getElem?_getD] at h ⊢
  rw [List.getElem?_modify]
  cases hb : b[p / 8]? with
  | none => rw [hb] at h; simp at h
  | some x =>
    rw [hb] at h
    simp only [Option.getD_some] at h
    by_cases e : q / 8 = p / 8
    · simp [e, orb, h]
    · simp [e, h]
theorem hasb_set {b : List Int} {p : Nat} (hp : p / 8 < b.length) : hasb (setb b p) p = true := by
  unfold hasb setb
  rw [List.getD_eq_getElem?_getD, List.getElem?_modify, List.getElem?_eq_getElem hp]
  simp [orb, Nat.testBit_two_pow_self]
theorem hasb_keeps : ∀ (ps : List Nat) {b : List Int} {p : Nat}, hasb b p = true → hasb (setbs b ps) p = true
  | [], _, _, h => h
  | q :: r, _, _, h => hasb_keeps r (hasb_keep q h)
theorem hasb_in : ∀ {ps : List Nat} {b : List Int} {p : Nat}, p ∈ ps → p / 8 < b.length → hasb (setbs b ps) p = true
  | q :: r, b, p, h, hp => by
    rcases List.mem_cons.1 h with e | e
    · subst e; exact hasb_keeps r (hasb_set hp)
    · exact hasb_in (b := setb b q) e (by rw [setb_len]; exact hp)
/-- What was put in is never missed. -/
theorem has_fil {keys : List (List Int)} {k : List Int} (h : k ∈ keys) : has (fil keys) k = true := by
  unfold has
  split
  · rfl
  · rw [List.all_eq_true]
    intro p hp
    rw [fil_len] at hp
    have hlt := prbs_lt hp
    refine hasb_in (List.mem_flatMap.2 ⟨k, h, hp⟩) ?_
    rw [List.length_replicate]
    omega
theorem fsz_mono {a b : Nat} (h : a ≤ b) : fsz a ≤ fsz b := by unfold fsz; omega
theorem fsz_ge (n : Nat) : 8 ≤ fsz n := by unfold fsz; omega
end Go.Proofs.Ytpmebgcknijnkaa
