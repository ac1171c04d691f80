/- Blocks of entries, on lists: how they are written, how they are read. -/
import Derived.Test.YtifgojkmdicdmaaMpur
import Derived.Test.YtifgojkmdicdmaaFrm
namespace Go.Proofs.Ytifgojkmdicdmaa
set_option linter.unusedVariables false
set_option linter.unusedSimpArgs false

/-- How many bytes two keys share. -/
def shr : List Int → List Int → Nat
  | x :: a, y :: b => if x = y then shr a b + 1 else 0
  | _, _ => 0
theorem shr_le : ∀ a b : List Int, shr a b ≤ a.length ∧ shr a b ≤ b.length
  | [], b => by simp [shr]
  | x :: a, [] => by simp [shr]
  | x :: a, y :: b => by
    have := shr_le a b
    unfold shr
    split <;> simp <;> omega
theorem shr_take : ∀ a b : List Int, a.take (shr a b) = b.take (shr a b)
  | [], b => by simp [shr]
  | x :: a, [] => by simp [shr]
  | x :: a, y :: b => by
    unfold shr
    split
    · rename_i h
      rw [List.take_succ_cons, List.take_succ_cons, shr_take a b, h]
    · rfl
/-- An entry that shares n bytes with the key ahead. -/
def enE (n : Nat) (e : EntV) : List Int := uv n ++ (lb (e.key.drop n) ++ (uv e.seq.toNat ++ (if e.gone then [1] else 0 :: (uv e.till.toNat ++ lb e.val))))
def shI (i : Nat) (key prev : List Int) : Nat := if i % 8 = 0 then 0 else shr key prev
/-- Entries from place i on. -/
def enEs : Nat → List Int → List EntV → List Int
  | _, _, [] => []
  | i, prev, e :: r => enE (shI i e.key prev) e ++ enEs (i + 1) e.key r
/-- Where each eighth one begins. -/
def enTl : Nat → Nat → List Int → List EntV → List Int
  | _, _, _, [] => []
  | i, pos, prev, e :: r => (if i % 8 = 0 then fx pos 4 else []) ++ enTl (i + 1) (pos + (enE (shI i e.key prev) e).length) e.key r
def ordB (l : List EntV) : Bool := decide (l.Pairwise fun a b => ahead a b < 0)
/-- A block: why there is none, or its bytes. -/
def blkE (l : List EntV) : Nat := if l.length = 0 ∨ 400 < l.length then 13 else if l.all mayE = false then 1 else if ordB l = false then 11 else 0
def blkB (l : List EntV) : List Int := enEs 0 [] l ++ (enTl 0 0 [] l ++ fx ((enTl 0 0 [] l).length / 4) 4)
def OkE (e : EntV) : Prop := Okb e.key ∧ Okb e.val
theorem okb_enE {n : Nat} {e : EntV} (h : OkE e) : Okb (enE n e) := by
  unfold enE
  have h1 : Okb (e.key.drop n) := fun x hx => h.1 x (List.mem_of_mem_drop hx)
  refine (okb_uv _).app (((okb_uv _).app h1).app ((okb_uv _).app ?_))
  split
  · intro x hx; rw [List.mem_singleton.1 hx]; omega
  · intro x hx
    rcases List.mem_cons.1 hx with rfl | q
    · omega
    · exact ((okb_uv _).app ((okb_uv _).app h.2)) x q
theorem okb_enEs : ∀ {l : List EntV} {i : Nat} {prev : List Int}, (∀ e ∈ l, OkE e) → Okb (enEs i prev l)
  | [], i, prev, h => fun x hx => by cases hx
  | e :: r, i, prev, h => (okb_enE (h e (by simp))).app (okb_enEs fun x hx => h x (by simp [hx]))
theorem okb_enTl : ∀ {l : List EntV} {i pos : Nat} {prev : List Int}, Okb (enTl i pos prev l)
  | [], i, pos, prev => fun x hx => by cases hx
  | e :: r, i, pos, prev => by
    unfold enTl
    refine Okb.app ?_ okb_enTl
    split
    · exact okb_fx _ _
    · intro x hx; cases hx
/-- How much is shared, how much more there is. -/
def kNum (key : List Int) (s : Rd) : Nat × Nat × Rd :=
  ((rdN key.length s).1, (rdN 9223372036854775808 (rdN key.length s).2).1,
    if (rdN 9223372036854775808 (rdN key.length s).2).2.2 ≠ 0 then (rdN 9223372036854775808 (rdN key.length s).2).2
    else if 512 < (rdN 9223372036854775808 (rdN key.length s).2).1 ∨ 512 < (rdN key.length s).1 + (rdN 9223372036854775808 (rdN key.length s).2).1 then ((rdN 9223372036854775808 (rdN key.length s).2).2.1, 2)
    else if (rdN 9223372036854775808 (rdN key.length s).2).2.1.length < (rdN 9223372036854775808 (rdN key.length s).2).1 then ((rdN 9223372036854775808 (rdN key.length s).2).2.1, 5)
    else (rdN 9223372036854775808 (rdN key.length s).2).2)
/-- What stands behind an entry's key. -/
def deV (key : List Int) (s : Rd) : EntV × Rd :=
  if (rdF (rdN 4611686018427387904 s).2).1 = true then (⟨key, ((rdN 4611686018427387904 s).1 : Int), true, 0, []⟩, (rdF (rdN 4611686018427387904 s).2).2)
  else (⟨key, ((rdN 4611686018427387904 s).1 : Int), false, ((rdN 4611686018427387904 (rdF (rdN 4611686018427387904 s).2).2).1 : Int), (rdB 2048 (rdN 4611686018427387904 (rdF (rdN 4611686018427387904 s).2).2).2).1⟩, (rdB 2048 (rdN 4611686018427387904 (rdF (rdN 4611686018427387904 s).2).2).2).2)
def keyK (key : List Int) (s : Rd) : List Int := key.take (kNum key s).1 ++ (kNum key s).2.2.1.take (kNum key s).2.1
def deE1 (key : List Int) (s : Rd) : EntV × Rd := deV (keyK key s) ((kNum key s).2.2.1.drop (kNum key s).2.1, 0)
def deEs : Nat → List Int → Rd → List EntV × Rd
  | 0, _, s => ([], s)
  | n + 1, key, s => if s.1.length = 0 ∨ s.2 ≠ 0 then ([], s) else if (kNum key s).2.2.2 ≠ 0 then ([], (kNum key s).2.2)
    else ((deE1 key s).1 :: (deEs n (deE1 key s).1.key (deE1 key s).2).1, (deEs n (deE1 key s).1.key (deE1 key s).2).2)
/-- The number at the end; the entries' bytes. -/
def lastN (b : List Int) : Nat := fv (xof (b.drop (b.length - 4))) 4
def bodyN (b : List Int) : List Int := b.take (b.length - 4 - 4 * lastN b)
def deBk (b : List Int) : List EntV × Rd := deEs b.length [] (bodyN b, 0)
/-- What Decode answers. -/
def tkE (b : List Int) : Nat :=
  if b.length < 4 then 5 else if lastN b = 0 ∨ (b.length - 4) / 4 < lastN b then 3 else if (deBk b).2.2 ≠ 0 then (deBk b).2.2
  else if blkE (deBk b).1 ≠ 0 ∨ blkB (deBk b).1 ≠ b then 3 else 0
def tkB (b : List Int) : List EntV := if tkE b = 0 then (deBk b).1 else []
/-- What Decode takes, Encode gives. -/
theorem tk_blk {b : List Int} (h : tkE b = 0) : blkE (tkB b) = 0 ∧ blkB (tkB b) = b := by
  have e : tkB b = (deBk b).1 := by unfold tkB; rw [if_pos h]
  rw [e]
  unfold tkE at h
  split at h
  · cases h
  · split at h
    · cases h
    · split at h
      · rename_i q; exact absurd h q
      · split at h
        · cases h
        · rename_i q
          simp only [ne_eq, not_or, Classical.not_not] at q
          exact q
theorem mayE_ok {e : EntV} (h : mayE e = true) : 1 ≤ e.key.length ∧ e.key.length ≤ 512 ∧ 1 ≤ e.seq ∧ e.seq ≤ 4611686018427387904 ∧ 0 ≤ e.till ∧ e.till ≤ 4611686018427387904 ∧ e.val.length ≤ 2048 ∧ (e.gone = true → e.till = 0 ∧ e.val = []) := by
  unfold mayE at h
  simp only [decide_eq_true_eq] at h
  exact ⟨h.1, h.2.1, h.2.2.1, h.2.2.2.1, h.2.2.2.2.1, h.2.2.2.2.2.1, h.2.2.2.2.2.2.1, fun g => ⟨(h.2.2.2.2.2.2.2 g).1, List.eq_nil_of_length_eq_zero (h.2.2.2.2.2.2.2 g).2⟩⟩
theorem deV_en {e : EntV} {t : List Int} (h : mayE e = true) (ho : OkE e) (ht : Okb t) : deV e.key (uv e.seq.toNat ++ ((if e.gone then [1] else 0 :: (uv e.till.toNat ++ lb e.val)) ++ t), 0) = (e, (t, 0)) := by
  obtain ⟨h1, h2, h3, h4, h5, h6, h7, h8⟩ := mayE_ok h
  obtain ⟨key, seq, gone, till, val⟩ := e
  simp only at *
  have hs : ((seq.toNat : Nat) : Int) = seq := Int.toNat_of_nonneg (by omega)
  have hu : ((till.toNat : Nat) : Int) = till := Int.toNat_of_nonneg (by omega)
  have ho2 := ho.2
  simp only at ho2
  cases gone with
  | true =>
    obtain ⟨rfl, rfl⟩ := h8 rfl
    simp only [if_true]
    have ok1 : Okb ([1] ++ t) := Okb.app (fun x hx => by rw [List.mem_singleton.1 hx]; omega) ht
    unfold deV
    rw [rdN_uv (by omega) (by omega) ok1]
    simp [rdF, hs]
  | false =>
    simp only [Bool.false_eq_true, if_false]
    have ok3 : Okb (lb val ++ t) := Okb.app ((okb_uv _).app ho2) ht
    have ok2 : Okb (uv till.toNat ++ (lb val ++ t)) := (okb_uv _).app ok3
    have e1 : (0 :: (uv till.toNat ++ lb val)) ++ t = 0 :: (uv till.toNat ++ (lb val ++ t)) := by simp
    rw [e1]
    have ok1 : Okb (0 :: (uv till.toNat ++ (lb val ++ t))) := fun x hx => by
      rcases List.mem_cons.1 hx with rfl | q
      · omega
      · exact ok2 x q
    have r1 : rdN 4611686018427387904 (uv seq.toNat ++ 0 :: (uv till.toNat ++ (lb val ++ t)), 0) = (seq.toNat, (0 :: (uv till.toNat ++ (lb val ++ t)), 0)) := rdN_uv (by omega) (by omega) ok1
    have r2 : rdF (0 :: (uv till.toNat ++ (lb val ++ t)), 0) = (false, (uv till.toNat ++ (lb val ++ t), 0)) := by simp [rdF]
    have r3 : rdN 4611686018427387904 (uv till.toNat ++ (lb val ++ t), 0) = (till.toNat, (lb val ++ t, 0)) := rdN_uv (by omega) (by omega) ok3
    have r4 : rdB 2048 (lb val ++ t, 0) = (val, (t, 0)) := rdB_lb h7 (by omega) ho2 ht
    unfold deV
    rw [r1, r2]
    simp only [Bool.false_eq_true, if_false]
    rw [r3, r4, hs, hu]
theorem kNum_en {prev : List Int} {e : EntV} {n : Nat} {t : List Int} (hn : n ≤ prev.length) (hk : n ≤ e.key.length) (h5 : e.key.length ≤ 512) (hp : prev.length ≤ 512) (ho : Okb e.key) (ht : Okb t) : kNum prev (uv n ++ (lb (e.key.drop n) ++ t), 0) = (n, e.key.length - n, (e.key.drop n ++ t, 0)) := by
  have hd : Okb (e.key.drop n) := fun x hx => ho x (List.mem_of_mem_drop hx)
  have hl : (e.key.drop n).length = e.key.length - n := List.length_drop
  have e1 : lb (e.key.drop n) ++ t = uv (e.key.length - n) ++ (e.key.drop n ++ t) := by
    unfold lb
    rw [hl, List.append_assoc]
  rw [e1]
  have r1 : rdN prev.length (uv n ++ (uv (e.key.length - n) ++ (e.key.drop n ++ t)), 0) = (n, (uv (e.key.length - n) ++ (e.key.drop n ++ t), 0)) := rdN_uv hn (by omega) ((okb_uv _).app (hd.app ht))
  have r2 : rdN 9223372036854775808 (uv (e.key.length - n) ++ (e.key.drop n ++ t), 0) = (e.key.length - n, (e.key.drop n ++ t, 0)) := rdN_uv (by omega) (by omega) (hd.app ht)
  unfold kNum
  rw [r1, r2]
  simp only [ne_eq, not_true_eq_false, if_false]
  rw [if_neg (by omega), if_neg (by rw [List.length_append, hl]; omega)]
theorem deE1_en {prev : List Int} {e : EntV} {n : Nat} {t : List Int} (hn : n ≤ prev.length) (hk : n ≤ e.key.length) (hp : prev.length ≤ 512) (hsh : prev.take n = e.key.take n) (h : mayE e = true) (ho : OkE e) (ht : Okb t) : (kNum prev (enE n e ++ t, 0)).2.2.2 = 0 ∧ deE1 prev (enE n e ++ t, 0) = (e, (t, 0)) := by
  have hmo := mayE_ok h
  have ok2 : Okb (uv e.seq.toNat ++ ((if e.gone then [1] else 0 :: (uv e.till.toNat ++ lb e.val)) ++ t)) := by
    refine (okb_uv _).app (Okb.app ?_ ht)
    split
    · intro x hx; rw [List.mem_singleton.1 hx]; omega
    · intro x hx
      rcases List.mem_cons.1 hx with rfl | q
      · omega
      · exact ((okb_uv _).app ((okb_uv _).app ho.2)) x q
  have e1 : enE n e ++ t = uv n ++ (lb (e.key.drop n) ++ (uv e.seq.toNat ++ ((if e.gone then [1] else 0 :: (uv e.till.toNat ++ lb e.val)) ++ t))) := by
    unfold enE
    simp only [List.append_assoc]
  have hkn := kNum_en (t := uv e.seq.toNat ++ ((if e.gone then [1] else 0 :: (uv e.till.toNat ++ lb e.val)) ++ t)) hn hk hmo.2.1 hp ho.1 ok2
  rw [e1]
  refine ⟨by rw [hkn], ?_⟩
  unfold deE1 keyK
  rw [hkn]
  simp only
  have hl : (e.key.drop n).length = e.key.length - n := List.length_drop
  rw [List.take_left' hl, List.drop_left' hl, hsh, List.take_append_drop]
  exact deV_en h ho ht
theorem shI_ok (i : Nat) (key prev : List Int) : shI i key prev ≤ prev.length ∧ shI i key prev ≤ key.length ∧ prev.take (shI i key prev) = key.take (shI i key prev) := by
  unfold shI
  split
  · simp
  · exact ⟨(shr_le key prev).2, (shr_le key prev).1, (shr_take key prev).symm⟩
theorem enE_pos (n : Nat) (e : EntV) : 1 ≤ (enE n e).length := by
  have := uv_pos n
  unfold enE
  rw [List.length_append]
  omega
theorem deEs_en : ∀ {l : List EntV} {i fuel : Nat} {prev : List Int}, (∀ e ∈ l, mayE e = true ∧ OkE e) → prev.length ≤ 512 → l.length ≤ fuel → deEs fuel prev (enEs i prev l, 0) = (l, ([], 0))
  | [], i, 0, prev, _, _, _ => rfl
  | [], i, fuel + 1, prev, _, _, _ => by simp [deEs, enEs]
  | e :: r, i, 0, prev, _, _, hf => by simp at hf
  | e :: r, i, fuel + 1, prev, h, hp, hf => by
    have he := h e (by simp)
    have hs := shI_ok i e.key prev
    have hr : ∀ x ∈ r, mayE x = true ∧ OkE x := fun x hx => h x (by simp [hx])
    have ht : Okb (enEs (i + 1) e.key r) := okb_enEs fun x hx => (hr x hx).2
    have hd := deE1_en (t := enEs (i + 1) e.key r) hs.1 hs.2.1 hp hs.2.2 he.1 he.2 ht
    have hpos := enE_pos (shI i e.key prev) e
    unfold deEs enEs
    rw [if_neg (by rw [List.length_append]; simp only [ne_eq, not_true_eq_false, or_false]; omega), if_neg (by rw [hd.1]; simp), hd.2]
    simp only
    rw [deEs_en (i := i + 1) hr (mayE_ok he.1).2.1 (by simp at hf; omega)]
/-- How many eighth ones there are. -/
def eig : Nat → List EntV → Nat
  | _, [] => 0
  | i, _ :: r => (if i % 8 = 0 then 1 else 0) + eig (i + 1) r
theorem enTl_len : ∀ (l : List EntV) (i pos : Nat) (prev : List Int), (enTl i pos prev l).length = 4 * eig i l
  | [], i, pos, prev => rfl
  | e :: r, i, pos, prev => by
    unfold enTl eig
    rw [List.length_append, enTl_len r]
    split
    · rw [fx_length]; omega
    · simp
theorem eig_le : ∀ (l : List EntV) (i : Nat), eig i l ≤ l.length
  | [], i => Nat.le_refl _
  | e :: r, i => by
    have := eig_le r (i + 1)
    unfold eig
    simp only [List.length_cons]
    split <;> omega
theorem eig_pos {l : List EntV} (h : 1 ≤ l.length) : 1 ≤ eig 0 l := by
  cases l with
  | nil => simp at h
  | cons e r => unfold eig; simp
theorem enEs_len : ∀ (l : List EntV) (i : Nat) (prev : List Int), l.length ≤ (enEs i prev l).length
  | [], i, prev => Nat.zero_le _
  | e :: r, i, prev => by
    have h1 := enEs_len r (i + 1) e.key
    have h2 := enE_pos (shI i e.key prev) e
    unfold enEs
    rw [List.length_append, List.length_cons]
    omega
theorem blkE_ok {l : List EntV} (h : blkE l = 0) : 1 ≤ l.length ∧ l.length ≤ 400 ∧ (∀ e ∈ l, mayE e = true) ∧ ordE l := by
  unfold blkE at h
  split at h
  · cases h
  · rename_i h1
    split at h
    · cases h
    · rename_i h2
      split at h
      · cases h
      · rename_i h3
        have h2' : l.all mayE = true := by simpa using h2
        have h3' : ordB l = true := by simpa using h3
        have h9 : l.Pairwise (fun a b => ahead a b < 0) := by unfold ordB at h3'; simpa using h3'
        exact ⟨by omega, by omega, fun e he => List.all_eq_true.1 h2' e he, h9⟩
/-- Decode of Encode is the entries. -/
theorem tk_of_blk {l : List EntV} (h : blkE l = 0) (ho : ∀ e ∈ l, OkE e) : tkE (blkB l) = 0 ∧ tkB (blkB l) = l := by
  obtain ⟨h1, h2, h3, h4⟩ := blkE_ok h
  have hT := enTl_len l 0 0 []
  have he1 := eig_le l 0
  have he2 := eig_pos h1
  have hlen : (blkB l).length = (enEs 0 [] l).length + 4 * eig 0 l + 4 := by
    unfold blkB
    rw [List.length_append, List.length_append, fx_length, hT]
    omega
  have hlast : lastN (blkB l) = eig 0 l := by
    unfold lastN
    have e1 : (blkB l).drop ((blkB l).length - 4) = fx (eig 0 l) 4 := by
      rw [hlen]
      unfold blkB
      rw [hT, show 4 * eig 0 l / 4 = eig 0 l by omega, ← List.append_assoc]
      exact List.drop_left' (by rw [List.length_append, hT]; omega)
    rw [e1]
    have := fv_four (n := eig 0 l) (by omega) [] (fun x hx => by cases hx)
    simpa using this
  have hbody : bodyN (blkB l) = enEs 0 [] l := by
    unfold bodyN
    rw [hlast, hlen, show (enEs 0 [] l).length + 4 * eig 0 l + 4 - 4 - 4 * eig 0 l = (enEs 0 [] l).length by omega]
    unfold blkB
    exact List.take_left' rfl
  have hde : deBk (blkB l) = (l, ([], 0)) := by
    unfold deBk
    rw [hbody]
    exact deEs_en (fun e he => ⟨h3 e he, ho e he⟩) (by simp) (by have := enEs_len l 0 []; omega)
  have hE : tkE (blkB l) = 0 := by
    unfold tkE
    rw [if_neg (by omega), if_neg (by rw [hlast, hlen]; omega), hde]
    simp [h]
  exact ⟨hE, by unfold tkB; rw [if_pos hE, hde]⟩
end Go.Proofs.Ytifgojkmdicdmaa
