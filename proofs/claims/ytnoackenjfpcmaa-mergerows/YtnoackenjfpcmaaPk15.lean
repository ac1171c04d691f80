import Derived.Test.YtnoackenjfpcmaaPk07
import Derived.Test.YtnoackenjfpcmaaPk14
/- Blocks of entries, on lists: how they are written, how they are read. -/
namespace Go.Proofs.Ytnoackenjfpcmaa
set_option linter.unusedVariables false
set_option linter.unusedSimpArgs false

/-- How many bytes two keys share. -/
def shr : List Int → List Int → Nat
  | x :: a, y :: b => if x = y then shr a b + 1 else 0
  | _, _ => 0
theorem shr_le : ∀ a b : List Int, shr a b ≤ a.length ∧ shr a b ≤ b.length
  | [], b => by simp [shr]
  | x :: a, [] => by simp [shr]
  | x :: a, y :: b => by
    have := shr_le a b
    unfold shr
    split <;> simp <;> omega
theorem shr_take : ∀ a b : List Int, a.take (shr a b) = b.take (shr a b)
  | [], b => by simp [shr]
  | x :: a, [] => by simp [shr]
  | x :: a, y :: b => by
    unfold shr
    split
    · rename_i h
      rw [List.take_succ_cons, List.take_succ_cons, shr_take a b, h]
    · rfl
/-- An entry that shares n bytes with the key ahead. -/
def enE (n : Nat) (e : EntV) : List Int := uv n ++ (lb (e.key.drop n) ++ (uv e.seq.toNat ++ (if e.gone then [1] else 0 :: (uv e.till.toNat ++ lb e.val))))
def shI (i : Nat) (key prev : List Int) : Nat := if i % 8 = 0 then 0 else shr key prev
/-- Entries from place i on. -/
def enEs : Nat → List Int → List EntV → List Int
  | _, _, [] => []
  | i, prev, e :: r => enE (shI i e.key prev) e ++ enEs (i + 1) e.key r
/-- Where each eighth one begins. -/
def enTl : Nat → Nat → List Int → List EntV → List Int
  | _, _, _, [] => []
  | i, pos, prev, e :: r => (if i % 8 = 0 then fx pos 4 else []) ++ enTl (i + 1) (pos + (enE (shI i e.key prev) e).length) e.key r
def ordB (l : List EntV) : Bool := decide (l.Pairwise fun a b => ahead a b < 0)
/-- A block: why there is none, or its bytes. -/
def blkE (l : List EntV) : Nat := if l.length = 0 ∨ 400 < l.length then 13 else if l.all mayE = false then 1 else if ordB l = false then 11 else 0
def blkB (l : List EntV) : List Int := enEs 0 [] l ++ (enTl 0 0 [] l ++ fx ((enTl 0 0 [] l).length / 4) 4)
def OkE (e : EntV) : Prop := Okb e.key ∧ Okb e.val
theorem okb_enE {n : Nat} {e : EntV} (h : OkE e) : Okb (enE n e) := by
  unfold enE
  have h1 : Okb (e.key.drop n) := fun x hx => h.1 x (List.mem_of_mem_drop hx)
  refine (okb_uv _).app (((okb_uv _).app h1).app ((okb_uv _).app ?_))
  split
  · intro x hx; rw [List.mem_singleton.1 hx]; omega
  · intro x hx
    rcases List.mem_cons.1 hx with rfl | q
    · omega
    · exact ((okb_uv _).app ((okb_uv _).app h.2)) x q
theorem okb_enEs : ∀ {l : List EntV} {i : Nat} {prev : List Int}, (∀ e ∈ l, OkE e) → Okb (enEs i prev l)
  | [], i, prev, h => fun x hx => by cases hx
  | e :: r, i, prev, h => (okb_enE (h e (by simp))).app (okb_enEs fun x hx => h x (by simp [hx]))
theorem okb_enTl : ∀ {l : List EntV} {i pos : Nat} {prev : List Int}, Okb (enTl i pos prev l)
  | [], i, pos, prev => fun x hx => by cases hx
  | e :: r, i, pos, prev => by
    unfold enTl
    refine Okb.app ?_ okb_enTl
    split
    · exact okb_fx _ _
    · intro x hx; cases hx
/-- How much is shared, how much more there is. -/
def kNum (key : List Int) (s : Rd) : Nat × Nat × Rd :=
  ((rdN key.length s).1, (rdN 9223372036854775808 (rdN key.length s).2).1,
    if (rdN 9223372036854775808 (rdN key.length s).2).2.2 ≠ 0 then (rdN 9223372036854775808 (rdN key.length s).2).2
    else if 512 < (rdN 9223372036854775808 (rdN key.length s).2).1 ∨ 512 < (rdN key.length s).1 + (rdN 9223372036854775808 (rdN key.length s).2).1 then ((rdN 9223372036854775808 (rdN key.length s).2).2.1, 2)
    else if (rdN 9223372036854775808 (rdN key.length s).2).2.1.length < (rdN 9223372036854775808 (rdN key.length s).2).1 then ((rdN 9223372036854775808 (rdN key.length s).2).2.1, 5)
    else (rdN 9223372036854775808 (rdN key.length s).2).2)
/-- What stands behind an entry's key. -/
def deV (key : List Int) (s : Rd) : EntV × Rd :=
  if (rdF (rdN 4611686018427387904 s).2).1 = true then (⟨key, ((rdN 4611686018427387904 s).1 : Int), true, 0, []⟩, (rdF (rdN 4611686018427387904 s).2).2)
  else (⟨key, ((rdN 4611686018427387904 s).1 : Int), false, ((rdN 4611686018427387904 (rdF (rdN 4611686018427387904 s).2).2).1 : Int), (rdB 2048 (rdN 4611686018427387904 (rdF (rdN 4611686018427387904 s).2).2).2).1⟩, (rdB 2048 (rdN 4611686018427387904 (rdF (rdN 4611686018427387904 s).2).2).2).2)
def keyK (key : List Int) (s : Rd) : List Int := key.take (kNum key s).1 ++ (kNum key s).2.2.1.take (kNum key s).2.1
def deE1 (key : List Int) (s : Rd) : EntV × Rd := deV (keyK key s) ((kNum key s).2.2.1.drop (kNum key s).2.1, 0)
def deEs : Nat → List Int → Rd → List EntV × Rd
  | 0, _, s => ([], s)
  | n + 1, key, s => if s.1.length = 0 ∨ s.2 ≠ 0 then ([], s) else if (kNum key s).2.2.2 ≠ 0 then ([], (kNum key s).2.2)
    else ((deE1 key s).1 :: (deEs n (deE1 key s).1.key (deE1 key s).2).1, (deEs n (deE1 key s).1.key (deE1 key s).2).2)
/-- The number at the end; the entries' bytes. -/
def lastN (b : List Int) : Nat := fv (xof (b.drop (b.length - 4))) 4
def bodyN (b : List Int) : List Int := b.take (b.length - 4 - 4 * lastN b)
def deBk (b : List Int) : List EntV × Rd := deEs b.length [] (bodyN b, 0)
/-- What Decode answers. -/
def tkE (b : List Int) : Nat :=
  if b.length < 4 then 5 else if lastN b = 0 ∨ (b.length - 4) / 4 < lastN b then 3 else if (deBk b).2.2 ≠ 0 then (deBk b).2.2
  else if blkE (deBk b).1 ≠ 0 ∨ blkB (deBk b).1 ≠ b then 3 else 0
def tkB (b : List Int) : List EntV := if tkE b = 0 then (deBk b).1 else []
/-- What Decode takes, Encode gives. -/
theorem tk_blk {b : List Int} (h : tkE b = 0) : blkE (tkB b) = 0 ∧ blkB (tkB b) = b := by
  have e : tkB b = (deBk b).1 := by unfold tkB; rw [if_pos h]
  rw [e]
  unfold tkE at h
  split at h
  · cases h
  · split at h
    · cases h
    · split at h
      · rename_i q; exact absurd h q
      · split at h
        · cases h
        · rename_i q
          simp only [ne_eq, not_or, Classical.not_not] at q
          exact q
theorem mayE_ok {e : EntV} (h : mayE e = true) : 1 ≤ e.key.length ∧ e.key.length ≤ 512 ∧ 1 ≤ e.seq ∧ e.seq ≤ 4611686018427387904 ∧ 0 ≤ e.till ∧ e.till ≤ 4611686018427387904 ∧ e.val.length ≤ 2048 ∧ (e.gone = true → e.till = 0 ∧ e.val = []) := by
  unfold mayE at h
  simp only [decide_eq_true_eq] at h
  exact ⟨h.1, h.2.1, h.2.2.1, h.2.2.2.1, h.2.2.2.2.1, h.2.2.2.2.2.1, h.2.2.2.2.2.2.1, fun g => ⟨(h.2.2.2.2.2.2.2 g).1, List.eq_nil_of_length_eq_zero (h.2.2.2.2.2.2.2 g).2⟩⟩
theorem deV_en {e : EntV} {t : List Int} (h : mayE e = true) (ho : OkE e) (ht : Okb t) : deV e.key (uv e.seq.toNat ++ ((if e.gone then [1] else 0 :: (uv e.till.toNat ++ lb e.val)) ++ t), 0) = (e, (t, 0)) := by
  obtain ⟨h1, h2, h3, h4, h5, h6, h7, h8⟩ := mayE_ok h
  obtain ⟨key, seq, gone, till, val⟩ := e
  simp only at *
  have hs : ((seq.toNat : Nat) : Int) = seq := Int.toNat_of_nonneg (by omega)
  have hu : ((till.toNat : Nat) : Int) = till := Int.toNat_of_nonneg (by omega)
  have ho2 := ho.2
  simp only at ho2
  cases gone with
  | true =>
    obtain ⟨rfl, rfl⟩ := h8 rfl
    simp only [if_true]
    have ok1 : Okb ([1] ++ t) := Okb.app (fun x hx => by rw [List.mem_singleton.1 hx]; omega) ht
    unfold deV
    rw [rdN_uv (by omega) (by omega) ok1]
    simp [rdF, hs]
  | false =>
    simp only [Bool.false_eq_true, if_false]
    have ok3 : Okb (lb val ++ t) := Okb.app ((okb_uv _).app ho2) ht
    have ok2 : Okb (uv till.toNat ++ (lb val ++ t)) := (okb_uv _).app ok3
    have e1 : (0 :: (uv till.toNat ++ lb val)) ++ t = 0 :: (uv till.toNat ++ (lb val ++ t)) := by simp
    rw [e1]
    have ok1 : Okb (0 :: (uv till.toNat ++ (lb val ++ t))) := fun x hx => by
      rcases List.mem_cons.1 hx with rfl | q
      · omega
      · exact ok2 x q
    have r1 : rdN 4611686018427387904 (uv seq.toNat ++ 0 :: (uv till.toNat ++ (lb val ++ t)), 0) = (seq.toNat, (0 :: (uv till.toNat ++ (lb val ++ t)), 0)) := rdN_uv (by omega) (by omega) ok1
    have r2 : rdF (0 :: (uv till.toNat ++ (lb val ++ t)), 0) = (false, (uv till.toNat ++ (lb val ++ t), 0)) := by simp [rdF]
    have r3 : rdN 4611686018427387904 (uv till.toNat ++ (lb val ++ t), 0) = (till.toNat, (lb val ++ t, 0)) := rdN_uv (by omega) (by omega) ok3
    have r4 : rdB 2048 (lb val ++ t, 0) = (val, (t, 0)) := rdB_lb h7 (by omega) ho2 ht
    unfold deV
    rw [r1, r2]
    simp only [Bool.false_eq_true, if_false]
    rw [r3, r4, hs, hu]
theorem kNum_en {prev : List Int} {e : EntV} {n : Nat} {t : List Int} (hn : n ≤ prev.length) (hk : n ≤ e.key.length) (h5 : e.key.length ≤ 512) (hp : prev.length ≤ 512) (ho : Okb e.key) (ht : Okb t) : kNum prev (uv n ++ (lb (e.key.drop n) ++ t), 0) = (n, e.key.length - n, (e.key.drop n ++ t, 0)) := by
  have hd : Okb (e.key.drop n) := fun x hx => ho x (List.mem_of_mem_drop hx)
  have hl : (e.key.drop n).length = e.key.length - n := List.length_drop
  have e1 : lb (e.key.drop n) ++ t = uv (e.key.length - n) ++ (e.key.drop n ++ t) := by
    unfold lb
    rw [hl, List.append_assoc]
  rw [e1]
  have r1 : rdN prev.length (uv n ++ (uv (e.key.length - n) ++ (e.key.drop n ++ t)), 0) = (n, (uv (e.key.length - n) ++ (e.key.drop n ++ t), 0)) := rdN_uv hn (by omega) ((okb_uv _).app (hd.app ht))
  have r2 : rdN 9223372036854775808 (uv (e.key.length - n) ++ (e.key.drop n ++ t), 0) = (e.key.length - n, (e.key.drop n ++ t, 0)) := rdN_uv (by omega) (by omega) (hd.app ht)
  unfold kNum
  rw [r1, r2]
  simp only [ne_eq, not_true_eq_false, if_false]
  rw [if_neg (by omega), if_neg (by rw [List.length_append, hl]; omega)]
theorem deE1_en {prev : List Int} {e : EntV} {n : Nat} {t : List Int} (hn : n ≤ prev.length) (hk : n ≤ e.key.length) (hp : prev.length ≤ 512) (hsh : prev.take n = e.key.take n) (h : mayE e = true) (ho : OkE e) (ht : Okb t) : (kNum prev (enE n e ++ t, 0)).2.2.2 = 0 ∧ deE1 prev (enE n e ++ t, 0) = (e, (t, 0)) := by
  have hmo := mayE_ok h
  have ok2 : Okb (uv e.seq.toNat ++ ((if e.gone then [1] else 0 :: (uv e.till.toNat ++ lb e.val)) ++ t)) := by
    refine (okb_uv _).app (Okb.app ?_ ht)
    split
    · intro x hx; rw [List.mem_singleton.1 hx]; omega
    · intro x hx
      rcases List.mem_cons.1 hx with rfl | q
      · omega
      · exact ((okb_uv _).app ((okb_uv _).app ho.2)) x q
  have e1 : enE n e ++ t = uv n ++ (lb (e.key.drop n) ++ (uv e.seq.toNat ++ ((if e.gone then [1] else 0 :: (uv e.till.toNat ++ lb e.val)) ++ t))) := by
    unfold enE
    simp only [List.append_assoc]
  have hkn := kNum_en (t := uv e.seq.toNat ++ ((if e.gone then [1] else 0 :: (uv e.till.toNat ++ lb e.val)) ++ t)) hn hk hmo.2.1 hp ho.1 ok2
  rw [e1]
  refine ⟨by rw [hkn], ?_⟩
  unfold deE1 keyK
  rw [hkn]
  simp only
  have hl : (e.key.drop n).length = e.key.length - n := List.length_drop
  rw [List.take_left' hl, List.drop_left' hl, hsh, List.take_append_drop]
  exact deV_en h ho ht
theorem shI_ok (i : Nat) (key prev : List Int) : shI i key prev ≤ prev.length ∧ shI i key prev ≤ key.length ∧ prev.take (shI i key prev) = key.take (shI i key prev) := by
  unfold shI
  split
  · simp
  · exact ⟨(shr_le key prev).2, (shr_le key prev).1, (shr_take key prev).symm⟩
theorem enE_pos (n : Nat) (e : EntV) : 1 ≤ (enE n e).length := by
  have := uv_pos n
  unfold enE
  rw [List.length_append]
  omega
theorem deEs_en : ∀ {l : List EntV} {i fuel : Nat} {prev : List Int}, (∀ e ∈ l, mayE e = true ∧ OkE e) → prev.length ≤ 512 → l.length ≤ fuel → deEs fuel prev (enEs i prev l, 0) = (l, ([], 0))
  | [], i, 0, prev, _, _, _ => rfl
  | [], i, fuel + 1, prev, _, _, _ => by simp [deEs, enEs]
  | e :: r, i, 0, prev, _, _, hf => by simp at hf
  | e :: r, i, fuel + 1, prev, h, hp, hf => by
    have he := h e (by simp)
    have hs := shI_ok i e.key prev
    have hr : ∀ x ∈ r, mayE x = true ∧ OkE x := fun x hx => h x (by simp [hx])
    have ht : Okb (enEs (i + 1) e.key r) := okb_enEs fun x hx => (hr x hx).2
    have hd := deE1_en (t := enEs (i + 1) e.key r) hs.1 hs.2.1 hp hs.2.2 he.1 he.2 ht
    have hpos := enE_pos (shI i e.key prev) e
    unfold deEs enEs
    rw [if_neg (by rw [List.length_append]; simp only [ne_eq, not_true_eq_false, or_false]; omega), if_neg (by rw [hd.1]; simp), hd.2]
    simp only
    rw [deEs_en (i := i + 1) hr (mayE_ok he.1).2.1 (by simp at hf; omega)]
/-- How many eighth ones there are. -/
def eig : Nat → List EntV → Nat
  | _, [] => 0
  | i, _ :: r => (if i % 8 = 0 then 1 else 0) + eig (i + 1) r
theorem enTl_len : ∀ (l : List EntV) (i pos : Nat) (prev : List Int), (enTl i pos prev l).length = 4 * eig i l
  | [], i, pos, prev => rfl
  | e :: r, i, pos, prev => by
    unfold enTl eig
    rw [List.length_append, enTl_len r]
    split
    · rw [fx_length]; omega
    · simp
theorem eig_le : ∀ (l : List EntV) (i : Nat), eig i l ≤ l.length
  | [], i => Nat.le_refl _
  | e :: r, i => by
    have := eig_le r (i + 1)
    unfold eig
    simp only [List.length_cons]
    split <;> omega
theorem eig_pos {l : List EntV} (h : 1 ≤ l.length) : 1 ≤ eig 0 l := by
  cases l with
  | nil => simp at h
  | cons e r => unfold eig; simp
theorem enEs_len : ∀ (l : List EntV) (i : Nat) (prev : List Int), l.length ≤ (enEs i prev l).length
  | [], i, prev => Nat.zero_le _
  | e :: r, i, prev => by
    have h1 := enEs_len r (i + 1) e.key
    have h2 := enE_pos (shI i e.key prev) e
    unfold enEs
    rw [List.length_append, List.length_cons]
    omega
theorem blkE_ok {l : List EntV} (h : blkE l = 0) : 1 ≤ l.length ∧ l.length ≤ 400 ∧ (∀ e ∈ l, mayE e = true) ∧ ordE l := by
  unfold blkE at h
  split at h
  · cases h
  · rename_i h1
    split at h
    · cases h
    · rename_i h2
      split at h
      · cases h
      · rename_i h3
        have h2' : l.all mayE = true := by simpa using h2
        have h3' : ordB l = true := by simpa using h3
        have h9 : l.Pairwise (fun a b => ahead a b < 0) := by unfold ordB at h3'; simpa using h3'
        exact ⟨by omega, by omega, fun e he => List.all_eq_true.1 h2' e he, h9⟩
/-- Decode of Encode is the entries. -/
theorem tk_of_blk {l : List EntV} (h : blkE l = 0) (ho : ∀ e ∈ l, OkE e) : tkE (blkB l) = 0 ∧ tkB (blkB l) = l := by
  obtain ⟨h1, h2, h3, h4⟩ := blkE_ok h
  have hT := enTl_len l 0 0 []
  have he1 := eig_le l 0
  have he2 := eig_pos h1
  have hlen : (blkB l).length = (enEs 0 [] l).length + 4 * eig 0 l + 4 := by
    unfold blkB
    rw [List.length_append, List.length_append, fx_length, hT]
    omega
  have hlast : lastN (blkB l) = eig 0 l := by
    unfold lastN
    have e1 : (blkB l).drop ((blkB l).length - 4) = fx (eig 0 l) 4 := by
      rw [hlen]
      unfold blkB
      rw [hT, show 4 * eig 0 l / 4 = eig 0 l by omega, ← List.append_assoc]
      exact List.drop_left' (by rw [List.length_append, hT]; omega)
    rw [e1]
    have := fv_four (n := eig 0 l) (by omega) [] (fun x hx => by cases hx)
    simpa using this
  have hbody : bodyN (blkB l) = enEs 0 [] l := by
    unfold bodyN
    rw [hlast, hlen, show (enEs 0 [] l).length + 4 * eig 0 l + 4 - 4 - 4 * eig 0 l = (enEs 0 [] l).length by omega]
    unfold blkB
    exact List.take_left' rfl
  have hde : deBk (blkB l) = (l, ([], 0)) := by
    unfold deBk
    rw [hbody]
    exact deEs_en (fun e he => ⟨h3 e he, ho e he⟩) (by simp) (by have := enEs_len l 0 []; omega)
  have hE : tkE (blkB l) = 0 := by
    unfold tkE
    rw [if_neg (by omega), if_neg (by rw [hlast, hlen]; omega), hde]
    simp [h]
  exact ⟨hE, by unfold tkB; rw [if_pos hE, hde]⟩
end Go.Proofs.Ytnoackenjfpcmaa

/- The document's own Ordered, of any row. -/
namespace Go.Proofs.Ytnoackenjfpcmaa
open Go.RowKit
set_option linter.unusedVariables false
set_option linter.unusedSimpArgs false

theorem ord_chain : ∀ {l : List EntV}, (∀ j (h : j + 1 < l.length), ahead l[j] l[j + 1] < 0) → l.Pairwise fun a b => ahead a b < 0
  | [], _ => List.Pairwise.nil
  | [x], _ => by simp
  | x :: y :: r, h => by
    have hr : (y :: r).Pairwise fun a b => ahead a b < 0 := ord_chain fun j hj => by
      have := h (j + 1) (by simp at hj ⊢; omega)
      simpa using this
    have hxy : ahead x y < 0 := by simpa using h 0 (by simp)
    refine List.pairwise_cons.2 ⟨fun z hz => ?_, hr⟩
    rcases List.mem_cons.1 hz with rfl | q
    · exact hxy
    · exact ahead_trans hxy ((List.pairwise_cons.1 hr).1 z q)
theorem ordB_chain {l : List EntV} (h : ∀ j (h : j + 1 < l.length), ahead l[j] l[j + 1] < 0) : ordB l = true := by
  unfold ordB; exact decide_eq_true (ord_chain h)
theorem ordB_not {l : List EntV} {k : Nat} (hk : k + 1 < l.length) (h : ¬ ahead l[k] l[k + 1] < 0) : ordB l = false := by
  unfold ordB
  exact decide_eq_false fun q => h (List.pairwise_iff_getElem.1 q k (k + 1) (by omega) hk (by omega))

set_option maxHeartbeats 4000000 in
set_option maxRecDepth 100000 in
theorem rord_any {w : World} {ao : Option Addr} {len cap : Nat} {l : List EntV} (h : RS entE w ao len cap l) (hl : len ≤ 1000000) :
    Calls Try.prog 23 #[.slice ao len cap] w fun r w' => r = .returned (.bool (ordB l)) ∧ Below w.heap.size w w' := by
  have HS : Hid (RS entE w ao len cap l ∧ True ∧ len ≤ 1000000) := ⟨h, trivial, hl⟩
  have hln : l.length = len := h.len.1
  have hl62 : len ≤ 2 ^ 61 := by omega
  clear h hl
  go_enter Try.func23, Try.ntmps23
  go_wp2_with fail
  go_loopg [3] len (fun g i wr => ∃ k : Nat, (k + g = len ∨ (k = 0 ∧ g = len)) ∧ i = .int .i64 ((k + 1 : Nat) : Int) ∧ Hid (Below w.heap.size w wr) ∧ Hid (∀ j (h : j + 1 < l.length), j < k → ahead l[j] l[j + 1] < 0))
  case atStart => exact ⟨0, .inr ⟨rfl, rfl⟩, rfl, Below.refl _ _, fun j _ h => absurd h (by omega)⟩
  case round =>
    obtain ⟨k, hk, rfl, HK, HC⟩ := hrel
    by_cases hkl : k + 1 < len
    · have hkl' : (k : Int) + 1 < (len : Int) := by omega
      have hdl : decide ((k : Int) + 1 < (len : Int)) = true := by simpa using hkl'
      have hx1 : k < l.length := by omega
      have hx2 : k + 1 < l.length := by omega
      obtain ⟨b, off, ka, kc, va, vc, hab, d0, d1, d2, d3, d4, s1, s2, i1, i2⟩ := RS.ent (HS.out.1.later HK.out) (List.getElem?_eq_getElem hx1)
      obtain ⟨b', off', kb, kd, vb, vd, hab', e0, e1, e2, e3, e4, t1, t2, j1, j2⟩ := RS.ent (HS.out.1.later HK.out) (List.getElem?_eq_getElem hx2)
      rw [hab] at hab'
      simp only [Option.some.injEq, Addr.mk.injEq, and_true] at hab'
      obtain ⟨rfl, rfl⟩ := hab'
      subst hab
      have HN : Hid (¬ ahead l[k] l[k + 1] < 0 → ordB l = false) := ordB_not hx2
      have HP : Hid (ahead l[k] l[k + 1] < 0 → ∀ j (h : j + 1 < l.length), j < k + 1 → ahead l[j] l[j + 1] < 0) := fun q j hj hjk => if e : j = k then by subst e; exact q else HC.out j hj (by omega)
      have hA := rahead_any (va := va) (vc := vc) (vb := vb) (vd := vd) (s1.drewN 1) (t1.drewN 1)
      unfold entA at hA
      generalize ahead l[k] l[k + 1] = c at hA HN HP
      generalize l[k] = o at d0 d1 d2 d3 d4 hA
      generalize l[k + 1] = o' at e0 e1 e2 e3 e4 hA
      generalize o.key.length = kl at d0 hA
      generalize o.val.length = ln at d4 hA
      generalize o.seq = seq at d1 hA
      generalize o.gone = gone at d2 hA
      generalize o.till = till at d3 hA
      generalize o'.key.length = kl2 at e0 hA
      generalize o'.val.length = ln2 at e4 hA
      generalize o'.seq = seq2 at e1 hA
      generalize o'.gone = gone2 at e2 hA
      generalize o'.till = till2 at e3 hA
      have hk62 : k ≤ 2 ^ 60 := by have := HS.out.2.2; omega
      have hwa : IntKind.i64.wrap ((k : Int) + 1 - 1) = (k : Int) := by rw [IntKind.wrap_i64]; omega
      have hwb : wrap64 ((k : Int) + 1 - 1) = (k : Int) := by unfold wrap64; omega
      have hwc : IntKind.i64.wrap (k : Int) = (k : Int) := by rw [IntKind.wrap_i64]; omega
      have hwd : wrap64 (k : Int) = (k : Int) := by unfold wrap64; omega
      have hkl0 : (k : Int) < (len : Int) := by omega
      have hkl3 : k < len := by omega
      obtain ⟨GK, HG⟩ : ∃ g, Hid (g < gk ∧ k + 1 + g = len) := ⟨len - (k + 1), by omega, by omega⟩
      have HKB : Hid (∀ wx, Below wr.drew.heap.size wr.drew wx → Below w.heap.size w wx) := fun wx hb => HK.out.drew.trans (hb.mono HK.out.drew.size)
      clear s1 s2 i1 i2 t1 t2 j1 j2 hk
      go_wp2_with fail
      go_region_held_law (fun w' => (w'.cell? ⟨b, off + k * 5, none⟩ = some (.slice ka kl kc) ∧ w'.cell? ⟨b, off + k * 5 + 1, none⟩ = some (.int .i64 seq) ∧ w'.cell? ⟨b, off + k * 5 + 2, none⟩ = some (.bool gone) ∧ w'.cell? ⟨b, off + k * 5 + 3, none⟩ = some (.int .i64 till) ∧ w'.cell? ⟨b, off + k * 5 + 4, none⟩ = some (.slice va ln vc)) ∧ (w'.cell? ⟨b, off + (k + 1) * 5, none⟩ = some (.slice kb kl2 kd) ∧ w'.cell? ⟨b, off + (k + 1) * 5 + 1, none⟩ = some (.int .i64 seq2) ∧ w'.cell? ⟨b, off + (k + 1) * 5 + 2, none⟩ = some (.bool gone2) ∧ w'.cell? ⟨b, off + (k + 1) * 5 + 3, none⟩ = some (.int .i64 till2) ∧ w'.cell? ⟨b, off + (k + 1) * 5 + 4, none⟩ = some (.slice vb ln2 vd))) (first | exact ⟨⟨d0, d1, d2, d3, d4⟩, ⟨e0, e1, e2, e3, e4⟩⟩ | exact ⟨⟨cell_later hb5 d0, cell_later hb5 d1, cell_later hb5 d2, cell_later hb5 d3, cell_later hb5 d4⟩, ⟨cell_later hb5 e0, cell_later hb5 e1, cell_later hb5 e2, cell_later hb5 e3, cell_later hb5 e4⟩⟩) (first | (go_at_call 22; refine hA.mono ?_; rintro e w5 ⟨rfl, hb5⟩))
      by_cases hc : c < 0
      · have hge : decide (c ≥ 0) = false := by simp; omega
        have hge2 : decide (0 ≤ c) = false := by simp; omega
        go_wp2_with fail
        go_roundg GK
        case measure => exact HG.out.1
        case rel => exact ⟨k + 1, .inl HG.out.2, by go_num, HKB.out _ hb5, HP.out hc⟩
      · have hge : decide (c ≥ 0) = true := by simp; omega
        have hge2 : decide (0 ≤ c) = true := by simp; omega
        go_wp2_with fail
        exact bodyPost_ret (v := .bool false) (by simp [results, Try.results23, go_sem]) rfl ⟨by rw [HN.out hc], HKB.out _ hb5⟩
    · have hkl' : (len : Int) ≤ (k : Int) + 1 := by omega
      have HT : Hid (ordB l = true) := ordB_chain fun j hj => HC.out j hj (by omega)
      clear hk hkl
      go_wp2_with fail
      exact bodyPost_ret (v := .bool true) (by simp [results, Try.results23, go_sem]) rfl ⟨by rw [HT.out], HK.out⟩
end Go.Proofs.Ytnoackenjfpcmaa

/- A row of rows of entries: how it lies in memory; what the laws call light. -/
namespace Go.Proofs.Ytnoackenjfpcmaa
open Go.RowKit
set_option linter.unusedVariables false
set_option linter.unusedSimpArgs false

/-- A row of rows of entries that is read. -/
structure ErRow (w : World) (ao : Option Addr) (n cap : Nat) (rs : List (List EntV)) : Prop where
  len : rs.length = n ∧ n ≤ cap ∧ cap ≤ maxLen
  nil : ao = none → n = 0 ∧ cap = 0
  at' : ∀ (k : Nat) (l : List EntV), rs[k]? = some l → ∃ b off la lc, ao = some ⟨b, off, none⟩ ∧ w.cell? ⟨b, off + k, none⟩ = some (.slice la l.length lc) ∧ RS entE w la l.length lc l
theorem ErRow.later {w w' : World} {ao : Option Addr} {n cap : Nat} {rs : List (List EntV)} (h : ErRow w ao n cap rs) (hb : Below w.heap.size w w') : ErRow w' ao n cap rs := by
  refine ⟨h.len, h.nil, fun k l hl => ?_⟩
  obtain ⟨b, off, la, lc, e1, c0, hm⟩ := h.at' k l hl
  exact ⟨b, off, la, lc, e1, cell_later hb c0, hm.later hb⟩
def litE (l : List EntV) : Bool := l.all fun e => decide (e.key.length ≤ 600 ∧ e.val.length ≤ 2100)
def litW : Nat → Nat → List (List EntV) → Bool
  | _, _, [] => true
  | i, n, l :: rs => decide (i < 70 ∧ l.length ≤ 300 ∧ n + l.length ≤ 600) && (litE l && litW (i + 1) (n + l.length) rs)
theorem litW_ok : ∀ {i n : Nat} {rs : List (List EntV)}, litW i n rs = true → (rs = [] ∨ i + rs.length ≤ 70) ∧ n + (rs.map List.length).sum ≤ max n 600 ∧ ∀ l ∈ rs, l.length ≤ 300 ∧ ∀ e ∈ l, e.key.length ≤ 600 ∧ e.val.length ≤ 2100
  | i, n, [], _ => ⟨.inl rfl, by simp; omega, fun l hl => by cases hl⟩
  | i, n, l :: rs, h => by
    unfold litW at h
    simp only [Bool.and_eq_true, decide_eq_true_eq] at h
    obtain ⟨⟨h1, h2, h3⟩, h4, h5⟩ := h
    obtain ⟨k1, k2, k3⟩ := litW_ok h5
    refine ⟨.inr ?_, ?_, fun l' hl => ?_⟩
    · rcases k1 with rfl | k1
      · simp; omega
      · simp; omega
    · rw [List.map_cons, List.sum_cons]; omega
    · rcases List.mem_cons.1 hl with rfl | hl
      · refine ⟨h2, fun e he => ?_⟩
        unfold litE at h4
        simpa using List.all_eq_true.1 h4 e he
      · exact k3 l' hl
theorem drop_cons {α : Type} {l : List α} {k : Nat} {x : α} (h : l[k]? = some x) : l.drop k = x :: l.drop (k + 1) := by
  obtain ⟨hk, rfl⟩ := List.getElem?_eq_some_iff.1 h
  exact List.drop_eq_getElem_cons hk
theorem litW_drop {k m : Nat} {rs : List (List EntV)} {l : List EntV} (h : rs[k]? = some l) : litW k m (rs.drop k) = (decide (k < 70 ∧ l.length ≤ 300 ∧ m + l.length ≤ 600) && (litE l && litW (k + 1) (m + l.length) (rs.drop (k + 1)))) := by
  rw [drop_cons h]; rfl
set_option maxHeartbeats 8000000 in
set_option maxRecDepth 100000 in
theorem light16_t {w : World} {ao : Option Addr} {n cap : Nat} {rs : List (List EntV)} (h : ErRow w ao n cap rs) :
    Calls Try.prog 9 #[.slice ao n cap] w fun e w' => e = .returned (.bool (litW 0 0 rs)) ∧ Below w.heap.size w w' := by
  have hn63 : n ≤ 2 ^ 63 - 1 := by have := h.len; unfold maxLen at this; omega
  have H0 := hid h
  obtain ⟨T, hT⟩ : ∃ T, T = litW 0 0 rs := ⟨_, rfl⟩
  rw [← hT]
  have HT := hid hT
  clear h hT
  go_enter Try.func9, Try.ntmps9
  go_wp2_with fail
  go_loopg [3, 10] n (fun kx s3 s10 wr => ∃ (k m : Nat), s3 = .int .i64 m ∧ s10 = .int .i64 k ∧ k + kx = n ∧ m ≤ 600 ∧ Hid (T = litW k m (rs.drop k) ∧ Below w.heap.size w wr))
  case atStart => exact ⟨0, 0, rfl, rfl, by omega, by omega, by rw [List.drop_zero]; exact HT.out, Below.refl _ _⟩
  case round =>
    obtain ⟨k, m, rfl, rfl, hg, hm6, HK⟩ := hrel
    by_cases hk : k < n
    · have hk' : (k : Int) < (n : Int) := by omega
      obtain ⟨l, hl⟩ : ∃ l, rs[k]? = some l := ⟨_, List.getElem?_eq_getElem (by have := H0.out.len; omega)⟩
      obtain ⟨b, off, la, lc, rfl, c0, hrl⟩ := H0.out.at' k l hl
      replace c0 := cell_later HK.out.2 c0
      have HD : Hid (T = (decide (k < 70 ∧ l.length ≤ 300 ∧ m + l.length ≤ 600) && (litE l && litW (k + 1) (m + l.length) (rs.drop (k + 1))))) := by
        show _ = _
        rw [HK.out.1, litW_drop hl]
      have HRL := hid hrl
      have hll : l.length ≤ 2 ^ 63 - 1 := by have := hrl.len; unfold maxLen at this; omega
      have HLL := hid (And.intro hg hk)
      obtain ⟨L, hL⟩ : ∃ L, L = l.length := ⟨_, rfl⟩
      have HLE := hid hL
      rw [← hL] at c0 hll
      have HKB := hid HK.out.2
      have hk62 : k ≤ 2 ^ 63 - 2 := by omega
      clear hg hk hl hrl hL HK
      by_cases q70 : 70 ≤ k
      · have HF : Hid (T = false) := by show _ = _; rw [HD.out, decide_eq_false (by omega)]; rfl
        have q' : (70 : Int) ≤ (k : Int) := by omega
        go_wp2_with fail
        exact bodyPost_ret (v := .bool false) (by simp [results, Try.results9, go_sem]) rfl ⟨by rw [HF.out], HKB.out⟩
      · have q' : ¬ (70 : Int) ≤ (k : Int) := by omega
        by_cases q300 : 300 < L
        · have HF : Hid (T = false) := by show _ = _; rw [HD.out, decide_eq_false (by rw [← HLE.out]; omega)]; rfl
          have q2' : (300 : Int) < (L : Int) := by omega
          go_wp2_with fail
          exact bodyPost_ret (v := .bool false) (by simp [results, Try.results9, go_sem]) rfl ⟨by rw [HF.out], HKB.out⟩
        · have q2' : ¬ (300 : Int) < (L : Int) := by omega
          by_cases q600 : 600 < m + L
          · have HF : Hid (T = false) := by show _ = _; rw [HD.out, decide_eq_false (by rw [← HLE.out]; omega)]; rfl
            have q3' : (600 : Int) < (m : Int) + (L : Int) := by omega
            go_wp2_with fail
            exact bodyPost_ret (v := .bool false) (by simp [results, Try.results9, go_sem]) rfl ⟨by rw [HF.out], HKB.out⟩
          · have q3' : ¬ (600 : Int) < (m : Int) + (L : Int) := by omega
            have HD2 : Hid (T = (litE l && litW (k + 1) (m + L) (rs.drop (k + 1)))) := by
              show _ = _
              rw [HD.out, decide_eq_true (show k < 70 ∧ l.length ≤ 300 ∧ m + l.length ≤ 600 by rw [← HLE.out]; omega), ← HLE.out]; rfl
            have HQ := hid (show k < 70 ∧ L ≤ 300 ∧ m + L ≤ 600 by omega)
            clear q70 q300 q600
            go_wp2_with fail
            clear q' q2' q3'
            go_loopg [30] L (fun kx s30 wx => ∃ j : Nat, s30 = .int .i64 j ∧ j + kx = L ∧ Hid (litE (l.take j) = true ∧ Below w.heap.size w wx))
            case atStart => exact ⟨0, rfl, by omega, rfl, HKB.out⟩
            case round =>
              obtain ⟨j, rfl, hg2, HJ⟩ := hrel
              by_cases hj : j < L
              · have hj' : (j : Int) < (L : Int) := by omega
                obtain ⟨e, he⟩ : ∃ e, l[j]? = some e := ⟨_, List.getElem?_eq_getElem (by have := HLE.out; omega)⟩
                obtain ⟨b2, off2, ka, kc, va, vc, rfl, r0, r1, r2, r3, r4, -, -, -, -⟩ := RS.ent (HRL.out.later HJ.out.2) he
                have HB : Hid (∀ o, Below w.heap.size w (wr.alloc o)) := fun o => HJ.out.2.alloc HJ.out.2.size o
                have HX : Hid (litE (l.take (j + 1)) = decide (e.key.length ≤ 600 ∧ e.val.length ≤ 2100) ∧ (decide (e.key.length ≤ 600 ∧ e.val.length ≤ 2100) = false → litE l = false)) := by
                  obtain ⟨hjl, rfl⟩ := List.getElem?_eq_some_iff.1 he
                  refine ⟨?_, fun hf => ?_⟩
                  · have := HJ.out.1
                    unfold litE at this ⊢
                    rw [List.take_add_one, List.getElem?_eq_getElem hjl, List.all_append, this]
                    simp
                  · unfold litE
                    rw [List.all_eq_false]
                    exact ⟨l[j], List.getElem_mem hjl, by simpa using hf⟩
                have HR := hid (And.intro hg2 hj)
                have hj62 : j ≤ 2 ^ 60 := by have := HQ.out; omega
                generalize e.key.length = kl at r0 HX
                generalize e.val.length = vl at r4 HX
                generalize e.seq = sq at r1
                generalize e.gone = gn at r2
                generalize e.till = tl at r3
                clear hg2 hj he
                by_cases z1 : 600 < kl
                · have z1' : (600 : Int) < (kl : Int) := by omega
                  have HF : Hid (T = false) := by show _ = _; rw [HD2.out, HX.out.2 (decide_eq_false (by omega))]; rfl
                  go_wp2_with fail
                  exact bodyPost_ret (v := .bool false) (by simp [results, Try.results9, go_sem]) rfl ⟨by rw [HF.out], HB.out _⟩
                · have z1' : ¬ (600 : Int) < (kl : Int) := by omega
                  by_cases z2 : 2100 < vl
                  · have z2' : (2100 : Int) < (vl : Int) := by omega
                    have HF : Hid (T = false) := by show _ = _; rw [HD2.out, HX.out.2 (decide_eq_false (by omega))]; rfl
                    go_wp2_with fail
                    exact bodyPost_ret (v := .bool false) (by simp [results, Try.results9, go_sem]) rfl ⟨by rw [HF.out], HB.out _⟩
                  · have z2' : ¬ (2100 : Int) < (vl : Int) := by omega
                    have HT2 : Hid (litE (l.take (j + 1)) = true) := by show _ = _; rw [HX.out.1]; exact decide_eq_true (by omega)
                    clear z1 z2
                    go_wp2_with fail
                    go_roundg (L - (j + 1))
                    case measure => have := HR.out; omega
                    case rel => exact ⟨j + 1, by go_num, by have := HR.out; omega, HT2.out, HB.out _⟩
              · have hj' : ¬ (j : Int) < (L : Int) := by omega
                have HE : Hid (litE l = true) := by
                  have := HJ.out.1
                  rwa [List.take_of_length_le (by have := HLE.out; omega)] at this
                have HJB := hid HJ.out.2
                clear hg2 hj HJ
                go_wp2_with fail
                go_roundg (n - (k + 1))
                case measure => have := HLL.out; omega
                case rel => exact ⟨k + 1, m + L, by go_num, by go_num, by have := HLL.out; omega, by have := HQ.out; omega, by rw [HD2.out, HE.out]; rfl, HJB.out⟩
    · have hk' : ¬ (k : Int) < (n : Int) := by omega
      have HF : Hid (T = true) := by
        show _ = _
        rw [HK.out.1, List.drop_eq_nil_of_le (by have := H0.out.len; omega)]; rfl
      have HKB := hid HK.out.2
      clear hg hk
      go_wp2_with fail
      exact bodyPost_ret (v := .bool true) (by simp [results, Try.results9, go_sem]) rfl ⟨by rw [HF.out], HKB.out⟩
end Go.Proofs.Ytnoackenjfpcmaa
