import Derived.Deep.RegionHeldLaw
import Derived.Test.YtnoackenjfpcmaaPk03
import Derived.Test.YtnoackenjfpcmaaPk04
import Derived.Test.YtnoackenjfpcmaaPk06
/- Entries in memory; the document's own Entries; what is the same. -/
namespace Go.Proofs.Ytnoackenjfpcmaa
open Go.RowKit
set_option linter.unusedVariables false
set_option linter.unusedSimpArgs false

/-- An entry. -/
structure EntV where
  key : List Int
  seq : Int
  gone : Bool
  till : Int
  val : List Int
/-- An entry in five cells. -/
def EntM (w : World) (vs : List Value) (o : EntV) : Prop :=
  ∃ ka kc va vc, vs = [.slice ka o.key.length kc, .int .i64 o.seq, .bool o.gone, .int .i64 o.till, .slice va o.val.length vc] ∧ Sl w ka o.key.length kc o.key ∧ Sl w va o.val.length vc o.val ∧ In64 o.seq ∧ In64 o.till
def entE : El EntV where
  ty := 35
  size := 5
  M := EntM
  len := fun h => by obtain ⟨ka, kc, va, vc, rfl, _⟩ := h; rfl
  one := fun h v hv => by
    obtain ⟨ka, kc, va, vc, rfl, _⟩ := h
    simp only [List.mem_cons, List.not_mem_nil, or_false] at hv
    rcases hv with rfl | rfl | rfl | rfl | rfl <;> rfl
  lt := fun h v hv b hr => by
    obtain ⟨ka, kc, va, vc, rfl, h1, h2, _⟩ := h
    simp only [List.mem_cons, List.not_mem_nil, or_false] at hv
    rcases hv with rfl | rfl | rfl | rfl | rfl
    · exact h1.lt hr
    · exact (refs_int hr).elim
    · exact (refs_bool hr).elim
    · exact (refs_int hr).elim
    · exact h2.lt hr
  keep := fun h hk => by
    obtain ⟨ka, kc, va, vc, rfl, h1, h2, h3⟩ := h
    exact ⟨ka, kc, va, vc, rfl, h1.keep fun b hr => hk _ (by simp) b hr, h2.keep fun b hr => hk _ (by simp) b hr, h3⟩
theorem entE_info : (Try.prog.info? entE.ty).map (fun i => (i.zero, i.size, i.bytes)) = some (some (.agg #[.slice none 0 0, .int .i64 0, .bool false, .int .i64 0, .slice none 0 0]), entE.size, 72) := by kernel_rfl
/-- The cells of an entry of a row. -/
theorem RS.ent {w : World} {ao : Option Addr} {len cap : Nat} {os : List EntV} (h : RS entE w ao len cap os) {i : Nat} {o : EntV} (hx : os[i]? = some o) :
    ∃ b off ka kc va vc, ao = some ⟨b, off, none⟩ ∧ w.cell? ⟨b, off + i * 5, none⟩ = some (.slice ka o.key.length kc) ∧ w.cell? ⟨b, off + i * 5 + 1, none⟩ = some (.int .i64 o.seq) ∧ w.cell? ⟨b, off + i * 5 + 2, none⟩ = some (.bool o.gone) ∧ w.cell? ⟨b, off + i * 5 + 3, none⟩ = some (.int .i64 o.till) ∧ w.cell? ⟨b, off + i * 5 + 4, none⟩ = some (.slice va o.val.length vc) ∧
      Sl w ka o.key.length kc o.key ∧ Sl w va o.val.length vc o.val ∧ In64 o.seq ∧ In64 o.till := by
  obtain ⟨b, off, vs, e, ⟨ka, kc, va, vc, rfl, h1, h2, h3, h4⟩, hc⟩ := RS.at h (by decide) hx
  refine ⟨b, off, ka, kc, va, vc, e, ?_, ?_, ?_, ?_, ?_, h1, h2, h3, h4⟩
  · exact hc 0 _ rfl
  · exact hc 1 _ rfl
  · exact hc 2 _ rfl
  · exact hc 3 _ rfl
  · exact hc 4 _ rfl
/-- The entries of changes. -/
def ents : Int → List OpV → List EntV
  | _, [] => []
  | s, o :: r => ⟨o.key, s, o.gone, o.till, o.val⟩ :: ents (s + 1) r
theorem ents_len : ∀ (s : Int) (os : List OpV), (ents s os).length = os.length
  | _, [] => rfl
  | s, o :: r => by rw [ents, List.length_cons, List.length_cons, ents_len]
theorem ents_app : ∀ (s : Int) (xs ys : List OpV), ents s (xs ++ ys) = ents s xs ++ ents (s + xs.length) ys
  | s, [], ys => by simp [ents]
  | s, o :: r, ys => by
    rw [List.cons_append, ents, ents_app (s + 1) r ys, ents, List.cons_append, List.length_cons]
    congr 3
    omega
theorem ents_take {s : Int} {os : List OpV} {k : Nat} {o : OpV} (h : os[k]? = some o) : ents s (os.take (k + 1)) = ents s (os.take k) ++ [⟨o.key, s + (k : Int), o.gone, o.till, o.val⟩] := by
  obtain ⟨hk, rfl⟩ := List.getElem?_eq_some_iff.1 h
  rw [List.take_add_one, List.getElem?_eq_getElem hk, ents_app, List.length_take, show min k os.length = k by omega]
  rfl
def entV (s : Int) (os : List OpV) : List EntV := if mayB s os = 0 then ents s os else []

end Go.Proofs.Ytnoackenjfpcmaa

/- Keys, on lists of bytes: parts, numbers, their order, what begins so; what follows. -/
namespace Go.Proofs.Ytnoackenjfpcmaa
set_option linter.unusedVariables false
theorem Okb.head {x : Int} {r : List Int} (h : Okb (x :: r)) : 0 ≤ x ∧ x < 256 := h x (List.mem_cons_self ..)

/-- A part's bytes: each 0 as 0 and 255; then 0 and 1. -/
def esc : List Int → List Int
  | [] => []
  | x :: r => if x = 0 then 0 :: 255 :: esc r else x :: esc r
def pt (xs : List Int) : List Int := esc xs ++ [0, 1]
theorem pt_nil : pt [] = [0, 1] := rfl
theorem pt_zero (r : List Int) : pt (0 :: r) = 0 :: 255 :: pt r := by simp [pt, esc]
theorem pt_cons {x : Int} (h : x ≠ 0) (r : List Int) : pt (x :: r) = x :: pt r := by simp [pt, esc, h]
theorem okb_pt : ∀ {xs : List Int}, Okb xs → Okb (pt xs)
  | [], _ => fun x hx => by simp [pt_nil] at hx; omega
  | x :: r, h => by
    have ih := okb_pt h.tail
    by_cases q : x = 0
    · subst q
      rw [pt_zero]
      intro y hy
      simp only [List.mem_cons] at hy
      rcases hy with e | e | e
      · omega
      · omega
      · exact ih y e
    · rw [pt_cons q]
      intro y hy
      rcases List.mem_cons.1 hy with e | e
      · rw [e]; exact h.head
      · exact ih y e
theorem pt_pos (xs : List Int) : 2 ≤ (pt xs).length := by simp [pt]
theorem esc_len : ∀ xs : List Int, (esc xs).length ≤ 2 * xs.length
  | [] => Nat.le_refl _
  | x :: r => by
    have := esc_len r
    unfold esc
    split
    · simp; omega
    · simp; omega
theorem pt_len (xs : List Int) : (pt xs).length ≤ 2 * xs.length + 2 := by
  have := esc_len xs
  simp [pt]
  omega

/-- The part at the beginning: an error (0: none), the part, how many bytes it has. -/
def tp : List Int → Nat × List Int × Nat
  | [] => (5, [], 0)
  | [x] => if x = 0 then (5, [], 0) else (5, [], 0)
  | x :: y :: r =>
    if x ≠ 0 then (if (tp (y :: r)).1 = 0 then (0, x :: (tp (y :: r)).2.1, (tp (y :: r)).2.2 + 1) else ((tp (y :: r)).1, [], 0))
    else if y = 1 then (0, [], 2)
    else if y = 255 then (if (tp r).1 = 0 then (0, 0 :: (tp r).2.1, (tp r).2.2 + 2) else ((tp r).1, [], 0))
    else (3, [], 0)
theorem tp_nil : tp [] = (5, [], 0) := by simp [tp]
theorem tp_lone : tp [0] = (5, [], 0) := by simp [tp]
theorem tp_plain {x : Int} (h : x ≠ 0) (r : List Int) : tp (x :: r) = if (tp r).1 = 0 then (0, x :: (tp r).2.1, (tp r).2.2 + 1) else ((tp r).1, [], 0) := by
  cases r with
  | nil => simp [tp]
  | cons y r => rw [tp, if_pos h]
theorem tp_end (r : List Int) : tp (0 :: 1 :: r) = (0, [], 2) := by simp [tp]
theorem tp_zero (r : List Int) : tp (0 :: 255 :: r) = if (tp r).1 = 0 then (0, 0 :: (tp r).2.1, (tp r).2.2 + 2) else ((tp r).1, [], 0) := by simp [tp]
theorem tp_bad {y : Int} (h1 : y ≠ 1) (h2 : y ≠ 255) (r : List Int) : tp (0 :: y :: r) = (3, [], 0) := by simp [tp, h1, h2]
/-- What was written is taken, whatever stands behind it. -/
theorem tp_pt : ∀ (xs t : List Int), tp (pt xs ++ t) = (0, xs, (pt xs).length)
  | [], t => by rw [pt_nil]; exact tp_end t
  | x :: r, t => by
    have ih := tp_pt r t
    by_cases q : x = 0
    · subst q
      rw [pt_zero, List.cons_append, List.cons_append, tp_zero, ih]
      simp
    · rw [pt_cons q, List.cons_append, tp_plain q, ih]
      simp
/-- Cut off it is no part. -/
theorem tp_cut : ∀ (xs : List Int) (k : Nat), k < (pt xs).length → tp ((pt xs).take k) = (5, [], 0)
  | [], k, h => by
    rw [pt_nil] at h ⊢
    simp at h
    have : k = 0 ∨ k = 1 := by omega
    rcases this with e | e <;> subst e
    · exact tp_nil
    · exact tp_lone
  | x :: r, k, h => by
    by_cases q : x = 0
    · subst q
      rw [pt_zero] at h ⊢
      simp at h
      match k, h with
      | 0, _ => exact tp_nil
      | 1, _ => exact tp_lone
      | k + 2, h =>
        have ih := tp_cut r k (by omega)
        rw [List.take_succ_cons, List.take_succ_cons, tp_zero, ih]
        simp
    · rw [pt_cons q] at h ⊢
      simp at h
      match k, h with
      | 0, _ => exact tp_nil
      | k + 1, h =>
        have ih := tp_cut r k (by omega)
        rw [List.take_succ_cons, tp_plain q, ih]
        simp
theorem tp_used : ∀ (n : Nat) (xs : List Int), xs.length ≤ n → (tp xs).1 = 0 → 2 ≤ (tp xs).2.2 ∧ (tp xs).2.2 ≤ xs.length ∧ (tp xs).2.1.length + 2 ≤ (tp xs).2.2
  | 0, xs, h, h0 => by
    have e : xs = [] := List.length_eq_zero_iff.1 (by omega)
    subst e
    simp [tp] at h0
  | n + 1, xs, h, h0 => by
    match xs, h, h0 with
    | [], _, h0 => simp [tp] at h0
    | [x], _, h0 => simp [tp] at h0
    | x :: y :: r, h, h0 =>
      simp at h
      by_cases q : x = 0
      · subst q
        by_cases y1 : y = 1
        · subst y1
          rw [tp_end]
          simp
        · by_cases y2 : y = 255
          · subst y2
            rw [tp_zero] at h0 ⊢
            by_cases t : (tp r).1 = 0
            · rw [if_pos t]
              have := tp_used n r (by omega) t
              simp
              omega
            · rw [if_neg t] at h0
              exact absurd h0 t
          · rw [tp_bad y1 y2] at h0
            simp at h0
      · rw [tp_plain q] at h0 ⊢
        by_cases t : (tp (y :: r)).1 = 0
        · rw [if_pos t]
          have := tp_used n (y :: r) (by simp; omega) t
          simp at this ⊢
          omega
        · rw [if_neg t] at h0
          exact absurd h0 t

/-- Which of two stands ahead. -/
def cmp : List Int → List Int → Int
  | [], [] => 0
  | [], _ :: _ => -1
  | _ :: _, [] => 1
  | x :: r, y :: q => if x < y then -1 else if y < x then 1 else cmp r q
theorem cmp_nil : ∀ b : List Int, 0 ≤ cmp b []
  | [] => by decide
  | _ :: _ => by simp [cmp]
theorem cmp_same (x : Int) (r q : List Int) : cmp (x :: r) (x :: q) = cmp r q := by simp [cmp]
theorem cmp_less {x y : Int} (h : x < y) (r q : List Int) : cmp (x :: r) (y :: q) = -1 := by simp [cmp, h]
theorem cmp_more {x y : Int} (h : y < x) (r q : List Int) : cmp (x :: r) (y :: q) = 1 := by
  have : ¬ x < y := by omega
  simp [cmp, h, this]
theorem cmp_neg : ∀ a b : List Int, cmp b a = - cmp a b
  | [], [] => rfl
  | [], _ :: _ => rfl
  | _ :: _, [] => rfl
  | x :: r, y :: q => by
    rcases Int.lt_trichotomy x y with h | h | h
    · rw [cmp_less h, cmp_more h]; rfl
    · subst h
      rw [cmp_same, cmp_same, cmp_neg r q]
    · rw [cmp_less h, cmp_more h]
theorem cmp_zero : ∀ {a b : List Int}, cmp a b = 0 ↔ a = b
  | [], [] => by simp [cmp]
  | [], _ :: _ => by simp [cmp]
  | _ :: _, [] => by simp [cmp]
  | x :: r, y :: q => by
    rcases Int.lt_trichotomy x y with h | h | h
    · rw [cmp_less h]
      simp
      omega
    · subst h
      rw [cmp_same, cmp_zero]
      simp
    · rw [cmp_more h]
      simp
      omega
theorem cmp_vals (a b : List Int) : cmp a b = -1 ∨ cmp a b = 0 ∨ cmp a b = 1 := by
  induction a generalizing b with
  | nil => cases b <;> simp [cmp]
  | cons x r ih =>
    cases b with
    | nil => simp [cmp]
    | cons y q =>
      rcases Int.lt_trichotomy x y with h | h | h
      · rw [cmp_less h]; simp
      · subst h; rw [cmp_same]; exact ih q
      · rw [cmp_more h]; simp
theorem cmp_pt : ∀ (x y s t : List Int), Okb x → Okb y → cmp (pt x ++ s) (pt y ++ t) = if cmp x y = 0 then cmp s t else cmp x y
  | [], [], s, t, _, _ => by
    rw [pt_nil]
    show cmp (0 :: 1 :: s) (0 :: 1 :: t) = _
    rw [cmp_same, cmp_same]
    simp [cmp]
  | [], y :: q, s, t, _, hy => by
    have h := hy.head
    have e : cmp [] (y :: q) = -1 := rfl
    rw [e, if_neg (by decide), pt_nil]
    by_cases z : y = 0
    · subst z
      rw [pt_zero]
      show cmp (0 :: 1 :: s) (0 :: 255 :: (pt q ++ t)) = _
      rw [cmp_same, cmp_less (by decide)]
    · rw [pt_cons z]
      exact cmp_less (by omega) _ _
  | x :: r, [], s, t, hx, _ => by
    have h := hx.head
    have e : cmp (x :: r) [] = 1 := rfl
    rw [e, if_neg (by decide), pt_nil]
    by_cases z : x = 0
    · subst z
      rw [pt_zero]
      show cmp (0 :: 255 :: (pt r ++ s)) (0 :: 1 :: t) = _
      rw [cmp_same, cmp_more (by decide)]
    · rw [pt_cons z]
      exact cmp_more (by omega) _ _
  | x :: r, y :: q, s, t, hx, hy => by
    have h1 := hx.head
    have h2 := hy.head
    have ih := cmp_pt r q s t hx.tail hy.tail
    have go : ∀ x y : Int, x ≠ y → 0 ≤ x → 0 ≤ y → ∃ s' t', pt (x :: r) ++ s = x :: s' ∧ pt (y :: q) ++ t = y :: t' := fun x y _ _ _ => by
      by_cases z : x = 0
      · by_cases z' : y = 0
        · subst z z'; exact ⟨_, _, by rw [pt_zero]; rfl, by rw [pt_zero]; rfl⟩
        · subst z; exact ⟨_, _, by rw [pt_zero]; rfl, by rw [pt_cons z']; rfl⟩
      · by_cases z' : y = 0
        · subst z'; exact ⟨_, _, by rw [pt_cons z]; rfl, by rw [pt_zero]; rfl⟩
        · exact ⟨_, _, by rw [pt_cons z]; rfl, by rw [pt_cons z']; rfl⟩
    rcases Int.lt_trichotomy x y with h | h | h
    · obtain ⟨s', t', e1, e2⟩ := go x y (by omega) h1.1 h2.1
      rw [e1, e2, cmp_less h, cmp_less h, if_neg (by decide)]
    · subst h
      rw [cmp_same]
      by_cases z : x = 0
      · subst z
        rw [pt_zero, pt_zero]
        show cmp (0 :: 255 :: (pt r ++ s)) (0 :: 255 :: (pt q ++ t)) = _
        rw [cmp_same, cmp_same, ih]
      · rw [pt_cons z, pt_cons z]
        show cmp (x :: (pt r ++ s)) (x :: (pt q ++ t)) = _
        rw [cmp_same, ih]
    · obtain ⟨s', t', e1, e2⟩ := go x y (by omega) h1.1 h2.1
      rw [e1, e2, cmp_more h, cmp_more h, if_neg (by decide)]

/-- Rows of parts, one behind the other. -/
def pts : List (List Int) → List Int
  | [] => []
  | x :: l => pt x ++ pts l
def cmpR : List (List Int) → List (List Int) → Int
  | [], [] => 0
  | [], _ :: _ => -1
  | _ :: _, [] => 1
  | x :: a, y :: b => if cmp x y = 0 then cmpR a b else cmp x y
theorem pts_cons (x : List Int) (l : List (List Int)) : ∃ c r, pts (x :: l) = c :: r := by
  have h := pt_pos x
  cases hp : pt x with
  | nil => rw [hp] at h; simp at h
  | cons c r => exact ⟨c, r ++ pts l, by rw [pts, hp]; rfl⟩
theorem cmp_pts : ∀ (a b : List (List Int)), (∀ x ∈ a, Okb x) → (∀ x ∈ b, Okb x) → cmp (pts a) (pts b) = cmpR a b
  | [], [], _, _ => rfl
  | [], y :: b, _, _ => by
    obtain ⟨c, r, e⟩ := pts_cons y b
    rw [e]
    rfl
  | x :: a, [], _, _ => by
    obtain ⟨c, r, e⟩ := pts_cons x a
    rw [e]
    rfl
  | x :: a, y :: b, ha, hb => by
    have ih := cmp_pts a b (fun z hz => ha z (List.mem_cons_of_mem _ hz)) (fun z hz => hb z (List.mem_cons_of_mem _ hz))
    rw [pts, pts, cmp_pt x y _ _ (ha x (List.mem_cons_self ..)) (hb y (List.mem_cons_self ..)), ih]
    rfl
theorem pts_app : ∀ a b : List (List Int), pts (a ++ b) = pts a ++ pts b
  | [], _ => rfl
  | x :: a, b => by rw [List.cons_append, pts, pts_app a b, pts, List.append_assoc]
/-- No part's bytes are the beginning of another one's. -/
theorem pt_begins {p q t : List Int} (h : pt q = pt p ++ t) : p = q := by
  have h1 := tp_pt q []
  rw [List.append_nil, h, tp_pt p t] at h1
  simp at h1
  exact h1.1

/-- Numbers, the highest byte first, keep the order. -/
theorem fx_low (a b : Nat) : ∀ k, a % 256 ^ k = b % 256 ^ k → fx a k = fx b k
  | 0, _ => rfl
  | k + 1, h => by
    have hp : 0 < 256 ^ k := Nat.pow_pos (by decide)
    have d1 : a % 256 ^ (k + 1) / 256 ^ k = a / 256 ^ k % 256 := by rw [Nat.pow_succ]; exact Nat.mod_mul_right_div_self ..
    have d2 : b % 256 ^ (k + 1) / 256 ^ k = b / 256 ^ k % 256 := by rw [Nat.pow_succ]; exact Nat.mod_mul_right_div_self ..
    have m1 : a % 256 ^ (k + 1) % 256 ^ k = a % 256 ^ k := Nat.mod_mod_of_dvd _ (Nat.pow_dvd_pow _ (by omega))
    have m2 : b % 256 ^ (k + 1) % 256 ^ k = b % 256 ^ k := Nat.mod_mod_of_dvd _ (Nat.pow_dvd_pow _ (by omega))
    rw [fx, fx, fx_low a b k (by rw [← m1, ← m2, h]), ← d1, ← d2, h]
theorem cmp_fx (a b : Nat) : ∀ k, cmp (fx a k) (fx b k) = if a % 256 ^ k < b % 256 ^ k then -1 else if b % 256 ^ k < a % 256 ^ k then 1 else 0
  | 0 => by simp [fx, cmp, Nat.mod_one]
  | k + 1 => by
    have hp : 0 < 256 ^ k := Nat.pow_pos (by decide)
    have e1 : a % 256 ^ (k + 1) = a / 256 ^ k % 256 * 256 ^ k + a % 256 ^ k := by
      rw [Nat.pow_succ, Nat.mod_mul]
      rw [Nat.mul_comm (256 ^ k)]
      omega
    have e2 : b % 256 ^ (k + 1) = b / 256 ^ k % 256 * 256 ^ k + b % 256 ^ k := by
      rw [Nat.pow_succ, Nat.mod_mul]
      rw [Nat.mul_comm (256 ^ k)]
      omega
    have l1 := Nat.mod_lt a hp
    have l2 := Nat.mod_lt b hp
    have ih := cmp_fx a b k
    rw [e1, e2, fx, fx]
    generalize a / 256 ^ k % 256 = x
    generalize b / 256 ^ k % 256 = y
    generalize a % 256 ^ k = s at *
    generalize b % 256 ^ k = t at *
    generalize 256 ^ k = M at *
    rcases Nat.lt_trichotomy x y with h | h | h
    · have : x * M + M ≤ y * M := by
        have := Nat.mul_le_mul_right M (show x + 1 ≤ y by omega)
        rw [Nat.add_mul, Nat.one_mul] at this
        exact this
      rw [cmp_less (by omega), if_pos (by omega)]
    · subst h
      rw [cmp_same, ih]
      simp only [Nat.add_lt_add_iff_left]
    · have : y * M + M ≤ x * M := by
        have := Nat.mul_le_mul_right M (show y + 1 ≤ x by omega)
        rw [Nat.add_mul, Nat.one_mul] at this
        exact this
      rw [cmp_more (by omega), if_neg (by omega), if_pos (by omega)]

/-- Where what begins so ends. -/
def aft : List Int → Option (List Int)
  | [] => none
  | x :: r => match aft r with
    | some s => some (x :: s)
    | none => if x = 255 then none else some [x + 1]
theorem okb_aft : ∀ {p e : List Int}, Okb p → aft p = some e → Okb e
  | [], e, _, h => by simp [aft] at h
  | x :: r, e, hp, h => by
    have hx := hp.head
    unfold aft at h
    cases hr : aft r with
    | some s =>
      rw [hr] at h
      simp at h
      subst h
      intro y hy
      rcases List.mem_cons.1 hy with q | q
      · rw [q]; exact hx
      · exact okb_aft hp.tail hr y q
    | none =>
      rw [hr] at h
      by_cases q : x = 255
      · simp [q] at h
      · simp [q] at h
        subst h
        intro y hy
        simp at hy
        omega
theorem between : ∀ (p b : List Int), Okb p → Okb b → (p <+: b ↔ 0 ≤ cmp b p ∧ ∀ e, aft p = some e → cmp b e < 0)
  | [], b, _, _ => by
    have := cmp_nil b
    simp [aft, this]
  | x :: r, [], _, _ => by simp [cmp]
  | x :: r, y :: q, hp, hb => by
    have hx := hp.head
    have hy := hb.head
    have ih := between r q hp.tail hb.tail
    rw [List.cons_prefix_cons]
    rcases Int.lt_trichotomy y x with h | h | h
    · rw [cmp_less h]
      constructor
      · rintro ⟨e, _⟩; omega
      · rintro ⟨e, _⟩; omega
    · subst h
      rw [cmp_same]
      unfold aft
      cases hr : aft r with
      | some s =>
        rw [hr] at ih
        simp only [true_and, ih, Option.some.injEq]
        constructor
        · rintro ⟨h1, h2⟩
          refine ⟨h1, fun e he => ?_⟩
          subst he
          rw [cmp_same]
          exact h2 s rfl
        · rintro ⟨h1, h2⟩
          refine ⟨h1, fun e he => ?_⟩
          subst he
          have := h2 _ rfl
          rw [cmp_same] at this
          exact this
      | none =>
        rw [hr] at ih
        simp only [true_and, ih]
        constructor
        · rintro ⟨h1, _⟩
          refine ⟨h1, fun e he => ?_⟩
          by_cases z : y = 255
          · simp [z] at he
          · simp [z] at he
            subst he
            rw [cmp_less (by omega)]
            decide
        · rintro ⟨h1, _⟩
          exact ⟨h1, fun e he => by cases he⟩
    · rw [cmp_more h]
      constructor
      · rintro ⟨e, _⟩; omega
      · rintro ⟨_, h2⟩
        exfalso
        cases hr : aft r with
        | some s =>
          have := h2 (x :: s) (by simp [aft, hr])
          rw [cmp_more h] at this
          omega
        | none =>
          have := h2 [x + 1] (by
            have : x ≠ 255 := by omega
            simp [aft, hr, this])
          rcases Int.lt_trichotomy y (x + 1) with g | g | g
          · omega
          · subst g
            rw [cmp_same] at this
            have := cmp_nil q
            omega
          · rw [cmp_more g] at this
            omega
end Go.Proofs.Ytnoackenjfpcmaa

/- Entries in order, on lists: what a mem tells. -/
namespace Go.Proofs.Ytnoackenjfpcmaa
set_option linter.unusedVariables false
set_option linter.unusedSimpArgs false

open Go.RowKit in
theorem hid {p : Prop} (h : p) : Hid p := h
/-- May an entry be? -/
def mayE (e : EntV) : Bool := decide (1 ≤ e.key.length ∧ e.key.length ≤ 512 ∧ 1 ≤ e.seq ∧ e.seq ≤ 4611686018427387904 ∧ 0 ≤ e.till ∧ e.till ≤ 4611686018427387904 ∧ e.val.length ≤ 2048 ∧ (e.gone = true → e.till = 0 ∧ e.val.length = 0))
def wtE (e : EntV) : Nat := e.key.length + e.val.length + 16
def wts : List EntV → Nat
  | [] => 0
  | e :: r => wtE e + wts r
theorem wts_app : ∀ a b : List EntV, wts (a ++ b) = wts a + wts b
  | [], b => by simp [wts]
  | e :: r, b => by rw [List.cons_append, wts, wts, wts_app r b, Nat.add_assoc]
/-- By key, newer first. -/
def ahead (a b : EntV) : Int := if cmp a.key b.key ≠ 0 then cmp a.key b.key else if b.seq < a.seq then -1 else if a.seq < b.seq then 1 else 0
theorem cmp_refl (a : List Int) : cmp a a = 0 := cmp_zero.2 rfl
theorem cmp_lt_iff : ∀ a b : List Int, cmp a b < 0 ↔ cmp a b = -1 := fun a b => by
  have := cmp_vals a b
  omega
theorem cmp_trans : ∀ {a b c : List Int}, cmp a b < 0 → cmp b c < 0 → cmp a c < 0
  | [], [], _, h, _ => by simp [cmp] at h
  | [], y :: b, [], _, h => by
    have := cmp_nil (y :: b)
    omega
  | [], y :: b, z :: c, _, _ => by simp [cmp]
  | x :: a, [], _, h, _ => by
    have := cmp_nil (x :: a)
    omega
  | x :: a, y :: b, [], _, h => by
    have := cmp_nil (y :: b)
    omega
  | x :: a, y :: b, z :: c, h1, h2 => by
    rcases Int.lt_trichotomy x y with p | p | p
    · rcases Int.lt_trichotomy y z with q | q | q
      · rw [cmp_less (by omega)]; omega
      · subst q; rw [cmp_less p]; omega
      · rw [cmp_more q] at h2; omega
    · subst p
      rw [cmp_same] at h1
      rcases Int.lt_trichotomy x z with q | q | q
      · rw [cmp_less q]; omega
      · subst q
        rw [cmp_same] at h2 ⊢
        exact cmp_trans h1 h2
      · rw [cmp_more q] at h2; omega
    · rw [cmp_more p] at h1; omega
theorem ahead_vals (a b : EntV) : ahead a b = -1 ∨ ahead a b = 0 ∨ ahead a b = 1 := by
  have := cmp_vals a.key b.key
  unfold ahead
  split
  · exact this
  · split
    · exact .inl rfl
    · split
      · exact .inr (.inr rfl)
      · exact .inr (.inl rfl)
theorem ahead_zero {a b : EntV} : ahead a b = 0 ↔ a.key = b.key ∧ a.seq = b.seq := by
  unfold ahead
  by_cases q : cmp a.key b.key = 0
  · have e := cmp_zero.1 q
    rw [if_neg (by omega)]
    constructor
    · intro h
      refine ⟨e, ?_⟩
      by_cases p : b.seq < a.seq
      · rw [if_pos p] at h; omega
      · rw [if_neg p] at h
        by_cases r : a.seq < b.seq
        · rw [if_pos r] at h; omega
        · omega
    · rintro ⟨_, h⟩
      rw [if_neg (by omega), if_neg (by omega)]
  · rw [if_pos q]
    exact ⟨fun h => absurd h q, fun h => absurd (cmp_zero.2 h.1) q⟩
theorem ahead_neg (a b : EntV) : ahead b a = - ahead a b := by
  have h := cmp_neg a.key b.key
  unfold ahead
  by_cases q : cmp a.key b.key = 0
  · have q' : cmp b.key a.key = 0 := by omega
    simp only [ne_eq, q, q', not_true_eq_false, if_false]
    repeat' split
    all_goals omega
  · rw [if_pos q, if_pos (by omega)]
    exact h
theorem ahead_trans {a b c : EntV} (h1 : ahead a b < 0) (h2 : ahead b c < 0) : ahead a c < 0 := by
  unfold ahead at h1 h2 ⊢
  by_cases p : cmp a.key b.key = 0
  · have e := cmp_zero.1 p
    rw [if_neg (by omega)] at h1
    by_cases q : cmp b.key c.key = 0
    · rw [if_neg (by omega)] at h2
      rw [e, if_neg (by omega)]
      by_cases s1 : b.seq < a.seq
      · by_cases s2 : c.seq < b.seq
        · rw [if_pos (by omega)]; omega
        · rw [if_neg s2] at h2
          split at h2 <;> omega
      · rw [if_neg s1] at h1
        split at h1 <;> omega
    · rw [if_pos (by omega)] at h2
      rw [e, if_pos q]
      exact h2
  · rw [if_pos p] at h1
    by_cases q : cmp b.key c.key = 0
    · have e := cmp_zero.1 q
      rw [← e, if_pos p]
      exact h1
    · rw [if_pos q] at h2
      have := cmp_trans h1 h2
      rw [if_pos (by omega)]
      exact this
/-- In order, none twice. -/
def ordE (l : List EntV) : Prop := l.Pairwise fun a b => ahead a b < 0
/-- How many stand ahead of an entry. -/
def atE (l : List EntV) (e : EntV) : Nat := (l.takeWhile fun x => ahead x e < 0).length
def hasE (l : List EntV) (e : EntV) : Bool := l.any fun x => ahead x e = 0
def putE (l : List EntV) (e : EntV) : List EntV := l.take (atE l e) ++ e :: l.drop (atE l e)
/-- What Add answers, and what is there then. -/
def addE (l : List EntV) (e : EntV) : Nat × List EntV := if mayE e = false then (1, l) else if hasE l e = true then (6, l) else (0, putE l e)
theorem atE_nil (e : EntV) : atE [] e = 0 := rfl
theorem atE_cons_lt {x : EntV} {r : List EntV} {e : EntV} (h : ahead x e < 0) : atE (x :: r) e = atE r e + 1 := by simp [atE, h]
theorem atE_cons_ge {x : EntV} {r : List EntV} {e : EntV} (h : ¬ ahead x e < 0) : atE (x :: r) e = 0 := by simp [atE, h]
theorem atE_le (l : List EntV) (e : EntV) : atE l e ≤ l.length := by
  induction l with
  | nil => exact Nat.le_refl _
  | cons x r ih =>
    by_cases q : ahead x e < 0
    · rw [atE_cons_lt q, List.length_cons]; omega
    · rw [atE_cons_ge q]; omega
theorem atE_at {l : List EntV} {e : EntV} (h : atE l e < l.length) : ¬ ahead l[atE l e] e < 0 := by
  induction l with
  | nil => cases h
  | cons x r ih =>
    by_cases q : ahead x e < 0
    · have h' : atE r e < r.length := by rw [atE_cons_lt q, List.length_cons] at h; omega
      simp only [atE_cons_lt q, List.getElem_cons_succ]
      exact ih h'
    · simp only [atE_cons_ge q, List.getElem_cons_zero]
      exact q
theorem atE_before {l : List EntV} {e : EntV} {k : Nat} (h : k < atE l e) (hk : k < l.length) : ahead l[k] e < 0 := by
  induction l generalizing k with
  | nil => cases hk
  | cons x r ih =>
    by_cases q : ahead x e < 0
    · rw [atE_cons_lt q] at h
      cases k with
      | zero => simpa using q
      | succ k =>
        rw [List.getElem_cons_succ]
        exact ih (by omega) (by simp at hk; omega)
    · rw [atE_cons_ge q] at h
      cases h
theorem putE_nil (e : EntV) : putE [] e = [e] := rfl
theorem putE_lt {x : EntV} {r : List EntV} {e : EntV} (h : ahead x e < 0) : putE (x :: r) e = x :: putE r e := by simp [putE, atE_cons_lt h]
theorem putE_ge {x : EntV} {r : List EntV} {e : EntV} (h : ¬ ahead x e < 0) : putE (x :: r) e = e :: x :: r := by simp [putE, atE_cons_ge h]
theorem putE_len (l : List EntV) (e : EntV) : (putE l e).length = l.length + 1 := by
  have := atE_le l e
  simp [putE]
  omega
theorem putE_perm (l : List EntV) (e : EntV) : (putE l e).Perm (e :: l) := by
  unfold putE
  refine List.perm_middle.trans ?_
  rw [List.take_append_drop]
/-- In an ordered row one that is like an entry stands where the entry would. -/
theorem hasE_at {l : List EntV} (ho : ordE l) (e : EntV) : hasE l e = true ↔ ∃ h : atE l e < l.length, ahead l[atE l e] e = 0 := by
  constructor
  · intro h
    obtain ⟨x, hx, hz⟩ := List.any_eq_true.1 h
    have hz : ahead x e = 0 := by simpa using hz
    obtain ⟨i, hi, rfl⟩ := List.getElem_of_mem hx
    have h1 : atE l e ≤ i := by
      rcases Nat.lt_or_ge i (atE l e) with q | q
      · have := atE_before q hi
        omega
      · exact q
    have h2 : atE l e < l.length := by omega
    refine ⟨h2, ?_⟩
    rcases Nat.lt_or_ge (atE l e) i with q | q
    · have h3 := List.pairwise_iff_getElem.1 ho _ _ h2 hi q
      have h4 := atE_at h2
      have h5 := ahead_zero.1 hz
      exfalso
      apply h4
      have : ahead l[atE l e] l[i] = ahead l[atE l e] e := by unfold ahead; rw [h5.1, h5.2]
      omega
    · have e' : atE l e = i := by omega
      simp only [e']
      exact hz
  · rintro ⟨h, hz⟩
    exact List.any_eq_true.2 ⟨_, List.getElem_mem h, by simpa using hz⟩
theorem putE_ord {l : List EntV} {e : EntV} (ho : ordE l) (hh : hasE l e = false) : ordE (putE l e) := by
  unfold ordE putE
  have hn : ∀ x ∈ l, ahead x e ≠ 0 := fun x hx hz => by
    have : hasE l e = true := List.any_eq_true.2 ⟨x, hx, by simpa using hz⟩
    rw [hh] at this
    cases this
  have hsplit : l.take (atE l e) ++ l.drop (atE l e) = l := List.take_append_drop _ _
  have ho' : (l.take (atE l e) ++ l.drop (atE l e)).Pairwise fun a b => ahead a b < 0 := by rw [hsplit]; exact ho
  obtain ⟨h1, h2, h3⟩ := List.pairwise_append.1 ho'
  have hbe : ∀ a ∈ l.take (atE l e), ahead a e < 0 := fun a ha => by
    obtain ⟨i, hi, rfl⟩ := List.getElem_of_mem ha
    rw [List.length_take] at hi
    rw [List.getElem_take]
    exact atE_before (by omega) (by omega)
  have haf : ∀ b ∈ l.drop (atE l e), ahead e b < 0 := fun b hb => by
    obtain ⟨i, hi, rfl⟩ := List.getElem_of_mem hb
    rw [List.length_drop] at hi
    rw [List.getElem_drop]
    have hat : atE l e < l.length := by omega
    have h0 : ahead e l[atE l e] < 0 := by
      have a1 := atE_at hat
      have a2 := hn _ (List.getElem_mem hat)
      have a3 := ahead_neg l[atE l e] e
      omega
    rcases Nat.eq_zero_or_pos i with q | q
    · subst q
      simpa using h0
    · exact ahead_trans h0 (List.pairwise_iff_getElem.1 ho _ _ hat (by omega) (by omega))
  refine List.pairwise_append.2 ⟨h1, List.pairwise_cons.2 ⟨haf, h2⟩, fun a ha b hb => ?_⟩
  rcases List.mem_cons.1 hb with q | q
  · subst q; exact hbe a ha
  · exact h3 a ha b q
theorem addE_ord {l : List EntV} (ho : ordE l) (e : EntV) : ordE (addE l e).2 := by
  unfold addE
  split
  · exact ho
  · split
    · exact ho
    · rename_i h
      exact putE_ord ho (by simpa using h)
/-- All that a mem holds may be. -/
def okE (l : List EntV) : Prop := ∀ e ∈ l, mayE e = true
theorem addE_ok {l : List EntV} (h : okE l) (e : EntV) : okE (addE l e).2 := by
  unfold addE
  split
  · exact h
  · split
    · exact h
    · rename_i h1 h2
      intro x hx
      rcases List.mem_cons.1 ((putE_perm l e).mem_iff.1 hx) with q | q
      · subst q; simpa using h1
      · exact h x q
theorem addE_len (l : List EntV) (e : EntV) : (addE l e).2.length ≤ l.length + 1 := by
  unfold addE
  split
  · simp
  · split
    · simp
    · simp [putE_len]
/-- The entry of a key with the greatest number of at most seq. -/
def getE (l : List EntV) (key : List Int) (seq : Int) : Option EntV := l.find? fun e => decide (cmp e.key key = 0 ∧ e.seq ≤ seq)
def inE (fr ub : List Int) (e : EntV) : Bool := decide (0 ≤ cmp e.key fr ∧ (ub.length = 0 ∨ cmp e.key ub < 0))
def listE (l : List EntV) (fr ub : List Int) : List EntV := l.filter (inE fr ub)
/-- One more, if it is not newer than seq and the first of its key. -/
def seen1 (s : Int) (out : List EntV) (e : EntV) : List EntV := if e.seq ≤ s ∧ (out = [] ∨ ∃ x, out.getLast? = some x ∧ cmp x.key e.key ≠ 0) then out ++ [e] else out
def seenE (l : List EntV) (s : Int) : List EntV := l.foldl (seen1 s) []
def latestE (l : List EntV) (fr ub : List Int) (s : Int) : List EntV := (seenE (listE l fr ub) s).filter fun e => !e.gone
theorem listE_take {l : List EntV} {fr ub : List Int} {k : Nat} (h : k < l.length) : listE (l.take (k + 1)) fr ub = listE (l.take k) fr ub ++ (if inE fr ub l[k] then [l[k]] else []) := by
  unfold listE
  rw [List.take_add_one, List.getElem?_eq_getElem h, List.filter_append]
  simp only [Option.toList]
  congr 1
  by_cases q : inE fr ub l[k] = true
  · rw [if_pos q]; simp [q]
  · rw [if_neg q]; simp [q]
theorem seenE_take {l : List EntV} {s : Int} {k : Nat} (h : k < l.length) : seenE (l.take (k + 1)) s = seen1 s (seenE (l.take k) s) l[k] := by
  unfold seenE
  rw [List.take_add_one, List.getElem?_eq_getElem h, List.foldl_append]
  rfl
theorem seen1_len (s : Int) (out : List EntV) (e : EntV) : (seen1 s out e).length ≤ out.length + 1 := by
  unfold seen1
  split <;> simp
theorem seenE_len (l : List EntV) (s : Int) : (seenE l s).length ≤ l.length := by
  have : ∀ (l out : List EntV), (l.foldl (seen1 s) out).length ≤ out.length + l.length := fun l => by
    induction l with
    | nil => intro out; simp
    | cons x r ih =>
      intro out
      have h1 := ih (seen1 s out x)
      have h2 := seen1_len s out x
      rw [List.foldl_cons, List.length_cons]
      omega
  have := this l []
  simpa [seenE] using this
theorem listE_len (l : List EntV) (fr ub : List Int) : (listE l fr ub).length ≤ l.length := List.length_filter_le _ _
theorem latestE_len (l : List EntV) (fr ub : List Int) (s : Int) : (latestE l fr ub s).length ≤ l.length :=
  Nat.le_trans (List.length_filter_le _ _) (Nat.le_trans (seenE_len _ _) (listE_len _ _ _))
theorem listE_all (l : List EntV) : listE l [] [] = l := by
  unfold listE
  refine List.filter_eq_self.2 fun e _ => ?_
  unfold inE
  have := cmp_nil e.key
  simp [this]
theorem getE_take {l : List EntV} {key : List Int} {seq : Int} {k : Nat} (h : getE (l.take k) key seq = none) (hk : k < l.length) : getE (l.take (k + 1)) key seq = if cmp l[k].key key = 0 ∧ l[k].seq ≤ seq then some l[k] else none := by
  unfold getE at h ⊢
  rw [List.take_add_one, List.getElem?_eq_getElem hk, List.find?_append, h]
  simp only [Option.toList, Option.none_or, List.find?_cons, List.find?_nil]
  by_cases q : cmp l[k].key key = 0 ∧ l[k].seq ≤ seq
  · rw [if_pos q]; simp [q]
  · rw [if_neg q]
    have : decide (cmp l[k].key key = 0 ∧ l[k].seq ≤ seq) = false := by simpa using q
    rw [this]
theorem getE_some {l : List EntV} {key : List Int} {seq : Int} {k : Nat} (h : getE (l.take k) key seq = none) (hk : k < l.length) (h1 : cmp l[k].key key = 0) (h2 : l[k].seq ≤ seq) : getE l key seq = some l[k] := by
  have e := getE_take h hk
  rw [if_pos ⟨h1, h2⟩] at e
  unfold getE at e ⊢
  conv => lhs; rw [← List.take_append_drop (k + 1) l]
  rw [List.find?_append, e]
  rfl
end Go.Proofs.Ytnoackenjfpcmaa
