/- Words of the format double that stand for whole numbers: sums, differences, products, quarters and the order of such words are those of the whole numbers, as long as they stay below 2^53. -/
import Derived.Laws.ComplexArith
namespace Go.Proofs.Ytchnjoikjadciab
open Ieee

def sg (s : Bool) (n : Nat) : Int := if s then -(n : Int) else n

theorem sg_natAbs (s : Bool) (n : Nat) : (sg s n).natAbs = n := by cases s <;> simp [sg]
theorem sg_mul (s : Bool) (n m : Nat) : sg s (n * m) = sg s n * m := by cases s <;> simp [sg, Int.neg_mul]
theorem sg_xor (s t : Bool) (n m : Nat) : sg (s ^^ t) (n * m) = sg s n * sg t m := by cases s <;> cases t <;> simp [sg, Int.neg_mul, Int.mul_neg]
theorem sg_not (s : Bool) (n : Nat) : sg (!s) n = -sg s n := by cases s <;> simp [sg]
theorem sg_zero (s : Bool) : sg s 0 = 0 := by cases s <;> simp [sg]

/-- The datum d is the whole number n. -/
def Val (d : Datum) (n : Int) : Prop :=
  ∃ (s : Bool) (m : Nat) (e : Int) (k N : Nat), d = .number s m e ∧ 0 ≤ e + k ∧ m * 2 ^ (e + k).toNat = N * 2 ^ k ∧ n = sg s N

/-- The word b of a double stands for the whole number n. -/
def Whole (b : Nat) (n : Int) : Prop := Val (double.read b) n

theorem signed_eq (s : Bool) (m u : Nat) : signed s m u = sg s (m * 2 ^ u) := by
  unfold signed sg; rw [Nat.shiftLeft_eq]

theorem Val.lift {d : Datum} {n : Int} (h : Val d n) (j : Nat) :
    ∃ (s : Bool) (m : Nat) (e : Int) (k N : Nat), d = .number s m e ∧ j ≤ k ∧ 0 ≤ e + k ∧ m * 2 ^ (e + k).toNat = N * 2 ^ k ∧ n = sg s N := by
  obtain ⟨s, m, e, k, N, hd, h0, h1, h2⟩ := h
  refine ⟨s, m, e, k + j, N, hd, by omega, by omega, ?_, h2⟩
  have : (e + ((k + j : Nat) : Int)).toNat = (e + k).toNat + j := by omega
  rw [this, Nat.pow_add, Nat.pow_add, ← Nat.mul_assoc, h1, Nat.mul_assoc]

theorem log2_mul_pow (m u : Nat) (hm : m ≠ 0) : (m * 2 ^ u).log2 = m.log2 + u := by
  have hp := Nat.two_pow_pos u
  have hne : m * 2 ^ u ≠ 0 := Nat.mul_ne_zero hm (by omega)
  rw [Nat.log2_eq_iff hne]
  have h1 := Nat.log2_self_le hm
  have h2 := @Nat.lt_log2_self m
  constructor
  · rw [Nat.pow_add]; exact Nat.mul_le_mul_right _ h1
  · rw [show m.log2 + u + 1 = (m.log2 + 1) + u by omega, Nat.pow_add]; exact (Nat.mul_lt_mul_right hp).2 h2

theorem cut_zero (s : Bool) (n : Nat) : Toward.even.cut s n 0 = n := by
  simp [Toward.cut, Nat.mod_one]

theorem cut_mul (s : Bool) (n d : Nat) (hd : d ≤ (n * 2 ^ d).log2 + 2) : Toward.even.cut s (n * 2 ^ d) d = n := by
  have hp := Nat.two_pow_pos d
  unfold Toward.cut
  simp only
  rw [Nat.min_eq_left hd, Nat.shiftLeft_eq, Nat.one_mul, Nat.mul_mod_left, Nat.mul_div_cancel _ hp]
  simp

theorem read_word (w : Nat) : double.read w =
    if w % 2 ^ 63 < 2 ^ 52 then .number (w / 2 ^ 63 % 2 == 1) (w % 2 ^ 63) (-1074)
    else if w % 2 ^ 63 < 2047 * 2 ^ 52 then .number (w / 2 ^ 63 % 2 == 1) (2 ^ 52 + w % 2 ^ 63 % 2 ^ 52) (-1074 + (w % 2 ^ 63 / 2 ^ 52 - 1 : Nat))
    else if w % 2 ^ 63 = 2047 * 2 ^ 52 then .infinity (w / 2 ^ 63 % 2 == 1)
    else .nan (w / 2 ^ 63 % 2 == 1) (w % 2 ^ 63 - 2047 * 2 ^ 52) := by
  have hb : double.binade = 2 ^ 52 := by decide +kernel
  have hi : double.infRung = 2047 * 2 ^ 52 := by decide +kernel
  have hs : double.signWeight = 2 ^ 63 := by decide +kernel
  have hlp : double.leastPlace = -1074 := by decide +kernel
  unfold Format.read
  rw [hb, hi, hs, hlp]

theorem val_zero (s : Bool) : Val (.number s 0 (-1074)) (sg s 0) := by
  obtain ⟨k, hk⟩ : ∃ k : Nat, k = 1074 := ⟨_, rfl⟩
  exact ⟨s, 0, -1074, k, 0, rfl, by omega, (Nat.zero_mul _).trans (Nat.zero_mul _).symm, rfl⟩

/-- What the nearest word of a whole number below 2^53 reads as. -/
theorem read_nearest (s : Bool) (m : Nat) (e : Int) (k N : Nat) (h0 : 0 ≤ e + k) (h1 : m * 2 ^ (e + k).toNat = N * 2 ^ k) (hN : N < 2 ^ 53) (hk : 52 ≤ k) :
    Val (double.read (double.nearest s m e)) (sg s N) := by
  by_cases hm : m = 0
  · subst hm
    have hN0 : N = 0 := by
      have hp := Nat.two_pow_pos k
      rw [Nat.zero_mul] at h1
      rcases Nat.mul_eq_zero.1 h1.symm with h | h
      · exact h
      · omega
    subst hN0
    cases s
    · rw [show double.read (double.nearest false 0 e) = .number false 0 (-1074) by unfold Format.nearest; rw [if_pos rfl]; decide +kernel]; exact val_zero _
    · rw [show double.read (double.nearest true 0 e) = .number true 0 (-1074) by unfold Format.nearest; rw [if_pos rfl]; decide +kernel]; exact val_zero _
  · have hp := Nat.two_pow_pos (e + k).toNat
    have hNn : N ≠ 0 := by
      intro h; subst h
      rw [Nat.zero_mul] at h1
      rcases Nat.mul_eq_zero.1 h1 with h | h <;> omega
    have hl : m.log2 + (e + k).toNat = N.log2 + k := by
      rw [← log2_mul_pow _ _ hm, ← log2_mul_pow _ _ hNn, h1]
    have hlN : N.log2 < 53 := (Nat.log2_lt hNn).2 hN
    have hlast : max (e + (m.log2 : Int) - (52 : Nat)) (-1074) = (N.log2 : Int) - 52 := by omega
    obtain ⟨p, hpdef⟩ : ∃ p, p = 52 - N.log2 := ⟨_, rfl⟩
    have hkept : Toward.even.cut s (m <<< (e - ((N.log2 : Int) - 52)).toNat) (((N.log2 : Int) - 52) - e).toNat = N * 2 ^ p := by
      by_cases hc : (N.log2 : Int) - 52 ≤ e
      · rw [show (((N.log2 : Int) - 52) - e).toNat = 0 by omega, cut_zero, Nat.shiftLeft_eq]
        have e1 : (e + k).toNat = (e - ((N.log2 : Int) - 52)).toNat + (k - p) := by omega
        have e2 : k = p + (k - p) := by omega
        rw [e1, Nat.pow_add, ← Nat.mul_assoc] at h1
        rw [e2, Nat.pow_add, ← Nat.mul_assoc] at h1
        rw [show p + (k - p) - p = k - p by omega] at h1
        exact Nat.eq_of_mul_eq_mul_right (Nat.two_pow_pos _) h1
      · have e0 : (e - ((N.log2 : Int) - 52)).toNat = 0 := by omega
        rw [e0, Nat.shiftLeft_zero]
        obtain ⟨d, hd⟩ : ∃ d, d = (((N.log2 : Int) - 52) - e).toNat := ⟨_, rfl⟩
        have e2 : k = p + (d + (e + k).toNat) := by omega
        have hm2 : m = N * 2 ^ p * 2 ^ d := by
          rw [e2, Nat.pow_add, Nat.pow_add, ← Nat.mul_assoc, ← Nat.mul_assoc] at h1
          rw [show (e + ((p + (d + (e + k).toNat) : Nat) : Int)).toNat = (e + k).toNat by omega] at h1
          exact Nat.eq_of_mul_eq_mul_right (Nat.two_pow_pos _) h1
        rw [← hd, hm2]
        have hne : N * 2 ^ p ≠ 0 := Nat.mul_ne_zero hNn (by have := Nat.two_pow_pos p; omega)
        exact cut_mul s _ d (by rw [log2_mul_pow _ _ hne]; omega)
    have hlo : 2 ^ 52 ≤ N * 2 ^ p := by
      have h := Nat.log2_self_le hNn
      have e3 : 52 = N.log2 + p := by omega
      rw [show (2 : Nat) ^ 52 = 2 ^ N.log2 * 2 ^ p by rw [← Nat.pow_add, ← e3]]
      exact Nat.mul_le_mul_right _ h
    have hhi : N * 2 ^ p < 2 ^ 53 := by
      have h := @Nat.lt_log2_self N
      have e3 : 53 = (N.log2 + 1) + p := by omega
      rw [show (2 : Nat) ^ 53 = 2 ^ (N.log2 + 1) * 2 ^ p by rw [← Nat.pow_add, ← e3]]
      exact (Nat.mul_lt_mul_right (Nat.two_pow_pos p)).2 h
    have hnear : double.nearest s m e = double.word s ((1074 - p) * 2 ^ 52 + N * 2 ^ p) := by
      unfold Format.nearest
      rw [if_neg hm]
      have hlast' : max (e + (m.log2 : Int) - (double.fractionBits : Nat)) double.leastPlace = (N.log2 : Int) - 52 := hlast
      simp only
      rw [hlast', hkept]
      have e5 : ((N.log2 : Int) - 52 - double.leastPlace).toNat = 1074 - p := by
        show ((N.log2 : Int) - 52 - (-1074)).toNat = 1074 - p
        omega
      rw [e5]
      show double.word s (min ((1074 - p) * 2 ^ 52 + N * 2 ^ p) (2047 * 2 ^ 52)) = _
      rw [Nat.min_eq_left (by omega)]
    rw [hnear]
    refine ⟨s, N * 2 ^ p, -(p : Int), p, N, ?_, by omega, by rw [show (-(p : Int) + p).toNat = 0 by omega]; simp, rfl⟩
    obtain ⟨K, hK⟩ : ∃ K, K = N * 2 ^ p := ⟨_, rfl⟩
    rw [← hK] at hlo hhi ⊢
    have hw : double.word s ((1074 - p) * 2 ^ 52 + K) = (if s then 2 ^ 63 else 0) + ((1074 - p) * 2 ^ 52 + K) := by
      cases s
      · simp [Format.word]
      · rfl
    rw [hw]
    rw [read_word]
    have q1 : ((if s then 2 ^ 63 else 0) + ((1074 - p) * 2 ^ 52 + K)) % 2 ^ 63 = (1074 - p) * 2 ^ 52 + K := by cases s <;> simp <;> omega
    have q2 : ((((if s then 2 ^ 63 else 0) + ((1074 - p) * 2 ^ 52 + K)) / 2 ^ 63 % 2 == 1) : Bool) = s := by cases s <;> simp <;> omega
    rw [q1, q2, if_neg (by omega), if_pos (by omega)]
    have q3 : ((1074 - p) * 2 ^ 52 + K) % 2 ^ 52 = K - 2 ^ 52 := by omega
    have q4 : ((1074 - p) * 2 ^ 52 + K) / 2 ^ 52 = 1075 - p := by omega
    have q5 : 2 ^ 52 + (K - 2 ^ 52) = K := by omega
    have q6 : (-1074 : Int) + ((1075 - p - 1 : Nat) : Int) = -(p : Int) := by omega
    rw [q3, q4, q5, q6]

theorem whole_write {d : Datum} {n : Int} (h : Val d n) (hb : n.natAbs < 2 ^ 53) : Whole (double.write d) n := by
  obtain ⟨s, m, e, k, N, rfl, hk, h0, h1, h2⟩ := h.lift 52
  subst h2
  rw [sg_natAbs] at hb
  exact read_nearest s m e k N h0 h1 hb hk

theorem val_number (n : Int) : Val (.number (n < 0) n.natAbs 0) n := by
  refine ⟨_, _, _, 0, n.natAbs, rfl, by simp, by simp, ?_⟩
  unfold sg
  by_cases h : n < 0 <;> simp [h] <;> omega

theorem whole_int (n : Int) (hb : n.natAbs < 2 ^ 53) : Whole (floatOfInt .f64 n) n := whole_write (val_number n) hb

theorem val_neg {d : Datum} {n : Int} (h : Val d n) : Val d.opposite (-n) := by
  obtain ⟨s, m, e, k, N, rfl, h0, h1, h2⟩ := h
  exact ⟨!s, m, e, k, N, rfl, h0, h1, by rw [sg_not, h2]⟩

theorem val_mul {d f : Datum} {a b : Int} (h : Val d a) (g : Val f b) : ∃ r, d.product f = some r ∧ Val r (a * b) := by
  obtain ⟨s, m, e, k, N, rfl, h0, h1, h2⟩ := h
  obtain ⟨t, m', e', k', N', rfl, h0', h1', h2'⟩ := g
  refine ⟨_, rfl, s ^^ t, m * m', e + e', k + k', N * N', rfl, by omega, ?_, by rw [sg_xor, h2, h2']⟩
  have q : (e + e' + ((k + k' : Nat) : Int)).toNat = (e + k).toNat + (e' + k').toNat := by omega
  rw [q, Nat.pow_add, Nat.pow_add]
  calc m * m' * (2 ^ (e + ↑k).toNat * 2 ^ (e' + ↑k').toNat) = (m * 2 ^ (e + ↑k).toNat) * (m' * 2 ^ (e' + ↑k').toNat) := by
        simp only [Nat.mul_assoc, Nat.mul_left_comm]
    _ = N * 2 ^ k * (N' * 2 ^ k') := by rw [h1, h1']
    _ = N * N' * (2 ^ k * 2 ^ k') := by simp only [Nat.mul_assoc, Nat.mul_left_comm]

/-- Two whole data over one base. -/
theorem val_two {d f : Datum} {a b : Int} (h : Val d a) (g : Val f b) :
    ∃ (s t : Bool) (m n : Nat) (i j : Int) (c u : Nat), d = .number s m i ∧ f = .number t n j ∧
      signed s m (i - min i j).toNat * (2 ^ c : Nat) = a * (2 ^ u : Nat) ∧ signed t n (j - min i j).toNat * (2 ^ c : Nat) = b * (2 ^ u : Nat) ∧ (min i j + (u : Int)) = c := by
  obtain ⟨s, m, i, k, N, rfl, h0, h1, h2⟩ := h
  obtain ⟨t, n, j, k', N', rfl, h0', h1', h2'⟩ := g
  obtain ⟨u, hu⟩ : ∃ u, u = max k k' := ⟨_, rfl⟩
  obtain ⟨c, hc⟩ : ∃ c, c = (min i j + (u : Int)).toNat := ⟨_, rfl⟩
  refine ⟨s, t, m, n, i, j, c, u, rfl, rfl, ?_, ?_, by omega⟩
  · rw [signed_eq, ← sg_mul, h2, ← sg_mul]
    congr 1
    rw [Nat.mul_assoc, ← Nat.pow_add]
    have q : (i - min i j).toNat + c = (i + k).toNat + (u - k) := by omega
    rw [q, Nat.pow_add, ← Nat.mul_assoc, h1, Nat.mul_assoc, ← Nat.pow_add]
    congr 2; omega
  · rw [signed_eq, ← sg_mul, h2', ← sg_mul]
    congr 1
    rw [Nat.mul_assoc, ← Nat.pow_add]
    have q : (j - min i j).toNat + c = (j + k').toNat + (u - k') := by omega
    rw [q, Nat.pow_add, ← Nat.mul_assoc, h1', Nat.mul_assoc, ← Nat.pow_add]
    congr 2; omega

theorem val_add {d f : Datum} {a b : Int} (h : Val d a) (g : Val f b) : ∃ r, d.sum f = some r ∧ Val r (a + b) := by
  obtain ⟨s, t, m, n, i, j, c, u, rfl, rfl, e1, e2, hc⟩ := val_two h g
  have hpc : (0 : Int) < (2 ^ c : Nat) := by have := Nat.two_pow_pos c; omega
  have hpu : (0 : Int) < (2 ^ u : Nat) := by have := Nat.two_pow_pos u; omega
  refine ⟨_, rfl, _, _, _, u, (a + b).natAbs, rfl, by omega, ?_, ?_⟩
  · rw [show (min i j + (u : Int)).toNat = c by omega]
    have e3 : (signed s m (i - min i j).toNat + signed t n (j - min i j).toNat) * (2 ^ c : Nat) = (a + b) * (2 ^ u : Nat) := by
      rw [Int.add_mul, Int.add_mul, e1, e2]
    have e4 := congrArg Int.natAbs e3
    rw [Int.natAbs_mul, Int.natAbs_mul, Int.natAbs_natCast, Int.natAbs_natCast] at e4
    exact e4
  · have e3 : (signed s m (i - min i j).toNat + signed t n (j - min i j).toNat) * (2 ^ c : Nat) = (a + b) * (2 ^ u : Nat) := by
      rw [Int.add_mul, Int.add_mul, e1, e2]
    generalize signed s m (i - min i j).toNat + signed t n (j - min i j).toNat = T at e3
    generalize (2 ^ c : Nat) = C at *
    generalize (2 ^ u : Nat) = U at *
    by_cases hT : T = 0
    · subst hT
      have : a + b = 0 := by
        rw [Int.zero_mul] at e3
        rcases Int.mul_eq_zero.1 e3.symm with h | h <;> omega
      rw [this]; simp [sg_zero]
    · rw [if_neg hT]
      by_cases hn : T < 0
      · have : a + b < 0 := by
          have h3 : T * (C : Int) < 0 := Int.mul_neg_of_neg_of_pos hn hpc
          rw [e3] at h3
          exact Int.lt_of_not_ge fun hge => absurd h3 (Int.not_lt.2 (Int.mul_nonneg hge (by omega)))
        simp [sg, hn]; omega
      · have : 0 ≤ a + b := by
          have h3 : 0 ≤ T * (C : Int) := Int.mul_nonneg (by omega) (by omega)
          rw [e3] at h3
          exact Int.le_of_not_gt fun hlt => absurd h3 (Int.not_le.2 (Int.mul_neg_of_neg_of_pos hlt hpu))
        simp [sg, hn]; omega

theorem val_eq {d f : Datum} {a b : Int} (h : Val d a) (g : Val f b) : (d.order f == some .eq) = decide (a = b) := by
  obtain ⟨s, t, m, n, i, j, c, u, rfl, rfl, e1, e2, hc⟩ := val_two h g
  have hpc : (0 : Int) < (2 ^ c : Nat) := by have := Nat.two_pow_pos c; omega
  have hpu : (0 : Int) < (2 ^ u : Nat) := by have := Nat.two_pow_pos u; omega
  simp only [Datum.order]
  generalize signed s m (i - min i j).toNat = X at *
  generalize signed t n (j - min i j).toNat = Y at *
  have hXY : X = Y ↔ a = b := by
    constructor
    · intro h; subst h; rw [e1] at e2
      exact Int.eq_of_mul_eq_mul_right (by omega) e2
    · intro h; subst h; rw [← e2] at e1
      exact Int.eq_of_mul_eq_mul_right (by omega) e1
  rw [Bool.eq_iff_iff]
  simp [hXY]

theorem whole_add {x y : Nat} {a b : Int} (h : Whole x a) (g : Whole y b) (hb : (a + b).natAbs < 2 ^ 53) : ∃ r, floatBits .add .f64 x y = some r ∧ Whole r (a + b) := by
  obtain ⟨r, e, v⟩ := val_add h g
  exact ⟨double.write r, by show Option.map double.write ((double.read x).sum (double.read y)) = _; rw [e]; rfl, whole_write v hb⟩

theorem whole_sub {x y : Nat} {a b : Int} (h : Whole x a) (g : Whole y b) (hb : (a - b).natAbs < 2 ^ 53) : ∃ r, floatBits .sub .f64 x y = some r ∧ Whole r (a - b) := by
  obtain ⟨r, e, v⟩ := val_add h (val_neg g)
  exact ⟨double.write r, by show Option.map double.write ((double.read x).sum (double.read y).opposite) = _; rw [e]; rfl, whole_write v hb⟩

theorem whole_mul {x y : Nat} {a b : Int} (h : Whole x a) (g : Whole y b) (hb : (a * b).natAbs < 2 ^ 53) : ∃ r, floatBits .mul .f64 x y = some r ∧ Whole r (a * b) := by
  obtain ⟨r, e, v⟩ := val_mul h g
  exact ⟨double.write r, by show Option.map double.write ((double.read x).product (double.read y)) = _; rw [e]; rfl, whole_write v hb⟩

theorem whole_eq {x y : Nat} {a b : Int} (h : Whole x a) (g : Whole y b) : (double.order x y == some .eq) = decide (a = b) := val_eq h g

theorem read_lt {b : Nat} {s : Bool} {m : Nat} {e : Int} (h : double.read b = .number s m e) : m < 2 ^ 53 := by
  have hb : double.binade = 2 ^ 52 := rfl
  unfold Format.read at h
  simp only [hb] at h
  split at h
  · cases h; omega
  · split at h
    · cases h; omega
    · split at h <;> cases h

/-- A quarter of a whole number that four divides. -/
theorem whole_quarter {x : Nat} {n : Int} (h : Whole x (4 * n)) (hb : n.natAbs < 2 ^ 53) : ∃ r, floatBits .quo .f64 x 4616189618054758400 = some r ∧ Whole r n := by
  obtain ⟨s, m, e, k, N, hr, hk, h0, h1, h2⟩ := h.lift 2
  have hm := read_lt hr
  have h4 : double.read 4616189618054758400 = .number false (2 ^ 52) (-50) := by decide +kernel
  have hq : (Datum.number s m e).quotient (double.fractionBits + 2) (.number false (2 ^ 52) (-50)) = some (.number s (2 * (m * 2 ^ (54 - m.log2))) (e + 50 - (54 + 52 - m.log2 : Nat) - 1)) := by
    have hl : m.log2 ≤ 54 := by
      by_cases h : m = 0
      · subst h; decide
      · have := (Nat.log2_lt h).2 hm; omega
    have e1 : double.fractionBits + 2 = 54 := rfl
    have e2 : (2 ^ 52 : Nat).log2 = 52 := Nat.log2_two_pow
    have e3 : m <<< (54 + 52 - m.log2) = m * 2 ^ (54 - m.log2) * 2 ^ 52 := by
      rw [Nat.shiftLeft_eq, Nat.mul_assoc, ← Nat.pow_add]; congr 2; omega
    simp only [Datum.quotient]
    rw [if_neg (by decide), e1, e2, e3, Nat.mul_mod_left, Nat.mul_div_cancel _ (Nat.two_pow_pos 52)]
    simp
  have hl : m.log2 ≤ 54 := by
    by_cases h : m = 0
    · subst h; decide
    · have := (Nat.log2_lt h).2 hm; omega
  have hN : ∃ M, N = 4 * M ∧ n = sg s M := by
    cases s
    · simp only [sg] at h2; exact ⟨N / 4, by simp at h2; omega, by simp at h2; simp [sg]; omega⟩
    · simp only [sg] at h2; exact ⟨N / 4, by simp at h2; omega, by simp at h2; simp [sg]; omega⟩
  obtain ⟨M, hM, hn⟩ := hN
  have v : Val (.number s (2 * (m * 2 ^ (54 - m.log2))) (e + 50 - (54 + 52 - m.log2 : Nat) - 1)) n := by
    refine ⟨s, _, _, k + 57, M, rfl, by omega, ?_, hn⟩
    have q : (e + 50 - ((54 + 52 - m.log2 : Nat) : Int) - 1 + ((k + 57 : Nat) : Int)).toNat = (e + k).toNat + m.log2 := by omega
    rw [q, Nat.pow_add, Nat.pow_add]
    have q2 : 2 * (m * 2 ^ (54 - m.log2)) * (2 ^ (e + k).toNat * 2 ^ m.log2) = 2 * (m * 2 ^ (e + k).toNat) * (2 ^ (54 - m.log2) * 2 ^ m.log2) := by
      simp only [Nat.mul_assoc, Nat.mul_left_comm, Nat.mul_comm]
    rw [q2, h1, ← Nat.pow_add, show 54 - m.log2 + m.log2 = 54 by omega, hM, show (2 : Nat) ^ 57 = 8 * 2 ^ 54 by decide]
    generalize (2 : Nat) ^ 54 = B
    generalize (2 : Nat) ^ k = A
    grind
  exact ⟨double.write _, by show Option.map double.write (Datum.quotient (double.fractionBits + 2) (double.read x) (double.read 4616189618054758400)) = _; rw [hr, h4, hq]; rfl, whole_write v hb⟩
end Go.Proofs.Ytchnjoikjadciab
