/- The whole numbers behind turnedSums: partial sums, their bounds, and one step of the sum on words of whole numbers. -/
import Derived.Test.YtchnjoikjadciabFloat
namespace Go.Proofs.Ytchnjoikjadciab

def tre (k : Int) : Nat := if k = 0 then 4607182418800017408 else if k = 2 then 13830554455654793216 else 0
def tim (k : Int) : Nat := if k = 1 then 4607182418800017408 else if k = 3 then 13830554455654793216 else 0
def rre (k : Int) : Int := if k = 0 then 1 else if k = 2 then -1 else 0
def rim (k : Int) : Int := if k = 1 then 1 else if k = 3 then -1 else 0

theorem val_of_read {b : Nat} {n : Int} (s : Bool) (m : Nat) (e : Int) (k N : Nat) (hr : Ieee.double.read b = .number s m e) (h0 : 0 ≤ e + k) (h1 : m * 2 ^ (e + k).toNat = N * 2 ^ k) (h2 : n = sg s N) : Whole b n :=
  ⟨s, m, e, k, N, hr, h0, h1, h2⟩
theorem whole_zero : Whole 0 0 := by
  show Val (Ieee.double.read 0) 0
  rw [show Ieee.double.read 0 = .number false 0 (-1074) by decide +kernel]; exact val_zero false
theorem whole_one : Whole 4607182418800017408 1 := val_of_read false (2 ^ 52) (-52) 52 1 (by decide +kernel) (by decide) (by decide) (by decide)
theorem whole_minus : Whole 13830554455654793216 (-1) := val_of_read true (2 ^ 52) (-52) 52 1 (by decide +kernel) (by decide) (by decide) (by decide)

theorem whole_tre (t : Int) : Whole (tre t) (rre t) := by
  unfold tre rre
  by_cases h0 : t = 0
  · simp only [h0, if_true]; exact whole_one
  · by_cases h2 : t = 2
    · simp only [h2]; exact whole_minus
    · simp only [h0, h2, if_false]; exact whole_zero
theorem whole_tim (t : Int) : Whole (tim t) (rim t) := by
  unfold tim rim
  by_cases h0 : t = 1
  · simp only [h0, if_true]; exact whole_one
  · by_cases h2 : t = 3
    · simp only [h2]; exact whole_minus
    · simp only [h0, h2, if_false]; exact whole_zero

theorem same {x y : Nat} {a : Int} (h : Whole x a) (g : Whole y a) : (FloatKind.f64.format.order x y == some .eq) = true := (whole_eq h g).trans (decide_eq_true rfl)

/-- The parts of (p + iq) times the unit to the power t. -/
def mre (p q t : Int) : Int := p * rre t - q * rim t
def mim (p q t : Int) : Int := p * rim t + q * rre t

theorem rre_cases (t : Int) : rre t = 0 ∨ rre t = 1 ∨ rre t = -1 := by unfold rre; split; simp; split <;> simp
theorem rim_cases (t : Int) : rim t = 0 ∨ rim t = 1 ∨ rim t = -1 := by unfold rim; split; simp; split <;> simp

def Sre (p q : Nat → Int) (way : Int) (k : Nat) : Nat → Int
  | 0 => 0
  | j + 1 => Sre p q way k j + mre (p j) (q j) (way * j * k % 4)
def Sim (p q : Nat → Int) (way : Int) (k : Nat) : Nat → Int
  | 0 => 0
  | j + 1 => Sim p q way k j + mim (p j) (q j) (way * j * k % 4)

def Small (B : Int) (n : Int) : Prop := -B ≤ n ∧ n ≤ B

theorem mre_small {B p q : Int} (t : Int) (hp : Small B p) (hq : Small B q) : Small (2 * B) (mre p q t) := by
  unfold Small mre at *
  rcases rre_cases t with h | h | h <;> rcases rim_cases t with g | g | g <;> rw [h, g] <;> omega
theorem mim_small {B p q : Int} (t : Int) (hp : Small B p) (hq : Small B q) : Small (2 * B) (mim p q t) := by
  unfold Small mim at *
  rcases rre_cases t with h | h | h <;> rcases rim_cases t with g | g | g <;> rw [h, g] <;> omega

theorem S_small {B : Int} (p q : Nat → Int) (way : Int) (k : Nat) (hp : ∀ j, j < 4 → Small B (p j)) (hq : ∀ j, j < 4 → Small B (q j)) (hB : 0 ≤ B) :
    ∀ j, j ≤ 4 → Small (8 * B) (Sre p q way k j) ∧ Small (8 * B) (Sim p q way k j) := by
  have key : ∀ j : Nat, j ≤ 4 → Small (2 * (j * B)) (Sre p q way k j) ∧ Small (2 * (j * B)) (Sim p q way k j) := by
    intro j
    induction j with
    | zero => intro _; simp [Sre, Sim, Small]
    | succ j ih =>
      intro hj
      have i := ih (by omega)
      have a := mre_small (way * j * k % 4) (hp j (by omega)) (hq j (by omega))
      have b := mim_small (way * j * k % 4) (hp j (by omega)) (hq j (by omega))
      simp only [Small, Sre, Sim] at *
      have e : ((j + 1 : Nat) : Int) * B = j * B + B := by rw [Int.natCast_add, Int.add_mul]; simp
      rw [e]
      omega
  intro j hj
  have h := key j hj
  have : (j : Int) * B ≤ 4 * B := Int.mul_le_mul_of_nonneg_right (by omega) hB
  simp only [Small] at *
  omega

/-- One product with a unit: (p + iq) * (u + iv), the unit's parts 0, 1 or -1. -/
theorem unit_mul {a b c d : Nat} {p q u v : Int} (ha : Whole a p) (hb : Whole b q) (hc : Whole c u) (hd : Whole d v) (hp : Small (2 ^ 50) p) (hq : Small (2 ^ 50) q)
    (hu : u = 0 ∨ u = 1 ∨ u = -1) (hv : v = 0 ∨ v = 1 ∨ v = -1) : ∃ r i, cMulBits a b c d = some (r, i) ∧ Whole r (p * u - q * v) ∧ Whole i (p * v + q * u) := by
  unfold Small at hp hq
  obtain ⟨ac, e1, w1⟩ := whole_mul ha hc (by rcases hu with h | h | h <;> rw [h] <;> omega)
  obtain ⟨bd, e2, w2⟩ := whole_mul hb hd (by rcases hv with h | h | h <;> rw [h] <;> omega)
  obtain ⟨ad, e3, w3⟩ := whole_mul ha hd (by rcases hv with h | h | h <;> rw [h] <;> omega)
  obtain ⟨bc, e4, w4⟩ := whole_mul hb hc (by rcases hu with h | h | h <;> rw [h] <;> omega)
  obtain ⟨r, e5, w5⟩ := whole_sub w1 w2 (by rcases hu with h | h | h <;> rcases hv with g | g | g <;> rw [h, g] <;> omega)
  obtain ⟨i, e6, w6⟩ := whole_add w3 w4 (by rcases hu with h | h | h <;> rcases hv with g | g | g <;> rw [h, g] <;> omega)
  exact ⟨r, i, by simp [cMulBits, e1, e2, e3, e4, e5, e6], w5, w6⟩

theorem c_add {a b c d : Nat} {p q u v : Int} (ha : Whole a p) (hb : Whole b q) (hc : Whole c u) (hd : Whole d v) (hp : Small (2 ^ 52) p) (hq : Small (2 ^ 52) q) (hu : Small (2 ^ 51) u) (hv : Small (2 ^ 51) v) :
    ∃ r i, cSumBits .add .f64 a b c d = some (r, i) ∧ Whole r (p + u) ∧ Whole i (q + v) := by
  unfold Small at *
  obtain ⟨r, e1, w1⟩ := whole_add ha hc (by omega)
  obtain ⟨i, e2, w2⟩ := whole_add hb hd (by omega)
  exact ⟨r, i, by simp [cSumBits, e1, e2], w1, w2⟩

theorem step {a b cr ci : Nat} {p q P Q : Int} (t : Int) (ha : Whole a p) (hb : Whole b q) (hr : Whole cr P) (hi : Whole ci Q) (hp : Small (2 ^ 40) p) (hq : Small (2 ^ 40) q) (hP : Small (8 * 2 ^ 40) P) (hQ : Small (8 * 2 ^ 40) Q) :
    ∃ mr mi r i, cMulBits a b (tre t) (tim t) = some (mr, mi) ∧ cSumBits .add .f64 cr ci mr mi = some (r, i) ∧ Whole r (P + mre p q t) ∧ Whole i (Q + mim p q t) := by
  have s1 := mre_small t hp hq
  have s2 := mim_small t hp hq
  have hp' : Small (2 ^ 50) p := by unfold Small at *; omega
  have hq' : Small (2 ^ 50) q := by unfold Small at *; omega
  obtain ⟨mr, mi, e1, w1, w2⟩ := unit_mul ha hb (whole_tre t) (whole_tim t) hp' hq' (rre_cases t) (rim_cases t)
  obtain ⟨r, i, e2, w3, w4⟩ := c_add hr hi w1 w2 (by unfold Small at *; omega) (by unfold Small at *; omega) (by unfold Small mre at *; omega) (by unfold Small mim at *; omega)
  exact ⟨mr, mi, r, i, e1, e2, w3, w4⟩

/-- How many terms the sum at place t has when the inner loop stands at term j of place k. -/
def dn (k j t : Nat) : Nat := if t < k then 4 else if t = k then j else 0

theorem dn_next (k t : Nat) : dn (k + 1) 0 t = dn k 4 t := by
  unfold dn
  by_cases h1 : t < k
  · rw [if_pos h1, if_pos (by omega)]
  · by_cases h2 : t = k
    · rw [if_neg h1, if_pos h2, if_pos (by omega)]
    · rw [if_neg h1, if_neg h2, if_neg (by omega)]; split <;> rfl

/-- One step of the sum, on words: c plus (a + ib) times the unit to the power t. -/
def stepB (a b : Nat) (t : Int) (c : Nat × Nat) : Nat × Nat :=
  ((cMulBits a b (tre t) (tim t)).bind fun m => cSumBits .add .f64 c.1 c.2 m.1 m.2).getD (0, 0)

/-- The sum at place k of the first j turned terms, on words. -/
def SB (a b : Nat → Nat) (way : Int) (k : Nat) : Nat → Nat × Nat
  | 0 => (0, 0)
  | j + 1 => stepB (a j) (b j) (way * j * k % 4) (SB a b way k j)

theorem SB_whole {a b : Nat → Nat} {p q : Nat → Int} (way : Int) (k : Nat) (ha : ∀ j, j < 4 → Whole (a j) (p j)) (hb : ∀ j, j < 4 → Whole (b j) (q j)) (hp : ∀ j, j < 4 → Small (2 ^ 40) (p j)) (hq : ∀ j, j < 4 → Small (2 ^ 40) (q j)) :
    ∀ j, j ≤ 4 → Whole (SB a b way k j).1 (Sre p q way k j) ∧ Whole (SB a b way k j).2 (Sim p q way k j) := by
  intro j
  induction j with
  | zero => intro _; exact ⟨whole_zero, whole_zero⟩
  | succ j ih =>
    intro hj
    have i := ih (by omega)
    have s := S_small p q way k hp hq (by decide) j (by omega)
    obtain ⟨mr, mi, r, i', e1, e2, w1, w2⟩ := step (way * j * k % 4) (ha j (by omega)) (hb j (by omega)) i.1 i.2 (hp j (by omega)) (hq j (by omega)) s.1 s.2
    have e : SB a b way k (j + 1) = (r, i') := by simp [SB, stepB, e1, e2]
    rw [e, Sre, Sim]
    exact ⟨w1, w2⟩

/-- What one round of the inner loop computes. -/
theorem SB_step {a b : Nat → Nat} {p q : Nat → Int} (way : Int) (k j : Nat) (hj : j < 4) (ha : ∀ j, j < 4 → Whole (a j) (p j)) (hb : ∀ j, j < 4 → Whole (b j) (q j)) (hp : ∀ j, j < 4 → Small (2 ^ 40) (p j)) (hq : ∀ j, j < 4 → Small (2 ^ 40) (q j)) :
    ∃ mr mi, cMulBits (a j) (b j) (tre (way * j * k % 4)) (tim (way * j * k % 4)) = some (mr, mi) ∧ cSumBits .add .f64 (SB a b way k j).1 (SB a b way k j).2 mr mi = some ((SB a b way k (j + 1)).1, (SB a b way k (j + 1)).2) := by
  have i := SB_whole way k ha hb hp hq j (by omega)
  have s := S_small p q way k hp hq (by decide) j (by omega)
  obtain ⟨mr, mi, r, i', e1, e2, w1, w2⟩ := step (way * j * k % 4) (ha j (by omega)) (hb j (by omega)) i.1 i.2 (hp j (by omega)) (hq j (by omega)) s.1 s.2
  have e : SB a b way k (j + 1) = (r, i') := by simp [SB, stepB, e1, e2]
  exact ⟨mr, mi, e1, by rw [e]; exact e2⟩

theorem SB_upd (f : Nat × Nat → Nat) (a b : Nat → Nat) (way : Int) (k j : Nat) : (fun t => if t = k then f (SB a b way k (j + 1)) else f (SB a b way t (dn k j t))) = fun t => f (SB a b way t (dn k (j + 1) t)) := by
  funext t
  by_cases h : t = k
  · subst h; simp [dn]
  · simp [dn, h]
end Go.Proofs.Ytchnjoikjadciab
