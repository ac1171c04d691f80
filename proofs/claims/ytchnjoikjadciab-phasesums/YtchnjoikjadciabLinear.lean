/- What the law on sums leans on: of sums the four are the sums of the fours, of what is turned, turned; on whole numbers and on words. -/
import Derived.Test.YtchnjoikjadciabForth
namespace Go.Proofs.Ytchnjoikjadciab

theorem S_add (p q p' q' : Nat → Int) (way : Int) (k : Nat) : ∀ n, Sre (fun j => p j + p' j) (fun j => q j + q' j) way k n = Sre p q way k n + Sre p' q' way k n ∧ Sim (fun j => p j + p' j) (fun j => q j + q' j) way k n = Sim p q way k n + Sim p' q' way k n := by
  intro n
  induction n with
  | zero => simp [Sre, Sim]
  | succ n ih =>
    simp only [Sre, Sim, mre, mim, ih.1, ih.2, Int.add_mul]
    omega

theorem S_turn (p q : Nat → Int) (t way : Int) (k : Nat) : ∀ n, Sre (fun j => mre (p j) (q j) t) (fun j => mim (p j) (q j) t) way k n = mre (Sre p q way k n) (Sim p q way k n) t ∧ Sim (fun j => mre (p j) (q j) t) (fun j => mim (p j) (q j) t) way k n = mim (Sre p q way k n) (Sim p q way k n) t := by
  intro n
  induction n with
  | zero => simp [Sre, Sim, mre, mim]
  | succ n ih =>
    simp only [Sre, Sim, ih.1, ih.2]
    generalize Sre p q way k n = P
    generalize Sim p q way k n = Q
    unfold mre mim
    generalize rre t = a
    generalize rim t = b
    generalize rre (way * (n : Int) * (k : Int) % 4) = c
    generalize rim (way * (n : Int) * (k : Int) % 4) = d
    generalize p n = x
    generalize q n = y
    constructor <;> grind

/-- The words of a sum of two complex numbers; of one turned by the unit to the power t. -/
def cA (a b c d : Nat) : Nat × Nat := (cSumBits .add .f64 a b c d).getD (0, 0)
def cT (t : Int) (a b : Nat) : Nat × Nat := (cMulBits a b (tre t) (tim t)).getD (0, 0)

theorem cA_whole {a b c d : Nat} {p q u v : Int} (ha : Whole a p) (hb : Whole b q) (hc : Whole c u) (hd : Whole d v) (hp : Small (2 ^ 50) p) (hq : Small (2 ^ 50) q) (hu : Small (2 ^ 50) u) (hv : Small (2 ^ 50) v) :
    cSumBits .add .f64 a b c d = some ((cA a b c d).1, (cA a b c d).2) ∧ Whole (cA a b c d).1 (p + u) ∧ Whole (cA a b c d).2 (q + v) := by
  obtain ⟨r, i, e, w1, w2⟩ := c_add ha hb hc hd (by unfold Small at *; omega) (by unfold Small at *; omega) (by unfold Small at *; omega) (by unfold Small at *; omega)
  have : cA a b c d = (r, i) := by simp [cA, e]
  rw [this]; exact ⟨e, w1, w2⟩

theorem cT_whole {a b : Nat} {p q : Int} (t : Int) (ha : Whole a p) (hb : Whole b q) (hp : Small (2 ^ 50) p) (hq : Small (2 ^ 50) q) :
    cMulBits a b (tre t) (tim t) = some ((cT t a b).1, (cT t a b).2) ∧ Whole (cT t a b).1 (mre p q t) ∧ Whole (cT t a b).2 (mim p q t) := by
  obtain ⟨r, i, e, w1, w2⟩ := unit_mul ha hb (whole_tre t) (whole_tim t) hp hq (rre_cases t) (rim_cases t)
  have : cT t a b = (r, i) := by simp [cT, e]
  rw [this]; exact ⟨e, w1, w2⟩
end Go.Proofs.Ytchnjoikjadciab
