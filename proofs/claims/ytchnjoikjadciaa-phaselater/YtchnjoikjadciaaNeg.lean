/- A float's sign turned: the whole number's opposite. And what the law on meters that come one phase later leans on: the shifted counts, their waves. -/
import Derived.Test.YtchnjoikjadciaaAdd
import Derived.Test.YtchnjoikjadciaaSlice
import Derived.Deep.CutBlock
namespace Go.Proofs.Ytchnjoikjadciaa
open Go.RowKit Ieee

theorem read_neg (b : Nat) : double.read (b ^^^ 2 ^ 63) = (double.read b).opposite := by
  have e1 : (b ^^^ 2 ^ 63) % 2 ^ 63 = b % 2 ^ 63 := by rw [Nat.xor_mod_two_pow]; simp
  have e2 : (((b ^^^ 2 ^ 63) / 2 ^ 63 % 2 == 1) : Bool) = !(b / 2 ^ 63 % 2 == 1) := by
    rw [Nat.xor_div_two_pow, show (2 ^ 63 : Nat) / 2 ^ 63 = 1 by decide]
    have h : (b / 2 ^ 63 ^^^ 1) % 2 = (b / 2 ^ 63 % 2) ^^^ 1 := by
      have := Nat.xor_mod_two_pow (a := b / 2 ^ 63) (b := 1) (n := 1)
      simpa using this
    rw [h]
    have h2 : b / 2 ^ 63 % 2 = 0 ∨ b / 2 ^ 63 % 2 = 1 := by omega
    rcases h2 with h2 | h2 <;> rw [h2] <;> decide
  rw [read_word, read_word, e1, e2]
  by_cases h1 : b % 2 ^ 63 < 2 ^ 52
  · rw [if_pos h1, if_pos h1]; rfl
  · rw [if_neg h1, if_neg h1]
    by_cases h2 : b % 2 ^ 63 < 2047 * 2 ^ 52
    · rw [if_pos h2, if_pos h2]; rfl
    · rw [if_neg h2, if_neg h2]
      by_cases h3 : b % 2 ^ 63 = 2047 * 2 ^ 52
      · rw [if_pos h3, if_pos h3]; rfl
      · rw [if_neg h3, if_neg h3]; rfl

theorem whole_neg {x : Nat} {n : Int} (h : Whole x n) : Whole (Op.negFloat .f64 x) (-n) := by
  show Val (double.read (x ^^^ 2 ^ 63)) (-n)
  rw [read_neg]
  exact val_neg h

@[go_sem] theorem run_neg_float (P : Program) (w : World) (k : FloatKind) (b : Nat) : (Op.unary .neg (.float k b)).run P w = .ok (.float k (Op.negFloat k b)) w := rfl

/-- The counts of what came one phase later. -/
def sh (c : Nat → Int) : Nat → Int := fun t => c ((t + 3) % 4)

theorem k4_set (c : Nat → Int) (p : Nat) (hp : p < 4) (v : Int) : (k4 c).setIfInBounds p (.int .i64 v) = k4 (fun t => if t = p then v else c t) := by
  have : p = 0 ∨ p = 1 ∨ p = 2 ∨ p = 3 := by omega
  rcases this with h | h | h | h <;> subst h <;> rfl

theorem sh_set (c : Nat → Int) (T : Int) (v : Int) : k4 (fun t => if t = ((T + 1) % 4).toNat then v else sh c t) = k4 (sh fun t => if t = (T % 4).toNat then v else c t) := by
  have : T % 4 = 0 ∨ T % 4 = 1 ∨ T % 4 = 2 ∨ T % 4 = 3 := by omega
  rcases this with h | h | h | h
  · rw [h, show (T + 1) % 4 = 1 by omega]; rfl
  · rw [h, show (T + 1) % 4 = 2 by omega]; rfl
  · rw [h, show (T + 1) % 4 = 3 by omega]; rfl
  · rw [h, show (T + 1) % 4 = 0 by omega]; rfl

theorem sh_at (c : Nat → Int) (T : Int) : sh c ((T + 1) % 4).toNat = c (T % 4).toNat := by
  have : T % 4 = 0 ∨ T % 4 = 1 ∨ T % 4 = 2 ∨ T % 4 = 3 := by omega
  rcases this with h | h | h | h
  · rw [h, show (T + 1) % 4 = 1 by omega]; rfl
  · rw [h, show (T + 1) % 4 = 2 by omega]; rfl
  · rw [h, show (T + 1) % 4 = 3 by omega]; rfl
  · rw [h, show (T + 1) % 4 = 0 by omega]; rfl

def Counted (c : Nat → Int) : Prop := ∀ t, t < 4 → 0 ≤ c t ∧ c t ≤ 274877906944

theorem Counted.sh {c : Nat → Int} (h : Counted c) : Counted (sh c) := fun t ht => h ((t + 3) % 4) (by omega)

def sum4 (c : Nat → Int) : Int := c 0 + c 1 + c 2 + c 3

theorem sum4_set (c : Nat → Int) (p : Nat) (hp : p < 4) (n : Int) : sum4 (fun t => if t = p then c p + n else c t) = sum4 c + n := by
  have : p = 0 ∨ p = 1 ∨ p = 2 ∨ p = 3 := by omega
  rcases this with h | h | h | h <;> subst h <;> simp [sum4] <;> omega

theorem waves (c : Nat → Int) : Sre (sh c) (fun _ => 0) (-1) 1 4 = Sim c (fun _ => 0) (-1) 1 4 ∧ Sim (sh c) (fun _ => 0) (-1) 1 4 = -Sre c (fun _ => 0) (-1) 1 4 ∧ Sre c (fun _ => 0) (-1) 3 4 = Sre c (fun _ => 0) (-1) 1 4 ∧ Sim c (fun _ => 0) (-1) 3 4 = -Sim c (fun _ => 0) (-1) 1 4 ∧
    Sre c (fun _ => 0) (-1) 0 4 = sum4 c ∧ Sim c (fun _ => 0) (-1) 0 4 = 0 ∧ Sre (sh c) (fun _ => 0) (-1) 0 4 = sum4 c ∧ Sim (sh c) (fun _ => 0) (-1) 0 4 = 0 := by
  simp [Sre, Sim, mre, mim, rre, rim, sh, sum4]
  omega

/-- The world of the law: the meter's counts, and those of the one that counts a phase later. -/
theorem two_cell (w : World) (c d : Nat → Int) (m p : Nat) (hp : p < 4) : (((w.alloc (.cells (k4 c) 57)).alloc (.cells (k4 d) 57)).drewN m).cell? ⟨w.heap.size, p, none⟩ = some (.int .i64 (c p)) := by
  rw [World.cell?_drewN, World.cell?_alloc_past _ _ _ (by simp), World.cell?_alloc_at _ _ _ _ rfl]
  exact k4_get c p hp
theorem two_frozen (w : World) (c d : Nat → Int) (m p : Nat) : (((w.alloc (.cells (k4 c) 57)).alloc (.cells (k4 d) 57)).drewN m).frozen? ⟨w.heap.size, p, none⟩ = false := by
  rw [World.frozen?_drewN, World.frozen?_alloc_past _ _ _ (by simp), World.frozen?_alloc_at _ _ _ _ rfl]
theorem two_set (w : World) (c d : Nat → Int) (m p : Nat) (hp : p < 4) (v : Int) : (((w.alloc (.cells (k4 c) 57)).alloc (.cells (k4 d) 57)).drewN m).setCell ⟨w.heap.size, p, none⟩ (.int .i64 v) = ((w.alloc (.cells (k4 (fun t => if t = p then v else c t)) 57)).alloc (.cells (k4 d) 57)).drewN m := by
  rw [setCell_drewN, World.setCell_alloc_past _ _ _ _ (by simp), World.setCell_alloc_at _ _ _ _ _ rfl, k4_set c p hp]
theorem two_cell' (w : World) (c d : Nat → Int) (m p : Nat) (hp : p < 4) : (((w.alloc (.cells (k4 c) 57)).alloc (.cells (k4 d) 57)).drewN m).cell? ⟨w.heap.size + 1, p, none⟩ = some (.int .i64 (d p)) := by
  rw [World.cell?_drewN, World.cell?_alloc_at _ _ _ _ (by simp)]
  exact k4_get d p hp
theorem two_frozen' (w : World) (c d : Nat → Int) (m p : Nat) : (((w.alloc (.cells (k4 c) 57)).alloc (.cells (k4 d) 57)).drewN m).frozen? ⟨w.heap.size + 1, p, none⟩ = false := by
  rw [World.frozen?_drewN, World.frozen?_alloc_at _ _ _ _ (by simp)]
theorem two_set' (w : World) (c d : Nat → Int) (m p : Nat) (hp : p < 4) (v : Int) : (((w.alloc (.cells (k4 c) 57)).alloc (.cells (k4 d) 57)).drewN m).setCell ⟨w.heap.size + 1, p, none⟩ (.int .i64 v) = ((w.alloc (.cells (k4 c) 57)).alloc (.cells (k4 (fun t => if t = p then v else d t)) 57)).drewN m := by
  rw [setCell_drewN, World.setCell_alloc_at _ _ _ _ _ (by simp), k4_set d p hp]
end Go.Proofs.Ytchnjoikjadciaa
