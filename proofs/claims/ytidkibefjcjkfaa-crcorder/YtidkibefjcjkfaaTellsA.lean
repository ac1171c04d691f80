/- One to four bytes that differ: what is written, and that the sums are unlike. -/
import Derived.Test.YtidkibefjcjkfaaGoesOn
namespace Go.Proofs.Ytidkibefjcjkfaa
open Go.RowKit
set_option linter.unusedVariables false

theorem bl_split (X : Nat → Nat) (a : Nat) : ∀ b, bl X (a + b) = bl X a ++ bl (fun k => X (a + k)) b
  | 0 => by simp [bl]
  | b + 1 => by rw [← Nat.add_assoc, bl_succ, bl_split X a b, bl_succ, List.append_assoc]
theorem bl_congr {X Y : Nat → Nat} {n : Nat} (h : ∀ k, k < n → X k = Y k) : bl X n = bl Y n := List.map_congr_left fun k hk => h k (List.mem_range.1 hk)
theorem bl_mem {X : Nat → Nat} {n x : Nat} (h : x ∈ bl X n) : ∃ k, k < n ∧ X k = x := by
  obtain ⟨k, hk, e⟩ := List.mem_map.1 h
  exact ⟨k, List.mem_range.1 hk, e⟩

/-- The bytes, those from p on changed by z, the first i of them. -/
def chg (X z : Nat → Nat) (p i : Nat) : Nat → Nat := fun k => if p ≤ k ∧ k < p + i then X k ^^^ z (k - p) else X k
theorem chg_zero (X z : Nat → Nat) (p : Nat) : chg X z p 0 = X := by
  funext k
  unfold chg
  rw [if_neg (by omega)]
theorem chg_at (X z : Nat → Nat) (p i : Nat) : chg X z p i (p + i) = X (p + i) := by
  unfold chg
  rw [if_neg (by omega)]
theorem chg_succ (X z : Nat → Nat) (p i : Nat) (len : Nat) (h : p + i < len) : bs (chg X z p (i + 1)) len = (bs (chg X z p i) len).set (p + i) ((X (p + i) ^^^ z i : Nat) : Int) := by
  apply List.ext_getElem
  · simp [bs_length]
  · intro k h1 h2
    rw [bs_length] at h1
    simp only [bs, List.getElem_map, List.getElem_range, List.getElem_set]
    by_cases e : p + i = k
    · subst e
      simp only [if_true, chg]
      rw [if_pos (by omega)]
      congr 3
      omega
    · simp only [e, if_false, chg]
      by_cases q : p ≤ k ∧ k < p + i
      · rw [if_pos q, if_pos (by omega)]
      · rw [if_neg q, if_neg (by omega)]
theorem chg_lt {X z : Nat → Nat} {p i len : Nat} (hX : ∀ k, k < len → X k < 256) (hz : ∀ j, j < i → z j < 256) : ∀ k, k < len → chg X z p i k < 256 := fun k hk => by
  unfold chg
  split
  · exact xor_lt 8 (hX k hk) (hz _ (by omega))
  · exact hX k hk

theorem tells (X z : Nat → Nat) (p m len : Nat) (hm : m ≤ 4) (hpm : p + m ≤ len) (hX : ∀ k, k < len → X k < 256) (hz : ∀ j, j < m → z j < 256) : more 0 (bl (chg X z p m) len) = more 0 (bl X len) ↔ ∀ j, j < m → z j = 0 := by
  obtain ⟨r, rfl⟩ : ∃ r, len = p + (m + r) := ⟨len - (p + m), by omega⟩
  have hC := chg_lt (p := p) hX hz
  rw [bl_split, bl_split _ m r, bl_split X, bl_split _ m r]
  have e1 : bl (chg X z p m) p = bl X p := bl_congr fun k hk => by unfold chg; rw [if_neg (by omega)]
  have e2 : bl (fun k => chg X z p m (p + (m + k))) r = bl (fun k => X (p + (m + k))) r := bl_congr fun k hk => by unfold chg; rw [if_neg (by omega)]
  rw [e1, e2]
  rw [more_unlike (bl X p) _ _ _ 0 (by decide) (by rw [bl_length, bl_length]) (by rw [bl_length]; exact hm)
    (fun x hx => by obtain ⟨k, hk, rfl⟩ := bl_mem hx; exact hX k (by omega))
    (fun x hx => by obtain ⟨k, hk, rfl⟩ := bl_mem hx; exact hC _ (by omega))
    (fun x hx => by obtain ⟨k, hk, rfl⟩ := bl_mem hx; exact hX _ (by omega))
    (fun x hx => by obtain ⟨k, hk, rfl⟩ := bl_mem hx; exact hX _ (by omega))]
  constructor
  · intro h j hj
    have h1 : (bl (fun k => chg X z p m (p + k)) m)[j]? = (bl (fun k => X (p + k)) m)[j]? := by rw [h]
    simp [bl, hj] at h1
    unfold chg at h1
    rw [if_pos (by omega), show p + j - p = j by omega] at h1
    have h2 := congrArg (X (p + j) ^^^ ·) h1
    simp only [← Nat.xor_assoc, Nat.xor_self, Nat.zero_xor] at h2
    exact h2
  · intro h
    refine bl_congr fun k hk => ?_
    show chg X z p m (p + k) = X (p + k)
    unfold chg
    rw [if_pos (by omega), show p + k - p = k by omega, h k hk, Nat.xor_zero]

theorem part1 (P : Program) (w : World) (e : TypeId) (xs : Array Value) (i : Nat) (v : Value) (ha : (isAgg e).run P w = .ok false w) (hv : xs[i]? = some v) : (part e xs i).run P w = .ok v w := by
  unfold part
  simp [Sem.run_bind, ha, hv]
theorem eq4 (P : Program) (d : Nat) (t e : TypeId) (xs ys : Array Value) (b : Nat → Bool) (hu : P.underlying t = some (.array 4 e)) (hs : ∀ w, (sizeOf e).run P w = .ok 1 w) (x y : Nat → Value)
    (hx : ∀ i, i < 4 → ∀ w, (part e xs i).run P w = .ok (x i) w) (hy : ∀ i, i < 4 → ∀ w, (part e ys i).run P w = .ok (y i) w)
    (hb : ∀ i, i < 4 → ∀ w, (Op.equalIn d e (x i) (y i)).run P w = .ok (b i) w) (w : World) :
    (Op.equalIn (d + 1) t (.agg xs) (.agg ys)).run P w = .ok (b 0 && b 1 && b 2 && b 3) w := by
  simp only [Op.equalIn, Sem.run_bind, run_underlying hu, Result.andThen_ok, hs]
  rw [Std.Legacy.Range.forIn_eq_forIn_range']
  simp [List.range', hx, hy, hb, Sem.run_bind]
  cases b 0 <;> cases b 1 <;> cases b 2 <;> cases b 3 <;> rfl
def x4 (z : Nat → Nat) : Array Value := #[.int .u8 (z 0 : Int), .int .u8 (z 1 : Int), .int .u8 (z 2 : Int), .int .u8 (z 3 : Int)]
theorem x4_get (z : Nat → Nat) (j : Nat) (hj : j < 4) : (x4 z)[j]? = some (.int .u8 (z j : Int)) := by
  have : j = 0 ∨ j = 1 ∨ j = 2 ∨ j = 3 := by omega
  rcases this with h | h | h | h <;> subst h <;> rfl
theorem eq_x4 (z y : Nat → Nat) (w : World) : (Op.equalIn 10000 32 (.agg (x4 z)) (.agg (x4 y))).run Try.prog w = .ok ((z 0 : Int) == (y 0 : Int) && (z 1 : Int) == (y 1 : Int) && (z 2 : Int) == (y 2 : Int) && (z 3 : Int) == (y 3 : Int)) w :=
  eq4 Try.prog 9999 32 5 (x4 z) (x4 y) (fun i => (z i : Int) == (y i : Int)) Try.underlying32 (fun w => by kernel_rfl) (fun i => .int .u8 (z i : Int)) (fun i => .int .u8 (y i : Int))
    (fun i hi w => part1 _ _ _ _ _ _ (by kernel_rfl) (x4_get z i hi)) (fun i hi w => part1 _ _ _ _ _ _ (by kernel_rfl) (x4_get y i hi))
    (fun i _ w => run_equalIn_int w 9998 5 .u8 .u8 (z i : Int) (y i : Int) Try.underlying5) w
end Go.Proofs.Ytidkibefjcjkfaa
