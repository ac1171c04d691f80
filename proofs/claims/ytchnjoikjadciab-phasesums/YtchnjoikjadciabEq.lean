/- Comparing arrays of four: of integers, and of complex numbers. -/
import Derived.Test.YtchnjoikjadciabForth
namespace Go.Proofs.Ytchnjoikjadciab
open Go.RowKit

theorem part1 (P : Program) (w : World) (e : TypeId) (xs : Array Value) (i : Nat) (v : Value) (ha : (isAgg e).run P w = .ok false w) (hv : xs[i]? = some v) : (part e xs i).run P w = .ok v w := by
  unfold part
  simp [Sem.run_bind, ha, hv]

theorem eq4 (P : Program) (d : Nat) (t e : TypeId) (xs ys : Array Value) (b : Nat → Bool) (hu : P.underlying t = some (.array 4 e)) (hs : ∀ w, (sizeOf e).run P w = .ok 1 w) (x y : Nat → Value)
    (hx : ∀ i, i < 4 → ∀ w, (part e xs i).run P w = .ok (x i) w) (hy : ∀ i, i < 4 → ∀ w, (part e ys i).run P w = .ok (y i) w)
    (hb : ∀ i, i < 4 → ∀ w, (Op.equalIn d e (x i) (y i)).run P w = .ok (b i) w) (w : World) :
    (Op.equalIn (d + 1) t (.agg xs) (.agg ys)).run P w = .ok (b 0 && b 1 && b 2 && b 3) w := by
  simp only [Op.equalIn, Sem.run_bind, run_underlying hu, Result.andThen_ok, hs]
  rw [Std.Legacy.Range.forIn_eq_forIn_range']
  simp [List.range', hx, hy, hb, Sem.run_bind]
  cases b 0 <;> cases b 1 <;> cases b 2 <;> cases b 3 <;> rfl

theorem k4_get (c : Nat → Int) (j : Nat) (hj : j < 4) : (k4 c)[j]? = some (.int .i64 (c j)) := by
  have : j = 0 ∨ j = 1 ∨ j = 2 ∨ j = 3 := by omega
  rcases this with h | h | h | h <;> subst h <;> rfl

theorem eq_k4 (c d : Nat → Int) (w : World) : (Op.equalIn 10000 43 (.agg (k4 c)) (.agg (k4 d))).run Try.prog w = .ok (c 0 == d 0 && c 1 == d 1 && c 2 == d 2 && c 3 == d 3) w :=
  eq4 Try.prog 9999 43 2 (k4 c) (k4 d) (fun i => c i == d i) Try.underlying43 (fun w => by kernel_rfl) (fun i => .int .i64 (c i)) (fun i => .int .i64 (d i))
    (fun i hi w => part1 _ _ _ _ _ _ (by kernel_rfl) (k4_get c i hi)) (fun i hi w => part1 _ _ _ _ _ _ (by kernel_rfl) (k4_get d i hi))
    (fun i _ w => run_equalIn_int w 9998 2 .i64 .i64 (c i) (d i) Try.underlying2) w

theorem eq_cx (dd a b c d : Nat) (w : World) : (Op.equalIn (dd + 1) 25 (.complex .f64 a b) (.complex .f64 c d)).run Try.prog w = .ok ((Ieee.double.order a c == some .eq) && (Ieee.double.order b d == some .eq)) w := by
  simp [Op.equalIn, run_underlying Try.underlying25, Op.floatEq, FloatKind.format]

theorem eq_c4 (a b c d : Nat → Nat) (w : World) : (Op.equalIn 10000 26 (.agg (c4 a b)) (.agg (c4 c d))).run Try.prog w =
    .ok (((Ieee.double.order (a 0) (c 0) == some .eq) && (Ieee.double.order (b 0) (d 0) == some .eq)) && ((Ieee.double.order (a 1) (c 1) == some .eq) && (Ieee.double.order (b 1) (d 1) == some .eq)) &&
      ((Ieee.double.order (a 2) (c 2) == some .eq) && (Ieee.double.order (b 2) (d 2) == some .eq)) && ((Ieee.double.order (a 3) (c 3) == some .eq) && (Ieee.double.order (b 3) (d 3) == some .eq))) w :=
  eq4 Try.prog 9999 26 25 (c4 a b) (c4 c d) (fun i => (Ieee.double.order (a i) (c i) == some .eq) && (Ieee.double.order (b i) (d i) == some .eq)) Try.underlying26 (fun w => by kernel_rfl) (fun i => .complex .f64 (a i) (b i)) (fun i => .complex .f64 (c i) (d i))
    (fun i hi w => part1 _ _ _ _ _ _ (by kernel_rfl) (c4_get a b i hi)) (fun i hi w => part1 _ _ _ _ _ _ (by kernel_rfl) (c4_get c d i hi))
    (fun i _ w => eq_cx 9998 _ _ _ _ w) w
end Go.Proofs.Ytchnjoikjadciab
