/- PhaseSquares, proved: the squares of the sizes of Forth's four are, together, four times those of what was sent forth, for every row of whole numbers that the law brings below 2^18; for every input, without a condition. -/
import Derived.Test.YtchnjoikjadciabRows
import Derived.Test.YtchnjoikjadciabOpen
namespace Go.Proofs.Ytchnjoikjadciab.phaseSquares
open Go.ChangeShapes Go.WideShapes Go.ChangeAt Go.RowKit
set_option linter.unusedVariables false

theorem own : ownKnob Try.prog.godebug = none := by kernel_rfl
theorem laidOut : laidOutB Try.prog = true := by kernel_rfl

/-- The sum of the squares of the first k. -/
def sq (X Y : Nat → Int) : Nat → Int
  | 0 => 0
  | k + 1 => sq X Y k + (X k * X k + Y k * Y k)

/-- The same of the four, on words: the real part's square first. -/
def fm (x : Nat) : Nat := (floatBits .mul .f64 x x).getD 0
def fa (x y : Nat) : Nat := (floatBits .add .f64 x y).getD 0
def sqB (A B : Nat → Nat) : Nat → Nat
  | 0 => 0
  | k + 1 => fa (fa (sqB A B k) (fm (A k))) (fm (B k))

theorem sq_le {X : Int} (h : Small (8 * 2 ^ 18) X) : 0 ≤ X * X ∧ X * X ≤ 2 ^ 42 := by
  unfold Small at h
  have h1 : X.natAbs ≤ 2 ^ 21 := by omega
  have h2 : X * X = ((X.natAbs * X.natAbs : Nat) : Int) := by rw [Int.natCast_mul]; exact (Int.natAbs_mul_self' X).symm
  have h3 : X.natAbs * X.natAbs ≤ 2 ^ 21 * 2 ^ 21 := Nat.mul_le_mul h1 h1
  rw [h2]
  omega

theorem sq_small {X Y : Nat → Int} (hX : ∀ j, j < 4 → Small (8 * 2 ^ 18) (X j)) (hY : ∀ j, j < 4 → Small (8 * 2 ^ 18) (Y j)) : ∀ k, k ≤ 4 → 0 ≤ sq X Y k ∧ sq X Y k ≤ k * 2 ^ 43 := by
  intro k
  induction k with
  | zero => intro _; simp [sq]
  | succ k ih =>
    intro hk
    have i := ih (by omega)
    have a := sq_le (hX k (by omega))
    have b := sq_le (hY k (by omega))
    simp only [sq]
    omega

theorem sqB_whole {A B : Nat → Nat} {X Y : Nat → Int} (hA : ∀ j, j < 4 → Whole (A j) (X j)) (hB : ∀ j, j < 4 → Whole (B j) (Y j)) (hX : ∀ j, j < 4 → Small (8 * 2 ^ 18) (X j)) (hY : ∀ j, j < 4 → Small (8 * 2 ^ 18) (Y j)) :
    ∀ k, k ≤ 4 → Whole (sqB A B k) (sq X Y k) := by
  intro k
  induction k with
  | zero => intro _; exact whole_zero
  | succ k ih =>
    intro hk
    have i := ih (by omega)
    have s := sq_small hX hY k (by omega)
    have a := sq_le (hX k (by omega))
    have b := sq_le (hY k (by omega))
    obtain ⟨r, e1, w1⟩ := whole_mul (hA k (by omega)) (hA k (by omega)) (by omega)
    obtain ⟨t, e2, w2⟩ := whole_mul (hB k (by omega)) (hB k (by omega)) (by omega)
    obtain ⟨u, e3, w3⟩ := whole_add i w1 (by omega)
    obtain ⟨v, e4, w4⟩ := whole_add w3 w2 (by omega)
    have : sqB A B (k + 1) = v := by simp [sqB, fm, fa, e1, e2, e3, e4]
    rw [this, sq]
    rwa [Int.add_assoc] at w4

theorem sqB_step {A B : Nat → Nat} {X Y : Nat → Int} (hA : ∀ j, j < 4 → Whole (A j) (X j)) (hB : ∀ j, j < 4 → Whole (B j) (Y j)) (hX : ∀ j, j < 4 → Small (8 * 2 ^ 18) (X j)) (hY : ∀ j, j < 4 → Small (8 * 2 ^ 18) (Y j)) (k : Nat) (hk : k < 4) :
    ∃ r t u, floatBits .mul .f64 (A k) (A k) = some r ∧ floatBits .mul .f64 (B k) (B k) = some t ∧ floatBits .add .f64 (sqB A B k) r = some u ∧ floatBits .add .f64 u t = some (sqB A B (k + 1)) := by
  have i := sqB_whole hA hB hX hY k (by omega)
  have s := sq_small hX hY k (by omega)
  have a := sq_le (hX k (by omega))
  have b := sq_le (hY k (by omega))
  obtain ⟨r, e1, w1⟩ := whole_mul (hA k (by omega)) (hA k (by omega)) (by omega)
  obtain ⟨t, e2, w2⟩ := whole_mul (hB k (by omega)) (hB k (by omega)) (by omega)
  obtain ⟨u, e3, w3⟩ := whole_add i w1 (by omega)
  obtain ⟨v, e4, w4⟩ := whole_add w3 w2 (by omega)
  have : sqB A B (k + 1) = v := by simp [sqB, fm, fa, e1, e2, e3, e4]
  exact ⟨r, t, u, e1, e2, e3, by rw [this]; exact e4⟩

/-- Parseval's equation at four places. -/
theorem parseval (p q : Nat → Int) : sq (fun k => Sre p q (-1) k 4) (fun k => Sim p q (-1) k 4) 4 = 4 * sq p q 4 := by
  simp [sq, Sre, Sim, mre, mim, rre, rim]
  generalize p 0 = a0
  generalize p 1 = a1
  generalize p 2 = a2
  generalize p 3 = a3
  generalize q 0 = b0
  generalize q 1 = b1
  generalize q 2 = b2
  generalize q 3 = b3
  grind
theorem wrapEq (n : Int) : IntKind.i64.wrap n = wrap64 n := by simp [IntKind.wrap_i64, wrap64]

set_option maxHeartbeats 1000000 in
theorem walk (x y : Nat → Int) (w : World) :
    Calls Try.prog 3 #[.agg #[.int .i64 (x 0), .int .i64 (y 0), .int .i64 (x 1), .int .i64 (y 1), .int .i64 (x 2), .int .i64 (y 2), .int .i64 (x 3), .int .i64 (y 3)]] w fun e w' => e = .returned (.bool true) ∧ Below w.heap.size w w' := by
  have hfour := fun w => four18 x y w
  obtain ⟨X, hX⟩ : ∃ X, X = rm 262144 x := ⟨_, rfl⟩
  obtain ⟨Y, hY⟩ : ∃ Y, Y = rm 262144 y := ⟨_, rfl⟩
  rw [← hX, ← hY] at hfour
  simp only [four_world] at hfour
  have sX : ∀ j, j < 4 → Small (2 ^ 18) (X j) := fun j _ => by subst hX; have := tmod_small 262144 (x j) (by decide); unfold Small rm at *; omega
  have sY : ∀ j, j < 4 → Small (2 ^ 18) (Y j) := fun j _ => by subst hY; have := tmod_small 262144 (y j) (by decide); unfold Small rm at *; omega
  have tX : ∀ j, j < 4 → Small (2 ^ 40) (X j) := fun j hj => by have := sX j hj; unfold Small at *; omega
  have tY : ∀ j, j < 4 → Small (2 ^ 40) (Y j) := fun j hj => by have := sY j hj; unfold Small at *; omega
  have vX : ∀ j, j < 4 → Small (8 * 2 ^ 18) (X j) := fun j hj => by have := sX j hj; unfold Small at *; omega
  have vY : ∀ j, j < 4 → Small (8 * 2 ^ 18) (Y j) := fun j hj => by have := sY j hj; unfold Small at *; omega
  have hXw : ∀ j, j < 4 → Whole (fr X j) (X j) := fun j hj => fr_whole j (by have := sX j hj; unfold Small at *; omega)
  have hYw : ∀ j, j < 4 → Whole (fr Y j) (Y j) := fun j hj => fr_whole j (by have := sY j hj; unfold Small at *; omega)
  have hforth := fun w => forth_any (fr X) (fr Y) X Y hXw hYw tX tY w
  obtain ⟨A, hA⟩ : ∃ A, A = fR (fr X) (fr Y) := ⟨_, rfl⟩
  obtain ⟨B, hB⟩ : ∃ B, B = fI (fr X) (fr Y) := ⟨_, rfl⟩
  have hAw : ∀ j, j < 4 → Whole (A j) (Sre X Y (-1) j 4) := fun j _ => by rw [hA]; exact (fR_whole hXw hYw tX tY j).1
  have hBw : ∀ j, j < 4 → Whole (B j) (Sim X Y (-1) j 4) := fun j _ => by rw [hB]; exact (fR_whole hXw hYw tX tY j).2
  have uA : ∀ j, j < 4 → Small (8 * 2 ^ 18) (Sre X Y (-1) j 4) := fun j _ => (S_small X Y (-1) j sX sY (by decide) 4 (by decide)).1
  have uB : ∀ j, j < 4 → Small (8 * 2 ^ 18) (Sim X Y (-1) j 4) := fun j _ => (S_small X Y (-1) j sX sY (by decide) 4 (by decide)).2
  rw [← hA, ← hB] at hforth
  have HS : Hid (∀ k, k < 4 → ∃ r t u, floatBits .mul .f64 (A k) (A k) = some r ∧ floatBits .mul .f64 (B k) (B k) = some t ∧ floatBits .add .f64 (sqB A B k) r = some u ∧ floatBits .add .f64 u t = some (sqB A B (k + 1))) := fun k hk => sqB_step hAw hBw uA uB k hk
  have HI : Hid (∀ k, k < 4 → wrap64 (X k * X k) = X k * X k ∧ wrap64 (Y k * Y k) = Y k * Y k ∧ wrap64 (X k * X k + Y k * Y k) = X k * X k + Y k * Y k ∧ wrap64 (sq X Y k + (X k * X k + Y k * Y k)) = sq X Y (k + 1)) := fun k hk => by
    have a := sq_le (vX k hk)
    have b := sq_le (vY k hk)
    have s := sq_small vX vY k (by omega)
    simp only [sq]
    unfold wrap64
    omega
  have hend : (FloatKind.f64.format.order (sqB A B 4) (floatOfInt .f64 (4 * sq X Y 4)) == some .eq) = true := by
    have h := sqB_whole hAw hBw uA uB 4 (by decide)
    rw [parseval] at h
    have s := sq_small vX vY 4 (by decide)
    exact same h (whole_int _ (by omega))
  have hw4 : wrap64 (4 * sq X Y 4) = 4 * sq X Y 4 := by
    have s := sq_small vX vY 4 (by decide)
    unfold wrap64; omega
  clear hX hY sX sY tX tY vX vY hXw hYw hA hB hAw hBw uA uB
  go_enter Try.func3, Try.ntmps3
  go_wp2_with (first | (go_at_call 6; refine (hfour _).mono ?_; rintro e w' ⟨n0, rfl, rfl⟩) | (go_at_call 7; refine (hforth _).mono ?_; rintro e w' ⟨rfl, n1, rfl⟩))
  go_loopg [5, 6, 17] 4 (fun g va vb i wr => ∃ k : Nat, k + g = 4 ∧ va = .int .i64 (sq X Y k) ∧ vb = .float .f64 (sqB A B k) ∧ i = .int .i64 (k : Int) ∧ Hid (Below w.heap.size w wr ∧ (∀ t, t < 4 → wr.cell? ⟨w.heap.size, t * 2, none⟩ = some (.int .i64 (X t)) ∧ wr.cell? ⟨w.heap.size, t * 2 + 1, none⟩ = some (.int .i64 (Y t)) ∧ wr.cell? ⟨(w.heap.size + 1 + 1 + 1 + 1 + 1 + 1 + 1 + 1 + 1 + 1 + 1 + 1 + 1 + 1 + 1), t, none⟩ = some (.complex .f64 (A t) (B t)))))
  case atStart =>
    refine ⟨0, by omega, rfl, rfl, rfl, ?_, ?_⟩
    · refine Below_drewN ?_ _
      repeat (first | exact Below.refl _ _ | (refine Below.alloc ?_ (by simp <;> omega) _))
    · intro t ht
      have : t = 0 ∨ t = 1 ∨ t = 2 ∨ t = 3 := by omega
      rcases this with h | h | h | h <;> subst h <;> simp [go_sem]
  case round =>
    obtain ⟨k, hk, rfl, rfl, rfl, HR⟩ := hrel
    by_cases hk4 : k = 4
    · subst hk4
      clear hk HS HI
      go_wp2_with (go_at_call 8; refine (awake_any _).mono ?_; rintro e w' ⟨rfl, rfl⟩)
      go_ret
      exact ⟨rfl, HR.out.1⟩
    have hk3 : k < 4 := by omega
    have hk3' : (k : Int) < 4 := by omega
    obtain ⟨GK, HG⟩ : ∃ g, Hid (g < gk ∧ k + 1 + g = 4) := ⟨gk - 1, by omega, by omega⟩
    clear hk hk4 hend hw4
    obtain ⟨c0, c1, c2⟩ := HR.out.2 k hk3
    obtain ⟨r1, r2, r3, r4⟩ := HI.out k hk3
    have s1 := (wrapEq _).trans r1
    have s2 := (wrapEq _).trans r2
    have s3 := (wrapEq _).trans r3
    have s4 := (wrapEq _).trans r4
    obtain ⟨fr', ft, fu, f1, f2, f3, f4⟩ := HS.out k hk3
    have h1 := fun t w => run_float_arith (P := Try.prog) w .mul t .f64 _ _ _ f1
    have h2 := fun t w => run_float_arith (P := Try.prog) w .mul t .f64 _ _ _ f2
    have h3 := fun t w => run_float_arith (P := Try.prog) w .add t .f64 _ _ _ f3
    have h4 := fun t w => run_float_arith (P := Try.prog) w .add t .f64 _ _ _ f4
    clear f1 f2 f3 f4 HS HI
    go_wp2
    go_quiet (fail)
    go_wp2
    go_quiet (fail)
    go_wp2
    go_roundg GK
    case measure => exact HG.out.1
    case rel => exact ⟨k + 1, HG.out.2, rfl, rfl, by go_num, Below_drewN HR.out.1 _, fun t ht => HR.out.2 t ht⟩

set_option maxRecDepth 100000 in
theorem lifted (os : Os) (started : os.Started) (H : Type) (enc : TypeId × Value → H) :
    ReturnsInHanded {} Try.checked os 3 .any (Rows.phaseSquaresSpec.pre6 enc Try.prog Try.f3 Rows.phaseSquaresRow.domain false) (Rows.phaseSquaresSpec.post enc Try.prog Try.f3 false true false false) := by
  refine returnsInHanded_of_change (C := Try.checked) own started (by kernel_rfl) Try.func3
    (ChangeSpec.witness6 (enc := enc) (C := Try.checked) false ⟨#[], #[.agg #[.int .i64 0, .int .i64 0, .int .i64 0, .int .i64 0, .int .i64 0, .int .i64 0, .int .i64 0, .int .i64 0]], []⟩ 8 (by kernel_rfl) (by kernel_rfl) (by kernel_rfl) (by kernel_rfl)) ?_
  intro W base args ds gs before hval0 hW hcnd _
  have hval : ∀ (j : Nat) t v, Try.f3.params[j]? = some t → args[j]? = some v → Value.okWide Try.prog W .any base t v := hval0
  have hW' := hW
  obtain ⟨p, q, hA0, hV, rfl, hfz, hnd⟩ := hW
  have hA : DataW.TrodAll enc Try.prog W 0 (fun _ => true) true Try.f3.params.toList args.toList ds p := hA0
  rw [Try.params3] at hA hval
  obtain ⟨v0, vs0, d0, ds0, p0, q0, hargs, rfl, rfl, h0, r0⟩ := trodAll_cons hA
  obtain ⟨rfl, rfl, rfl⟩ := trodAll_nil r0
  obtain rfl : args = #[v0] := by cases args; simp_all
  obtain ⟨rfl, rfl⟩ := trodVars_none hV
  have k0 := h0
  have lt0 : ∀ x ∈ p0, x.block < W.heap.size := by obtain ⟨m, hm⟩ := k0; exact DataW.trod_lt m _ _ _ hm
  obtain ⟨x, y, rfl⟩ := open30 (hval 0 24 v0 rfl rfl)
  clear hA0 hval0
  refine (walk x y W).mono fun e W' ⟨he, bel⟩ => ?_
  subst he
  exact ⟨_, rfl, _, _, _, [], _, [], hW', trodAll_mk1 (shut_bool Try.underlying4 _), (trodAll_cons_mk (Below.trod laidOut (by kernel_rfl) (of_decide_eq_true (by kernel_rfl)) k0 bel lt0) trodAll_mk0), rfl, bel.frame _, fun h => by cases h⟩

theorem over : Rows.phaseSquaresRow.holds Try.pinned (OpenSpec.ofChange Rows.phaseSquaresSpec) :=
  OpenClaim.holds_of_wide 3 Try.f3 rfl rfl rfl rfl rfl rfl rfl ⟨rfl, rfl, rfl, rfl, rfl⟩ rfl rfl rfl rfl rfl (by kernel_rfl) Try.func3 (by kernel_rfl)
    (of_decide_eq_true (by kernel_rfl)) (by unfold Func.isWrapper; first | (rw [if_pos (by decide +kernel)]; kernel_rfl) | (rw [if_neg (by decide +kernel)]; exact ⟨rfl, rfl⟩))
    (fun os started H enc _ => lifted os started H enc)
end Go.Proofs.Ytchnjoikjadciab.phaseSquares

namespace Go.Proofs.Ytchnjoikjadciab
theorem phaseSquares_holds : Rows.PhaseSquaresSaid := phaseSquares.over
end Go.Proofs.Ytchnjoikjadciab
