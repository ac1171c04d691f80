/- What the laws' own function four does: it brings eight whole numbers between -2^36 and 2^36 and hands them back, and as complex numbers. -/
import Derived.Test.YtchnjoikjadciabEq
import Derived.Test.YtchnjoikjadciabRef
import Derived.Handy
import Derived.BigQuiet
namespace Go.Proofs.Ytchnjoikjadciab
open Go.RowKit

def t8 (x y : Nat → Int) : Array Value := #[.int .i64 (x 0), .int .i64 (y 0), .int .i64 (x 1), .int .i64 (y 1), .int .i64 (x 2), .int .i64 (y 2), .int .i64 (x 3), .int .i64 (y 3)]
@[go_sem] theorem t8_0 (x y : Nat → Int) : (t8 x y)[0]? = some (.int .i64 (x 0)) := rfl
@[go_sem] theorem t8_1 (x y : Nat → Int) : (t8 x y)[1]? = some (.int .i64 (y 0)) := rfl
@[go_sem] theorem t8_2 (x y : Nat → Int) : (t8 x y)[2]? = some (.int .i64 (x 1)) := rfl
@[go_sem] theorem t8_3 (x y : Nat → Int) : (t8 x y)[3]? = some (.int .i64 (y 1)) := rfl
@[go_sem] theorem t8_4 (x y : Nat → Int) : (t8 x y)[4]? = some (.int .i64 (x 2)) := rfl
@[go_sem] theorem t8_5 (x y : Nat → Int) : (t8 x y)[5]? = some (.int .i64 (y 2)) := rfl
@[go_sem] theorem t8_6 (x y : Nat → Int) : (t8 x y)[6]? = some (.int .i64 (x 3)) := rfl
@[go_sem] theorem t8_7 (x y : Nat → Int) : (t8 x y)[7]? = some (.int .i64 (y 3)) := rfl
@[go_sem] theorem t8_size (x y : Nat → Int) : (t8 x y).size = 8 := rfl
@[go_sem] theorem t8_toList (x y : Nat → Int) : (t8 x y).toList = [.int .i64 (x 0), .int .i64 (y 0), .int .i64 (x 1), .int .i64 (y 1), .int .i64 (x 2), .int .i64 (y 2), .int .i64 (x 3), .int .i64 (y 3)] := rfl

/-- The rest by m, towards zero. -/
def rm (m : Int) (x : Nat → Int) : Nat → Int := fun j => (x j).tmod m

def two (x y : Nat → Int) (j : Nat) : Array Value := #[.int .i64 (x j), .int .i64 (y j)]

/-- The blocks that four makes: the row brought small (twice), the same as complex numbers (twice), and a pair each round. -/
def four_world (x y : Nat → Int) (w : World) : World :=
  (((((((w.alloc (.cells (t8 x y) 24)).alloc (.cells (t8 x y) 24)).alloc (.cells (c4 (fr x) (fr y)) 26)).alloc (.cells (c4 (fr x) (fr y)) 26)).alloc (.cells (two x y 0) 23)).alloc (.cells (two x y 1) 23)).alloc (.cells (two x y 2) 23)).alloc (.cells (two x y 3) 23)

set_option maxHeartbeats 8000000 in
theorem four18 (x y : Nat → Int) (w : World) : Calls Try.prog 6 #[.agg #[.int .i64 (x 0), .int .i64 (y 0), .int .i64 (x 1), .int .i64 (y 1), .int .i64 (x 2), .int .i64 (y 2), .int .i64 (x 3), .int .i64 (y 3)], .int .u64 18] w fun e w' =>
    ∃ n, e = .returned (.tuple #[.agg (t8 (rm 262144 x) (rm 262144 y)), .agg (c4 (fr (rm 262144 x)) (fr (rm 262144 y)))]) ∧ w' = (four_world (rm 262144 x) (rm 262144 y) w).drewN n := by
  go_enter Try.func6, Try.ntmps6
  go_wp2
  refine wp_loop_rounds 5 ?_
  repeat any_goals (rw [rounds_succ]; go_wp2_with (go_at_call 16; refine (of_any _ _ _).mono ?_; rintro e w' ⟨rfl, rfl⟩))
  go_region
  all_goals
    go_wp2
    refine bodyPost_ret (v := .tuple #[.agg (t8 (rm 262144 x) (rm 262144 y)), .agg (c4 (fr (rm 262144 x)) (fr (rm 262144 y)))]) (by simp [results, Try.results6, go_sem]; exact ⟨rfl, rfl⟩) rfl ⟨1, rfl, rfl⟩

set_option maxHeartbeats 8000000 in
theorem four34 (x y : Nat → Int) (w : World) : Calls Try.prog 6 #[.agg #[.int .i64 (x 0), .int .i64 (y 0), .int .i64 (x 1), .int .i64 (y 1), .int .i64 (x 2), .int .i64 (y 2), .int .i64 (x 3), .int .i64 (y 3)], .int .u64 34] w fun e w' =>
    ∃ n, e = .returned (.tuple #[.agg (t8 (rm 17179869184 x) (rm 17179869184 y)), .agg (c4 (fr (rm 17179869184 x)) (fr (rm 17179869184 y)))]) ∧ w' = (four_world (rm 17179869184 x) (rm 17179869184 y) w).drewN n := by
  go_enter Try.func6, Try.ntmps6
  go_wp2
  refine wp_loop_rounds 5 ?_
  repeat any_goals (rw [rounds_succ]; go_wp2_with (go_at_call 16; refine (of_any _ _ _).mono ?_; rintro e w' ⟨rfl, rfl⟩))
  go_region
  all_goals
    go_wp2
    refine bodyPost_ret (v := .tuple #[.agg (t8 (rm 17179869184 x) (rm 17179869184 y)), .agg (c4 (fr (rm 17179869184 x)) (fr (rm 17179869184 y)))]) (by simp [results, Try.results6, go_sem]; exact ⟨rfl, rfl⟩) rfl ⟨1, rfl, rfl⟩

theorem Below_allocs {B : Nat} {W w : World} (h : Below B W w) (hB : B ≤ w.heap.size) (o : Obj) : Below B W (w.alloc o) := h.alloc hB o

theorem four_below (x y : Nat → Int) (w : World) : Below w.heap.size w (four_world x y w) := by
  unfold four_world
  repeat (first | exact Below.refl _ _ | (refine Below.alloc ?_ (by simp <;> omega) _))

theorem four18_b (x y : Nat → Int) (w : World) : Calls Try.prog 6 #[.agg #[.int .i64 (x 0), .int .i64 (y 0), .int .i64 (x 1), .int .i64 (y 1), .int .i64 (x 2), .int .i64 (y 2), .int .i64 (x 3), .int .i64 (y 3)], .int .u64 18] w fun e w' =>
    e = .returned (.tuple #[.agg (t8 (rm 262144 x) (rm 262144 y)), .agg (c4 (fr (rm 262144 x)) (fr (rm 262144 y)))]) ∧ Below w.heap.size w w' :=
  (four18 x y w).mono fun _ _ ⟨n, he, hw⟩ => ⟨he, by rw [hw]; exact Below_drewN (four_below _ _ _) n⟩

theorem four34_b (x y : Nat → Int) (w : World) : Calls Try.prog 6 #[.agg #[.int .i64 (x 0), .int .i64 (y 0), .int .i64 (x 1), .int .i64 (y 1), .int .i64 (x 2), .int .i64 (y 2), .int .i64 (x 3), .int .i64 (y 3)], .int .u64 34] w fun e w' =>
    e = .returned (.tuple #[.agg (t8 (rm 17179869184 x) (rm 17179869184 y)), .agg (c4 (fr (rm 17179869184 x)) (fr (rm 17179869184 y)))]) ∧ Below w.heap.size w w' :=
  (four34 x y w).mono fun _ _ ⟨n, he, hw⟩ => ⟨he, by rw [hw]; exact Below_drewN (four_below _ _ _) n⟩

/-- The worlds that hold all that W held. -/
def Later (W : World) : Type := { w : World // Below W.heap.size W w }

theorem Later.cell {W : World} (x : Later W) {a : Addr} {v : Value} (h : W.cell? a = some v) : x.val.cell? a = some v := cell_later x.2 h

/-- A region that draws its order, whose operations read what W held and whose callees leave it as it was: one walk in the order of the text. -/
theorem wp_region_later {P : Program} {id : Nat} {Q : Exit → Act → World → Prop} {a : Act} {w : World} {l : List Oper} (hm : P.follows .mixedOrders = true) (hB : Region.lexB .any l.toArray = true)
    (h : wpQuiet P l.toArray (fun w' => ∃ x : Later w, w' = x.val) (fun a' => ∀ w', (∃ x : Later w, w' = x.val) → Q .normal a' w') l a) : (Code.region id l.toArray true).wp P Q a w :=
  wp_region_quiet (C := fun w' => ∃ x : Later w, w' = x.val) hm hB ⟨⟨w.drew, (Below.refl _ _).drew⟩, rfl⟩ (by simpa using h)

/-- A callee met there: what it hands back does not hang on the world, and it leaves what it found. -/
theorem later_call {P : Program} {f : FuncId} {args : Array Value} {W : World} {v : Value} (h : ∀ w, Calls P f args w fun e w' => e = .returned v ∧ Below w.heap.size w w') (x : Later W) :
    Calls P f args x.val fun e w'' => e = .returned v ∧ ∃ y : Later W, w'' = y.val :=
  (h x.val).mono fun _ w' ⟨he, hw⟩ => ⟨he, ⟨w', x.2.trans (hw.mono x.2.size)⟩, rfl⟩
theorem later_same {P : Program} {f : FuncId} {args : Array Value} {W : World} {v : Value} (h : ∀ w, Calls P f args w fun e w' => e = .returned v ∧ w' = w) (x : Later W) :
    Calls P f args x.val fun e w'' => e = .returned v ∧ ∃ y : Later W, w'' = y.val :=
  (h x.val).mono fun _ _ ⟨he, hw⟩ => ⟨he, x, hw⟩
end Go.Proofs.Ytchnjoikjadciab
