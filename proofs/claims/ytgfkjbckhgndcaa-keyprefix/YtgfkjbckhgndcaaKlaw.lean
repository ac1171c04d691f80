/- The laws on keys, of any keys that keep the document's calls. -/
import Derived.Test.YtgfkjbckhgndcaaKaft
import Derived.Test.YtgfkjbckhgndcaaBstep
namespace Go.Proofs.Ytgfkjbckhgndcaa
open Go.RowKit
set_option linter.unusedVariables false
set_option linter.unusedSimpArgs false

/-- The calls on keys, as the document has them: what a program's own must keep. -/
structure PK : Prop where
  bytes : ∀ {w : World} {ao so : Option Addr} {len cap ls cs : Nat} {xs ps : List Int}, Sl w ao len cap xs → Sl w so ls cs ps → len + 2 * ls ≤ 140737488355000 →
    Calls Try.prog 11 #[.slice ao len cap, .slice so ls cs] w fun e w' => ∃ v, e = .returned v ∧ Row w.heap.size w' v (xs ++ pt ps) ∧ Below w.heap.size w w'
  number : ∀ {w : World} {ao : Option Addr} {len cap : Nat} {xs : List Int} {n : Int}, Sl w ao len cap xs → Hid (InI n) → len ≤ 140737488355000 →
    Calls Try.prog 16 #[.slice ao len cap, .int .i64 n] w fun e w' => ∃ v, e = .returned v ∧ Row w.heap.size w' v (xs ++ fx (turned n) 8) ∧ Below w.heap.size w w'
  take : ∀ {w : World} {ao : Option Addr} {len cap : Nat} {xs : List Int}, Sl w ao len cap xs → len ≤ 140737488355000 →
    Calls Try.prog 9 #[.slice ao len cap] w fun e w' => ∃ v, e = .returned (.tuple #[v, .int .i64 ((tp xs).2.2 : Int), .int .i64 ((tp xs).1 : Int)]) ∧ SlV w' v (tp xs).2.1 ∧ Below w.heap.size w w'
  takeN : ∀ {w : World} {ao : Option Addr} {len cap : Nat} {xs : List Int}, Sl w ao len cap xs →
    Calls Try.prog 14 #[.slice ao len cap] w fun e w' => e = .returned (.tuple #[.int .i64 (tn xs).2, .int .i64 ((tn xs).1 : Int)]) ∧ Below w.heap.size w w'
  after : ∀ {w : World} {ao : Option Addr} {len cap : Nat} {xs : List Int}, Sl w ao len cap xs → len ≤ 140737488355000 →
    Calls Try.prog 18 #[.slice ao len cap] w fun e w' => ∃ v, e = .returned (.tuple #[v, .bool (aft xs).isSome]) ∧ SlV w' v ((aft xs).getD []) ∧ Below w.heap.size w w'
  compare : ∀ {w : World} {a b : Option Addr} {la ca lb cb : Nat} {xs ys : List Int}, Sl w a la ca xs → Sl w b lb cb ys →
    Calls Try.prog 20 #[.slice a la ca, .slice b lb cb] w fun e w' => e = .returned (.int .i64 (cmp xs ys)) ∧ Below w.heap.size w w'

theorem okb_a0 : Okb [97, 0] := fun x hx => by simp at hx; omega
theorem sl_a0 (w : World) : Sl (w.alloc (.cells #[.int .u8 97, .int .u8 0] 5)) (some ⟨w.heap.size, 0, none⟩) 2 2 [97, 0] := by
  refine ⟨rfl, okb_a0, (fun e => by cases e), Nat.le_refl _, by decide, fun k hk => ?_⟩
  have e : (w.alloc (.cells #[.int .u8 97, .int .u8 0] 5)).heap[w.heap.size]? = some (.cells #[.int .u8 97, .int .u8 0] 5 (0, 0)) := heap_alloc_new w _
  have : k = 0 ∨ k = 1 := by omega
  rcases this with q | q <;> subst q
  · refine ⟨by decide, w.heap.size, 0, rfl, ?_⟩
    unfold World.cell?
    rw [e]
    rfl
  · refine ⟨by decide, w.heap.size, 0, rfl, ?_⟩
    unfold World.cell?
    rw [e]
    rfl
set_option maxHeartbeats 1000000 in
set_option maxRecDepth 100000 in
theorem awake7_any (D : PK) (w : World) : Calls Try.prog 13 #[] w fun e w' => e = .returned (.bool true) ∧ Below w.heap.size w w' := by
  have hp := D.bytes (Sl.nil (w.alloc (.cells #[.int .u8 97, .int .u8 0] 5))) (sl_a0 w) (by decide)
  have hb0 : Below w.heap.size w (w.alloc (.cells #[.int .u8 97, .int .u8 0] 5)) := (Below.refl _ _).alloc (Nat.le_refl _) _
  have e5 : ([] : List Int) ++ pt [97, 0] = [97, 0, 255, 0, 1] := rfl
  have h5 : Okb [97, 0, 255, 0, 1] := fun x hx => by simp at hx; omega
  rw [e5] at hp
  have HB : Hid (Below w.heap.size w (w.alloc (.cells #[.int .u8 97, .int .u8 0] 5))) := hb0
  clear hb0 e5
  go_enter Try.func13, Try.ntmps13
  go_wp2_with fail
  refine hp.mono ?_
  rintro e w1 ⟨v1, rfl, hr1, hb1⟩
  obtain ⟨a1, c1, rfl, hs1⟩ := SlV.ofRow hr1 h5
  have hst := str_l hs1
  have hs5 : strOfNums [97, 0, 255, 0, 1] = ⟨#[97, 0, 255, 0, 1]⟩ := rfl
  have hl5 : ([97, 0, 255, 0, 1] : List Int).length = 5 := rfl
  rw [hs5] at hst
  rw [hl5] at hst ⊢
  clear hp hr1 hs1
  go_wp2_with fail
  go_ret
  exact ⟨rfl, HB.out.trans (hb1.mono HB.out.size)⟩

set_option maxHeartbeats 1000000 in
set_option maxRecDepth 100000 in
theorem after_any (D : PK) {w : World} {ao bo : Option Addr} {la ca lb cb : Nat} {xs ys : List Int} (ha : Sl w ao la ca xs) (hb : Sl w bo lb cb ys) (hl : la ≤ 140737488355000) :
    Calls Try.prog 5 #[.slice ao la ca, .slice bo lb cb] w fun e w' => e = .returned (.bool true) ∧ Below w.heap.size w w' := by
  have h1 := D.after ha hl
  have h2 := fun w1 (h : Below w.heap.size w w1) => raft_any (ha.later h) hl
  have h3 := fun w1 (h : Below w.heap.size w w1) => D.compare (ha.later h) (hb.later h)
  have h4 := fun w1 (h : Below w.heap.size w w1) => rcmp_any (ha.later h) (hb.later h)
  have hok : Okb ((aft xs).getD []) := by
    cases h : aft xs with
    | none => exact fun x hx => by cases hx
    | some e => exact okb_aft ha.2.1 h
  clear ha hb hl
  unfold Af at h2
  generalize (aft xs).getD [] = E at h1 h2 hok
  generalize (aft xs).isSome = b at h1 h2
  generalize cmp xs ys = c at h3 h4
  go_enter Try.func5, Try.ntmps5
  go_wp2_with fail
  refine h1.mono ?_
  rintro e w1 ⟨v1, rfl, ⟨a1, c1, rfl, hs1⟩, hb1⟩
  go_wp2_with fail
  refine (h2 w1 hb1).mono ?_
  rintro e w2 ⟨⟨v2, rfl, hr2⟩, hb2⟩
  obtain ⟨a2, c2, rfl, hs2⟩ := SlV.ofRow hr2 hok
  have B2 := hb1.trans (hb2.mono hb1.size)
  have hx := str_l (hs1.later hb2)
  have hy := str_l hs2
  have k3 := h3 w2 B2
  have heq : ((strOfNums E).toList == (strOfNums E).toList) = true := by simp
  have hbb : (b == b) = true := by simp
  have hcc : (c == c) = true := by simp
  have HB2 : Hid (Below w.heap.size w w2) := B2
  have H4 : Hid (∀ w1 (h : Below w.heap.size w w1), Calls Try.prog 21 #[.slice ao la ca, .slice bo lb cb] w1 fun e w' => e = .returned (.int .i64 c) ∧ Below w1.heap.size w1 w') := h4
  generalize strOfNums E = S at hx hy heq
  generalize E.length = n at hx hy ⊢
  clear h1 h2 h3 h4 hs1 hs2 hr2 hb1 hb2 B2 hok
  go_wp2_with fail
  refine k3.mono ?_
  rintro e w3 ⟨rfl, hb3⟩
  have B3 := HB2.out.trans (hb3.mono HB2.out.size)
  have k4 := H4.out w3 B3
  clear k3
  go_wp2_with fail
  refine k4.mono ?_
  rintro e w4 ⟨rfl, hb4⟩
  have B4 := B3.trans (hb4.mono B3.size)
  clear k4
  go_wp2_with fail
  refine (awake7_any D w4).mono ?_
  rintro e w5 ⟨rfl, hb5⟩
  go_wp2_with fail
  go_ret
  exact ⟨rfl, B4.trans (hb5.mono B4.size)⟩
end Go.Proofs.Ytgfkjbckhgndcaa
