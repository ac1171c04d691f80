/- Parts and numbers, on lists: what the law on rows leans on. -/
import Derived.Test.YtgfkjbckhgndcabKcmp
import Derived.RegionTactic
import Derived.BigQuiet
namespace Go.Proofs.Ytgfkjbckhgndcab
open Go.RowKit
set_option linter.unusedVariables false
set_option linter.unusedSimpArgs false

theorem fx8_fv {n : Nat} (hn : n < 18446744073709551616) (t : List Int) (ht : Okb t) : fv (xof (fx n 8 ++ t)) 8 = n := by
  have h := fv_fx n 8 (xof (fx n 8 ++ t)) 0 0 (fun k hk => by
    rw [Nat.zero_add]
    have hb := begins_xof (xs := fx n 8) (ys := t) ((okb_fx n 8).app ht) k (by rw [fx_length]; exact hk)
    exact hb) rfl
  rw [Nat.zero_add, Nat.zero_mul, Nat.zero_add] at h
  rw [h]
  exact Nat.mod_eq_of_lt (by omega)
/-- A number comes back. -/
theorem tn_fx {n : Int} (hn : InI n) (t : List Int) (ht : Okb t) : tn (fx (turned n) 8 ++ t) = (0, n) := by
  unfold tn
  rw [if_neg (by rw [List.length_append, fx_length]; omega), fx8_fv (turned_lt hn) t ht, back_turned hn]
/-- Few, and short. -/
def Few (rs : List (List Int)) (k : Nat) : Prop := ∀ j r, j < k → rs[j]? = some r → r.length ≤ 300
theorem Few.succ {rs : List (List Int)} {k : Nat} (h : Few rs k) (hk : ∀ r, rs[k]? = some r → r.length ≤ 300) : Few rs (k + 1) := fun j r hj hr => by
  rcases Nat.lt_or_ge j k with q | q
  · exact h j r q hr
  · obtain rfl : j = k := by omega
    exact hk r hr
theorem Few.none {rs : List (List Int)} {k : Nat} (h : Few rs k) (hk : rs.length ≤ k) : Few rs (k + 1) := h.succ fun r hr => by
  rw [List.getElem?_eq_none hk] at hr
  cases hr
theorem pts_small : ∀ (l : List (List Int)), (∀ r ∈ l, r.length ≤ 300) → (pts l).length ≤ 602 * l.length
  | [], _ => Nat.le_refl _
  | r :: l, h => by
    have h1 := pts_small l fun s hs => h s (List.mem_cons_of_mem _ hs)
    have h2 := h r (List.mem_cons_self ..)
    have h3 := pt_len r
    rw [pts, List.length_append, List.length_cons]
    omega
theorem pts_take {rs : List (List Int)} {k : Nat} (h : k < rs.length) : pts (rs.take (k + 1)) = pts (rs.take k) ++ pt rs[k] := by
  rw [List.take_add_one, List.getElem?_eq_getElem h, pts_app]
  simp [pts]
theorem okb_pts : ∀ {l : List (List Int)}, (∀ r ∈ l, Okb r) → Okb (pts l)
  | [], _ => fun x hx => by cases hx
  | r :: l, h => (okb_pt (h r (List.mem_cons_self ..))).app (okb_pts fun s hs => h s (List.mem_cons_of_mem _ hs))
theorem Few.all {rs : List (List Int)} (h : Few rs rs.length) : ∀ r ∈ rs, r.length ≤ 300 := fun r hr => by
  obtain ⟨i, hi, rfl⟩ := List.getElem_of_mem hr
  exact h i _ hi (List.getElem?_eq_getElem hi)
/-- The worlds that hold all that W held. -/
def Later (W : World) : Type := { w : World // Below W.heap.size W w }
theorem wp_region_later {P : Program} {id : Nat} {Q : Exit → Act → World → Prop} {a : Act} {w : World} {l : List Oper} (hm : P.follows .mixedOrders = true) (hB : Region.lexB .any l.toArray = true)
    (h : wpQuiet P l.toArray (fun w' => ∃ x : Later w, w' = x.val) (fun a' => ∀ w', (∃ x : Later w, w' = x.val) → Q .normal a' w') l a) : (Code.region id l.toArray true).wp P Q a w :=
  wp_region_quiet (C := fun w' => ∃ x : Later w, w' = x.val) hm hB ⟨⟨w.drew, (Below.refl _ _).drew⟩, rfl⟩ (by simpa using h)
theorem later_at {P : Program} {f : FuncId} {args : Array Value} {W : World} {v : Value} (h : ∀ z : Later W, Calls P f args z.val fun e w' => e = .returned v ∧ Below z.val.heap.size z.val w') (x : Later W) :
    Calls P f args x.val fun e w'' => e = .returned v ∧ ∃ y : Later W, w'' = y.val :=
  (h x).mono fun _ w' ⟨he, hw⟩ => ⟨he, ⟨w', x.2.trans (hw.mono x.2.size)⟩, rfl⟩
end Go.Proofs.Ytgfkjbckhgndcab
