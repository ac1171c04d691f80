import Derived.Test.YtfecopldepnicaaPk03
import Derived.Test.YtfecopldepnicaaPk06
import Derived.Test.YtfecopldepnicaaPk07
/- Rows of structs that lean on some blocks alone; pieces of them. -/
namespace Go.Proofs.Ytfecopldepnicaa
open Go.RowKit
set_option linter.unusedVariables false
set_option linter.unusedSimpArgs false

/-- A row that is read; its elements lean on blocks of G alone. -/
def RSG {α : Type} (E : El α) (G : Nat → Prop) (w : World) (ao : Option Addr) (len cap : Nat) (xs : List α) : Prop := ∃ us, RSu E w ao len cap us xs ∧ ∀ u ∈ us, ∀ b, Refs u b → G b
theorem RSG.rs {α : Type} {E : El α} {G : Nat → Prop} {w : World} {ao : Option Addr} {len cap : Nat} {xs : List α} (h : RSG E G w ao len cap xs) : RS E w ao len cap xs := by
  obtain ⟨us, h, _⟩ := h
  exact ⟨us, h⟩
theorem RSG.later {α : Type} {E : El α} {G : Nat → Prop} {w w' : World} {ao : Option Addr} {len cap : Nat} {xs : List α} (h : RSG E G w ao len cap xs) (hb : Below w.heap.size w w') : RSG E G w' ao len cap xs := by
  obtain ⟨us, h, hg⟩ := h
  exact ⟨us, h.later hb, hg⟩
theorem RSG.any {α : Type} {E : El α} {w : World} {ao : Option Addr} {len cap : Nat} {xs : List α} (h : RS E w ao len cap xs) : RSG E (fun b => b < w.heap.size) w ao len cap xs := by
  obtain ⟨us, h⟩ := h
  exact ⟨us, h, fun u hu b hr => h.2.2.2.2.1.lt u hu b hr⟩
theorem RowF.rsg {α : Type} {E : El α} {B : Nat} {F : Nat → Prop} {w : World} {v : Value} {xs : List α} (h : RowF E B F w v xs) : ∃ ao cap, v = .slice ao xs.length cap ∧ RSG E F w ao xs.length cap xs := by
  obtain ⟨us, hown, h2, h3, h4⟩ := h
  have hcells : ∀ g, v.ownBlock = some g → _ := fun g hg => World.ownsRow.cells hown (g := g) hg
  rcases hown.2 with ⟨rfl, h0⟩ | ⟨g, cap, cur, rfl, hbg, hg, hnc, hcm, hcs, htake⟩
  · have hx : xs = [] := List.eq_nil_of_length_eq_zero h0
    subst hx
    have hu : us = [] := h2
    subst hu
    exact ⟨none, 0, rfl, [], ⟨rfl, fun _ => ⟨rfl, rfl⟩, Nat.le_refl _, Nat.zero_le _, rfl, fun j u hu => by simp at hu⟩, fun u hu => by cases hu⟩
  · refine ⟨some ⟨g, 0, none⟩, cap, rfl, us, ⟨rfl, (fun q => by cases q), hnc, hcm, h2, fun j u hu => ⟨g, 0, rfl, ?_⟩⟩, h4⟩
    have := hcells g rfl j u hu
    rw [Addr.add_lit] at this
    exact this
theorem Lay.split' {α : Type} {E : El α} {w : World} : ∀ {us : List Value} {xs ys : List α}, Lay E w us (xs ++ ys) → ∃ u1 u2, us = u1 ++ u2 ∧ Lay E w u1 xs ∧ Lay E w u2 ys
  | us, [], ys, h => ⟨[], us, rfl, rfl, h⟩
  | us, x :: xs, ys, h => by
    obtain ⟨vs, us', rfl, h1, h2⟩ := h
    obtain ⟨u1, u2, rfl, g1, g2⟩ := Lay.split' h2
    exact ⟨vs ++ u1, u2, by rw [List.append_assoc], ⟨vs, u1, rfl, h1, g1⟩, g2⟩
/-- A piece of a row that is read. -/
theorem RSG.cut {α : Type} {E : El α} {G : Nat → Prop} {w : World} {ao : Option Addr} {len cap : Nat} {xs : List α} (h : RSG E G w ao len cap xs) (hp : 0 < E.size) (i j : Nat) (h1 : i ≤ j) (h2 : j ≤ len) :
    RSG E G w (if cap - i = 0 then ao else ao.map (fun a => a.add (i * E.size))) (j - i) (cap - i) ((xs.drop i).take (j - i)) := by
  obtain ⟨us, ⟨e1, e2, e3, e4, e5, e6⟩, hg⟩ := h
  have hus : us = (us.take (i * E.size)) ++ ((us.drop (i * E.size)).take ((j - i) * E.size) ++ (us.drop (i * E.size)).drop ((j - i) * E.size)) := by rw [List.take_append_drop, List.take_append_drop]
  have hxs : xs = xs.take i ++ ((xs.drop i).take (j - i) ++ (xs.drop i).drop (j - i)) := by rw [List.take_append_drop, List.take_append_drop]
  have hl := e5
  rw [hxs] at hl
  obtain ⟨u1, u2, q1, l1, l2⟩ := Lay.split' hl
  obtain ⟨u3, u4, q2, l3, l4⟩ := Lay.split' l2
  have n1 := l1.len
  have n3 := l3.len
  have x1 : (xs.take i).length = i := by rw [List.length_take]; omega
  have x3 : ((xs.drop i).take (j - i)).length = j - i := by rw [List.length_take, List.length_drop]; omega
  rw [x1] at n1
  rw [x3] at n3
  refine ⟨u3, ⟨x3, fun hn => ?_, by omega, by omega, l3, fun k u hk => ?_⟩, fun u hu b hr => hg u (by rw [q1, q2]; exact List.mem_append.2 (.inr (List.mem_append.2 (.inl hu)))) b hr⟩
  · by_cases q : cap - i = 0
    · rw [if_pos q] at hn
      have := e2 hn
      omega
    · rw [if_neg q] at hn
      have := e2 (by simpa using hn)
      omega
  · have hkl : k < u3.length := (List.getElem?_eq_some_iff.1 hk).1
    have hku : us[i * E.size + k]? = some u := by
      rw [q1, q2, List.getElem?_append_right (by omega), n1, Nat.add_sub_cancel_left, List.getElem?_append_left hkl]
      exact hk
    obtain ⟨b, off, rfl, hc⟩ := e6 _ _ hku
    have hji : 0 < j - i := by
      rcases Nat.eq_zero_or_pos (j - i) with q | q
      · rw [q, Nat.zero_mul] at n3
        omega
      · exact q
    refine ⟨b, off + i * E.size, ?_, by rw [Nat.add_assoc]; exact hc⟩
    rw [if_neg (by omega)]
    show some ((⟨b, off, none⟩ : Addr).add (i * E.size)) = _
    rw [Addr.add_lit]
end Go.Proofs.Ytfecopldepnicaa

/- What is asked of a program's mem: how it lies in memory is its own. -/
namespace Go.Proofs.Ytfecopldepnicaa
open Go.RowKit
set_option linter.unusedVariables false
set_option linter.unusedSimpArgs false

/-- All that is not of F stands. -/
structure Kept (F : Nat → Prop) (w w' : World) : Prop where
  os : w'.os = w.os
  tape : w'.tape = w.tape
  output : w'.output = w.output
  size : w.heap.size ≤ w'.heap.size
  block : ∀ k, k < w.heap.size → ¬ F k → w'.heap[k]? = w.heap[k]?
theorem Kept.below {F : Nat → Prop} {w w' : World} {B : Nat} (h : Kept F w w') (hB : B ≤ w.heap.size) (hF : ∀ k, F k → B ≤ k) : Below B w w' :=
  ⟨h.os, h.tape, h.output, h.size, fun k hk => h.block k (by omega) (fun q => by have := hF k q; omega)⟩
theorem Kept.refl (F : Nat → Prop) (w : World) : Kept F w w := ⟨rfl, rfl, rfl, Nat.le_refl _, fun _ _ _ => rfl⟩
/-- An entry as a value. -/
def entA (ka : Option Addr) (kc : Nat) (va : Option Addr) (vc : Nat) (e : EntV) : Value := .agg #[.slice ka e.key.length kc, .int .i64 e.seq, .bool e.gone, .int .i64 e.till, .slice va e.val.length vc]
def entL (ka : Option Addr) (kc : Nat) (va : Option Addr) (vc : Nat) (e : EntV) : List Value := [.slice ka e.key.length kc, .int .i64 e.seq, .bool e.gone, .int .i64 e.till, .slice va e.val.length vc]
/-- No entry. -/
def ent0 : Value := .agg #[.slice none 0 0, .int .i64 0, .bool false, .int .i64 0, .slice none 0 0]
/-- What a call that tells an entry tells: memory of the caller's own. -/
def GotE (B : Nat) (g : Option EntV) (r : Ending) (w' : World) : Prop :=
  (g = none ∧ r = .returned (.tuple #[ent0, .bool false])) ∨ ∃ x ka kc va vc, g = some x ∧ r = .returned (.tuple #[entA ka kc va vc x, .bool true]) ∧ EntM w' (entL ka kc va vc x) x ∧ ∀ u ∈ entL ka kc va vc x, ∀ b, Refs u b → B ≤ b
/-- The mem's pointer. -/
def pm (p : Nat) : Value := .pointer (some ⟨p, 0, none⟩)
/-- -/
structure PM where
  R : World → Nat → List EntV → (Nat → Prop) → Prop
  G : World → Prop
  N : Nat
  gk : ∀ {w w'}, G w → Below w.heap.size w w' → G w'
  gn : ∀ {w}, G w → N ≤ w.heap.size
  rn : ∀ {w p l F}, R w p l F → N ≤ w.heap.size
  lt : ∀ {w p l F}, R w p l F → ∀ k, F k → k < w.heap.size
  same : ∀ {w w' p l F}, R w p l F → (∀ k, F k → w'.heap[k]? = w.heap[k]?) → (∀ k, k < N → w'.heap[k]? = w.heap[k]?) → R w' p l F
  may : ∀ {w ka kc va vc e}, EntM w (entL ka kc va vc e) e → Calls Try.prog 59 #[entA ka kc va vc e] w fun r w' => r = .returned (.bool (mayE e)) ∧ Below w.heap.size w w'
/-- What List and All tell. -/
structure PML (D : PM) : Prop where
theorem PM.later {D : PM} {w w' : World} {p : Nat} {l : List EntV} {F : Nat → Prop} (h : D.R w p l F) (hb : Below w.heap.size w w') : D.R w' p l F := D.same h (fun k hk => hb.block k (D.lt h k hk)) (fun k hk => hb.block k (by have := D.rn h; omega))
end Go.Proofs.Ytfecopldepnicaa

/- Slices of bytes as lists, beside the keys' theory. -/
namespace Go.Proofs.Ytfecopldepnicaa
end Go.Proofs.Ytfecopldepnicaa
