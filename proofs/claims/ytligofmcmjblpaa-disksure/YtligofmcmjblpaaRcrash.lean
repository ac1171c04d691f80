/- The document's own disk: Crash. -/
import Derived.Test.YtligofmcmjblpaaRcrashA
import Derived.Deep.RegionHeldLaw
namespace Go.Proofs.Ytligofmcmjblpaa
open Go.RowKit
set_option linter.unusedVariables false
set_option linter.unusedSimpArgs false

theorem WRow.cells {B : Nat} {w : World} {v : Value} {vs : List Value} (h : WRow B w v vs) (hp : 0 < vs.length) : ∃ g c, v = .slice (some ⟨g, 0, none⟩) vs.length c ∧ vs.length ≤ c ∧ ∀ (k : Nat) (x : Value), vs[k]? = some x → w.cell? ⟨g, k, none⟩ = some x := by
  have hcells : ∀ g, v.ownBlock = some g → _ := fun g hg => World.ownsRow.cells h (g := g) hg
  rcases h.2 with ⟨e, h0⟩ | ⟨g, cap, cur, rfl, hb, hg, h1, h2, h3, h4⟩
  · omega
  · refine ⟨g, cap, rfl, h1, fun k x hx => ?_⟩
    have := hcells g rfl k x hx
    rw [Addr.add_lit, Nat.zero_add] at this
    exact this
theorem DRow.slice2 {B : Nat} {w : World} {loc : Nat → Nat} {v : Value} {l : List Ent} (h : DRow B w loc v l) : ∃ ao c, v = .slice ao l.length c := by
  rcases h.2 with ⟨rfl, e⟩ | ⟨g, cap, cur, rfl, _⟩
  · exact ⟨none, 0, by rw [e]⟩
  · exact ⟨_, _, rfl⟩
theorem step_app {ops : Array Oper} {w : World} {o : Oper} {a : Act} {K : Act → World → Prop} {Q : Exit → Act → World → Prop} {E : Prop} (hgd : o.guard = none) (s x : Operand)
    (ho : o.op = .call { callee := .builtin .append, args := #[s, x], argTypes := #[26, 26] }) (B : Nat) (v : Value) (xs : List Int) (hs : a.eval s = v) (hrow : Row B w v xs)
    (ao : Option Addr) (m c : Nat) (X : Nat → Nat) (hx : a.eval x = .slice ao m c) (hnil : ao = none → m = 0 ∧ c = 0) (hby : Byt w ao m X) (hb : xs.length + m ≤ 140737488355328) (hbase : B ≤ w.heap.size)
    (h : ∀ ao' n' c' w', Row B w' (.slice ao' n' c') (xs ++ bs X m) → w.grownBy w' v.ownBlock → K (a.put o.dst (.slice ao' n' c')) w') :
    if Region.wanted o (yielded ops a.tmps) = true then Oper.wp Try.prog o a w K Q else E := by
  have hw : Region.wanted o (yielded ops a.tmps) = true := by simp [Region.wanted, hgd]
  rw [if_pos hw]
  refine wp_app s x ho B v xs hs hrow ao m c X hx hnil hby hb hbase fun v' w' h2 h3 _ => ?_
  obtain ⟨o1, o2, o3, rfl⟩ := Row.slice h2
  exact h _ _ _ _ h2 h3
theorem FileR.facts {w : World} {F : Nat → Prop} {g : Nat} {data : List Int} {sure : Nat} (h : FileR w F g (data, sure)) (ho : Okb data) :
    ∃ ao cap, (ao = none → data.length = 0 ∧ cap = 0) ∧ data.length ≤ cap ∧ cap ≤ maxLen ∧ Byt w ao data.length (xof data) ∧ w.cell? ⟨g, 0, none⟩ = some (.slice ao data.length cap) ∧ w.cell? ⟨g, 1, none⟩ = some (.int .i64 (sure : Int)) := by
  obtain ⟨dv, x1, x2, x3⟩ := h.ex
  obtain ⟨ao, cap, rfl, x4, x5, x6, x7⟩ := x2.byt ho
  exact ⟨ao, cap, x4, x5, x6, x7, cell_of x1 0, cell_of x1 1⟩
theorem DRow.frozen {B : Nat} {w : World} {loc : Nat → Nat} {g n c : Nat} {l : List Ent} (h : DRow B w loc (.slice (some ⟨g, 0, none⟩) n c) l) (k : Nat) : w.frozen? ⟨g, k, none⟩ = false := by
  rcases h.2 with ⟨e, _⟩ | ⟨g', cap, cur, e, hb, hg, _⟩
  · cases e
  · simp only [Value.slice.injEq, Option.some.injEq, Addr.mk.injEq, and_true] at e
    obtain ⟨rfl, _, _⟩ := e
    exact frozen_of hg k
theorem cell_set_alloc {w : World} {a : Addr} {u : Value} (h : w.cell? a = some u) {g : Nat} (ne : g ≠ a.block) (k : Nat) (v : Value) (o : Obj) : ((w.setCell ⟨g, k, none⟩ v).alloc o).cell? a = some u := by
  have h1 : (w.setCell ⟨g, k, none⟩ v).cell? a = some u := (World.cell?_setCell_far w ⟨g, k, none⟩ a v ne).trans h
  exact cell_later ((Below.refl _ _).alloc (Nat.le_refl _) o) h1
theorem grow_drew (w : World) (r : Option Nat) : w.grownBy w.drew r := ⟨rfl, rfl, rfl, Nat.le_refl _, fun _ _ _ => rfl⟩

end Go.Proofs.Ytligofmcmjblpaa
