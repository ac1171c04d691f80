import Derived.Laws.BitsAllLaws
import Derived.Laws.OwnMore
import Derived.Deep.OwnRows
import Derived.Test.YtimpaindbbjieabPk06
import Derived.Test.YtimpaindbbjieabPk15
/- The document's own filters: Hash, Probes. -/
namespace Go.Proofs.Ytimpaindbbjieab
open Go.RowKit
set_option linter.unusedVariables false
set_option linter.unusedSimpArgs false

/-- A whole number in a cell. -/
def numE : El Nat where
  ty := 3
  size := 1
  M := fun _ vs x => vs = [.int .i64 (x : Int)]
  len := fun h => by rw [h]; rfl
  one := fun h v hv => by rw [h] at hv; rw [List.mem_singleton.1 hv]; rfl
  lt := fun h v hv b hr => by rw [h] at hv; rw [List.mem_singleton.1 hv] at hr; exact (refs_int hr).elim
  keep := fun h _ => h
theorem numE_info : (Try.prog.info? numE.ty).map (fun i => (i.zero, i.size, i.bytes)) = some (some (.int .i64 0), numE.size, 8) := by kernel_rfl
theorem RS.num {w : World} {ao : Option Addr} {len cap : Nat} {xs : List Nat} (h : RS numE w ao len cap xs) {i : Nat} {x : Nat} (hx : xs[i]? = some x) : ∃ b off, ao = some ⟨b, off, none⟩ ∧ w.cell? ⟨b, off + i, none⟩ = some (.int .i64 (x : Int)) := by
  obtain ⟨b, off, vs, e, hM, hc⟩ := RS.at h (by decide) hx
  have hM' : vs = [.int .i64 (x : Int)] := hM
  subst hM'
  refine ⟨b, off, e, ?_⟩
  have := hc 0 _ rfl
  rw [show off + (i * numE.size + 0) = off + i by show off + (i * 1 + 0) = off + i; omega] at this
  exact this
theorem RS.length {α : Type} {E : El α} {w : World} {ao : Option Addr} {len cap : Nat} {xs : List α} (h : RS E w ao len cap xs) : xs.length = len ∧ len ≤ cap ∧ cap ≤ maxLen := by
  obtain ⟨us, h1, h2, h3, h4, _⟩ := h
  exact ⟨h1, h3, h4⟩
theorem xof_toNat {xs : List Int} {k : Nat} {c : Int} (h : xs[k]? = some c) : xof xs k = c.toNat := by simp [xof, h]

def prI (key : List Int) (m : Int) : List Nat := if m < 1 then [] else prbs key m.toNat

end Go.Proofs.Ytimpaindbbjieab

/- The document's own filters: Filter, Has. -/
namespace Go.Proofs.Ytimpaindbbjieab
open Go.RowKit
set_option linter.unusedVariables false
set_option linter.unusedSimpArgs false

theorem hid9 {p : Prop} (h : p) : Hid p := h
theorem row_zeros (w : World) (n : Nat) (hn : n ≤ 1099511627776) : Row w.heap.size (w.alloc (.cells (madeCells #[.int .u8 0] n) 5)) (.slice (some ⟨w.heap.size, 0, none⟩) n n) (List.replicate n 0) := by
  refine ⟨by simp, .inr ⟨w.heap.size, n, madeCells #[.int .u8 0] n, by simp, Nat.le_refl _, heap_alloc_new w _, by simp, by unfold maxLen; omega, by rw [size_madeCells]; omega, ?_⟩⟩
  rw [toList_madeCells_one, List.length_replicate, List.take_of_length_le (by simp)]
  simp
theorem heap_setB {w : World} {p : Nat} {C : Array Value} {t : TypeId} {f : Nat × Nat} (h : w.heap[p]? = some (.cells C t f)) (k : Nat) (v : Value) : (w.setCell ⟨p, k, none⟩ v).heap[p]? = some (.cells (C.setIfInBounds k v) t f) := by
  simp only [World.setCell, Array.getElem?_modify, if_true, h]
  rfl
/-- A byte of a row of one's own is set. -/
theorem row_set {B : Nat} {w : World} {g n c : Nat} {xs : List Int} (h : Row B w (.slice (some ⟨g, 0, none⟩) n c) xs) {i : Nat} (hi : i < xs.length) (x : Int) : Row B (w.setCell ⟨g, i, none⟩ (.int .u8 x)) (.slice (some ⟨g, 0, none⟩) n c) (xs.set i x) := by
  unfold Row at h ⊢
  rcases h with ⟨h1, h2⟩
  rcases h2 with ⟨e, _⟩ | ⟨g', cap, cur, e, hb, hg, hc, hm, hs, ht⟩
  · cases e
  · simp only [Value.slice.injEq, Option.some.injEq, Addr.mk.injEq, and_true] at e
    obtain ⟨rfl, rfl, rfl⟩ := e
    refine ⟨by simp, .inr ⟨g, c, cur.setIfInBounds i (.int .u8 x), by simp, hb, heap_setB hg i _, by simpa using hc, hm, by simpa using hs, ?_⟩⟩
    rw [Array.toList_setIfInBounds, List.length_set, List.take_set, ht, List.map_set]
theorem row_at {B : Nat} {w : World} {g n c : Nat} {xs : List Int} (h : Row B w (.slice (some ⟨g, 0, none⟩) n c) xs) {i : Nat} {x : Int} (hx : xs[i]? = some x) : w.cell? ⟨g, i, none⟩ = some (.int .u8 x) ∧ w.frozen? ⟨g, i, none⟩ = false ∧ n = xs.length ∧ n ≤ c ∧ B ≤ g := by
  have hc := World.ownsRow.cells h (g := g) rfl i (.int .u8 x) (by rw [List.getElem?_map, hx]; rfl)
  rw [Addr.add_lit, Nat.zero_add] at hc
  rcases h.2 with ⟨e, _⟩ | ⟨g', cap, cur, e, hb, hg, hcc, _⟩
  · cases e
  · simp only [Value.slice.injEq, Option.some.injEq, Addr.mk.injEq, and_true] at e
    obtain ⟨rfl, rfl, rfl⟩ := e
    exact ⟨hc, by simp [World.frozen?, hg], rfl, hcc, hb⟩
theorem setb_at {bs : List Int} {p i r X : Nat} (hx : bs[i]? = some (X : Int)) (hi : i = p / 8) (hr : r = p % 8) : setb bs p = bs.set i ((X ||| 2 ^ r : Nat) : Int) := by
  unfold setb
  rw [← hi]
  apply List.ext_getElem?
  intro k
  rw [List.getElem?_modify, List.getElem?_set]
  by_cases e : i = k
  · subst e
    have hlt := (List.getElem?_eq_some_iff.1 hx).1
    rw [if_pos rfl, if_pos hlt, hx]
    simp [orb, ← hr]
  · rw [if_neg e]
    simp only [if_neg e]
    cases bs[k]? <;> rfl
/-- A filter that is being made, beside the probes that are read. -/
structure FlB (w : World) (g N : Nat) (pa : Option Addr) (P : List Nat) (wx : World) (bs : List Int) : Prop where
  row : Row w.heap.size wx (.slice (some ⟨g, 0, none⟩) N N) bs
  bel : Below w.heap.size w wx
  pc : ∀ (j p : Nat), P[j]? = some p → ∃ b off, pa = some ⟨b, off, none⟩ ∧ b ≠ g ∧ wx.cell? ⟨b, off + j, none⟩ = some (.int .i64 (p : Int))
theorem FlB.set {w : World} {g N : Nat} {pa : Option Addr} {P : List Nat} {wx : World} {bs : List Int} (h : FlB w g N pa P wx bs) {i : Nat} (hi : i < bs.length) (hg : w.heap.size ≤ g) (x : Int) : FlB w g N pa P (wx.setCell ⟨g, i, none⟩ (.int .u8 x)) (bs.set i x) := by
  have hne : ∀ b, b ≠ g → (wx.setCell ⟨g, i, none⟩ (.int .u8 x)).heap[b]? = wx.heap[b]? := fun b hb => Below.heap_setCell _ _ _ _ (fun e => hb e)
  refine ⟨row_set h.row hi x, ⟨h.bel.os, h.bel.tape, h.bel.output, by simp [World.setCell]; exact h.bel.size, fun k hk => by rw [hne k (by omega)]; exact h.bel.block k hk⟩, fun j p hp => ?_⟩
  obtain ⟨b, off, e, hb, hc⟩ := h.pc j p hp
  exact ⟨b, off, e, hb, by rw [World.cell?_of_block (w := wx) (a := ⟨b, off + j, none⟩) (hne b hb)]; exact hc⟩

end Go.Proofs.Ytimpaindbbjieab

/- The document's own filters: Has. -/
namespace Go.Proofs.Ytimpaindbbjieab
open Go.RowKit
set_option linter.unusedVariables false
set_option linter.unusedSimpArgs false

theorem hasb_bit {f : List Int} {p i r X : Nat} (hx : f[i]? = some (X : Int)) (hi : i = p / 8) (hr : r = p % 8) : hasb f p = decide (X / 2 ^ r % 2 = 1) := by
  unfold hasb
  rw [← hi, ← hr, List.getD_eq_getElem?_getD, hx]
  simp only [Option.getD_some, Int.toNat_natCast]
  exact Nat.testBit_eq_decide_div_mod_eq
theorem all_take {P : List Nat} {q : Nat → Bool} {j p : Nat} (h : P[j]? = some p) : (P.take (j + 1)).all q = ((P.take j).all q && q p) := by
  rw [List.take_add_one, h, List.all_append]
  simp

end Go.Proofs.Ytimpaindbbjieab
