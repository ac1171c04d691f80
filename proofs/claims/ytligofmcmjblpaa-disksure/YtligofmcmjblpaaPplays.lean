/- A disk is its calls: any calls. -/
import Derived.Test.YtligofmcmjblpaaPdo
import Derived.Test.YtligofmcmjblpaaPawake
namespace Go.Proofs.Ytligofmcmjblpaa
open Go.RowKit
set_option linter.unusedVariables false
set_option linter.unusedSimpArgs false

theorem create_calls (σ : DS) (s : ByteArray) : (σ.create s).2.c.calls = σ.c.calls + 1 := by
  have e : σ.cnt.c.calls = σ.c.calls + 1 := Cn.cc_calls _
  unfold DS.create
  split
  · exact e
  · split
    · exact e
    · split
      · exact e
      · exact e
theorem append_calls (σ : DS) (s : ByteArray) (b : List Int) : (σ.append s b).2.c.calls = σ.c.calls + 1 := by
  have e : σ.cnt.c.calls = σ.c.calls + 1 := Cn.cc_calls _
  unfold DS.append
  split
  · exact e
  · split
    · exact e
    · split
      · exact e
      · exact e
theorem sync_calls (σ : DS) (s : ByteArray) : (σ.sync s).2.c.calls = σ.c.calls + 1 := by
  have e : σ.cnt.c.calls = σ.c.calls + 1 := Cn.cc_calls _
  unfold DS.sync
  split
  · exact e
  · split
    · exact e
    · exact e
theorem rename_calls (σ : DS) (s t : ByteArray) : (σ.rename s t).2.c.calls = σ.c.calls + 1 := by
  have e : σ.cnt.c.calls = σ.c.calls + 1 := Cn.cc_calls _
  unfold DS.rename
  split
  · exact e
  · split
    · exact e
    · split
      · exact e
      · split
        · exact e
        · exact e
theorem remove_calls (σ : DS) (s : ByteArray) : (σ.remove s).2.c.calls = σ.c.calls + 1 := by
  have e : σ.cnt.c.calls = σ.c.calls + 1 := Cn.cc_calls _
  unfold DS.remove
  split
  · exact e
  · split
    · exact e
    · exact e
theorem syncDir_calls (σ : DS) : σ.syncDir.2.c.calls = σ.c.calls + 1 := by
  have e : σ.cnt.c.calls = σ.c.calls + 1 := Cn.cc_calls _
  unfold DS.syncDir
  split
  · exact e
  · exact e
theorem spoil_calls (σ : DS) (s : ByteArray) (a x : Int) : (σ.spoil s a x).2.c.calls = σ.c.calls := by
  unfold DS.spoil
  split
  · rfl
  · split
    · rfl
    · split <;> rfl
theorem doC_calls (σ : DS) (c : CV) : (σ.doC c).2.c.calls ≤ σ.c.calls + 1 := by
  unfold DS.doC
  split
  · rw [create_calls]; omega
  · split
    · rw [append_calls]; omega
    · split
      · rw [sync_calls]; omega
      · split
        · rw [rename_calls]; omega
        · split
          · rw [remove_calls]; omega
          · split
            · rw [syncDir_calls]; omega
            · split
              · show σ.c.calls ≤ _; omega
              · split
                · show σ.c.calls ≤ _; omega
                · split
                  · show σ.c.calls ≤ _; omega
                  · show (σ.spoil c.name c.pos (c.n % 256)).2.c.calls ≤ _
                    rw [spoil_calls]
                    omega

/-- A program's disk and the document's own, in one state, apart from one another, in memory from B on. -/
structure Both (D : PD) (B q p : Nat) (σ : DS) (w : World) : Prop where
  ex : ∃ F G A loc lv wv, D.R w q σ F ∧ RefAt w p σ G A loc lv wv ∧ (∀ k, F k → B ≤ k) ∧ (∀ k, G k → B ≤ k) ∧ ∀ k, F k → ¬ G k
  inv : Inv σ
theorem Both.later {D : PD} {B q p : Nat} {σ : DS} {w w' : World} (h : Both D B q p σ w) (hb : Below w.heap.size w w') : Both D B q p σ w' := by
  obtain ⟨F, G, A, loc, lv, wv, h1, h2, h3⟩ := h.ex
  exact ⟨⟨F, G, A, loc, lv, wv, PD.later h1 hb, h2.later hb, h3⟩, h.inv⟩
/-- The cells of a call. -/
def CellsAt (w : World) (b o : Nat) (c : CV) : Prop := ∀ (j : Nat) (v : Value), c.cells[j]? = some v → w.cell? ⟨b, o + j, none⟩ = some v
theorem CellsAt.later {w w' : World} {b o : Nat} {c : CV} (h : CellsAt w b o c) (hb : Below w.heap.size w w') : CellsAt w' b o c := fun j v hj => cell_later hb (h j v hj)
theorem cells8 {w : World} {b o : Nat} {c : CV} (h : CellsAt w b o c) : w.cell? ⟨b, o, none⟩ = some (.int .i64 c.op) ∧ w.cell? ⟨b, o + 1, none⟩ = some (.string c.name) ∧ w.cell? ⟨b, o + 2, none⟩ = some (.string c.other) ∧ w.cell? ⟨b, o + 3, none⟩ = some (.slice c.dao c.dlen c.dcap) ∧
    w.cell? ⟨b, o + 4, none⟩ = some (.int .i64 c.n) ∧ w.cell? ⟨b, o + 5, none⟩ = some (.int .i64 c.k) ∧ w.cell? ⟨b, o + 6, none⟩ = some (.int .i64 c.pos) ∧ w.cell? ⟨b, o + 7, none⟩ = some (.slice c.pao c.plen c.pcap) :=
  ⟨h 0 _ rfl, h 1 _ rfl, h 2 _ rfl, h 3 _ rfl, h 4 _ rfl, h 5 _ rfl, h 6 _ rfl, h 7 _ rfl⟩
/-- A slice of calls. -/
def CallsR (w : World) (so : Option Addr) (sl : Nat) (C : Nat → CV) : Prop := ∀ k, k < sl → (C k).Ok w ∧ ∃ b off, so = some ⟨b, off, none⟩ ∧ CellsAt w b (off + k * 8) (C k)
theorem _root_.Go.Proofs.Try.cells30 : Try.prog.cellsOf 36 = 8 := by kernel_rfl
end Go.Proofs.Ytligofmcmjblpaa
