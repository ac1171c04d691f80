/- A disk is its calls: any calls. -/
import Derived.Test.YtligofmcmjblpaaGreatPdo
import Derived.Test.YtligofmcmjblpaaGreatPawake
namespace Go.Proofs.YtligofmcmjblpaaGreat
open Go.RowKit
set_option linter.unusedVariables false
set_option linter.unusedSimpArgs false

theorem create_calls (σ : DS) (s : ByteArray) : (σ.create s).2.c.calls = σ.c.calls + 1 := by
  have e : σ.cnt.c.calls = σ.c.calls + 1 := Cn.cc_calls _
  unfold DS.create
  split
  · exact e
  · split
    · exact e
    · split
      · exact e
      · exact e
theorem append_calls (σ : DS) (s : ByteArray) (b : List Int) : (σ.append s b).2.c.calls = σ.c.calls + 1 := by
  have e : σ.cnt.c.calls = σ.c.calls + 1 := Cn.cc_calls _
  unfold DS.append
  split
  · exact e
  · split
    · exact e
    · split
      · exact e
      · exact e
theorem sync_calls (σ : DS) (s : ByteArray) : (σ.sync s).2.c.calls = σ.c.calls + 1 := by
  have e : σ.cnt.c.calls = σ.c.calls + 1 := Cn.cc_calls _
  unfold DS.sync
  split
  · exact e
  · split
    · exact e
    · exact e
theorem rename_calls (σ : DS) (s t : ByteArray) : (σ.rename s t).2.c.calls = σ.c.calls + 1 := by
  have e : σ.cnt.c.calls = σ.c.calls + 1 := Cn.cc_calls _
  unfold DS.rename
  split
  · exact e
  · split
    · exact e
    · split
      · exact e
      · split
        · exact e
        · exact e
theorem remove_calls (σ : DS) (s : ByteArray) : (σ.remove s).2.c.calls = σ.c.calls + 1 := by
  have e : σ.cnt.c.calls = σ.c.calls + 1 := Cn.cc_calls _
  unfold DS.remove
  split
  · exact e
  · split
    · exact e
    · exact e
theorem syncDir_calls (σ : DS) : σ.syncDir.2.c.calls = σ.c.calls + 1 := by
  have e : σ.cnt.c.calls = σ.c.calls + 1 := Cn.cc_calls _
  unfold DS.syncDir
  split
  · exact e
  · exact e
theorem spoil_calls (σ : DS) (s : ByteArray) (a x : Int) : (σ.spoil s a x).2.c.calls = σ.c.calls := by
  unfold DS.spoil
  split
  · rfl
  · split
    · rfl
    · split <;> rfl
theorem doC_calls (σ : DS) (c : CV) : (σ.doC c).2.c.calls ≤ σ.c.calls + 1 := by
  unfold DS.doC
  split
  · rw [create_calls]; omega
  · split
    · rw [append_calls]; omega
    · split
      · rw [sync_calls]; omega
      · split
        · rw [rename_calls]; omega
        · split
          · rw [remove_calls]; omega
          · split
            · rw [syncDir_calls]; omega
            · split
              · show σ.c.calls ≤ _; omega
              · split
                · show σ.c.calls ≤ _; omega
                · split
                  · show σ.c.calls ≤ _; omega
                  · show (σ.spoil c.name c.pos (c.n % 256)).2.c.calls ≤ _
                    rw [spoil_calls]
                    omega

/-- A program's disk and the document's own, in one state, apart from one another, in memory from B on. -/
structure Both (D : PD) (B q p : Nat) (σ : DS) (w : World) : Prop where
  ex : ∃ F G A loc lv wv, D.R w q σ F ∧ RefAt w p σ G A loc lv wv ∧ (∀ k, F k → B ≤ k) ∧ (∀ k, G k → B ≤ k) ∧ ∀ k, F k → ¬ G k
  inv : Inv σ
theorem Both.later {D : PD} {B q p : Nat} {σ : DS} {w w' : World} (h : Both D B q p σ w) (hb : Below w.heap.size w w') : Both D B q p σ w' := by
  obtain ⟨F, G, A, loc, lv, wv, h1, h2, h3⟩ := h.ex
  exact ⟨⟨F, G, A, loc, lv, wv, PD.later h1 hb, h2.later hb, h3⟩, h.inv⟩
/-- The cells of a call. -/
def CellsAt (w : World) (b o : Nat) (c : CV) : Prop := ∀ (j : Nat) (v : Value), c.cells[j]? = some v → w.cell? ⟨b, o + j, none⟩ = some v
theorem CellsAt.later {w w' : World} {b o : Nat} {c : CV} (h : CellsAt w b o c) (hb : Below w.heap.size w w') : CellsAt w' b o c := fun j v hj => cell_later hb (h j v hj)
theorem cells8 {w : World} {b o : Nat} {c : CV} (h : CellsAt w b o c) : w.cell? ⟨b, o, none⟩ = some (.int .i64 c.op) ∧ w.cell? ⟨b, o + 1, none⟩ = some (.string c.name) ∧ w.cell? ⟨b, o + 2, none⟩ = some (.string c.other) ∧ w.cell? ⟨b, o + 3, none⟩ = some (.slice c.dao c.dlen c.dcap) ∧
    w.cell? ⟨b, o + 4, none⟩ = some (.int .i64 c.n) ∧ w.cell? ⟨b, o + 5, none⟩ = some (.int .i64 c.k) ∧ w.cell? ⟨b, o + 6, none⟩ = some (.int .i64 c.pos) ∧ w.cell? ⟨b, o + 7, none⟩ = some (.slice c.pao c.plen c.pcap) :=
  ⟨h 0 _ rfl, h 1 _ rfl, h 2 _ rfl, h 3 _ rfl, h 4 _ rfl, h 5 _ rfl, h 6 _ rfl, h 7 _ rfl⟩
/-- A slice of calls. -/
def CallsR (w : World) (so : Option Addr) (sl : Nat) (C : Nat → CV) : Prop := ∀ k, k < sl → (C k).Ok w ∧ ∃ b off, so = some ⟨b, off, none⟩ ∧ CellsAt w b (off + k * 8) (C k)
theorem _root_.Go.Proofs.Tryz.cells30 : Tryz.prog.cellsOf 30 = 8 := by kernel_rfl
/-- A call of the program's disk. -/
theorem both_do {D : PD} {B q p : Nat} {σ : DS} {w : World} (h : Both D B q p σ w) {W : World} (hW : W.heap.size = B) (hb : Below B W w) (c : CV) (hc : c.Ok W) (hd : c.dlen ≤ 2 ^ 47) (hl : σ.c.calls < 1048576) :
    Calls Tryz.prog 8 #[ptr q, c.val] w fun e w' => e = .returned (.int .i64 (σ.doC c).1) ∧ Below B W w' ∧
      Calls Tryz.prog 9 #[ptr p, c.val] w' fun e w'' => e = .returned (.int .i64 (σ.doC c).1) ∧ Below B W w'' ∧ Both D B q p (σ.doC c).2 w'' := by
  obtain ⟨F, G, A, loc, lv, wv, h1, h2, h3, h4, h5⟩ := h.ex
  subst hW
  have hs := hb.size
  have c1 := hc.later hb
  refine (do_any D q σ F c w h1 h.inv c1 ⟨(CV.Off.of hc h3).d, (CV.Off.of hc h3).p⟩ hd).mono ?_
  rintro e w' ⟨rfl, F', r1, m1, s1⟩
  have b1 : Below W.heap.size W w' := hb.trans (m1.below hs h3)
  have h2' := h2.kept m1 fun k hk hF => h5 k hF hk
  refine ⟨rfl, b1, (model_any p σ G A loc lv wv c w' h2' h.inv (hc.later b1) ⟨(CV.Off.of hc h4).d, (CV.Off.of hc h4).p⟩ hd).mono ?_⟩
  rintro e w'' ⟨rfl, G', A', loc', lv', wv', r2, m2, s2⟩
  have hFG : ∀ k, F' k → ¬ G k := fun k hk hG => by
    rcases s1 k hk with x | x
    · exact h5 k x hG
    · have := h2.lt k hG
      omega
  refine ⟨rfl, b1.trans (m2.below b1.size h4), ⟨⟨F', G', A', loc', lv', wv', PD.kept r1 m2 hFG, r2, fun k hk => ?_, fun k hk => ?_, fun k hk hG => ?_⟩, h.inv.doC hl c hc⟩⟩
  · rcases s1 k hk with x | x
    · exact h3 k x
    · omega
  · rcases s2 k hk with x | x
    · exact h4 k x
    · have := b1.size
      omega
  · rcases s2 k hG with x | x
    · exact hFG k hk x
    · have := D.lt r1 k hk
      omega
theorem both_like {D : PD} {B q p : Nat} {σ : DS} {w : World} (h : Both D B q p σ w) : Calls Tryz.prog 10 #[ptr q, ptr p] w fun e w' => e = .returned (.bool true) ∧ Below w.heap.size w w' := by
  obtain ⟨F, G, A, loc, lv, wv, h1, h2, _⟩ := h.ex
  exact like_any D q p σ F G A loc lv wv w h1 h2 h.inv
end Go.Proofs.YtligofmcmjblpaaGreat
