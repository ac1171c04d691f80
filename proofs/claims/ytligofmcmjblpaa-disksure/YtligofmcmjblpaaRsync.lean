/- The document's own disk: Sync, SyncDir, the fuse and the fault. -/
import Derived.Test.YtligofmcmjblpaaRren
namespace Go.Proofs.Ytligofmcmjblpaa
open Go.RowKit
set_option linter.unusedVariables false
set_option linter.unusedSimpArgs false

theorem _root_.Go.RowKit.Hid.intro {p : Prop} (h : p) : Hid p := h
/-- The directory, as it is, is sure. -/
theorem nx_sure {w w2 : World} {p : Nat} {σ : DS} {F A : Nat → Prop} {loc : Nat → Nat} {lv wv u : Value} (h : RefAt w p σ F A loc lv wv) (hb : Below w.heap.size w w2) (hr : DRow w.heap.size w2 loc u σ.dir) (g : Nat) (hg : g = w2.heap.size) :
    Nxt w p { σ with was := [σ.dir] } F ((w2.alloc (.cells #[u] 57)).setCell ⟨p, 2, none⟩ (.slice (some ⟨g, 0, none⟩) 1 1)) := by
  subst hg
  have hb2 := hb.alloc hb.size (.cells #[u] 57)
  have h2 := h.later hb2
  have hp : p < w.heap.size := h.blk.ty.lt
  have hsz := hb.size
  have hgs := grown_set (w2.alloc (.cells #[u] 57)) p 2 (.slice (some ⟨w2.heap.size, 0, none⟩) 1 1)
  have hnew : ((w2.alloc (.cells #[u] 57)).setCell ⟨p, 2, none⟩ (.slice (some ⟨w2.heap.size, 0, none⟩) 1 1)).heap[w2.heap.size]? = some (.cells #[u] 57 (0, 0)) := by
    rw [Below.heap_setCell _ _ _ _ (by show w2.heap.size ≠ p; omega), heap_alloc_new]
  refine ⟨fun k => F k ∨ (w.heap.size ≤ k ∧ k < w2.heap.size + 1), A, loc, lv, .slice (some ⟨w2.heap.size, 0, none⟩) 1 1, ⟨.inl h.fp, h2.blk.set2 _, (h2.dir.grown hgs (h2.pne 78 (by decide))).mono fun _ x => .inl x, ⟨[u], ⟨rfl, .inr ⟨w2.heap.size, 1, #[u], rfl, Nat.zero_le _, hnew, Nat.le_refl _, by decide, rfl, rfl⟩⟩, fun g e => ?_, rfl, fun k x l hx hl => ?_⟩, fun i hi => ((h2.file i hi).grown hgs fun k e => ⟨?_, h2.pne 5 (by decide) k e⟩).mono fun _ x => .inl x, h.inj, fun k hk => ?_, fun i hi => ?_, h.nx⟩, ⟨hb2.os, hb2.tape, hb2.output, ?_, fun k hk hF => ?_⟩, fun k hk => ?_⟩
  · simp only [Value.ownBlock, Option.some.injEq] at e
    subst e
    exact .inr ⟨hsz, by omega⟩
  · have hk : k = 0 := by have := (List.getElem?_eq_some_iff.1 hx).1; simp at this; exact this
    subst hk
    simp at hx hl
    subst hx
    subst hl
    have : DRow w.heap.size ((w2.alloc (.cells #[u] 57)).setCell ⟨p, 2, none⟩ (.slice (some ⟨w2.heap.size, 0, none⟩) 1 1)) loc u σ.dir := ownsRow_setCell_below (World.ownsRow.alloc hr _) hp _
    exact this.dir fun k a b => .inr ⟨a, by simp [World.setCell] at b; omega⟩
  · simp only [Option.some.injEq] at e
    subst e
    exact TyOf.ne h2.blk.ty (h2.file i hi).ty (by decide)
  · have := h.lt k
    simp [World.setCell]
    rcases hk with hk | hk
    · have := this hk; omega
    · omega
  · rcases hi with hi | ⟨l, hl, s, hs⟩
    · exact h.al i (.inl hi)
    · simp at hl
      subst hl
      exact h.al i (.inl ⟨s, hs⟩)
  · simp [World.setCell]
    omega
  · rw [Below.heap_setCell _ _ _ _ (fun e => by have e' : k = p := e; subst e'; exact hF h.fp)]
    exact hb2.block k hk
  · rcases hk with hk | hk
    · exact .inl hk
    · exact .inr hk.1
/-- A file's bytes, and how many are sure. -/
theorem nx_file {w w' : World} {p : Nat} {σ : DS} {F A : Nat → Prop} {loc : Nat → Nat} {lv wv dv : Value} (h : RefAt w p σ F A loc lv wv) {i : Nat} (hA : A i) {data : List Int} {sure : Nat} (hg : w.grownBy w' (some (loc i))) (hb : w'.heap[loc i]? = some (.cells #[dv, .int .i64 (sure : Int)] 76 (0, 0)))
    (hr : Row 0 w' dv data) (ho : ∀ b, dv.ownBlock = some b → F b ∨ w.heap.size ≤ b) : Nxt w p { σ with fl := upd σ.fl i (data, sure) } F w' := by
  have hty := (h.file i hA).ty
  have ne : ∀ t, t ≠ 76 → ∀ g, some (loc i) = some g → ¬ TyOf w g t := fun t ht g e x => by
    simp only [Option.some.injEq] at e
    subst e
    exact absurd rfl (TyOf.ne hty x (Ne.symm ht))
  have hlt : ∀ k, F k → k < w'.heap.size := fun k hk => Nat.lt_of_lt_of_le (h.lt k hk) hg.size
  refine ⟨fun k => F k ∨ (w.heap.size ≤ k ∧ k < w'.heap.size), A, loc, lv, wv, ⟨.inl h.fp, ?_, (h.dir.grown hg (ne 78 (by decide))).mono fun _ x => .inl x, (h.was.grown hg fun g e => ⟨ne 78 (by decide) g e, ne 57 (by decide) g e⟩).mono fun _ x => .inl x, fun j hj => ?_, h.inj, fun k hk => ?_, h.al, h.nx⟩, Kept.grown hg fun k e => ?_, fun k hk => ?_⟩
  · unfold Dk
    rw [hg.block p h.blk.ty.lt fun e => by simp only [Option.some.injEq] at e; exact absurd e (TyOf.ne h.blk.ty hty (by decide))]
    exact h.blk
  · by_cases q : j = i
    · subst q
      simp only [upd, if_true]
      refine ⟨.inl (h.file j hA).fp, dv, hb, hr, fun b e => ?_⟩
      rcases ho b e with x | x
      · exact .inl x
      · exact .inr ⟨x, (World.ownsRow.lt hr b e).2⟩
    · simp only [upd, if_neg q]
      exact ((h.file j hj).grown hg fun k e => ⟨fun e2 => by
        simp only [Option.some.injEq] at e
        exact q (h.inj j i hj hA (e2 ▸ e.symm)), ne 5 (by decide) k e⟩).mono fun _ x => .inl x
  · rcases hk with hk | hk
    · exact hlt k hk
    · exact hk.2
  · simp only [Option.some.injEq] at e
    subst e
    exact .inl (h.file i hA).fp
  · rcases hk with hk | hk
    · exact .inl hk
    · exact .inr hk.1

end Go.Proofs.Ytligofmcmjblpaa
