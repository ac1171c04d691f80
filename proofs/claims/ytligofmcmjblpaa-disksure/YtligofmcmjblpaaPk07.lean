import Derived.BigQuiet
import Derived.Test.YtligofmcmjblpaaPk06
/- The document's own disk: Remove, Rename, Sync, SyncDir, the fuse and the fault. -/
namespace Go.Proofs.Ytligofmcmjblpaa
open Go.RowKit
set_option linter.unusedVariables false
set_option linter.unusedSimpArgs false

end Go.Proofs.Ytligofmcmjblpaa

/- The document's own disk: Sync, SyncDir, the fuse and the fault. -/
namespace Go.Proofs.Ytligofmcmjblpaa
open Go.RowKit
set_option linter.unusedVariables false
set_option linter.unusedSimpArgs false

theorem _root_.Go.RowKit.Hid.intro {p : Prop} (h : p) : Hid p := h
/-- The directory, as it is, is sure. -/
theorem nx_sure {w w2 : World} {p : Nat} {σ : DS} {F A : Nat → Prop} {loc : Nat → Nat} {lv wv u : Value} (h : RefAt w p σ F A loc lv wv) (hb : Below w.heap.size w w2) (hr : DRow w.heap.size w2 loc u σ.dir) (g : Nat) (hg : g = w2.heap.size) :
    Nxt w p { σ with was := [σ.dir] } F ((w2.alloc (.cells #[u] 57)).setCell ⟨p, 2, none⟩ (.slice (some ⟨g, 0, none⟩) 1 1)) := by
  subst hg
  have hb2 := hb.alloc hb.size (.cells #[u] 57)
  have h2 := h.later hb2
  have hp : p < w.heap.size := h.blk.ty.lt
  have hsz := hb.size
  have hgs := grown_set (w2.alloc (.cells #[u] 57)) p 2 (.slice (some ⟨w2.heap.size, 0, none⟩) 1 1)
  have hnew : ((w2.alloc (.cells #[u] 57)).setCell ⟨p, 2, none⟩ (.slice (some ⟨w2.heap.size, 0, none⟩) 1 1)).heap[w2.heap.size]? = some (.cells #[u] 57 (0, 0)) := by
    rw [Below.heap_setCell _ _ _ _ (by show w2.heap.size ≠ p; omega), heap_alloc_new]
  refine ⟨fun k => F k ∨ (w.heap.size ≤ k ∧ k < w2.heap.size + 1), A, loc, lv, .slice (some ⟨w2.heap.size, 0, none⟩) 1 1, ⟨.inl h.fp, h2.blk.set2 _, (h2.dir.grown hgs (h2.pne 78 (by decide))).mono fun _ x => .inl x, ⟨[u], ⟨rfl, .inr ⟨w2.heap.size, 1, #[u], rfl, Nat.zero_le _, hnew, Nat.le_refl _, by decide, rfl, rfl⟩⟩, fun g e => ?_, rfl, fun k x l hx hl => ?_⟩, fun i hi => ((h2.file i hi).grown hgs fun k e => ⟨?_, h2.pne 5 (by decide) k e⟩).mono fun _ x => .inl x, h.inj, fun k hk => ?_, fun i hi => ?_, h.nx⟩, ⟨hb2.os, hb2.tape, hb2.output, ?_, fun k hk hF => ?_⟩, fun k hk => ?_⟩
  · simp only [Value.ownBlock, Option.some.injEq] at e
    subst e
    exact .inr ⟨hsz, by omega⟩
  · have hk : k = 0 := by have := (List.getElem?_eq_some_iff.1 hx).1; simp at this; exact this
    subst hk
    simp at hx hl
    subst hx
    subst hl
    have : DRow w.heap.size ((w2.alloc (.cells #[u] 57)).setCell ⟨p, 2, none⟩ (.slice (some ⟨w2.heap.size, 0, none⟩) 1 1)) loc u σ.dir := ownsRow_setCell_below (World.ownsRow.alloc hr _) hp _
    exact this.dir fun k a b => .inr ⟨a, by simp [World.setCell] at b; omega⟩
  · simp only [Option.some.injEq] at e
    subst e
    exact TyOf.ne h2.blk.ty (h2.file i hi).ty (by decide)
  · have := h.lt k
    simp [World.setCell]
    rcases hk with hk | hk
    · have := this hk; omega
    · omega
  · rcases hi with hi | ⟨l, hl, s, hs⟩
    · exact h.al i (.inl hi)
    · simp at hl
      subst hl
      exact h.al i (.inl ⟨s, hs⟩)
  · simp [World.setCell]
    omega
  · rw [Below.heap_setCell _ _ _ _ (fun e => by have e' : k = p := e; subst e'; exact hF h.fp)]
    exact hb2.block k hk
  · rcases hk with hk | hk
    · exact .inl hk
    · exact .inr hk.1
/-- A file's bytes, and how many are sure. -/
theorem nx_file {w w' : World} {p : Nat} {σ : DS} {F A : Nat → Prop} {loc : Nat → Nat} {lv wv dv : Value} (h : RefAt w p σ F A loc lv wv) {i : Nat} (hA : A i) {data : List Int} {sure : Nat} (hg : w.grownBy w' (some (loc i))) (hb : w'.heap[loc i]? = some (.cells #[dv, .int .i64 (sure : Int)] 76 (0, 0)))
    (hr : Row 0 w' dv data) (ho : ∀ b, dv.ownBlock = some b → F b ∨ w.heap.size ≤ b) : Nxt w p { σ with fl := upd σ.fl i (data, sure) } F w' := by
  have hty := (h.file i hA).ty
  have ne : ∀ t, t ≠ 76 → ∀ g, some (loc i) = some g → ¬ TyOf w g t := fun t ht g e x => by
    simp only [Option.some.injEq] at e
    subst e
    exact absurd rfl (TyOf.ne hty x (Ne.symm ht))
  have hlt : ∀ k, F k → k < w'.heap.size := fun k hk => Nat.lt_of_lt_of_le (h.lt k hk) hg.size
  refine ⟨fun k => F k ∨ (w.heap.size ≤ k ∧ k < w'.heap.size), A, loc, lv, wv, ⟨.inl h.fp, ?_, (h.dir.grown hg (ne 78 (by decide))).mono fun _ x => .inl x, (h.was.grown hg fun g e => ⟨ne 78 (by decide) g e, ne 57 (by decide) g e⟩).mono fun _ x => .inl x, fun j hj => ?_, h.inj, fun k hk => ?_, h.al, h.nx⟩, Kept.grown hg fun k e => ?_, fun k hk => ?_⟩
  · unfold Dk
    rw [hg.block p h.blk.ty.lt fun e => by simp only [Option.some.injEq] at e; exact absurd e (TyOf.ne h.blk.ty hty (by decide))]
    exact h.blk
  · by_cases q : j = i
    · subst q
      simp only [upd, if_true]
      refine ⟨.inl (h.file j hA).fp, dv, hb, hr, fun b e => ?_⟩
      rcases ho b e with x | x
      · exact .inl x
      · exact .inr ⟨x, (World.ownsRow.lt hr b e).2⟩
    · simp only [upd, if_neg q]
      exact ((h.file j hj).grown hg fun k e => ⟨fun e2 => by
        simp only [Option.some.injEq] at e
        exact q (h.inj j i hj hA (e2 ▸ e.symm)), ne 5 (by decide) k e⟩).mono fun _ x => .inl x
  · rcases hk with hk | hk
    · exact hlt k hk
    · exact hk.2
  · simp only [Option.some.injEq] at e
    subst e
    exact .inl (h.file i hA).fp
  · rcases hk with hk | hk
    · exact .inl hk
    · exact .inr hk.1

end Go.Proofs.Ytligofmcmjblpaa

/- The document's own disk: what is used; Append. -/
namespace Go.Proofs.Ytligofmcmjblpaa
open Go.RowKit
set_option linter.unusedVariables false
set_option linter.unusedSimpArgs false

theorem wrapEq (n : Int) : IntKind.i64.wrap n = wrap64 n := by simp [IntKind.wrap_i64, wrap64]
theorem used_app (fl : Nat → List Int × Nat) (l m : List Ent) : used fl (l ++ m) = used fl l + used fl m := by
  induction l with
  | nil => simp [used]
  | cons e r ih => simp only [List.cons_append, used, ih]; omega
theorem used_leR (fl : Nat → List Int × Nat) (l : List Ent) (h : ∀ i, (fl i).1.length ≤ 4194304) : used fl l ≤ l.length * 4194304 := by
  induction l with
  | nil => simp [used]
  | cons e r ih =>
    have := h e.2
    simp only [used, List.length_cons]
    omega

set_option maxHeartbeats 1000000 in
set_option maxRecDepth 100000 in
theorem rused_any (p : Nat) (σ : DS) (F A : Nat → Prop) (loc : Nat → Nat) (lv wv : Value) (w : World) (h : RefAt w p σ F A loc lv wv) (hdn : σ.dir.length ≤ 1048576) (hfl : ∀ i, (σ.fl i).1.length ≤ 4194304 ∧ Okb (σ.fl i).1) :
    Calls Try.prog 13 #[ptr p] w fun e w' => e = .returned (.int .i64 (σ.used : Int)) ∧ Below w.heap.size w w' := by
  obtain ⟨ao, cap, rfl, hlc, hcm, hnil, hcell⟩ := h.dir.cells
  have c1 := cell_of h.blk 1
  simp only [List.getElem?_toArray, List.getElem?_cons_succ, List.getElem?_cons_zero] at c1
  obtain ⟨n, hnn⟩ : ∃ n, n = σ.dir.length := ⟨_, rfl⟩
  have HC : Hid (∀ k, k < n → ∃ g a i d s, ao = some ⟨g, 0, none⟩ ∧ σ.dir[k]? = some (a, i) ∧ w.cell? ⟨g, k * 2, none⟩ = some (.string a) ∧ w.cell? ⟨g, k * 2 + 1, none⟩ = some (.pointer (some ⟨loc i, 0, none⟩)) ∧ w.cell? ⟨loc i, 0, none⟩ = some (.slice d (σ.fl i).1.length s)) := fun k hk => by
    obtain ⟨g, a, i, e, xk, xd, x1, x2⟩ := hcell k (by omega)
    obtain ⟨dv, y1, y2, y3⟩ := (h.file i (h.al i (.inl ⟨a, List.mem_of_getElem? xk⟩))).ex
    obtain ⟨ao, cap, rfl, _⟩ := y2.byt (hfl i).2
    exact ⟨g, a, i, ao, cap, e, xk, x1, x2, cell_of y1 0⟩
  have HN : Hid (n = σ.dir.length ∧ n ≤ 1048576) := ⟨hnn, by omega⟩
  have hn' : n ≤ 1048576 := HN.out.2
  have HU : Hid (∀ l : List Ent, used σ.fl l ≤ l.length * 4194304) := fun l => used_leR σ.fl l fun i => (hfl i).1
  rw [← hnn] at c1
  clear h hdn hfl hlc hcm hnil hcell hnn
  unfold ptr
  go_enter Try.func13, Try.ntmps13
  go_wp2_with fail
  go_loopg [3, 11] n (fun g u i wr => ∃ k S : Nat, k + g = n ∧ i = .int .i64 (k : Int) ∧ u = .int .i64 (S : Int) ∧ Below w.heap.size w wr ∧ Hid (S = used σ.fl (σ.dir.take k)))
  case atStart => exact ⟨0, 0, by omega, rfl, rfl, Below.refl _ _, rfl⟩
  case round =>
    obtain ⟨k, S, hk, rfl, rfl, hw, HT⟩ := hrel
    by_cases h : k < n
    · have h' : (k : Int) < (n : Int) := by omega
      obtain ⟨g, a, i, d, s, rfl, xk, x1, x2, x3⟩ := HC.out k h
      have y1 := cell_later hw x1
      have y2 := cell_later hw x2
      have y3 := cell_later hw x3
      have y4 : loc i < wr.heap.size := block_lt_of_cell y3
      obtain ⟨GK, HG⟩ : ∃ g, Hid (g < gk ∧ k + 1 + g = n) := ⟨gk - 1, by omega, by omega⟩
      have HW : Hid (Below w.heap.size w wr) := hw
      obtain ⟨L, hL⟩ : ∃ L, L = (σ.fl i).1.length := ⟨_, rfl⟩
      rw [← hL] at y3
      have hs : S + L = used σ.fl (σ.dir.take (k + 1)) := by
        rw [take_snoc xk, used_app, ← HT.out, hL]
        simp [used]
      have hb := HU.out (σ.dir.take (k + 1))
      rw [← hs, List.length_take] at hb
      have hb2 : S + L ≤ 2 ^ 62 := by omega
      have HS : Hid (S + L = used σ.fl (σ.dir.take (k + 1))) := hs
      clear hk x1 x2 x3 hw xk hs hb hL HT
      go_wp2_with fail
      go_roundg GK
      case measure => exact HG.out.1
      case rel => exact ⟨k + 1, S + L, HG.out.2, by go_num, by go_num, HW.out.alloc HW.out.size _, HS⟩
    · have h' : (n : Int) ≤ (k : Int) := by omega
      have hs : S = σ.used := by
        have := HT.out
        rw [List.take_of_length_le (by have := HN.out; omega)] at this
        exact this
      subst hs
      go_wp2_with fail
      go_ret
      exact ⟨rfl, hw⟩
theorem Inv.dn {σ : DS} (hi : Inv σ) : σ.dir.length ≤ 1048576 := by have h1 := hi.dl; have h2 := hi.ok.2.1; omega
theorem Inv.fls {σ : DS} (hi : Inv σ) : ∀ i, (σ.fl i).1.length ≤ 4194304 ∧ Okb (σ.fl i).1 := fun i => ⟨(hi.fl i).1, (hi.fl i).2.2⟩
theorem Inv.ul {σ : DS} (hi : Inv σ) : σ.used ≤ 4398046511104 := by
  have h1 := used_leR σ.fl σ.dir fun i => (hi.fl i).1
  have h2 := hi.dn
  unfold DS.used
  omega
theorem Row.slice {B : Nat} {w : World} {v : Value} {xs : List Int} (h : Row B w v xs) : ∃ ao n c, v = .slice ao n c := by
  rcases h.2 with ⟨rfl, _⟩ | ⟨g, cap, cur, rfl, _⟩
  · exact ⟨_, _, _, rfl⟩
  · exact ⟨_, _, _, rfl⟩
theorem Row.zero {B : Nat} {w : World} {v : Value} {xs : List Int} (h : Row B w v xs) : Row 0 w v xs := ⟨h.1, h.2.imp id fun ⟨g, cap, cur, a, b, c⟩ => ⟨g, cap, cur, a, Nat.zero_le _, c⟩⟩
end Go.Proofs.Ytligofmcmjblpaa
