import Derived.Test.YtligofmcmjblpaaGreatPk03
import Derived.Test.YtligofmcmjblpaaGreatPk10
/- The document's own disk: what a crash keeps: the theory of its loop. -/
namespace Go.Proofs.YtligofmcmjblpaaGreat
open Go.RowKit
set_option linter.unusedVariables false
set_option linter.unusedSimpArgs false

/-- The directory, k of whose entries have been changed for new ones. -/
def mixK (nx : Nat) (K : List Ent) (k : Nat) : List Ent := (renK nx 0 K).take k ++ K.drop k
theorem mixK_len (nx : Nat) (K : List Ent) (k : Nat) (h : k ≤ K.length) : (mixK nx K k).length = K.length := by
  unfold mixK
  rw [List.length_append, List.length_take, List.length_drop, renK_len]
  omega
theorem mixK_split (nx : Nat) (K : List Ent) (k : Nat) (a : ByteArray) (i : Nat) (h : K[k]? = some (a, i)) : mixK nx K k = (renK nx 0 K).take k ++ (a, i) :: K.drop (k + 1) ∧ mixK nx K (k + 1) = (renK nx 0 K).take k ++ (a, nx + k) :: K.drop (k + 1) := by
  have hk := (List.getElem?_eq_some_iff.1 h).1
  have e : K[k] = (a, i) := by rw [List.getElem?_eq_getElem hk] at h; simpa using h
  constructor
  · unfold mixK
    rw [List.drop_eq_getElem_cons hk, e]
  · unfold mixK
    rw [List.take_add_one, renK_at nx K 0 k (a, i) h, Nat.zero_add]
    simp
def locM (nx : Nat) (loc M : Nat → Nat) : Nat → Nat := fun i => if nx ≤ i then M (i - nx) else loc i
theorem entC_congr {loc loc' : Nat → Nat} {l : List Ent} (h : ∀ e ∈ l, loc' e.2 = loc e.2) : entC loc' l = entC loc l := by
  induction l with
  | nil => rfl
  | cons e r ih =>
    have h1 := ih fun x hx => h x (by simp [hx])
    have h2 := h e (by simp)
    simp only [entC, List.flatMap_cons] at h1 ⊢
    rw [h1, h2]
theorem entC_cons (loc : Nat → Nat) (e : Ent) (l : List Ent) : entC loc (e :: l) = [.string e.1, ptr (loc e.2)] ++ entC loc l := rfl
/-- One entry's file changed for another one, in place. -/
theorem DRow.setp {B : Nat} {w : World} {loc M : Nat → Nat} {nx : Nat} {K : List Ent} {k b g n c : Nat} {a : ByteArray} {i : Nat} (h : DRow B w (locM nx loc M) (.slice (some ⟨g, 0, none⟩) n c) (mixK nx K k)) (hk : K[k]? = some (a, i)) (hK : ∀ e ∈ K, e.2 < nx) :
    DRow B (w.setCell ⟨g, k * 2 + 1, none⟩ (ptr b)) (locM nx loc (fun j => if j = k then b else M j)) (.slice (some ⟨g, 0, none⟩) n c) (mixK nx K (k + 1)) := by
  have hkl := (List.getElem?_eq_some_iff.1 hk).1
  obtain ⟨s1, s2⟩ := mixK_split nx K k a i hk
  have hi : i < nx := hK (a, i) (List.mem_of_getElem? hk)
  have hlen : (mixK nx K (k + 1)).length = (mixK nx K k).length := by rw [s1, s2]; simp
  have htl : ((renK nx 0 K).take k).length = k := by rw [List.length_take, renK_len]; omega
  have hP : entC (locM nx loc (fun j => if j = k then b else M j)) ((renK nx 0 K).take k) = entC (locM nx loc M) ((renK nx 0 K).take k) := entC_congr fun e he => by
    have h1 := List.mem_of_mem_take he
    obtain ⟨j, hj, e1⟩ := List.getElem_of_mem he
    rw [List.getElem_take] at e1
    have hjk : j < k := by omega
    have hjl : j < K.length := by omega
    have h2 := renK_at nx K 0 j K[j] (List.getElem?_eq_getElem hjl)
    rw [List.getElem?_eq_getElem (by rw [renK_len]; exact hjl), e1] at h2
    simp only [Option.some.injEq, Nat.zero_add] at h2
    rw [h2]
    simp only [locM]
    rw [if_pos (Nat.le_add_right _ _), if_pos (Nat.le_add_right _ _), Nat.add_sub_cancel_left, if_neg (by omega)]
  have hS : entC (locM nx loc (fun j => if j = k then b else M j)) (K.drop (k + 1)) = entC (locM nx loc M) (K.drop (k + 1)) := entC_congr fun e he => by
    have := hK e (List.mem_of_mem_drop he)
    simp only [locM]
    rw [if_neg (by omega), if_neg (by omega)]
  have hE : entC (locM nx loc (fun j => if j = k then b else M j)) (mixK nx K (k + 1)) = (entC (locM nx loc M) (mixK nx K k)).set (k * 2 + 1) (ptr b) := by
    rw [s1, s2, entC_app, entC_app, entC_cons, entC_cons, hP, hS]
    rw [List.set_append_right _ _ (by rw [entC_length, htl]; omega), entC_length, htl, show k * 2 + 1 - k * 2 = 1 by omega]
    simp only [locM]
    rw [if_pos (by omega), show nx + k - nx = k by omega, if_pos rfl]
    rfl
  unfold DRow at h ⊢
  rcases h.2 with ⟨e, _⟩ | ⟨g', cap, cur, e, hb, hg, h1, h2, h3, h4⟩
  · cases e
  · simp only [Value.slice.injEq, Option.some.injEq, Addr.mk.injEq, and_true] at e
    obtain ⟨rfl, rfl, rfl⟩ := e
    refine ⟨by rw [entC_length], .inr ⟨g, c, cur.setIfInBounds (k * 2 + 1) (ptr b), by rw [hlen], hb, heap_set hg _ _, by rw [hlen]; exact h1, h2, by simpa using h3, ?_⟩⟩
    rw [Array.toList_setIfInBounds, hlen, hE, ← h4, List.take_set]
structure CrR (w : World) (K : List Ent) (nx : Nat) (loc : Nat → Nat) (fl : Nat → List Int × Nat) (ps : List Int) (L0 : Value) (k : Nat) (M : Nat → Nat) (wr : World) : Prop where
  row : DRow w.heap.size wr (locM nx loc M) L0 (mixK nx K k)
  file : ∀ (j : Nat) (e : Ent), j < k → K[j]? = some e → FileR wr (fun b => w.heap.size ≤ b ∧ b < wr.heap.size) (M j) (fileQ fl ps e j)
  inj : ∀ j j', j < k → j' < k → M j = M j' → j = j'

theorem CrR.later {w : World} {K : List Ent} {nx : Nat} {loc : Nat → Nat} {fl : Nat → List Int × Nat} {ps : List Int} {L0 : Value} {k : Nat} {M : Nat → Nat} {wr w' : World} (h : CrR w K nx loc fl ps L0 k M wr) (hb : Below wr.heap.size wr w') : CrR w K nx loc fl ps L0 k M w' :=
  ⟨h.row.below hb, fun j e hj he => ((h.file j e hj he).same fun b hb2 => hb.block b hb2.2).mono fun b x => ⟨x.1, Nat.lt_of_lt_of_le x.2 hb.size⟩, h.inj⟩
theorem CrR.step {w : World} {K : List Ent} {nx : Nat} {loc : Nat → Nat} {fl : Nat → List Int × Nat} {ps : List Int} {g n c k : Nat} {M : Nat → Nat} {wr : World} {a : ByteArray} {i : Nat} {v : Value} (h : CrR w K nx loc fl ps (.slice (some ⟨g, 0, none⟩) n c) k M wr) (hk : K[k]? = some (a, i)) (hK : ∀ e ∈ K, e.2 < nx)
    (hr : Row w.heap.size wr v (fileQ fl ps (a, i) k).1) (q : Int) (hq : q = ((fileQ fl ps (a, i) k).2 : Int)) :
    CrR w K nx loc fl ps (.slice (some ⟨g, 0, none⟩) n c) (k + 1) (fun j => if j = k then wr.heap.size else M j) ((wr.alloc (.cells #[v, .int .i64 q] 77)).setCell ⟨g, k * 2 + 1, none⟩ (ptr wr.heap.size)) := by
  have hb : Below wr.heap.size wr (wr.alloc (.cells #[v, .int .i64 q] 77)) := (Below.refl _ _).alloc (Nat.le_refl _) _
  have h2 := h.later hb
  have tg : TyOf (wr.alloc (.cells #[v, .int .i64 q] 77)) g 102 := owns_ty h2.row rfl
  have hgs := grown_set (wr.alloc (.cells #[v, .int .i64 q] 77)) g (k * 2 + 1) (ptr wr.heap.size)
  have ne : ∀ t, t ≠ 102 → ∀ x, some g = some x → ¬ TyOf (wr.alloc (.cells #[v, .int .i64 q] 77)) x t := fun t ht x e y => by
    simp only [Option.some.injEq] at e
    subst e
    exact absurd rfl (TyOf.ne tg y (Ne.symm ht))
  have hg : g < wr.heap.size := (owns_ty h.row rfl).lt
  have hw : w.heap.size ≤ wr.heap.size := Nat.le_trans (World.ownsRow.lt h.row g rfl).1 (Nat.le_of_lt hg)
  have hsz : ((wr.alloc (.cells #[v, .int .i64 q] 77)).setCell ⟨g, k * 2 + 1, none⟩ (ptr wr.heap.size)).heap.size = wr.heap.size + 1 := by simp [World.setCell]
  refine ⟨h2.row.setp hk hK, fun j e hj he => ?_, fun j j' hj hj' e => ?_⟩
  · by_cases q1 : j = k
    · subst q1
      rw [hk] at he
      simp only [Option.some.injEq] at he
      subst he
      simp only [if_true]
      refine ⟨⟨hw, by rw [hsz]; omega⟩, v, ?_, ?_, fun b e => ?_⟩
      · rw [Below.heap_setCell _ _ _ _ (show wr.heap.size ≠ g by omega), heap_alloc_new, hq]
      · exact owns_grown (World.ownsRow.alloc hr.zero _) hgs (ne 5 (by decide))
      · have := World.ownsRow.lt hr b e
        exact ⟨this.1, by rw [hsz]; omega⟩
    · simp only [if_neg q1]
      have h3 := h2.file j e (by omega) he
      refine (h3.grown hgs fun x e => ⟨?_, ne 5 (by decide) x e⟩).mono fun b x => ⟨x.1, by rw [hsz]; have := x.2; simp at this; omega⟩
      simp only [Option.some.injEq] at e
      subst e
      exact TyOf.ne tg h3.ty (by decide)
  · by_cases q1 : j = k
    · by_cases q2 : j' = k
      · omega
      · simp only [if_pos q1, if_neg q2] at e
        have hj2 : j' < k := by omega
        have hkl := (List.getElem?_eq_some_iff.1 hk).1
        have := (h.file j' K[j'] hj2 (List.getElem?_eq_getElem (by omega))).fp.2
        omega
    · by_cases q2 : j' = k
      · simp only [if_neg q1, if_pos q2] at e
        have hj2 : j < k := by omega
        have hkl := (List.getElem?_eq_some_iff.1 hk).1
        have := (h.file j K[j] hj2 (List.getElem?_eq_getElem (by omega))).fp.2
        omega
      · simp only [if_neg q1, if_neg q2] at e
        exact h.inj j j' (by omega) (by omega) e

theorem bs_take (xs : List Int) (h : Okb xs) (n : Nat) (hl : n ≤ xs.length) : bs (xof xs) n = xs.take n := by
  have := bs_piece xs h 0 n (by omega)
  rw [List.drop_zero] at this
  rw [← this]
  unfold bs
  simp
theorem Row.base {B B' : Nat} {w : World} {v : Value} {xs : List Int} (h : Row B w v xs) (hB : B' ≤ B) : Row B' w v xs := ⟨h.1, h.2.imp id fun ⟨g, cap, cur, a, b, c⟩ => ⟨g, cap, cur, a, Nat.le_trans hB b, c⟩⟩
theorem DRow.base {B B' : Nat} {w : World} {loc : Nat → Nat} {v : Value} {l : List Ent} (h : DRow B w loc v l) (hB : B' ≤ B) : DRow B' w loc v l := ⟨h.1, h.2.imp id fun ⟨g, cap, cur, a, b, c⟩ => ⟨g, cap, cur, a, Nat.le_trans hB b, c⟩⟩
/-- What stands behind the loop. -/
theorem crash_end {w wr w2 wf : World} {p : Nat} {σ : DS} {F A : Nat → Prop} {loc M : Nat → Nat} {lv wv L0 u : Value} {ps : List Int} {K : List Ent} (h : RefAt w p σ F A loc lv wv) (hK : K = σ.kept ps) (hg : w.grownBy wr (some p)) (hdr : TyOf wr p 55) (hc : CrR w K σ.nx loc σ.fl ps L0 K.length M wr)
    (hb : Below wr.heap.size wr w2) (hu : DRow wr.heap.size w2 (locM σ.nx loc M) u (renK σ.nx 0 K)) (hgs : (w2.alloc (.cells #[u] 53)).grownBy wf (some p)) (hsz : wf.heap.size = w2.heap.size + 1)
    (hd : Dk wf p σ.room L0 (.slice (some ⟨w2.heap.size, 0, none⟩) 1 1) ⟨σ.c.calls, 0, 0, 0, false⟩) : Nxt w p (σ.crash ps) F wf := by
  have hp : p < w.heap.size := h.blk.ty.lt
  have hmix : mixK σ.nx K K.length = renK σ.nx 0 K := by
    unfold mixK
    rw [List.take_of_length_le (by rw [renK_len]; exact Nat.le_refl _), List.drop_length, List.append_nil]
  have hb2 := hb.alloc hb.size (.cells #[u] 53)
  have s1 := hg.size
  have s2 := hb.size
  have tp : TyOf (w2.alloc (.cells #[u] 53)) p 55 := by
    obtain ⟨c, f, e⟩ := hdr
    exact ⟨c, f, by rw [hb2.block p (by omega)]; exact e⟩
  have ne : ∀ t, t ≠ 55 → ∀ g, some p = some g → ¬ TyOf (w2.alloc (.cells #[u] 53)) g t := fun t ht g e x => by
    simp only [Option.some.injEq] at e
    subst e
    exact absurd rfl (TyOf.ne tp x (Ne.symm ht))
  have hc2 := hc.later hb2
  have hrow := hc2.row
  rw [hmix] at hrow
  have hu2 : DRow wr.heap.size wf (locM σ.nx loc M) u (renK σ.nx 0 K) := owns_grown (World.ownsRow.alloc hu _) hgs (ne 102 (by decide))
  have hnew : wf.heap[w2.heap.size]? = some (.cells #[u] 53 (0, 0)) := by
    rw [hgs.block w2.heap.size (by simp) (fun e => by simp only [Option.some.injEq] at e; omega), heap_alloc_new]
  have hcr : σ.crash ps = { room := σ.room, dir := renK σ.nx 0 K, was := [renK σ.nx 0 K], fl := (keeps σ.fl ps σ.nx 0 K σ.fl).2, nx := σ.nx + K.length, c := ⟨σ.c.calls, 0, 0, 0, false⟩ } := by
    unfold DS.crash
    simp only [keeps_fst, ← hK]
  rw [hcr]
  have hF : ∀ k, w.heap.size ≤ k → k < wf.heap.size → (fun k => F k ∨ (w.heap.size ≤ k ∧ k < wf.heap.size)) k := fun k a b => .inr ⟨a, b⟩
  refine ⟨fun k => F k ∨ (w.heap.size ≤ k ∧ k < wf.heap.size), fun i => σ.nx ≤ i ∧ i < σ.nx + K.length, locM σ.nx loc M, L0, .slice (some ⟨w2.heap.size, 0, none⟩) 1 1, ⟨.inl h.fp, hd, DRow.dir (owns_grown hrow hgs (ne 102 (by decide))) hF, ⟨[u], ⟨rfl, .inr ⟨w2.heap.size, 1, #[u], rfl, Nat.zero_le _, hnew, Nat.le_refl _, by decide, rfl, rfl⟩⟩, fun g e => ?_, rfl, fun k x l hx hl => ?_⟩, fun i hi => ?_, fun i j hi hj e => ?_, fun k hk => ?_, fun i hi => ?_, fun i hi => hi.2⟩, ⟨?_, ?_, ?_, ?_, fun k hk hF => ?_⟩, fun k hk => ?_⟩
  · simp only [Value.ownBlock, Option.some.injEq] at e
    subst e
    exact .inr ⟨by omega, by omega⟩
  · have hk : k = 0 := by have := (List.getElem?_eq_some_iff.1 hx).1; simp at this; exact this
    subst hk
    simp at hx hl
    subst hx
    subst hl
    exact hu2.dir fun k a b => .inr ⟨by omega, b⟩
  · obtain ⟨j, rfl⟩ : ∃ j, i = σ.nx + j := ⟨i - σ.nx, by omega⟩
    have hj : j < K.length := by have := hi.2; omega
    have e1 : locM σ.nx loc M (σ.nx + j) = M j := by simp only [locM]; rw [if_pos (by omega), show σ.nx + j - σ.nx = j by omega]
    have e2 := keeps_at σ.fl ps σ.nx K 0 σ.fl j K[j] (List.getElem?_eq_getElem hj)
    rw [Nat.zero_add] at e2
    rw [e1]
    show FileR wf _ (M j) ((keeps σ.fl ps σ.nx 0 K σ.fl).2 (σ.nx + j))
    rw [e2]
    have h3 := hc2.file j K[j] hj (List.getElem?_eq_getElem hj)
    refine (h3.grown hgs fun k e => ⟨?_, ne 5 (by decide) k e⟩).mono fun b x => .inr ⟨x.1, by have := x.2; simp at this; omega⟩
    simp only [Option.some.injEq] at e
    subst e
    exact TyOf.ne tp h3.ty (by decide)
  · have e1 : locM σ.nx loc M i = M (i - σ.nx) := by simp only [locM]; rw [if_pos hi.1]
    have e2 : locM σ.nx loc M j = M (j - σ.nx) := by simp only [locM]; rw [if_pos hj.1]
    rw [e1, e2] at e
    have := hc.inj (i - σ.nx) (j - σ.nx) (by have := hi.2; omega) (by have := hj.2; omega) e
    have := hi.1
    have := hj.1
    omega
  · rcases hk with hk | hk
    · have := h.lt k hk
      omega
    · exact hk.2
  · have : ∀ s, (s, i) ∈ renK σ.nx 0 K → σ.nx ≤ i ∧ i < σ.nx + K.length := fun s hs => by
      have := renK_mem σ.nx K 0 hs
      simpa using this
    rcases hi with ⟨s, hs⟩ | ⟨l, hl, s, hs⟩
    · exact this s hs
    · simp at hl
      subst hl
      exact this s hs
  · exact hgs.os.trans (hb2.os.trans hg.os)
  · exact hgs.tape.trans (hb2.tape.trans hg.tape)
  · exact hgs.output.trans (hb2.output.trans hg.output)
  · omega
  · have hkp : k ≠ p := fun e => hF (e ▸ h.fp)
    rw [hgs.block k (by simp; omega) (fun e => by simp only [Option.some.injEq] at e; exact hkp e), hb2.block k (by omega), hg.block k hk (fun e => by simp only [Option.some.injEq] at e; exact hkp e)]
  · rcases hk with hk | hk
    · exact .inl hk
    · exact .inr hk.1
end Go.Proofs.YtligofmcmjblpaaGreat
