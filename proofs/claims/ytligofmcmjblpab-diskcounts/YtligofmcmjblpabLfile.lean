/- The landed disk: one file is written, all else stays. -/
import Derived.Test.YtligofmcmjblpabLread
namespace Go.Proofs.Ytligofmcmjblpab
open Go.RowKit Go.Maps
set_option linter.unusedVariables false
set_option linter.unusedSimpArgs false

section
variable {w w' : World} {p : Nat} {σ : DS} {F A : Nat → Prop} {loc : Nat → Nat} {dv : Nat → Value} {nv sv cv : Value} {sd : List Ent} {ch : List Chg}
theorem DirM.block {v : Value} {l : List Ent} (h : DirM w F loc v l) {G : Nat → Prop} (hFG : ∀ k, F k → G k) (hs : ∀ b, v = .map (some b) → F b → MapL w b loc l → w'.heap[b]? = w.heap[b]?) : DirM w' G loc v l := by
  rcases h with h | ⟨b, h1, h2, h3⟩
  · exact .inl h
  · exact .inr ⟨b, h1, hFG b h2, h3.same (hs b h1 h2 h3)⟩
theorem ChR.block {v : Value} (h : ChR w F loc v ch) {G : Nat → Prop} (hFG : ∀ k, F k → G k) (hs : ∀ b, v.ownBlock = some b → F b → TyOf w b 61 → w'.heap[b]? = w.heap[b]?) : ChR w' G loc v ch :=
  ⟨owns_same h.row fun g e => hs g e (h.own g e) (owns_ty h.row e), fun g e => hFG g (h.own g e)⟩
theorem FileM.block {g : Nat} {d : Value} {f : List Int × Nat} (h : FileM w F g d f) {G : Nat → Prop} (hFG : ∀ k, F k → G k) (h1 : w'.heap[g]? = w.heap[g]?) (hs : ∀ b, d.ownBlock = some b → w'.heap[b]? = w.heap[b]?) : FileM w' G g d f :=
  ⟨hFG _ h.fp, h1.trans h.blk, owns_same h.row fun k e => hs k e, fun b e => hFG b (h.own b e)⟩

theorem LAt.setFile (h : LAt w p σ F A loc dv nv sv cv sd ch) {i : Nat} (hi : A i) {G : Nat → Prop} (hFG : ∀ k, F k → G k) (hG : ∀ k, G k → k < w'.heap.size)
    (hk : ∀ k, F k → k ≠ loc i → (dv i).ownBlock ≠ some k → w'.heap[k]? = w.heap[k]?) {dv' : Value} {f' : List Int × Nat} (hf : FileM w' G (loc i) dv' f') (hd : dv'.ownBlock = (dv i).ownBlock ∨ ∃ g, dv'.ownBlock = some g ∧ w.heap.size ≤ g) :
    LAt w' p { σ with fl := upd σ.fl i f' } G A loc (fun j => if j = i then dv' else dv j) nv sv cv sd ch := by
  have hfi := h.file i hi
  have t1 : TyOf w (loc i) 59 := hfi.ty
  have t2 : ∀ b, (dv i).ownBlock = some b → TyOf w b 5 := fun b e => h.row5 hi e
  have hc : ∀ k t, F k → TyOf w k t → t ≠ 59 → t ≠ 5 → w'.heap[k]? = w.heap[k]? := fun k t hF ht h1 h2 => hk k hF (TyOf.ne ht t1 h1) fun e => TyOf.ne ht (t2 k e) h2 rfl
  have hm : ∀ v l b, v = Value.map (some b) → F b → MapL w b loc l → w'.heap[b]? = w.heap[b]? := fun v l b _ hF hM => hk b hF (hM.ne t1) fun e => hM.ne (t2 b e) rfl
  refine ⟨hFG p h.fp, ?_, h.dir.block hFG (hm nv _), h.sure.block hFG (hm sv _), h.two, h.chs.block hFG (fun b e hF ht => hc b _ hF ht (by decide) (by decide)), h.was, h.now, h.gd, fun j hj => ?_, h.inj, fun j k hj hk' hne b e => ?_, hG, h.al, h.nx, h.cha, h.chm⟩
  · unfold DkL
    rw [hc p _ h.fp h.blk.ty (by decide) (by decide)]
    exact h.blk
  · by_cases q : j = i
    · subst q
      simp only [upd, if_true]
      exact hf
    · simp only [upd, if_neg q]
      have hfj := h.file j hj
      refine hfj.block hFG (hk _ hfj.fp (fun e => q (h.inj _ _ hj hi e)) fun e => TyOf.ne hfj.ty (t2 _ e) (by decide) rfl) fun b e => ?_
      exact hk b (hfj.own b e) (fun e' => TyOf.ne (h.row5 hj e) t1 (by decide) e') (h.sep j i hj hi q b e)
  · have hlt : ∀ m, A m → ∀ b, (dv m).ownBlock = some b → b < w.heap.size := fun m hm' b e => (h.row5 hm' e).lt
    by_cases q : j = i
    · subst q
      have q2 : ¬ k = j := fun e' => hne e'.symm
      simp only [if_true] at e
      simp only [if_neg q2]
      rcases hd with hd | ⟨g, hd, hg⟩
      · rw [hd] at e
        exact h.sep j k hj hk' hne b e
      · rw [hd] at e
        simp only [Option.some.injEq] at e
        subst e
        intro e'
        have := hlt k hk' _ e'
        omega
    · simp only [if_neg q] at e
      by_cases q2 : k = i
      · subst q2
        simp only [if_true]
        rcases hd with hd | ⟨g, hd, hg⟩
        · rw [hd]
          exact h.sep j k hj hk' hne b e
        · rw [hd]
          intro e'
          simp only [Option.some.injEq] at e'
          subst e'
          have := hlt j hj _ e
          omega
      · simp only [if_neg q2]
        exact h.sep j k hj hk' hne b e
end
theorem row_set {w : World} {v : Value} {xs : List Int} (h : Row 0 w v xs) {g k : Nat} {n c : Nat} (hv : v = .slice (some ⟨g, 0, none⟩) n c) (hk : k < xs.length) (x : Int) : Row 0 (w.setCell ⟨g, k, none⟩ (.int .u8 x)) v (xs.set k x) := by
  refine ⟨by simp, ?_⟩
  rcases h.2 with ⟨rfl, _⟩ | ⟨g', cap, cur, e, hb, hgg, h1, h2, h3, h4⟩
  · cases hv
  · rw [hv] at e
    simp only [Value.slice.injEq, Option.some.injEq, Addr.mk.injEq] at e
    obtain ⟨⟨rfl, _⟩, rfl, rfl⟩ := e
    refine .inr ⟨g, c, cur.setIfInBounds k (.int .u8 x), ?_, Nat.zero_le _, heap_set hgg k _, ?_, h2, by simp [h3], ?_⟩
    · rw [hv]
      simp
    · simpa using h1
    · rw [List.length_set, Array.toList_setIfInBounds, List.take_set, h4, List.map_set]
theorem slice_own {w : World} {v : Value} {xs : List Int} (h : Row 0 w v xs) (hl : 0 < xs.length) : ∃ g cap, v = .slice (some ⟨g, 0, none⟩) xs.length cap ∧ v.ownBlock = some g ∧ xs.length ≤ cap := by
  rcases h.2 with ⟨rfl, h0⟩ | ⟨g', cap, cur, e, hb, hgg, h1, h2, h3, h4⟩
  · omega
  · exact ⟨g', cap, e, by rw [e]; rfl, h1⟩

end Go.Proofs.Ytligofmcmjblpab
