/- How the program's disk lies in memory. -/
import Derived.Test.YtligofmcmjblpaaGreatLmap
import Derived.Test.YtligofmcmjblpaaGreatInv
namespace Go.Proofs.YtligofmcmjblpaaGreat
open Go.RowKit Go.Maps
set_option linter.unusedVariables false
set_option linter.unusedSimpArgs false

/-- A change of the directory, as it is kept. -/
structure Chg where
  gone : ByteArray
  set : ByteArray
  f : Option Nat
def Chg.ap (c : Chg) (l : List Ent) : List Ent := match c.f with | none => drp l c.gone | some i => pt (drp l c.gone) c.set i
def chC (loc : Nat → Nat) (c : Chg) : List Value := [.string c.gone, .string c.set, pv loc c.f]
def chv (loc : Nat → Nat) (c : Chg) : Value := .agg #[.string c.gone, .string c.set, pv loc c.f]
def lastD (sd : List Ent) (ch : List Chg) : List Ent := ch.foldl (fun l c => c.ap l) sd
def hist (sd : List Ent) : List Chg → List (List Ent)
  | [] => [sd]
  | c :: r => sd :: hist (c.ap sd) r
theorem hist_snoc (sd : List Ent) (ch : List Chg) (c : Chg) : hist sd (ch ++ [c]) = hist sd ch ++ [c.ap (lastD sd ch)] := by
  induction ch generalizing sd with
  | nil => rfl
  | cons a r ih => simp only [List.cons_append, hist, ih, lastD, List.foldl_cons]
theorem lastD_snoc (sd : List Ent) (ch : List Chg) (c : Chg) : lastD sd (ch ++ [c]) = c.ap (lastD sd ch) := by simp [lastD]
theorem hist_length (sd : List Ent) (ch : List Chg) : (hist sd ch).length = ch.length + 1 := by
  induction ch generalizing sd with
  | nil => rfl
  | cons a r ih => simp [hist, ih]
theorem hist_get (sd : List Ent) (ch : List Chg) (k : Nat) (h : k ≤ ch.length) : (hist sd ch)[k]? = some (lastD sd (ch.take k)) := by
  induction ch generalizing sd k with
  | nil =>
    have : k = 0 := by simpa using h
    subst this
    rfl
  | cons a r ih =>
    cases k with
    | zero => rfl
    | succ k =>
      simp only [hist, List.getElem?_cons_succ, List.take_succ_cons]
      rw [ih (a.ap sd) k (by simpa using h)]
      rfl
theorem hist_last (sd : List Ent) (ch : List Chg) : lastD sd ch ∈ hist sd ch := by
  have := hist_get sd ch ch.length (Nat.le_refl _)
  rw [List.take_length] at this
  exact List.mem_of_getElem? this
theorem hist_head (sd : List Ent) (ch : List Chg) : sd ∈ hist sd ch := by cases ch <;> simp [hist]

/-- A directory as it may be: its names rise, each may be, no file has two. -/
structure Gd (l : List Ent) : Prop where
  srt : Srt l
  may : ∀ e ∈ l, mayN e.1 = true
  ids : (l.map (·.2)).Nodup
theorem Gd.nil : Gd [] := ⟨List.Pairwise.nil, (fun e h => by cases h), List.nodup_nil⟩
theorem Gd.drp {l : List Ent} (h : Gd l) (s : ByteArray) : Gd (drp l s) :=
  ⟨h.srt.drp s, fun e he => h.may e (List.mem_filter.1 he).1, (List.Sublist.map _ List.filter_sublist).nodup h.ids⟩
theorem pt_ids {l : List Ent} (s : ByteArray) {i : Nat} (hi : i ∉ l.map (·.2)) (hn : (l.map (·.2)).Nodup) : ((pt l s i).map (·.2)).Nodup := by
  induction l with
  | nil => simp [pt]
  | cons e r ih =>
    rw [pt]
    simp only [List.map_cons, List.mem_cons, not_or] at hi
    simp only [List.map_cons, List.nodup_cons] at hn
    split
    · simp only [List.map_cons, List.nodup_cons]
      refine ⟨fun hm => ?_, ih hi.2 hn.2⟩
      obtain ⟨x, hx, he⟩ := List.mem_map.1 hm
      rcases pt_mem hx with rfl | hx
      · exact hi.1 he
      · exact hn.1 (List.mem_map.2 ⟨x, hx, he⟩)
    · simp only [List.map_cons, List.nodup_cons]
      refine ⟨fun hm => ?_, (List.Sublist.map _ List.filter_sublist).nodup (by simp only [List.map_cons, List.nodup_cons]; exact hn)⟩
      obtain ⟨x, hx, he⟩ := List.mem_map.1 hm
      rcases List.mem_cons.1 (List.mem_filter.1 hx).1 with rfl | hx
      · exact hi.1 he.symm
      · exact hi.2 (List.mem_map.2 ⟨x, hx, he⟩)
theorem Gd.pt {l : List Ent} (h : Gd l) {s : ByteArray} (hs : mayN s = true) {i : Nat} (hi : i ∉ l.map (·.2)) : Gd (pt l s i) :=
  ⟨h.srt.pt s i, fun e he => by rcases pt_mem he with rfl | he; exact hs; exact h.may e he, pt_ids s hi h.ids⟩
theorem drp_other {l : List Ent} {s : ByteArray} (h : ∀ e ∈ l, e.1.toList ≠ s.toList) : drp l s = l := by
  unfold drp
  rw [List.filter_eq_self]
  intro e he
  simp [h e he]
theorem may_size {s : ByteArray} (h : mayN s = true) : 1 ≤ s.size ∧ s.size ≤ 64 := by
  unfold mayN at h
  simp only [Bool.and_eq_true, decide_eq_true_eq] at h
  exact h.2
theorem Gd.drp_empty {l : List Ent} (h : Gd l) : YtligofmcmjblpaaGreat.drp l ByteArray.empty = l := drp_other fun e he hq => by
  have := (may_size (h.may e he)).1
  rw [ByteArray.toList_eq, ByteArray.toList_eq] at hq
  have h2 : e.1.data.size = 0 := by rw [← Array.length_toList, hq]; rfl
  have h3 : e.1.size = 0 := h2
  omega
theorem fnd_pair {l : List Ent} {s : ByteArray} {i : Nat} (hf : fnd l s = some i) : ∃ a, (a, i) ∈ l ∧ a.toList = s.toList := by
  induction l with
  | nil => cases hf
  | cons e r ih =>
    rw [fnd] at hf
    split at hf
    · next hq =>
      simp only [Option.some.injEq] at hf
      exact ⟨e.1, by rw [← hf]; simp, eq_of_beq hq⟩
    · obtain ⟨a, ha, hs⟩ := ih hf
      exact ⟨a, by simp [ha], hs⟩
theorem ids_inj : ∀ {l : List Ent}, (l.map (·.2)).Nodup → ∀ x ∈ l, ∀ y ∈ l, x.2 = y.2 → x = y
  | [], _, x, hx, _, _, _ => by cases hx
  | e :: r, hn, x, hx, y, hy, hq => by
    simp only [List.map_cons, List.nodup_cons] at hn
    rcases List.mem_cons.1 hx with h1 | h1 <;> rcases List.mem_cons.1 hy with h2 | h2
    · rw [h1, h2]
    · rw [h1] at hq
      exact (hn.1 (List.mem_map.2 ⟨y, h2, hq.symm⟩)).elim
    · rw [h2] at hq
      exact (hn.1 (List.mem_map.2 ⟨x, h1, hq⟩)).elim
    · exact ids_inj hn.2 x h1 y h2 hq
/-- A file that is dropped with its name is not left under another. -/
theorem drp_id {l : List Ent} (h : Gd l) {s : ByteArray} {i : Nat} (hf : fnd l s = some i) : i ∉ (drp l s).map (·.2) := by
  intro hm
  obtain ⟨x, hx, he⟩ := List.mem_map.1 hm
  obtain ⟨hx, hn⟩ := List.mem_filter.1 hx
  obtain ⟨a, ha, hs⟩ := fnd_pair hf
  have := ids_inj h.ids x hx _ ha he
  subst this
  simp [hs] at hn

/-- A map of the disk's, nil or not. -/
def DirM (w : World) (F : Nat → Prop) (loc : Nat → Nat) (v : Value) (l : List Ent) : Prop := (v = .map none ∧ l = []) ∨ ∃ b, v = .map (some b) ∧ F b ∧ MapL w b loc l
structure ChR (w : World) (F : Nat → Prop) (loc : Nat → Nat) (v : Value) (ch : List Chg) : Prop where
  row : w.ownsRow 0 83 3 v ch.length (ch.flatMap (chC loc))
  own : ∀ g, v.ownBlock = some g → F g
structure FileM (w : World) (F : Nat → Prop) (g : Nat) (dv : Value) (f : List Int × Nat) : Prop where
  fp : F g
  blk : w.heap[g]? = some (.cells #[dv, .int .i64 (f.2 : Int)] 72 (0, 0))
  row : Row 0 w dv f.1
  own : ∀ b, dv.ownBlock = some b → F b
def Cn.fA (c : Cn) : Int := if 0 < c.fuse then c.fuse - 1 else 0
def Cn.fC (c : Cn) : Int := if 0 < c.fuse then 1 else 0
def Cn.tA (c : Cn) : Int := if 0 < c.wait then c.wait - 1 else 0
def DkL (w : World) (p : Nat) (room : Int) (nv sv cv : Value) (c : Cn) : Prop :=
  w.heap[p]? = some (.cells #[.int .i64 room, nv, sv, cv, .int .i64 c.calls, .bool c.off, .int .i64 c.fA, .int .i64 c.fC, .int .i64 c.tA, .int .i64 c.fails] 51 (0, 0))
/-- F: the blocks; A: the numbers of the files that lie there; loc: a file's block; dv: its bytes; sd: the directory as it was sure; ch: its changes since. -/
structure LAt (w : World) (p : Nat) (σ : DS) (F A : Nat → Prop) (loc : Nat → Nat) (dv : Nat → Value) (nv sv cv : Value) (sd : List Ent) (ch : List Chg) : Prop where
  fp : F p
  blk : DkL w p σ.room nv sv cv σ.c
  dir : DirM w F loc nv σ.dir
  sure : DirM w F loc sv sd
  two : ∀ b, nv = .map (some b) → sv ≠ .map (some b)
  chs : ChR w F loc cv ch
  was : σ.was = hist sd ch
  now : σ.dir = lastD sd ch
  gd : ∀ l ∈ σ.was, Gd l
  file : ∀ i, A i → FileM w F (loc i) (dv i) (σ.fl i)
  inj : ∀ i j, A i → A j → loc i = loc j → i = j
  sep : ∀ i j, A i → A j → i ≠ j → ∀ b, (dv i).ownBlock = some b → (dv j).ownBlock ≠ some b
  lt : ∀ k, F k → k < w.heap.size
  al : ∀ l ∈ σ.was, ∀ e ∈ l, A e.2
  nx : ∀ i, A i → i < σ.nx
  cha : ∀ c ∈ ch, ∀ i, c.f = some i → A i
  chm : ∀ c ∈ ch, c.gone.size ≤ 64 ∧ c.set.size ≤ 64

theorem DkL.ty {w : World} {p : Nat} {room : Int} {nv sv cv : Value} {c : Cn} (h : DkL w p room nv sv cv c) : TyOf w p 51 := ⟨_, _, h⟩
theorem FileM.ty {w : World} {F : Nat → Prop} {g : Nat} {dv : Value} {f : List Int × Nat} (h : FileM w F g dv f) : TyOf w g 72 := ⟨_, _, h.blk⟩
theorem DirM.mono {w : World} {F G : Nat → Prop} {loc : Nat → Nat} {v : Value} {l : List Ent} (h : DirM w F loc v l) (hs : ∀ k, F k → G k) : DirM w G loc v l := by
  rcases h with h | ⟨b, h1, h2, h3⟩
  · exact .inl h
  · exact .inr ⟨b, h1, hs b h2, h3⟩
theorem DirM.same {w w' : World} {F : Nat → Prop} {loc : Nat → Nat} {v : Value} {l : List Ent} (h : DirM w F loc v l) (hs : ∀ k, F k → w'.heap[k]? = w.heap[k]?) : DirM w' F loc v l := by
  rcases h with h | ⟨b, h1, h2, h3⟩
  · exact .inl h
  · exact .inr ⟨b, h1, h2, h3.same (hs b h2)⟩
theorem DirM.grown {w w' : World} {F : Nat → Prop} {loc : Nat → Nat} {v : Value} {l : List Ent} {row : Option Nat} (h : DirM w F loc v l) (hg : w.grownBy w' row) (hr : ∀ b, v = .map (some b) → row ≠ some b) : DirM w' F loc v l := by
  rcases h with h | ⟨b, h1, h2, h3⟩
  · exact .inl h
  · exact .inr ⟨b, h1, h2, h3.same (hg.block b h3.lt fun e => hr b h1 e.symm)⟩
theorem DirM.loc {w : World} {F : Nat → Prop} {loc loc' : Nat → Nat} {v : Value} {l : List Ent} (h : DirM w F loc v l) (hl : ∀ e ∈ l, loc' e.2 = loc e.2) : DirM w F loc' v l := by
  rcases h with h | ⟨b, h1, h2, h3⟩
  · exact .inl h
  · exact .inr ⟨b, h1, h2, h3.loc hl⟩
theorem DirM.cell {w : World} {F : Nat → Prop} {loc : Nat → Nat} {v : Value} {l : List Ent} {g : Nat} {t : TypeId} (h : DirM w F loc v l) (k : TyOf w g t) : ∀ b, v = .map (some b) → some g ≠ some b := fun b e hq => by
  rcases h with ⟨h, _⟩ | ⟨b', h1, _, h3⟩
  · rw [h] at e; cases e
  · rw [h1] at e
    simp only [Value.map.injEq, Option.some.injEq] at e hq
    subst e
    exact h3.ne k hq.symm
theorem DirM.look {w : World} {F : Nat → Prop} {loc : Nat → Nat} {v : Value} {l : List Ent} (h : DirM w F loc v l) (s : ByteArray) : (Instr.lookup 46 v (.string s) false).run Tryz.prog w = .ok (pv loc (fnd l s)) w := by
  rcases h with ⟨rfl, rfl⟩ | ⟨b, rfl, _, h3⟩
  · exact look_nilmap w s
  · exact h3.look s
theorem ChR.mono {w : World} {F G : Nat → Prop} {loc : Nat → Nat} {v : Value} {ch : List Chg} (h : ChR w F loc v ch) (hs : ∀ k, F k → G k) : ChR w G loc v ch := ⟨h.row, fun g e => hs g (h.own g e)⟩
theorem ChR.same {w w' : World} {F : Nat → Prop} {loc : Nat → Nat} {v : Value} {ch : List Chg} (h : ChR w F loc v ch) (hs : ∀ k, F k → w'.heap[k]? = w.heap[k]?) : ChR w' F loc v ch := ⟨owns_same h.row fun g e => hs g (h.own g e), h.own⟩
theorem ChR.grown {w w' : World} {F : Nat → Prop} {loc : Nat → Nat} {v : Value} {ch : List Chg} {row : Option Nat} (h : ChR w F loc v ch) (hg : w.grownBy w' row) (hr : ∀ g, v.ownBlock = some g → row ≠ some g) : ChR w' F loc v ch :=
  ⟨owns_same h.row fun g e => hg.block g (owns_ty h.row e).lt fun x => hr g e x.symm, h.own⟩
theorem flat_loc {loc loc' : Nat → Nat} {ch : List Chg} (hl : ∀ c ∈ ch, ∀ i, c.f = some i → loc' i = loc i) : ch.flatMap (chC loc') = ch.flatMap (chC loc) := by
  induction ch with
  | nil => rfl
  | cons c r ih =>
    have h1 := ih fun x hx => hl x (by simp [hx])
    have h2 : chC loc' c = chC loc c := by
      unfold chC
      cases hf : c.f with
      | none => rfl
      | some i => simp only [pv]; rw [hl c (by simp) i hf]
    simp only [List.flatMap_cons, h1, h2]
theorem ChR.loc {w : World} {F : Nat → Prop} {loc loc' : Nat → Nat} {v : Value} {ch : List Chg} (h : ChR w F loc v ch) (hl : ∀ c ∈ ch, ∀ i, c.f = some i → loc' i = loc i) : ChR w F loc' v ch := ⟨by rw [flat_loc hl]; exact h.row, h.own⟩
theorem ChR.cell {w : World} {F : Nat → Prop} {loc : Nat → Nat} {v : Value} {ch : List Chg} {g : Nat} {t : TypeId} (h : ChR w F loc v ch) (k : TyOf w g t) (hn : t ≠ 83) : ∀ b, v.ownBlock = some b → some g ≠ some b := fun b e hq => by
  simp only [Option.some.injEq] at hq
  subst hq
  exact TyOf.ne k (owns_ty h.row e) hn rfl
theorem FileM.mono {w : World} {F G : Nat → Prop} {g : Nat} {dv : Value} {f : List Int × Nat} (h : FileM w F g dv f) (hs : ∀ k, F k → G k) : FileM w G g dv f := ⟨hs _ h.fp, h.blk, h.row, fun b e => hs b (h.own b e)⟩
theorem FileM.same {w w' : World} {F : Nat → Prop} {g : Nat} {dv : Value} {f : List Int × Nat} (h : FileM w F g dv f) (hs : ∀ k, F k → w'.heap[k]? = w.heap[k]?) : FileM w' F g dv f :=
  ⟨h.fp, (hs g h.fp).trans h.blk, owns_same h.row fun k e => hs k (h.own k e), h.own⟩
theorem FileM.grown {w w' : World} {F : Nat → Prop} {g : Nat} {dv : Value} {f : List Int × Nat} {row : Option Nat} (h : FileM w F g dv f) (hg : w.grownBy w' row) (h1 : row ≠ some g) (h2 : ∀ b, dv.ownBlock = some b → row ≠ some b) : FileM w' F g dv f :=
  ⟨h.fp, (hg.block g h.ty.lt fun e => h1 e.symm).trans h.blk, owns_same h.row fun k e => hg.block k (owns_ty h.row e).lt fun x => h2 k e x.symm, h.own⟩
section
variable {w w' : World} {p : Nat} {σ : DS} {F A : Nat → Prop} {loc : Nat → Nat} {dv : Nat → Value} {nv sv cv : Value} {sd : List Ent} {ch : List Chg}
theorem LAt.same (h : LAt w p σ F A loc dv nv sv cv sd ch) (hs : ∀ k, F k → w'.heap[k]? = w.heap[k]?) : LAt w' p σ F A loc dv nv sv cv sd ch :=
  ⟨h.fp, by unfold DkL; rw [hs p h.fp]; exact h.blk, h.dir.same hs, h.sure.same hs, h.two, h.chs.same hs, h.was, h.now, h.gd, fun i hi => (h.file i hi).same hs, h.inj, h.sep, fun k hk => by
    have := h.lt k hk
    have e := hs k hk
    rw [Array.getElem?_eq_getElem this] at e
    exact (Array.getElem?_eq_some_iff.1 e).1, h.al, h.nx, h.cha, h.chm⟩
theorem LAt.later (h : LAt w p σ F A loc dv nv sv cv sd ch) (hb : Below w.heap.size w w') : LAt w' p σ F A loc dv nv sv cv sd ch := h.same fun k hk => hb.block k (h.lt k hk)
theorem LAt.row5 (h : LAt w p σ F A loc dv nv sv cv sd ch) {i : Nat} (hi : A i) {b : Nat} (e : (dv i).ownBlock = some b) : TyOf w b 5 := owns_ty (h.file i hi).row e
/-- What else is there stays, where the disk's own block is written. -/
theorem LAt.disk (h : LAt w p σ F A loc dv nv sv cv sd ch) (hg : w.grownBy w' (some p)) {c : Cn} (hd : DkL w' p σ.room nv sv cv c) : LAt w' p { σ with c := c } F A loc dv nv sv cv sd ch :=
  ⟨h.fp, hd, h.dir.grown hg (h.dir.cell h.blk.ty), h.sure.grown hg (h.sure.cell h.blk.ty), h.two, h.chs.grown hg (h.chs.cell h.blk.ty (by decide)), h.was, h.now, h.gd,
    fun i hi => (h.file i hi).grown hg (fun e => TyOf.ne h.blk.ty (h.file i hi).ty (by decide) (Option.some.inj e)) (fun b e hq => TyOf.ne h.blk.ty (h.row5 hi e) (by decide) (Option.some.inj hq)),
    h.inj, h.sep, fun k hk => Nat.lt_of_lt_of_le (h.lt k hk) hg.size, h.al, h.nx, h.cha, h.chm⟩
theorem LAt.nvOk (h : LAt w p σ F A loc dv nv sv cv sd ch) : ∀ b, nv = .map (some b) → MapL w b loc σ.dir := fun b e => by
  rcases h.dir with ⟨h1, _⟩ | ⟨b', h1, _, h3⟩
  · rw [h1] at e; cases e
  · rw [h1] at e
    simp only [Value.map.injEq, Option.some.injEq] at e
    subst e
    exact h3
theorem LAt.gdDir (h : LAt w p σ F A loc dv nv sv cv sd ch) : Gd σ.dir := h.gd _ (by rw [h.was, h.now]; exact hist_last sd ch)
theorem LAt.alDir (h : LAt w p σ F A loc dv nv sv cv sd ch) : ∀ e ∈ σ.dir, A e.2 := h.al _ (by rw [h.was, h.now]; exact hist_last sd ch)
theorem LAt.alFnd (h : LAt w p σ F A loc dv nv sv cv sd ch) {s : ByteArray} {i : Nat} (hf : fnd σ.dir s = some i) : A i := by
  obtain ⟨a, ha⟩ := fnd_mem hf
  exact h.alDir _ ha
end
def RL (w : World) (p : Nat) (σ : DS) (F : Nat → Prop) : Prop := ∃ A loc dv nv sv cv sd ch, LAt w p σ F A loc dv nv sv cv sd ch
theorem cell10 {a b c d e f g h i j : Value} (k : Nat) : (#[a, b, c, d, e, f, g, h, i, j] : Array Value)[k]? = [a, b, c, d, e, f, g, h, i, j][k]? := by simp
end Go.Proofs.YtligofmcmjblpaaGreat
