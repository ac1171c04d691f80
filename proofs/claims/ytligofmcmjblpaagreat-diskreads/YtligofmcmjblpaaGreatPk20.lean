import Derived.Maps.OwnSet
import Derived.Maps.RangeWalk
import Derived.Maps.Ext
import Derived.Test.YtligofmcmjblpaaGreatPk02
/- The maps from names to files of the program's disk: how they lie in memory, and what a look-up, a store, a delete do to them. -/
namespace Go.Proofs.YtligofmcmjblpaaGreat
open Go.RowKit Go.Maps
set_option linter.unusedVariables false
set_option linter.unusedSimpArgs false

/-- How a pointer to a file reads: the number of its block. -/
def fileE : Value → Option (DataW Unit × List MemPlace)
  | .pointer none => some (.nil, [])
  | .pointer (some ⟨g, 0, none⟩) => some (.lit (.int .u64 g), [])
  | _ => none
theorem fileE_ptr (g : Nat) : fileE (ptr g) = some (.lit (.int .u64 g), []) := rfl
theorem fileE_inv {v : Value} {g : Nat} {ps : List MemPlace} (h : fileE v = some (.lit (.int .u64 g), ps)) : v = ptr g := by
  unfold fileE at h
  split at h
  · cases h
  · simp only [Option.some.injEq, Prod.mk.injEq, DataW.lit.injEq, Lit.int.injEq, Int.natCast_inj, true_and] at h
    rw [← h.1]
    rfl
  · cases h
def nm (s : ByteArray) : Lit := .string s.data.toList
def dE (loc : Nat → Nat) (e : Ent) : Lit × DataW Unit := (nm e.1, .lit (.int .u64 (loc e.2)))
def dD (loc : Nat → Nat) (l : List Ent) : DataW Unit := .map (l.map (dE loc))
/-- The names rise. -/
def Srt (l : List Ent) : Prop := l.Pairwise fun a b => Op.bytesLess a.1.toList b.1.toList = true
theorem less_before : ∀ (a b : List UInt8), Op.bytesLess a b = bytesBefore a b
  | [], [] => rfl
  | [], _ :: _ => rfl
  | _ :: _, [] => rfl
  | a :: r, b :: s => by
    simp only [Op.bytesLess, bytesBefore]
    rw [less_before r s]
theorem nm_before (s t : ByteArray) : (nm s).before (nm t) = Op.bytesLess s.toList t.toList := by
  rw [less_before, ByteArray.toList_eq, ByteArray.toList_eq]
  rfl
theorem nm_same (s t : ByteArray) : (nm s).sameKey (nm t) = (s.toList == t.toList) := by
  rw [ByteArray.toList_eq, ByteArray.toList_eq]
  rfl
theorem less_irr (a : List UInt8) : Op.bytesLess a a = false := by rw [less_before]; exact WideAt.bytes_irrefl a
theorem less_trans {a b c : List UInt8} (h : Op.bytesLess a b = true) (k : Op.bytesLess b c = true) : Op.bytesLess a c = true := by
  rw [less_before] at *
  exact WideShapes.bytes_trans a b c h k
theorem less_total {a b : List UInt8} (h : a ≠ b) : Op.bytesLess a b = true ∨ Op.bytesLess b a = true := by
  rw [less_before, less_before]
  exact WideAt.bytes_total a b h
theorem Srt.tail {e : Ent} {l : List Ent} (h : Srt (e :: l)) : Srt l := (List.pairwise_cons.1 h).2
theorem Srt.head {e : Ent} {l : List Ent} (h : Srt (e :: l)) : ∀ x ∈ l, Op.bytesLess e.1.toList x.1.toList = true := (List.pairwise_cons.1 h).1
theorem Srt.drp {l : List Ent} (h : Srt l) (s : ByteArray) : Srt (drp l s) := List.Pairwise.filter _ h
theorem pt_mem {l : List Ent} {s : ByteArray} {i : Nat} {x : Ent} (h : x ∈ pt l s i) : x = (s, i) ∨ x ∈ l := by
  induction l with
  | nil =>
    simp [pt] at h
    exact .inl h
  | cons e r ih =>
    rw [pt] at h
    split at h
    · rcases List.mem_cons.1 h with rfl | h
      · exact .inr (by simp)
      · rcases ih h with h | h
        · exact .inl h
        · exact .inr (by simp [h])
    · rcases List.mem_cons.1 h with rfl | h
      · exact .inl rfl
      · exact .inr (List.mem_filter.1 h).1
theorem Srt.pt {l : List Ent} (h : Srt l) (s : ByteArray) (i : Nat) : Srt (pt l s i) := by
  induction l with
  | nil => exact List.pairwise_singleton _ _
  | cons e r ih =>
    rw [YtligofmcmjblpaaGreat.pt]
    split
    · next hl =>
      refine List.pairwise_cons.2 ⟨fun x hx => ?_, ih h.tail⟩
      rcases pt_mem hx with rfl | hx
      · exact hl
      · exact h.head x hx
    · next hl =>
      refine List.pairwise_cons.2 ⟨fun x hx => ?_, h.drp s⟩
      obtain ⟨hx, hn⟩ := List.mem_filter.1 hx
      have hne : s.toList ≠ x.1.toList := fun e => by rw [e] at hn; simp at hn
      rcases less_total hne with h1 | h1
      · exact h1
      · exfalso
        rcases List.mem_cons.1 hx with rfl | hx
        · exact hl h1
        · exact hl (less_trans (h.head x hx) h1)
theorem dD_atKey (loc : Nat → Nat) (l : List Ent) (s : ByteArray) (z : DataW Unit) : (dD loc l).atKey (nm s) z = match fnd l s with | some i => .lit (.int .u64 (loc i)) | none => z := by
  induction l with
  | nil => rfl
  | cons e r ih =>
    unfold dD DataW.atKey at ih ⊢
    simp only [List.map_cons, List.find?_cons, dE, fnd, nm_same] at ih ⊢
    by_cases h : (e.1.toList == s.toList) = true
    · rw [if_pos h]
      simp only [h]
    · rw [if_neg h]
      simp only [eq_false_of_ne_true h]
      exact ih
theorem dD_del (loc : Nat → Nat) (l : List Ent) (s : ByteArray) : (dD loc l).del (nm s) = dD loc (drp l s) := by
  rw [dD, DataW.del_eq]
  unfold dD ChangeMaps.delKey drp
  rw [List.filter_map]
  congr 2
  apply List.filter_congr
  intro e _
  simp only [Function.comp, ChangeMaps.notKey, dE, nm_same]
theorem ins_head (x : Lit × DataW Unit) (l : List (Lit × DataW Unit)) (h : ∀ y ∈ l, x.1.before y.1 = true) : DataW.insert x l = x :: l := by
  cases l with
  | nil => rfl
  | cons y r =>
    unfold DataW.insert
    rw [if_pos (h y (by simp))]
theorem ins_tail (x y : Lit × DataW Unit) (r : List (Lit × DataW Unit)) (h : x.1.before y.1 = false) : DataW.insert x (y :: r) = y :: DataW.insert x r := by
  rw [DataW.insert, if_neg (by rw [h]; decide)]
theorem dD_put (loc : Nat → Nat) (l : List Ent) (h : Srt l) (s : ByteArray) (i : Nat) : (dD loc l).put (nm s) (.lit (.int .u64 (loc i))) = dD loc (pt l s i) := by
  rw [dD, DataW.put_eq]
  unfold dD ChangeMaps.putKey
  congr 1
  rw [List.filter_map]
  have e0 : (l.filter ((ChangeMaps.notKey (nm s)) ∘ dE loc)) = drp l s := by
    unfold drp
    apply List.filter_congr
    intro e _
    simp only [Function.comp, ChangeMaps.notKey, dE, nm_same]
  rw [e0]
  clear e0
  induction l with
  | nil => rfl
  | cons e r ih =>
    rw [pt]
    split
    · next hl =>
      have hne : (e.1.toList == s.toList) = false := by
        cases hq : (e.1.toList == s.toList)
        · rfl
        · rw [eq_of_beq hq, less_irr] at hl
          cases hl
      have hd : drp (e :: r) s = e :: drp r s := by
        unfold drp
        rw [List.filter_cons, if_pos (by rw [hne]; rfl)]
      rw [hd, List.map_cons, List.map_cons]
      have hb : (nm s).before (nm e.1) = false := by
        rw [nm_before]
        cases hq : Op.bytesLess s.toList e.1.toList
        · rfl
        · exact absurd (less_trans hl hq) (by rw [less_irr]; decide)
      rw [ins_tail _ _ _ hb, ih h.tail]
    · next hl =>
      rw [List.map_cons]
      refine ins_head _ _ fun y hy => ?_
      obtain ⟨x, hx, rfl⟩ := List.mem_map.1 hy
      obtain ⟨hx, hn⟩ := List.mem_filter.1 hx
      simp only [dE, nm_before]
      have hne : s.toList ≠ x.1.toList := fun e => by rw [e] at hn; simp at hn
      rcases less_total hne with h1 | h1
      · exact h1
      · exfalso
        rcases List.mem_cons.1 hx with rfl | hx
        · exact hl h1
        · exact hl (less_trans (h.head x hx) h1)
theorem dD_size (loc : Nat → Nat) (l : List Ent) : Maps.size (dD loc l) = l.length := by simp [dD, Maps.size]
theorem dD_has (loc : Nat → Nat) (l : List Ent) (s : ByteArray) : Maps.has (dD loc l) (nm s) = (fnd l s).isSome := by
  induction l with
  | nil => rfl
  | cons e r ih =>
    unfold dD Maps.has at ih ⊢
    simp only [List.map_cons, List.any_cons, dE, fnd, nm_same] at ih ⊢
    split
    · next h => rw [h]; rfl
    · next h => rw [eq_false_of_ne_true h, Bool.false_or]; exact ih
theorem dD_loc {loc loc' : Nat → Nat} {l : List Ent} (h : ∀ e ∈ l, loc' e.2 = loc e.2) : dD loc' l = dD loc l := by
  unfold dD
  congr 1
  apply List.map_congr_left
  intro e he
  unfold dE
  rw [h e he]

theorem keyL : Keyed Tryz.prog 9 := string_keyed Tryz.underlying9
theorem zeroL (w : World) : (zeroValue 68).run Tryz.prog w = .ok (.pointer none) w := by kernel_rfl
/-- What a look-up hands back. -/
def pv (loc : Nat → Nat) : Option Nat → Value
  | none => .pointer none
  | some i => ptr (loc i)
/-- A map of names, not nil: block b. -/
def MapL (w : World) (b : Nat) (loc : Nat → Nat) (l : List Ent) : Prop := w.ownsMap Tryz.prog 9 fileE b l.length (dD loc l)
theorem MapL.exact {w : World} {b n : Nat} {loc : Nat → Nat} {l : List Ent} (h : w.ownsMap Tryz.prog 9 fileE b n (dD loc l)) : MapL w b loc l := by
  obtain ⟨es, clock, hb, F, hs, hD⟩ := h
  refine ⟨es, clock, hb, F, ?_, hD⟩
  have h1 : Maps.size (dD loc l) = es.size := by rw [hD]; simp [Maps.size, length_sorted]
  rw [dD_size] at h1
  omega
theorem MapL.loc {w : World} {b : Nat} {loc loc' : Nat → Nat} {l : List Ent} (h : MapL w b loc l) (hl : ∀ e ∈ l, loc' e.2 = loc e.2) : MapL w b loc' l := by
  unfold MapL
  rw [dD_loc hl]
  exact h
theorem MapL.lt {w : World} {b : Nat} {loc : Nat → Nat} {l : List Ent} (h : MapL w b loc l) : b < w.heap.size := World.ownsMap.lt h
theorem MapL.same {w w' : World} {b : Nat} {loc : Nat → Nat} {l : List Ent} (h : MapL w b loc l) (hs : w'.heap[b]? = w.heap[b]?) : MapL w' b loc l := by
  obtain ⟨es, clock, hb, F, hz, hD⟩ := h
  exact ⟨es, clock, hs.trans hb, F, hz, hD⟩
theorem MapL.ne {w : World} {b g : Nat} {loc : Nat → Nat} {l : List Ent} {t : TypeId} (h : MapL w b loc l) (k : TyOf w g t) : b ≠ g := fun e => by
  obtain ⟨es, clock, hb, _⟩ := h
  obtain ⟨c, f, x⟩ := k
  subst e
  rw [hb] at x
  cases x
/-- m[s], whatever s is. -/
theorem look_run {w : World} {es : Array MapEntry} {clock b : Nat} (hb : w.heap[b]? = some (.map es clock)) (F : WideElems.Fit Tryz.prog 9 fileE es clock) (s : ByteArray) :
    ((Instr.lookup 46 (.map (some b)) (.string s) false).run Tryz.prog w = .ok (.pointer none) w ∧ ∀ x ∈ es.toList, x.key ≠ .string s) ∨ ∃ e ∈ es.toList, e.key = .string s ∧ (Instr.lookup 46 (.map (some b)) (.string s) false).run Tryz.prog w = .ok e.val w := by
  have hk : ∀ y ∈ es.toList, MapKept.IsKey .string y.key := fun y hy => by
    obtain ⟨z, hz⟩ := F.reads y hy
    have := WideElems.rd_key hz
    have h9 := Tryz.underlying9
    cases hq : y.key <;> rw [hq] at this <;> simp [keyOf, h9, mapKey] at this
    exact trivial
  have hc : (Instr.checkKey es.isEmpty 10000 9 (.string s)).run Tryz.prog w = .ok () w := MapKept.run_checkKey Tryz.underlying9 (k := .string s) trivial es.isEmpty 9999
  rcases MapKept.findNow_spec (d := .string) (k := .string s) trivial es.toList 0 hk with ⟨h1, h2⟩ | ⟨j, e0, h1, h2, h3⟩
  · have hf := MapKept.run_findKey (w := w) Tryz.underlying9 h1
    refine .inl ⟨?_, h2⟩
    simp [Instr.lookup, run_underlying Tryz.underlying46, MapKept.run_getObj_map hb, hc, hf, zeroL, Result.andThen]
  · have hf := MapKept.run_findKey (w := w) Tryz.underlying9 h1
    refine .inr ⟨e0, List.mem_of_getElem? h2, h3, ?_⟩
    simp [Instr.lookup, run_underlying Tryz.underlying46, MapKept.run_getObj_map hb, hc, hf, Result.andThen]
theorem fnd_none_long {l : List Ent} {s : ByteArray} (hl : ∀ e ∈ l, e.1.size ≤ maxLen) (hs : ¬ s.size ≤ maxLen) : fnd l s = none := by
  induction l with
  | nil => rfl
  | cons e r ih =>
    rw [fnd, if_neg]
    · exact ih fun x hx => hl x (by simp [hx])
    · intro h
      have h1 := eq_of_beq h
      have h2 := hl e (by simp)
      rw [ByteArray.toList_eq, ByteArray.toList_eq] at h1
      have h3 : e.1.data.size = s.data.size := by rw [← Array.length_toList, h1, Array.length_toList]
      have h4 : e.1.size = s.size := h3
      omega
theorem MapL.look {w : World} {b : Nat} {loc : Nat → Nat} {l : List Ent} (h : MapL w b loc l) (s : ByteArray) : (Instr.lookup 46 (.map (some b)) (.string s) false).run Tryz.prog w = .ok (pv loc (fnd l s)) w := by
  have h0 := h
  by_cases hs : s.size ≤ maxLen
  · have hkey : keyOf Tryz.prog 9 (.string s) = some (nm s) := WideMaps.keyOf_string_mk Tryz.underlying9 hs
    obtain ⟨v, ps, hr, hv⟩ := World.ownsMap.lookup h0 keyL Tryz.underlying46 (zeroL w) (zd := .nil) (zp := []) rfl hkey
    rw [hr]
    rw [dD_atKey] at hv
    cases hf : fnd l s with
    | none =>
      rw [hf] at hv
      simp only at hv
      have : v = .pointer none := by
        unfold fileE at hv
        split at hv
        · rfl
        · cases hv
        · cases hv
      rw [this]
      rfl
    | some i =>
      rw [hf] at hv
      rw [fileE_inv hv]
      rfl
  · obtain ⟨es, clock, hb, F, hz, hD⟩ := h
    have hl : ∀ e ∈ l, e.1.size ≤ maxLen := fun e he => by
      have h1 : dE loc e ∈ (es.toList.map (WideElems.rg Tryz.prog 9 fileE)).foldr DataW.insert [] := by
        have : l.map (dE loc) = (es.toList.map (WideElems.rg Tryz.prog 9 fileE)).foldr DataW.insert [] := by
          unfold dD at hD
          injection hD
        rw [← this]
        exact List.mem_map_of_mem he
      rw [mem_sorted] at h1
      obtain ⟨x, hx, hq⟩ := List.mem_map.1 h1
      obtain ⟨y, hy⟩ := F.reads x hx
      have h2 := WideElems.rd_key hy
      rw [WideElems.rg_of hy] at hq
      subst hq
      have h9 := Tryz.underlying9
      cases hq : x.key <;> rw [hq] at h2 <;> simp [keyOf, h9, mapKey, dE, nm] at h2
      obtain ⟨h3, h4⟩ := h2
      rename_i q
      have h5 : e.1.data.size = q.data.size := by rw [h4]
      exact Nat.le_trans (Nat.le_of_eq h5) h3
    rw [fnd_none_long hl hs]
    rcases look_run hb F s with ⟨h1, _⟩ | ⟨e, he, h1, h2⟩
    · exact h1
    · exfalso
      obtain ⟨y, hy⟩ := F.reads e he
      have h2 := WideElems.rd_key hy
      have h9 := Tryz.underlying9
      rw [h1] at h2
      simp [keyOf, h9, mapKey, hs] at h2
theorem look_nilmap (w : World) (s : ByteArray) : (Instr.lookup 46 (.map none) (.string s) false).run Tryz.prog w = .ok (.pointer none) w := by
  have hc : (Instr.checkKey true 10000 9 (.string s)).run Tryz.prog w = .ok () w := MapKept.run_checkKey Tryz.underlying9 (k := .string s) trivial true 9999
  have hf : (Instr.findKey 9 (.string s) []).run Tryz.prog w = .ok none w := MapKept.run_findKey (w := w) Tryz.underlying9 rfl
  simp [Instr.lookup, run_underlying Tryz.underlying46, hc, hf, zeroL, Result.andThen]
end Go.Proofs.YtligofmcmjblpaaGreat

/- How the program's disk lies in memory. -/
namespace Go.Proofs.YtligofmcmjblpaaGreat
open Go.RowKit Go.Maps
set_option linter.unusedVariables false
set_option linter.unusedSimpArgs false

/-- A change of the directory, as it is kept. -/
structure Chg where
  gone : ByteArray
  set : ByteArray
  f : Option Nat
def Chg.ap (c : Chg) (l : List Ent) : List Ent := match c.f with | none => drp l c.gone | some i => pt (drp l c.gone) c.set i
def chC (loc : Nat → Nat) (c : Chg) : List Value := [.string c.gone, .string c.set, pv loc c.f]
def chv (loc : Nat → Nat) (c : Chg) : Value := .agg #[.string c.gone, .string c.set, pv loc c.f]
def lastD (sd : List Ent) (ch : List Chg) : List Ent := ch.foldl (fun l c => c.ap l) sd
def hist (sd : List Ent) : List Chg → List (List Ent)
  | [] => [sd]
  | c :: r => sd :: hist (c.ap sd) r
theorem hist_snoc (sd : List Ent) (ch : List Chg) (c : Chg) : hist sd (ch ++ [c]) = hist sd ch ++ [c.ap (lastD sd ch)] := by
  induction ch generalizing sd with
  | nil => rfl
  | cons a r ih => simp only [List.cons_append, hist, ih, lastD, List.foldl_cons]
theorem lastD_snoc (sd : List Ent) (ch : List Chg) (c : Chg) : lastD sd (ch ++ [c]) = c.ap (lastD sd ch) := by simp [lastD]
theorem hist_length (sd : List Ent) (ch : List Chg) : (hist sd ch).length = ch.length + 1 := by
  induction ch generalizing sd with
  | nil => rfl
  | cons a r ih => simp [hist, ih]
theorem hist_get (sd : List Ent) (ch : List Chg) (k : Nat) (h : k ≤ ch.length) : (hist sd ch)[k]? = some (lastD sd (ch.take k)) := by
  induction ch generalizing sd k with
  | nil =>
    have : k = 0 := by simpa using h
    subst this
    rfl
  | cons a r ih =>
    cases k with
    | zero => rfl
    | succ k =>
      simp only [hist, List.getElem?_cons_succ, List.take_succ_cons]
      rw [ih (a.ap sd) k (by simpa using h)]
      rfl
theorem hist_last (sd : List Ent) (ch : List Chg) : lastD sd ch ∈ hist sd ch := by
  have := hist_get sd ch ch.length (Nat.le_refl _)
  rw [List.take_length] at this
  exact List.mem_of_getElem? this
theorem hist_head (sd : List Ent) (ch : List Chg) : sd ∈ hist sd ch := by cases ch <;> simp [hist]

/-- A directory as it may be: its names rise, each may be, no file has two. -/
structure Gd (l : List Ent) : Prop where
  srt : Srt l
  may : ∀ e ∈ l, mayN e.1 = true
  ids : (l.map (·.2)).Nodup
theorem Gd.nil : Gd [] := ⟨List.Pairwise.nil, (fun e h => by cases h), List.nodup_nil⟩
theorem Gd.drp {l : List Ent} (h : Gd l) (s : ByteArray) : Gd (drp l s) :=
  ⟨h.srt.drp s, fun e he => h.may e (List.mem_filter.1 he).1, (List.Sublist.map _ List.filter_sublist).nodup h.ids⟩
theorem pt_ids {l : List Ent} (s : ByteArray) {i : Nat} (hi : i ∉ l.map (·.2)) (hn : (l.map (·.2)).Nodup) : ((pt l s i).map (·.2)).Nodup := by
  induction l with
  | nil => simp [pt]
  | cons e r ih =>
    rw [pt]
    simp only [List.map_cons, List.mem_cons, not_or] at hi
    simp only [List.map_cons, List.nodup_cons] at hn
    split
    · simp only [List.map_cons, List.nodup_cons]
      refine ⟨fun hm => ?_, ih hi.2 hn.2⟩
      obtain ⟨x, hx, he⟩ := List.mem_map.1 hm
      rcases pt_mem hx with rfl | hx
      · exact hi.1 he
      · exact hn.1 (List.mem_map.2 ⟨x, hx, he⟩)
    · simp only [List.map_cons, List.nodup_cons]
      refine ⟨fun hm => ?_, (List.Sublist.map _ List.filter_sublist).nodup (by simp only [List.map_cons, List.nodup_cons]; exact hn)⟩
      obtain ⟨x, hx, he⟩ := List.mem_map.1 hm
      rcases List.mem_cons.1 (List.mem_filter.1 hx).1 with rfl | hx
      · exact hi.1 he.symm
      · exact hi.2 (List.mem_map.2 ⟨x, hx, he⟩)
theorem Gd.pt {l : List Ent} (h : Gd l) {s : ByteArray} (hs : mayN s = true) {i : Nat} (hi : i ∉ l.map (·.2)) : Gd (pt l s i) :=
  ⟨h.srt.pt s i, fun e he => by rcases pt_mem he with rfl | he; exact hs; exact h.may e he, pt_ids s hi h.ids⟩
theorem drp_other {l : List Ent} {s : ByteArray} (h : ∀ e ∈ l, e.1.toList ≠ s.toList) : drp l s = l := by
  unfold drp
  rw [List.filter_eq_self]
  intro e he
  simp [h e he]
theorem may_size {s : ByteArray} (h : mayN s = true) : 1 ≤ s.size ∧ s.size ≤ 64 := by
  unfold mayN at h
  simp only [Bool.and_eq_true, decide_eq_true_eq] at h
  exact h.2
theorem Gd.drp_empty {l : List Ent} (h : Gd l) : YtligofmcmjblpaaGreat.drp l ByteArray.empty = l := drp_other fun e he hq => by
  have := (may_size (h.may e he)).1
  rw [ByteArray.toList_eq, ByteArray.toList_eq] at hq
  have h2 : e.1.data.size = 0 := by rw [← Array.length_toList, hq]; rfl
  have h3 : e.1.size = 0 := h2
  omega
theorem fnd_pair {l : List Ent} {s : ByteArray} {i : Nat} (hf : fnd l s = some i) : ∃ a, (a, i) ∈ l ∧ a.toList = s.toList := by
  induction l with
  | nil => cases hf
  | cons e r ih =>
    rw [fnd] at hf
    split at hf
    · next hq =>
      simp only [Option.some.injEq] at hf
      exact ⟨e.1, by rw [← hf]; simp, eq_of_beq hq⟩
    · obtain ⟨a, ha, hs⟩ := ih hf
      exact ⟨a, by simp [ha], hs⟩
theorem ids_inj : ∀ {l : List Ent}, (l.map (·.2)).Nodup → ∀ x ∈ l, ∀ y ∈ l, x.2 = y.2 → x = y
  | [], _, x, hx, _, _, _ => by cases hx
  | e :: r, hn, x, hx, y, hy, hq => by
    simp only [List.map_cons, List.nodup_cons] at hn
    rcases List.mem_cons.1 hx with h1 | h1 <;> rcases List.mem_cons.1 hy with h2 | h2
    · rw [h1, h2]
    · rw [h1] at hq
      exact (hn.1 (List.mem_map.2 ⟨y, h2, hq.symm⟩)).elim
    · rw [h2] at hq
      exact (hn.1 (List.mem_map.2 ⟨x, h1, hq⟩)).elim
    · exact ids_inj hn.2 x h1 y h2 hq
/-- A file that is dropped with its name is not left under another. -/
theorem drp_id {l : List Ent} (h : Gd l) {s : ByteArray} {i : Nat} (hf : fnd l s = some i) : i ∉ (drp l s).map (·.2) := by
  intro hm
  obtain ⟨x, hx, he⟩ := List.mem_map.1 hm
  obtain ⟨hx, hn⟩ := List.mem_filter.1 hx
  obtain ⟨a, ha, hs⟩ := fnd_pair hf
  have := ids_inj h.ids x hx _ ha he
  subst this
  simp [hs] at hn

/-- A map of the disk's, nil or not. -/
def DirM (w : World) (F : Nat → Prop) (loc : Nat → Nat) (v : Value) (l : List Ent) : Prop := (v = .map none ∧ l = []) ∨ ∃ b, v = .map (some b) ∧ F b ∧ MapL w b loc l
structure ChR (w : World) (F : Nat → Prop) (loc : Nat → Nat) (v : Value) (ch : List Chg) : Prop where
  row : w.ownsRow 0 83 3 v ch.length (ch.flatMap (chC loc))
  own : ∀ g, v.ownBlock = some g → F g
structure FileM (w : World) (F : Nat → Prop) (g : Nat) (dv : Value) (f : List Int × Nat) : Prop where
  fp : F g
  blk : w.heap[g]? = some (.cells #[dv, .int .i64 (f.2 : Int)] 72 (0, 0))
  row : Row 0 w dv f.1
  own : ∀ b, dv.ownBlock = some b → F b
def Cn.fA (c : Cn) : Int := if 0 < c.fuse then c.fuse - 1 else 0
def Cn.fC (c : Cn) : Int := if 0 < c.fuse then 1 else 0
def Cn.tA (c : Cn) : Int := if 0 < c.wait then c.wait - 1 else 0
def DkL (w : World) (p : Nat) (room : Int) (nv sv cv : Value) (c : Cn) : Prop :=
  w.heap[p]? = some (.cells #[.int .i64 room, nv, sv, cv, .int .i64 c.calls, .bool c.off, .int .i64 c.fA, .int .i64 c.fC, .int .i64 c.tA, .int .i64 c.fails] 51 (0, 0))
/-- F: the blocks; A: the numbers of the files that lie there; loc: a file's block; dv: its bytes; sd: the directory as it was sure; ch: its changes since. -/
structure LAt (w : World) (p : Nat) (σ : DS) (F A : Nat → Prop) (loc : Nat → Nat) (dv : Nat → Value) (nv sv cv : Value) (sd : List Ent) (ch : List Chg) : Prop where
  fp : F p
  blk : DkL w p σ.room nv sv cv σ.c
  dir : DirM w F loc nv σ.dir
  sure : DirM w F loc sv sd
  two : ∀ b, nv = .map (some b) → sv ≠ .map (some b)
  chs : ChR w F loc cv ch
  was : σ.was = hist sd ch
  now : σ.dir = lastD sd ch
  gd : ∀ l ∈ σ.was, Gd l
  file : ∀ i, A i → FileM w F (loc i) (dv i) (σ.fl i)
  inj : ∀ i j, A i → A j → loc i = loc j → i = j
  sep : ∀ i j, A i → A j → i ≠ j → ∀ b, (dv i).ownBlock = some b → (dv j).ownBlock ≠ some b
  lt : ∀ k, F k → k < w.heap.size
  al : ∀ l ∈ σ.was, ∀ e ∈ l, A e.2
  nx : ∀ i, A i → i < σ.nx
  cha : ∀ c ∈ ch, ∀ i, c.f = some i → A i
  chm : ∀ c ∈ ch, c.gone.size ≤ 64 ∧ c.set.size ≤ 64

theorem DkL.ty {w : World} {p : Nat} {room : Int} {nv sv cv : Value} {c : Cn} (h : DkL w p room nv sv cv c) : TyOf w p 51 := ⟨_, _, h⟩
theorem FileM.ty {w : World} {F : Nat → Prop} {g : Nat} {dv : Value} {f : List Int × Nat} (h : FileM w F g dv f) : TyOf w g 72 := ⟨_, _, h.blk⟩
theorem DirM.mono {w : World} {F G : Nat → Prop} {loc : Nat → Nat} {v : Value} {l : List Ent} (h : DirM w F loc v l) (hs : ∀ k, F k → G k) : DirM w G loc v l := by
  rcases h with h | ⟨b, h1, h2, h3⟩
  · exact .inl h
  · exact .inr ⟨b, h1, hs b h2, h3⟩
theorem DirM.same {w w' : World} {F : Nat → Prop} {loc : Nat → Nat} {v : Value} {l : List Ent} (h : DirM w F loc v l) (hs : ∀ k, F k → w'.heap[k]? = w.heap[k]?) : DirM w' F loc v l := by
  rcases h with h | ⟨b, h1, h2, h3⟩
  · exact .inl h
  · exact .inr ⟨b, h1, h2, h3.same (hs b h2)⟩
theorem DirM.grown {w w' : World} {F : Nat → Prop} {loc : Nat → Nat} {v : Value} {l : List Ent} {row : Option Nat} (h : DirM w F loc v l) (hg : w.grownBy w' row) (hr : ∀ b, v = .map (some b) → row ≠ some b) : DirM w' F loc v l := by
  rcases h with h | ⟨b, h1, h2, h3⟩
  · exact .inl h
  · exact .inr ⟨b, h1, h2, h3.same (hg.block b h3.lt fun e => hr b h1 e.symm)⟩
theorem DirM.loc {w : World} {F : Nat → Prop} {loc loc' : Nat → Nat} {v : Value} {l : List Ent} (h : DirM w F loc v l) (hl : ∀ e ∈ l, loc' e.2 = loc e.2) : DirM w F loc' v l := by
  rcases h with h | ⟨b, h1, h2, h3⟩
  · exact .inl h
  · exact .inr ⟨b, h1, h2, h3.loc hl⟩
theorem DirM.cell {w : World} {F : Nat → Prop} {loc : Nat → Nat} {v : Value} {l : List Ent} {g : Nat} {t : TypeId} (h : DirM w F loc v l) (k : TyOf w g t) : ∀ b, v = .map (some b) → some g ≠ some b := fun b e hq => by
  rcases h with ⟨h, _⟩ | ⟨b', h1, _, h3⟩
  · rw [h] at e; cases e
  · rw [h1] at e
    simp only [Value.map.injEq, Option.some.injEq] at e hq
    subst e
    exact h3.ne k hq.symm
theorem DirM.look {w : World} {F : Nat → Prop} {loc : Nat → Nat} {v : Value} {l : List Ent} (h : DirM w F loc v l) (s : ByteArray) : (Instr.lookup 46 v (.string s) false).run Tryz.prog w = .ok (pv loc (fnd l s)) w := by
  rcases h with ⟨rfl, rfl⟩ | ⟨b, rfl, _, h3⟩
  · exact look_nilmap w s
  · exact h3.look s
theorem ChR.mono {w : World} {F G : Nat → Prop} {loc : Nat → Nat} {v : Value} {ch : List Chg} (h : ChR w F loc v ch) (hs : ∀ k, F k → G k) : ChR w G loc v ch := ⟨h.row, fun g e => hs g (h.own g e)⟩
theorem ChR.same {w w' : World} {F : Nat → Prop} {loc : Nat → Nat} {v : Value} {ch : List Chg} (h : ChR w F loc v ch) (hs : ∀ k, F k → w'.heap[k]? = w.heap[k]?) : ChR w' F loc v ch := ⟨owns_same h.row fun g e => hs g (h.own g e), h.own⟩
theorem ChR.grown {w w' : World} {F : Nat → Prop} {loc : Nat → Nat} {v : Value} {ch : List Chg} {row : Option Nat} (h : ChR w F loc v ch) (hg : w.grownBy w' row) (hr : ∀ g, v.ownBlock = some g → row ≠ some g) : ChR w' F loc v ch :=
  ⟨owns_same h.row fun g e => hg.block g (owns_ty h.row e).lt fun x => hr g e x.symm, h.own⟩
theorem flat_loc {loc loc' : Nat → Nat} {ch : List Chg} (hl : ∀ c ∈ ch, ∀ i, c.f = some i → loc' i = loc i) : ch.flatMap (chC loc') = ch.flatMap (chC loc) := by
  induction ch with
  | nil => rfl
  | cons c r ih =>
    have h1 := ih fun x hx => hl x (by simp [hx])
    have h2 : chC loc' c = chC loc c := by
      unfold chC
      cases hf : c.f with
      | none => rfl
      | some i => simp only [pv]; rw [hl c (by simp) i hf]
    simp only [List.flatMap_cons, h1, h2]
theorem ChR.loc {w : World} {F : Nat → Prop} {loc loc' : Nat → Nat} {v : Value} {ch : List Chg} (h : ChR w F loc v ch) (hl : ∀ c ∈ ch, ∀ i, c.f = some i → loc' i = loc i) : ChR w F loc' v ch := ⟨by rw [flat_loc hl]; exact h.row, h.own⟩
theorem ChR.cell {w : World} {F : Nat → Prop} {loc : Nat → Nat} {v : Value} {ch : List Chg} {g : Nat} {t : TypeId} (h : ChR w F loc v ch) (k : TyOf w g t) (hn : t ≠ 83) : ∀ b, v.ownBlock = some b → some g ≠ some b := fun b e hq => by
  simp only [Option.some.injEq] at hq
  subst hq
  exact TyOf.ne k (owns_ty h.row e) hn rfl
theorem FileM.mono {w : World} {F G : Nat → Prop} {g : Nat} {dv : Value} {f : List Int × Nat} (h : FileM w F g dv f) (hs : ∀ k, F k → G k) : FileM w G g dv f := ⟨hs _ h.fp, h.blk, h.row, fun b e => hs b (h.own b e)⟩
theorem FileM.same {w w' : World} {F : Nat → Prop} {g : Nat} {dv : Value} {f : List Int × Nat} (h : FileM w F g dv f) (hs : ∀ k, F k → w'.heap[k]? = w.heap[k]?) : FileM w' F g dv f :=
  ⟨h.fp, (hs g h.fp).trans h.blk, owns_same h.row fun k e => hs k (h.own k e), h.own⟩
theorem FileM.grown {w w' : World} {F : Nat → Prop} {g : Nat} {dv : Value} {f : List Int × Nat} {row : Option Nat} (h : FileM w F g dv f) (hg : w.grownBy w' row) (h1 : row ≠ some g) (h2 : ∀ b, dv.ownBlock = some b → row ≠ some b) : FileM w' F g dv f :=
  ⟨h.fp, (hg.block g h.ty.lt fun e => h1 e.symm).trans h.blk, owns_same h.row fun k e => hg.block k (owns_ty h.row e).lt fun x => h2 k e x.symm, h.own⟩
section
variable {w w' : World} {p : Nat} {σ : DS} {F A : Nat → Prop} {loc : Nat → Nat} {dv : Nat → Value} {nv sv cv : Value} {sd : List Ent} {ch : List Chg}
theorem LAt.same (h : LAt w p σ F A loc dv nv sv cv sd ch) (hs : ∀ k, F k → w'.heap[k]? = w.heap[k]?) : LAt w' p σ F A loc dv nv sv cv sd ch :=
  ⟨h.fp, by unfold DkL; rw [hs p h.fp]; exact h.blk, h.dir.same hs, h.sure.same hs, h.two, h.chs.same hs, h.was, h.now, h.gd, fun i hi => (h.file i hi).same hs, h.inj, h.sep, fun k hk => by
    have := h.lt k hk
    have e := hs k hk
    rw [Array.getElem?_eq_getElem this] at e
    exact (Array.getElem?_eq_some_iff.1 e).1, h.al, h.nx, h.cha, h.chm⟩
theorem LAt.later (h : LAt w p σ F A loc dv nv sv cv sd ch) (hb : Below w.heap.size w w') : LAt w' p σ F A loc dv nv sv cv sd ch := h.same fun k hk => hb.block k (h.lt k hk)
theorem LAt.row5 (h : LAt w p σ F A loc dv nv sv cv sd ch) {i : Nat} (hi : A i) {b : Nat} (e : (dv i).ownBlock = some b) : TyOf w b 5 := owns_ty (h.file i hi).row e
/-- What else is there stays, where the disk's own block is written. -/
theorem LAt.disk (h : LAt w p σ F A loc dv nv sv cv sd ch) (hg : w.grownBy w' (some p)) {c : Cn} (hd : DkL w' p σ.room nv sv cv c) : LAt w' p { σ with c := c } F A loc dv nv sv cv sd ch :=
  ⟨h.fp, hd, h.dir.grown hg (h.dir.cell h.blk.ty), h.sure.grown hg (h.sure.cell h.blk.ty), h.two, h.chs.grown hg (h.chs.cell h.blk.ty (by decide)), h.was, h.now, h.gd,
    fun i hi => (h.file i hi).grown hg (fun e => TyOf.ne h.blk.ty (h.file i hi).ty (by decide) (Option.some.inj e)) (fun b e hq => TyOf.ne h.blk.ty (h.row5 hi e) (by decide) (Option.some.inj hq)),
    h.inj, h.sep, fun k hk => Nat.lt_of_lt_of_le (h.lt k hk) hg.size, h.al, h.nx, h.cha, h.chm⟩
theorem LAt.nvOk (h : LAt w p σ F A loc dv nv sv cv sd ch) : ∀ b, nv = .map (some b) → MapL w b loc σ.dir := fun b e => by
  rcases h.dir with ⟨h1, _⟩ | ⟨b', h1, _, h3⟩
  · rw [h1] at e; cases e
  · rw [h1] at e
    simp only [Value.map.injEq, Option.some.injEq] at e
    subst e
    exact h3
theorem LAt.gdDir (h : LAt w p σ F A loc dv nv sv cv sd ch) : Gd σ.dir := h.gd _ (by rw [h.was, h.now]; exact hist_last sd ch)
theorem LAt.alDir (h : LAt w p σ F A loc dv nv sv cv sd ch) : ∀ e ∈ σ.dir, A e.2 := h.al _ (by rw [h.was, h.now]; exact hist_last sd ch)
theorem LAt.alFnd (h : LAt w p σ F A loc dv nv sv cv sd ch) {s : ByteArray} {i : Nat} (hf : fnd σ.dir s = some i) : A i := by
  obtain ⟨a, ha⟩ := fnd_mem hf
  exact h.alDir _ ha
end
def RL (w : World) (p : Nat) (σ : DS) (F : Nat → Prop) : Prop := ∃ A loc dv nv sv cv sd ch, LAt w p σ F A loc dv nv sv cv sd ch
theorem cell10 {a b c d e f g h i j : Value} (k : Nat) : (#[a, b, c, d, e, f, g, h, i, j] : Array Value)[k]? = [a, b, c, d, e, f, g, h, i, j][k]? := by simp
end Go.Proofs.YtligofmcmjblpaaGreat

/- The landed disk: a change done to a map; rows of calls to come; what is asked without a change. -/
namespace Go.Proofs.YtligofmcmjblpaaGreat
open Go.RowKit Go.Maps
set_option linter.unusedVariables false
set_option linter.unusedSimpArgs false

theorem wpList_delL {w : World} {ops : Array Oper} {rest : List Oper} {o : Oper} {a : Act} {Q : Exit → Act → World → Prop} (hg : o.guard = none) (m x : Operand) (hop : o.op = Op.call { callee := Callee.builtin Builtin.delete, args := #[m, x], argTypes := #[46, 9] })
    (b : Nat) (loc : Nat → Nat) (l : List Ent) (hm : a.eval m = .map (some b)) (h : MapL w b loc l) (s : ByteArray) (hs : s.size ≤ maxLen) (hx : a.eval x = .string s)
    (hK : ∀ w', MapL w' b loc (drp l s) → w.grownBy w' (some b) → wpList Tryz.prog ops Q rest (a.put o.dst (.tuple #[])) w') : wpList Tryz.prog ops Q (o :: rest) a w :=
  wpList_delete_own w hg m x 46 9 hop 68 keyL Tryz.underlying46 fileE b l.length (dD loc l) hm h (.string s) (nm s) hx (WideMaps.keyOf_string_mk Tryz.underlying9 hs) fun w' h1 h2 => hK w' (MapL.exact (by rw [dD_del] at h1; exact h1)) h2.grown
theorem wpList_putL {w : World} {ops : Array Oper} {rest : List Oper} {o : Oper} {a : Act} {Q : Exit → Act → World → Prop} (hg : o.guard = none) (m x v : Operand) (hop : o.op = Op.mapUpdate 46 m x v)
    (b : Nat) (loc : Nat → Nat) (l : List Ent) (hm : a.eval m = .map (some b)) (h : MapL w b loc l) (hl : Srt l) (hn : l.length < maxLen) (s : ByteArray) (hs : s.size ≤ maxLen) (hx : a.eval x = .string s) (i : Nat) (hv : a.eval v = ptr (loc i))
    (hK : ∀ w', MapL w' b loc (pt l s i) → w.grownBy w' (some b) → wpList Tryz.prog ops Q rest (a.put o.dst undef) w') : wpList Tryz.prog ops Q (o :: rest) a w :=
  wpList_mapUpdate_own w hg m x v 46 hop 9 68 keyL Tryz.underlying46 fileE b l.length (dD loc l) hm h hn (.string s) (ptr (loc i)) (nm s) hx hv (WideMaps.keyOf_string_mk Tryz.underlying9 hs) _ [] (fileE_ptr _) fun w' h1 h2 => hK w' (MapL.exact (by rw [dD_put loc l hl] at h1; exact h1)) h2

theorem drp_len (l : List Ent) (s : ByteArray) : (drp l s).length ≤ l.length := List.length_filter_le _ _

set_option maxHeartbeats 1000000 in
set_option maxRecDepth 100000 in
theorem apply_any (c : Chg) (loc : Nat → Nat) (b : Nat) (l : List Ent) (w : World) (h : MapL w b loc l) (hl : Srt l) (hn : l.length < maxLen) (h1 : c.gone.size ≤ maxLen) (h2 : c.set.size ≤ maxLen) :
    Calls Tryz.prog 79 #[chv loc c, .map (some b)] w fun e w' => e = .returned (.tuple #[]) ∧ MapL w' b loc (c.ap l) ∧ w.grownBy w' (some b) := by
  obtain ⟨gone, set, f⟩ := c
  have hb := h.lt
  have hm : MapL (w.alloc (.cells #[.string gone, .string set, pv loc f] 83)) b loc l := h.same (Below.heap_alloc _ _ _ hb)
  have hg0 : w.grownBy (w.alloc (.cells #[.string gone, .string set, pv loc f] 83)) (some b) := World.grownBy_alloc _ _ _
  simp only at h1 h2
  unfold chv
  cases f with
  | none =>
    simp only [pv] at hm hg0 ⊢
    obtain ⟨wb, hwb⟩ : ∃ wb, wb = w.alloc (.cells #[.string gone, .string set, .pointer none] 83) := ⟨_, rfl⟩
    have hcb : ∀ k, wb.cell? ⟨w.heap.size, k, none⟩ = (#[Value.string gone, .string set, .pointer none] : Array Value)[k]? := fun k => by rw [hwb]; exact cell_of (heap_alloc_new w _) k
    have hne : some w.heap.size ≠ some b := fun e => by simp only [Option.some.injEq] at e; omega
    have hcb1 : wb.cell? ⟨w.heap.size, 1, none⟩ = some (.string set) := hcb 1
    have hcb2 : wb.cell? ⟨w.heap.size, 2, none⟩ = some (.pointer none) := hcb 2
    clear hcb
    go_enter Tryz.func79, Tryz.ntmps79
    go_wp2_with (first | (at_delete; rw [← hwb] at hm hg0 ⊢; refine wpList_delL rfl _ _ rfl b loc l rfl hm gone h1 rfl ?_; intro w2 m2 g2; have hc2 := g2.cell hcb2 hne) | go_in)
    go_end0
    exact ⟨rfl, m2, grown_trans hg0 g2⟩
  | some i =>
    simp only [pv] at hm hg0 ⊢
    unfold ptr at *
    obtain ⟨wb, hwb⟩ : ∃ wb, wb = w.alloc (.cells #[.string gone, .string set, .pointer (some ⟨loc i, 0, none⟩)] 83) := ⟨_, rfl⟩
    have hcb : ∀ k, wb.cell? ⟨w.heap.size, k, none⟩ = (#[Value.string gone, .string set, .pointer (some ⟨loc i, 0, none⟩)] : Array Value)[k]? := fun k => by rw [hwb]; exact cell_of (heap_alloc_new w _) k
    have hne : some w.heap.size ≠ some b := fun e => by simp only [Option.some.injEq] at e; omega
    have hcb1 : wb.cell? ⟨w.heap.size, 1, none⟩ = some (.string set) := hcb 1
    have hcb2 : wb.cell? ⟨w.heap.size, 2, none⟩ = some (.pointer (some ⟨loc i, 0, none⟩)) := hcb 2
    clear hcb
    have hl2 : Srt (drp l gone) := hl.drp gone
    have hn2 : (drp l gone).length < maxLen := Nat.lt_of_le_of_lt (drp_len l gone) hn
    go_enter Tryz.func79, Tryz.ntmps79
    go_wp2_with (first | (at_delete; rw [← hwb] at hm hg0 ⊢; refine wpList_delL rfl _ _ rfl b loc l rfl hm gone h1 rfl ?_; intro w2 m2 g2; have hc1 := g2.cell hcb1 hne; have hc2 := g2.cell hcb2 hne) | (at_mapUpdate; refine wpList_putL rfl _ _ _ rfl b loc (drp l gone) rfl m2 hl2 hn2 set h2 rfl i rfl ?_; intro w3 m3 g3) | go_in)
    go_end0
    exact ⟨rfl, m3, grown_trans (grown_trans hg0 g2) g3⟩
end Go.Proofs.YtligofmcmjblpaaGreat
