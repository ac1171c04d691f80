/- The maps from names to files of the program's disk: how they lie in memory, and what a look-up, a store, a delete do to them. -/
import Derived.Test.YtligofmcmjblpaaGreatRep
import Derived.Maps.OwnSet
import Derived.Maps.RangeWalk
import Derived.Maps.Ext
namespace Go.Proofs.YtligofmcmjblpaaGreat
open Go.RowKit Go.Maps
set_option linter.unusedVariables false
set_option linter.unusedSimpArgs false

/-- How a pointer to a file reads: the number of its block. -/
def fileE : Value → Option (DataW Unit × List MemPlace)
  | .pointer none => some (.nil, [])
  | .pointer (some ⟨g, 0, none⟩) => some (.lit (.int .u64 g), [])
  | _ => none
theorem fileE_ptr (g : Nat) : fileE (ptr g) = some (.lit (.int .u64 g), []) := rfl
theorem fileE_inv {v : Value} {g : Nat} {ps : List MemPlace} (h : fileE v = some (.lit (.int .u64 g), ps)) : v = ptr g := by
  unfold fileE at h
  split at h
  · cases h
  · simp only [Option.some.injEq, Prod.mk.injEq, DataW.lit.injEq, Lit.int.injEq, Int.natCast_inj, true_and] at h
    rw [← h.1]
    rfl
  · cases h
def nm (s : ByteArray) : Lit := .string s.data.toList
def dE (loc : Nat → Nat) (e : Ent) : Lit × DataW Unit := (nm e.1, .lit (.int .u64 (loc e.2)))
def dD (loc : Nat → Nat) (l : List Ent) : DataW Unit := .map (l.map (dE loc))
/-- The names rise. -/
def Srt (l : List Ent) : Prop := l.Pairwise fun a b => Op.bytesLess a.1.toList b.1.toList = true
theorem less_before : ∀ (a b : List UInt8), Op.bytesLess a b = bytesBefore a b
  | [], [] => rfl
  | [], _ :: _ => rfl
  | _ :: _, [] => rfl
  | a :: r, b :: s => by
    simp only [Op.bytesLess, bytesBefore]
    rw [less_before r s]
theorem nm_before (s t : ByteArray) : (nm s).before (nm t) = Op.bytesLess s.toList t.toList := by
  rw [less_before, ByteArray.toList_eq, ByteArray.toList_eq]
  rfl
theorem nm_same (s t : ByteArray) : (nm s).sameKey (nm t) = (s.toList == t.toList) := by
  rw [ByteArray.toList_eq, ByteArray.toList_eq]
  rfl
theorem less_irr (a : List UInt8) : Op.bytesLess a a = false := by rw [less_before]; exact WideAt.bytes_irrefl a
theorem less_trans {a b c : List UInt8} (h : Op.bytesLess a b = true) (k : Op.bytesLess b c = true) : Op.bytesLess a c = true := by
  rw [less_before] at *
  exact WideShapes.bytes_trans a b c h k
theorem less_total {a b : List UInt8} (h : a ≠ b) : Op.bytesLess a b = true ∨ Op.bytesLess b a = true := by
  rw [less_before, less_before]
  exact WideAt.bytes_total a b h
theorem Srt.tail {e : Ent} {l : List Ent} (h : Srt (e :: l)) : Srt l := (List.pairwise_cons.1 h).2
theorem Srt.head {e : Ent} {l : List Ent} (h : Srt (e :: l)) : ∀ x ∈ l, Op.bytesLess e.1.toList x.1.toList = true := (List.pairwise_cons.1 h).1
theorem Srt.drp {l : List Ent} (h : Srt l) (s : ByteArray) : Srt (drp l s) := List.Pairwise.filter _ h
theorem pt_mem {l : List Ent} {s : ByteArray} {i : Nat} {x : Ent} (h : x ∈ pt l s i) : x = (s, i) ∨ x ∈ l := by
  induction l with
  | nil =>
    simp [pt] at h
    exact .inl h
  | cons e r ih =>
    rw [pt] at h
    split at h
    · rcases List.mem_cons.1 h with rfl | h
      · exact .inr (by simp)
      · rcases ih h with h | h
        · exact .inl h
        · exact .inr (by simp [h])
    · rcases List.mem_cons.1 h with rfl | h
      · exact .inl rfl
      · exact .inr (List.mem_filter.1 h).1
theorem Srt.pt {l : List Ent} (h : Srt l) (s : ByteArray) (i : Nat) : Srt (pt l s i) := by
  induction l with
  | nil => exact List.pairwise_singleton _ _
  | cons e r ih =>
    rw [YtligofmcmjblpaaGreat.pt]
    split
    · next hl =>
      refine List.pairwise_cons.2 ⟨fun x hx => ?_, ih h.tail⟩
      rcases pt_mem hx with rfl | hx
      · exact hl
      · exact h.head x hx
    · next hl =>
      refine List.pairwise_cons.2 ⟨fun x hx => ?_, h.drp s⟩
      obtain ⟨hx, hn⟩ := List.mem_filter.1 hx
      have hne : s.toList ≠ x.1.toList := fun e => by rw [e] at hn; simp at hn
      rcases less_total hne with h1 | h1
      · exact h1
      · exfalso
        rcases List.mem_cons.1 hx with rfl | hx
        · exact hl h1
        · exact hl (less_trans (h.head x hx) h1)
theorem dD_atKey (loc : Nat → Nat) (l : List Ent) (s : ByteArray) (z : DataW Unit) : (dD loc l).atKey (nm s) z = match fnd l s with | some i => .lit (.int .u64 (loc i)) | none => z := by
  induction l with
  | nil => rfl
  | cons e r ih =>
    unfold dD DataW.atKey at ih ⊢
    simp only [List.map_cons, List.find?_cons, dE, fnd, nm_same] at ih ⊢
    by_cases h : (e.1.toList == s.toList) = true
    · rw [if_pos h]
      simp only [h]
    · rw [if_neg h]
      simp only [eq_false_of_ne_true h]
      exact ih
theorem dD_del (loc : Nat → Nat) (l : List Ent) (s : ByteArray) : (dD loc l).del (nm s) = dD loc (drp l s) := by
  rw [dD, DataW.del_eq]
  unfold dD ChangeMaps.delKey drp
  rw [List.filter_map]
  congr 2
  apply List.filter_congr
  intro e _
  simp only [Function.comp, ChangeMaps.notKey, dE, nm_same]
theorem ins_head (x : Lit × DataW Unit) (l : List (Lit × DataW Unit)) (h : ∀ y ∈ l, x.1.before y.1 = true) : DataW.insert x l = x :: l := by
  cases l with
  | nil => rfl
  | cons y r =>
    unfold DataW.insert
    rw [if_pos (h y (by simp))]
theorem ins_tail (x y : Lit × DataW Unit) (r : List (Lit × DataW Unit)) (h : x.1.before y.1 = false) : DataW.insert x (y :: r) = y :: DataW.insert x r := by
  rw [DataW.insert, if_neg (by rw [h]; decide)]
theorem dD_put (loc : Nat → Nat) (l : List Ent) (h : Srt l) (s : ByteArray) (i : Nat) : (dD loc l).put (nm s) (.lit (.int .u64 (loc i))) = dD loc (pt l s i) := by
  rw [dD, DataW.put_eq]
  unfold dD ChangeMaps.putKey
  congr 1
  rw [List.filter_map]
  have e0 : (l.filter ((ChangeMaps.notKey (nm s)) ∘ dE loc)) = drp l s := by
    unfold drp
    apply List.filter_congr
    intro e _
    simp only [Function.comp, ChangeMaps.notKey, dE, nm_same]
  rw [e0]
  clear e0
  induction l with
  | nil => rfl
  | cons e r ih =>
    rw [pt]
    split
    · next hl =>
      have hne : (e.1.toList == s.toList) = false := by
        cases hq : (e.1.toList == s.toList)
        · rfl
        · rw [eq_of_beq hq, less_irr] at hl
          cases hl
      have hd : drp (e :: r) s = e :: drp r s := by
        unfold drp
        rw [List.filter_cons, if_pos (by rw [hne]; rfl)]
      rw [hd, List.map_cons, List.map_cons]
      have hb : (nm s).before (nm e.1) = false := by
        rw [nm_before]
        cases hq : Op.bytesLess s.toList e.1.toList
        · rfl
        · exact absurd (less_trans hl hq) (by rw [less_irr]; decide)
      rw [ins_tail _ _ _ hb, ih h.tail]
    · next hl =>
      rw [List.map_cons]
      refine ins_head _ _ fun y hy => ?_
      obtain ⟨x, hx, rfl⟩ := List.mem_map.1 hy
      obtain ⟨hx, hn⟩ := List.mem_filter.1 hx
      simp only [dE, nm_before]
      have hne : s.toList ≠ x.1.toList := fun e => by rw [e] at hn; simp at hn
      rcases less_total hne with h1 | h1
      · exact h1
      · exfalso
        rcases List.mem_cons.1 hx with rfl | hx
        · exact hl h1
        · exact hl (less_trans (h.head x hx) h1)
theorem dD_size (loc : Nat → Nat) (l : List Ent) : Maps.size (dD loc l) = l.length := by simp [dD, Maps.size]
theorem dD_has (loc : Nat → Nat) (l : List Ent) (s : ByteArray) : Maps.has (dD loc l) (nm s) = (fnd l s).isSome := by
  induction l with
  | nil => rfl
  | cons e r ih =>
    unfold dD Maps.has at ih ⊢
    simp only [List.map_cons, List.any_cons, dE, fnd, nm_same] at ih ⊢
    split
    · next h => rw [h]; rfl
    · next h => rw [eq_false_of_ne_true h, Bool.false_or]; exact ih
theorem dD_loc {loc loc' : Nat → Nat} {l : List Ent} (h : ∀ e ∈ l, loc' e.2 = loc e.2) : dD loc' l = dD loc l := by
  unfold dD
  congr 1
  apply List.map_congr_left
  intro e he
  unfold dE
  rw [h e he]

theorem keyL : Keyed Tryz.prog 9 := string_keyed Tryz.underlying9
theorem zeroL (w : World) : (zeroValue 68).run Tryz.prog w = .ok (.pointer none) w := by kernel_rfl
/-- What a look-up hands back. -/
def pv (loc : Nat → Nat) : Option Nat → Value
  | none => .pointer none
  | some i => ptr (loc i)
/-- A map of names, not nil: block b. -/
def MapL (w : World) (b : Nat) (loc : Nat → Nat) (l : List Ent) : Prop := w.ownsMap Tryz.prog 9 fileE b l.length (dD loc l)
theorem MapL.exact {w : World} {b n : Nat} {loc : Nat → Nat} {l : List Ent} (h : w.ownsMap Tryz.prog 9 fileE b n (dD loc l)) : MapL w b loc l := by
  obtain ⟨es, clock, hb, F, hs, hD⟩ := h
  refine ⟨es, clock, hb, F, ?_, hD⟩
  have h1 : Maps.size (dD loc l) = es.size := by rw [hD]; simp [Maps.size, length_sorted]
  rw [dD_size] at h1
  omega
theorem MapL.loc {w : World} {b : Nat} {loc loc' : Nat → Nat} {l : List Ent} (h : MapL w b loc l) (hl : ∀ e ∈ l, loc' e.2 = loc e.2) : MapL w b loc' l := by
  unfold MapL
  rw [dD_loc hl]
  exact h
theorem MapL.lt {w : World} {b : Nat} {loc : Nat → Nat} {l : List Ent} (h : MapL w b loc l) : b < w.heap.size := World.ownsMap.lt h
theorem MapL.same {w w' : World} {b : Nat} {loc : Nat → Nat} {l : List Ent} (h : MapL w b loc l) (hs : w'.heap[b]? = w.heap[b]?) : MapL w' b loc l := by
  obtain ⟨es, clock, hb, F, hz, hD⟩ := h
  exact ⟨es, clock, hs.trans hb, F, hz, hD⟩
theorem MapL.ne {w : World} {b g : Nat} {loc : Nat → Nat} {l : List Ent} {t : TypeId} (h : MapL w b loc l) (k : TyOf w g t) : b ≠ g := fun e => by
  obtain ⟨es, clock, hb, _⟩ := h
  obtain ⟨c, f, x⟩ := k
  subst e
  rw [hb] at x
  cases x
/-- m[s], whatever s is. -/
theorem look_run {w : World} {es : Array MapEntry} {clock b : Nat} (hb : w.heap[b]? = some (.map es clock)) (F : WideElems.Fit Tryz.prog 9 fileE es clock) (s : ByteArray) :
    ((Instr.lookup 46 (.map (some b)) (.string s) false).run Tryz.prog w = .ok (.pointer none) w ∧ ∀ x ∈ es.toList, x.key ≠ .string s) ∨ ∃ e ∈ es.toList, e.key = .string s ∧ (Instr.lookup 46 (.map (some b)) (.string s) false).run Tryz.prog w = .ok e.val w := by
  have hk : ∀ y ∈ es.toList, MapKept.IsKey .string y.key := fun y hy => by
    obtain ⟨z, hz⟩ := F.reads y hy
    have := WideElems.rd_key hz
    have h9 := Tryz.underlying9
    cases hq : y.key <;> rw [hq] at this <;> simp [keyOf, h9, mapKey] at this
    exact trivial
  have hc : (Instr.checkKey es.isEmpty 10000 9 (.string s)).run Tryz.prog w = .ok () w := MapKept.run_checkKey Tryz.underlying9 (k := .string s) trivial es.isEmpty 9999
  rcases MapKept.findNow_spec (d := .string) (k := .string s) trivial es.toList 0 hk with ⟨h1, h2⟩ | ⟨j, e0, h1, h2, h3⟩
  · have hf := MapKept.run_findKey (w := w) Tryz.underlying9 h1
    refine .inl ⟨?_, h2⟩
    simp [Instr.lookup, run_underlying Tryz.underlying46, MapKept.run_getObj_map hb, hc, hf, zeroL, Result.andThen]
  · have hf := MapKept.run_findKey (w := w) Tryz.underlying9 h1
    refine .inr ⟨e0, List.mem_of_getElem? h2, h3, ?_⟩
    simp [Instr.lookup, run_underlying Tryz.underlying46, MapKept.run_getObj_map hb, hc, hf, Result.andThen]
theorem fnd_none_long {l : List Ent} {s : ByteArray} (hl : ∀ e ∈ l, e.1.size ≤ maxLen) (hs : ¬ s.size ≤ maxLen) : fnd l s = none := by
  induction l with
  | nil => rfl
  | cons e r ih =>
    rw [fnd, if_neg]
    · exact ih fun x hx => hl x (by simp [hx])
    · intro h
      have h1 := eq_of_beq h
      have h2 := hl e (by simp)
      rw [ByteArray.toList_eq, ByteArray.toList_eq] at h1
      have h3 : e.1.data.size = s.data.size := by rw [← Array.length_toList, h1, Array.length_toList]
      have h4 : e.1.size = s.size := h3
      omega
theorem MapL.look {w : World} {b : Nat} {loc : Nat → Nat} {l : List Ent} (h : MapL w b loc l) (s : ByteArray) : (Instr.lookup 46 (.map (some b)) (.string s) false).run Tryz.prog w = .ok (pv loc (fnd l s)) w := by
  have h0 := h
  by_cases hs : s.size ≤ maxLen
  · have hkey : keyOf Tryz.prog 9 (.string s) = some (nm s) := WideMaps.keyOf_string_mk Tryz.underlying9 hs
    obtain ⟨v, ps, hr, hv⟩ := World.ownsMap.lookup h0 keyL Tryz.underlying46 (zeroL w) (zd := .nil) (zp := []) rfl hkey
    rw [hr]
    rw [dD_atKey] at hv
    cases hf : fnd l s with
    | none =>
      rw [hf] at hv
      simp only at hv
      have : v = .pointer none := by
        unfold fileE at hv
        split at hv
        · rfl
        · cases hv
        · cases hv
      rw [this]
      rfl
    | some i =>
      rw [hf] at hv
      rw [fileE_inv hv]
      rfl
  · obtain ⟨es, clock, hb, F, hz, hD⟩ := h
    have hl : ∀ e ∈ l, e.1.size ≤ maxLen := fun e he => by
      have h1 : dE loc e ∈ (es.toList.map (WideElems.rg Tryz.prog 9 fileE)).foldr DataW.insert [] := by
        have : l.map (dE loc) = (es.toList.map (WideElems.rg Tryz.prog 9 fileE)).foldr DataW.insert [] := by
          unfold dD at hD
          injection hD
        rw [← this]
        exact List.mem_map_of_mem he
      rw [mem_sorted] at h1
      obtain ⟨x, hx, hq⟩ := List.mem_map.1 h1
      obtain ⟨y, hy⟩ := F.reads x hx
      have h2 := WideElems.rd_key hy
      rw [WideElems.rg_of hy] at hq
      subst hq
      have h9 := Tryz.underlying9
      cases hq : x.key <;> rw [hq] at h2 <;> simp [keyOf, h9, mapKey, dE, nm] at h2
      obtain ⟨h3, h4⟩ := h2
      rename_i q
      have h5 : e.1.data.size = q.data.size := by rw [h4]
      exact Nat.le_trans (Nat.le_of_eq h5) h3
    rw [fnd_none_long hl hs]
    rcases look_run hb F s with ⟨h1, _⟩ | ⟨e, he, h1, h2⟩
    · exact h1
    · exfalso
      obtain ⟨y, hy⟩ := F.reads e he
      have h2 := WideElems.rd_key hy
      have h9 := Tryz.underlying9
      rw [h1] at h2
      simp [keyOf, h9, mapKey, hs] at h2
theorem look_nilmap (w : World) (s : ByteArray) : (Instr.lookup 46 (.map none) (.string s) false).run Tryz.prog w = .ok (.pointer none) w := by
  have hc : (Instr.checkKey true 10000 9 (.string s)).run Tryz.prog w = .ok () w := MapKept.run_checkKey Tryz.underlying9 (k := .string s) trivial true 9999
  have hf : (Instr.findKey 9 (.string s) []).run Tryz.prog w = .ok none w := MapKept.run_findKey (w := w) Tryz.underlying9 rfl
  simp [Instr.lookup, run_underlying Tryz.underlying46, hc, hf, zeroL, Result.andThen]
end Go.Proofs.YtligofmcmjblpaaGreat
