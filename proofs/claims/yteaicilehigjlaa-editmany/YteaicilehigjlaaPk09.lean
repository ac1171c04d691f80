import Derived.Lib.BytesEntry
import Derived.Lib.IndexLaws
import Derived.Laws.Externs
import Derived.Maps.OwnSet
import Derived.Deep.RegionWith
import Derived.Test.YteaicilehigjlaaPk06
import Derived.Test.YteaicilehigjlaaPk07
import Derived.Test.YteaicilehigjlaaPk08
/- What the library's IndexByte, Count and Compare answer on slices of bytes, as lists. -/
namespace Go.Proofs.Yteaicilehigjlaa
open Go.RowKit
set_option linter.unusedVariables false
set_option linter.unusedSimpArgs false

/-- What an entry of the model reads off a slice of bytes. -/
theorem ext_bytes {w : World} {ao : Option Addr} {len cap : Nat} {xs : List Int} (h : Sl w ao len cap xs) : (Extern.Bytes.bytesOf (.slice ao len cap)).run Try.prog w = .ok ⟨(Lib.bytesOf xs).toArray⟩ w := by
  cases ao with
  | none =>
    have e := (h.2.2.1 rfl).1
    have hx := h.1
    rw [e] at hx
    rw [List.length_eq_zero_iff.1 hx]
    rfl
  | some a =>
    have hl := Lib.run_loadBytesX (P := Try.prog) w xs a .empty (fun j x hj => by
      have hjl : j < xs.length := (List.getElem?_eq_some_iff.1 hj).1
      obtain ⟨_, b, off, e, hc⟩ := h.2.2.2.2.2 j (by rw [← h.1]; exact hjl)
      simp only [Option.some.injEq] at e
      subst e
      have e2 : (⟨b, off, none⟩ : Addr).add j = ⟨b, off + j, none⟩ := by unfold Addr.add; split <;> simp_all
      rw [e2, hc, ← xof_at h.2.1 hjl]
      rw [List.getElem?_eq_getElem hjl] at hj
      simpa using hj)
    rw [h.1] at hl
    have he : (⟨ByteArray.empty.data ++ (Lib.bytesOf xs).toArray⟩ : ByteArray) = ⟨(Lib.bytesOf xs).toArray⟩ := by
      apply ByteArray.ext
      show (#[] : Array UInt8) ++ (Lib.bytesOf xs).toArray = (Lib.bytesOf xs).toArray
      simp
    rw [he] at hl
    exact hl

/-- How many bytes stand ahead of the first nought. -/
def fz (xs : List Int) : Nat := (xs.takeWhile (fun x => x ≠ 0)).length
def ix (xs : List Int) : Int := if fz xs < xs.length then (fz xs : Int) else -1
theorem fz_nil : fz [] = 0 := rfl
theorem fz_zero (r : List Int) : fz (0 :: r) = 0 := by simp [fz]
theorem fz_cons {x : Int} (h : x ≠ 0) (r : List Int) : fz (x :: r) = fz r + 1 := by simp [fz, h]
theorem fz_le : ∀ xs : List Int, fz xs ≤ xs.length
  | [] => Nat.le_refl _
  | x :: r => by
    have := fz_le r
    by_cases q : x = 0
    · subst q; rw [fz_zero]; omega
    · rw [fz_cons q, List.length_cons]; omega
theorem fz_at : ∀ {xs : List Int} (h : fz xs < xs.length), xs[fz xs] = 0
  | [], h => by cases h
  | x :: r, h => by
    by_cases q : x = 0
    · subst q
      simp [fz_zero]
    · have h' : fz r < r.length := by rw [fz_cons q, List.length_cons] at h; omega
      have ih := fz_at h'
      simp only [fz_cons q, List.getElem_cons_succ]
      exact ih
theorem fz_before : ∀ {xs : List Int} {k : Nat} (h : k < fz xs) (hk : k < xs.length), xs[k] ≠ 0
  | [], _, h, hk => by cases hk
  | x :: r, k, h, hk => by
    by_cases q : x = 0
    · subst q; rw [fz_zero] at h; cases h
    · rw [fz_cons q] at h
      cases k with
      | zero => simpa using q
      | succ k =>
        rw [List.getElem_cons_succ]
        exact fz_before (by omega) (by simp at hk; omega)
theorem byte_zero {x : Int} (h : 0 ≤ x ∧ x < 256) : (UInt8.ofNat x.toNat == (0 : UInt8)) = decide (x = 0) := by
  rw [Bool.eq_iff_iff, beq_iff_eq, decide_eq_true_eq]
  constructor
  · intro e
    have := congrArg UInt8.toNat e
    rw [UInt8.toNat_ofNat'] at this
    simp only [Nat.reducePow] at this
    rw [Nat.mod_eq_of_lt (by omega)] at this
    have e0 : (0 : UInt8).toNat = 0 := rfl
    omega
  · intro e
    subst e
    rfl
theorem ix_eq : ∀ {xs : List Int}, Okb xs → Lib.indexByte (Lib.bytesOf xs) 0 = ix xs
  | [], _ => rfl
  | x :: r, h => by
    have ih := ix_eq h.tail
    have hb := byte_zero h.head
    have e : Lib.bytesOf (x :: r) = UInt8.ofNat x.toNat :: Lib.bytesOf r := rfl
    rw [e, Lib.indexByte, hb, ih]
    by_cases q : x = 0
    · subst q
      simp [ix, fz_zero]
    · have hle := fz_le r
      unfold ix
      rw [fz_cons q, List.length_cons]
      by_cases z : fz r < r.length
      · have h1 : ((fz r : Int) == -1) = false := by rw [beq_eq_false_iff_ne]; omega
        have z1 : fz r + 1 < r.length + 1 := by omega
        simp [q, h1, z, z1]
      · have z1 : ¬ fz r + 1 < r.length + 1 := by omega
        simp [q, z, z1]

theorem ext_index {w : World} {ao : Option Addr} {len cap : Nat} {xs : List Int} (h : Sl w ao len cap xs) : (Extern.BytealgIndexByte.indexByte #[.slice ao len cap, .int .u8 0]).run Try.prog w = .ok (.int .i64 (ix xs)) w := by
  have hl := ext_bytes h
  have hs := Lib.run_indexByteString (P := Try.prog) ⟨(Lib.bytesOf xs).toArray⟩ 0 w
  have e0 : (0 : Int).toNat.toUInt8 = 0 := rfl
  rw [e0] at hs
  simp only [ix_eq h.2.1] at hs
  change Sem.run Try.prog (do
    let b ← Extern.Bytes.bytesOf (.slice ao len cap)
    let c ← Extern.Bytes.asByte (.int .u8 0)
    match (List.range b.size).find? fun i => b[i]! == c with
    | some i => pure (goInt i)
    | none => pure (goInt (-1))) w = _
  change Sem.run Try.prog (do
    let b ← Extern.Bytes.bytesOf (.string ⟨(Lib.bytesOf xs).toArray⟩)
    let c ← Extern.Bytes.asByte (.int .u8 0)
    match (List.range b.size).find? fun i => b[i]! == c with
    | some i => pure (goInt i)
    | none => pure (goInt (-1))) w = _ at hs
  rw [Sem.run_bind, hl]
  have e1 : (Extern.Bytes.bytesOf (.string ⟨(Lib.bytesOf xs).toArray⟩)).run Try.prog w = .ok ⟨(Lib.bytesOf xs).toArray⟩ w := rfl
  rw [Sem.run_bind, e1] at hs
  exact hs

/-- How many noughts. -/
def cz (xs : List Int) : Nat := Lib.countByte (Lib.bytesOf xs) 0
theorem cz_le (xs : List Int) : cz xs ≤ xs.length := by
  unfold cz Lib.countByte
  refine Nat.le_trans List.count_le_length ?_
  simp [Lib.bytesOf]
theorem ext_count {w : World} {ao : Option Addr} {len cap : Nat} {xs : List Int} (h : Sl w ao len cap xs) : (Extern.BytealgCount.count #[.slice ao len cap, .int .u8 0]).run Try.prog w = .ok (.int .i64 (cz xs : Int)) w := by
  have hl := ext_bytes h
  have hs := Lib.run_countString (P := Try.prog) ⟨(Lib.bytesOf xs).toArray⟩ 0 w
  change Sem.run Try.prog (do
    let b ← Extern.Bytes.bytesOf (.slice ao len cap)
    let c' ← Extern.Bytes.asByte (.int .u8 0)
    pure (goInt (b.foldl (fun n x => if x == c' then n + 1 else n) (0 : Nat)))) w = _
  change Sem.run Try.prog (do
    let b ← Extern.Bytes.bytesOf (.string ⟨(Lib.bytesOf xs).toArray⟩)
    let c' ← Extern.Bytes.asByte (.int .u8 0)
    pure (goInt (b.foldl (fun n x => if x == c' then n + 1 else n) (0 : Nat)))) w = _ at hs
  rw [Sem.run_bind, hl]
  have e1 : (Extern.Bytes.bytesOf (.string ⟨(Lib.bytesOf xs).toArray⟩)).run Try.prog w = .ok ⟨(Lib.bytesOf xs).toArray⟩ w := rfl
  rw [Sem.run_bind, e1] at hs
  exact hs

theorem cmp_bytes : ∀ {xs ys : List Int}, Okb xs → Okb ys → Lib.compareBytes (Lib.bytesOf xs) (Lib.bytesOf ys) = cmp xs ys
  | [], [], _, _ => rfl
  | [], y :: ys, _, _ => by simp [Lib.bytesOf, Lib.compareBytes, cmp]
  | x :: xs, [], _, _ => by simp [Lib.bytesOf, Lib.compareBytes, cmp]
  | x :: xs, y :: ys, hx, hy => by
    have ih := cmp_bytes hx.tail hy.tail
    have h1 := hx.head
    have h2 := hy.head
    have e1 : (UInt8.ofNat x.toNat).toNat = x.toNat := by
      rw [UInt8.toNat_ofNat']
      simp only [Nat.reducePow]
      exact Nat.mod_eq_of_lt (by omega)
    have e2 : (UInt8.ofNat y.toNat).toNat = y.toNat := by
      rw [UInt8.toNat_ofNat']
      simp only [Nat.reducePow]
      exact Nat.mod_eq_of_lt (by omega)
    have d1 : Lib.bytesOf (x :: xs) = UInt8.ofNat x.toNat :: Lib.bytesOf xs := rfl
    have d2 : Lib.bytesOf (y :: ys) = UInt8.ofNat y.toNat :: Lib.bytesOf ys := rfl
    rw [d1, d2, Lib.compareBytes, ih]
    rcases Int.lt_trichotomy x y with h | h | h
    · have l1 : UInt8.ofNat x.toNat < UInt8.ofNat y.toNat := by rw [UInt8.lt_iff_toNat_lt, e1, e2]; omega
      rw [cmp_less h]
      simp [l1]
    · subst h
      rw [cmp_same]
      have l0 : ¬ UInt8.ofNat x.toNat < UInt8.ofNat x.toNat := UInt8.lt_irrefl _
      simp [l0]
    · have l1 : ¬ UInt8.ofNat x.toNat < UInt8.ofNat y.toNat := by rw [UInt8.lt_iff_toNat_lt, e1, e2]; omega
      have l2 : UInt8.ofNat y.toNat < UInt8.ofNat x.toNat := by rw [UInt8.lt_iff_toNat_lt, e1, e2]; omega
      rw [cmp_more h]
      simp [l1, l2]
theorem ext_cmp {w : World} {ao bo : Option Addr} {la ca lb cb : Nat} {xs ys : List Int} (ha : Sl w ao la ca xs) (hb : Sl w bo lb cb ys) : (Extern.BytealgCompare.compare #[.slice ao la ca, .slice bo lb cb]).run Try.prog w = .ok (.int .i64 (cmp xs ys)) w := by
  have h1 := ext_bytes ha
  have h2 := ext_bytes hb
  change Sem.run Try.prog (do pure (goInt (Extern.BytealgCompare.cmp (← Extern.Bytes.bytesOf (.slice ao la ca)) (← Extern.Bytes.bytesOf (.slice bo lb cb))))) w = _
  rw [Sem.run_bind, h1]
  simp only [Result.andThen]
  rw [Sem.run_bind, h2]
  simp only [Result.andThen, Sem.run_pure]
  rw [Lib.cmp_eq]
  show Result.ok (goInt (Lib.compareBytes (Lib.bytesOf xs) (Lib.bytesOf ys))) w = _
  rw [cmp_bytes ha.2.1 hb.2.1]
  rfl
set_option maxHeartbeats 1000000 in
set_option maxRecDepth 100000 in
theorem compare_l {w : World} {ao bo : Option Addr} {la ca lb cb : Nat} {xs ys : List Int} (ha : Sl w ao la ca xs) (hb : Sl w bo lb cb ys) : Calls Try.prog 21 #[.slice ao la ca, .slice bo lb cb] w fun e w' => e = .returned (.int .i64 (cmp xs ys)) ∧ w' = w := by
  have hx := ext_cmp ha hb
  clear ha hb
  go_enter Try.func21, Try.ntmps21
  go_wp2
  rw [run_callFunc_extern Try.func38 (by kernel_rfl) (by kernel_rfl) (by kernel_rfl) (e := Extern.BytealgCompare.compare) (by kernel_rfl), hx]
  simp only [Result.andThen]
  rw [Oper.upon_value]
  go_wp2
  go_ret
  exact ⟨rfl, rfl⟩
/-- A run of bytes that are no noughts. -/
theorem J.run {xs out : List Int} {i : Nat} (h : J xs out i) : ∀ (r : Nat), i + r ≤ xs.length → (∀ k, i ≤ k → k < i + r → ∀ hk : k < xs.length, xs[k] ≠ 0) → J xs (out ++ (xs.drop i).take r) (i + r)
  | 0, _, _ => by simpa using h
  | r + 1, h1, h2 => by
    have ih := J.run h r (by omega) fun k a b hk => h2 k a (by omega) hk
    have := ih.plain (by omega) (h2 (i + r) (by omega) (by omega) (by omega))
    have e : (xs.drop i).take (r + 1) = (xs.drop i).take r ++ [xs[i + r]'(by omega)] := by
      rw [List.take_add_one, List.getElem?_drop, List.getElem?_eq_getElem (by omega)]
      rfl
    rw [e, ← List.append_assoc]
    exact this
end Go.Proofs.Yteaicilehigjlaa

/- Lines of tables and numbers in memory; a map that counts numbers. -/
namespace Go.Proofs.Yteaicilehigjlaa
open Go.RowKit
set_option linter.unusedVariables false
set_option linter.unusedSimpArgs false

theorem hidE {p : Prop} (h : p) : Hid p := h
/-- A line in five cells. -/
def LnM (w : World) (vs : List Value) (t : LnV) : Prop :=
  ∃ la lc ma mc, vs = [.int .i64 t.num, .int .i64 t.lvl, .int .i64 t.size, .slice la t.least.length lc, .slice ma t.most.length mc] ∧ Sl w la t.least.length lc t.least ∧ Sl w ma t.most.length mc t.most ∧ In64 t.num ∧ In64 t.lvl ∧ In64 t.size
def lnE : El LnV where
  ty := 24
  size := 5
  M := LnM
  len := fun h => by obtain ⟨la, lc, ma, mc, rfl, _⟩ := h; rfl
  one := fun h v hv => by
    obtain ⟨la, lc, ma, mc, rfl, _⟩ := h
    simp only [List.mem_cons, List.not_mem_nil, or_false] at hv
    rcases hv with rfl | rfl | rfl | rfl | rfl <;> rfl
  lt := fun h v hv b hr => by
    obtain ⟨la, lc, ma, mc, rfl, h1, h2, _⟩ := h
    simp only [List.mem_cons, List.not_mem_nil, or_false] at hv
    rcases hv with rfl | rfl | rfl | rfl | rfl
    · exact (refs_int hr).elim
    · exact (refs_int hr).elim
    · exact (refs_int hr).elim
    · exact h1.lt hr
    · exact h2.lt hr
  keep := fun h hk => by
    obtain ⟨la, lc, ma, mc, rfl, h1, h2, h3⟩ := h
    exact ⟨la, lc, ma, mc, rfl, h1.keep fun b hr => hk _ (by simp) b hr, h2.keep fun b hr => hk _ (by simp) b hr, h3⟩
theorem lnE_info : (Try.prog.info? lnE.ty).map (fun i => (i.zero, i.size, i.bytes)) = some (some (.agg #[.int .i64 0, .int .i64 0, .int .i64 0, .slice none 0 0, .slice none 0 0]), lnE.size, 72) := by kernel_rfl
/-- The cells of a line of a row. -/
theorem RS.ln {w : World} {ao : Option Addr} {len cap : Nat} {os : List LnV} (h : RS lnE w ao len cap os) {i : Nat} {o : LnV} (hx : os[i]? = some o) :
    ∃ b off la lc ma mc, ao = some ⟨b, off, none⟩ ∧ w.cell? ⟨b, off + i * 5, none⟩ = some (.int .i64 o.num) ∧ w.cell? ⟨b, off + i * 5 + 1, none⟩ = some (.int .i64 o.lvl) ∧ w.cell? ⟨b, off + i * 5 + 2, none⟩ = some (.int .i64 o.size) ∧ w.cell? ⟨b, off + i * 5 + 3, none⟩ = some (.slice la o.least.length lc) ∧ w.cell? ⟨b, off + i * 5 + 4, none⟩ = some (.slice ma o.most.length mc) ∧
      Sl w la o.least.length lc o.least ∧ Sl w ma o.most.length mc o.most ∧ In64 o.num ∧ In64 o.lvl ∧ In64 o.size := by
  obtain ⟨b, off, vs, e, ⟨la, lc, ma, mc, rfl, h1, h2, h3⟩, hc⟩ := RS.at h (by decide) hx
  refine ⟨b, off, la, lc, ma, mc, e, ?_, ?_, ?_, ?_, ?_, h1, h2, h3⟩
  · exact hc 0 _ rfl
  · exact hc 1 _ rfl
  · exact hc 2 _ rfl
  · exact hc 3 _ rfl
  · exact hc 4 _ rfl
/-- A number in a cell. -/
def i64E : El Int where
  ty := 2
  size := 1
  M := fun _ vs x => vs = [.int .i64 x] ∧ In64 x
  len := fun h => by rw [h.1]; rfl
  one := fun h v hv => by rw [h.1] at hv; rw [List.mem_singleton.1 hv]; rfl
  lt := fun h v hv b hr => by rw [h.1] at hv; rw [List.mem_singleton.1 hv] at hr; exact (refs_int hr).elim
  keep := fun h _ => h
theorem i64E_info : (Try.prog.info? i64E.ty).map (fun i => (i.zero, i.size, i.bytes)) = some (some (.int .i64 0), i64E.size, 8) := by kernel_rfl
theorem RS.i64 {w : World} {ao : Option Addr} {len cap : Nat} {xs : List Int} (h : RS i64E w ao len cap xs) {i : Nat} {x : Int} (hx : xs[i]? = some x) : ∃ b off, ao = some ⟨b, off, none⟩ ∧ w.cell? ⟨b, off + i, none⟩ = some (.int .i64 x) ∧ In64 x := by
  obtain ⟨b, off, vs, e, hM, hc⟩ := RS.at h (by decide) hx
  obtain ⟨hM', hi⟩ : vs = [.int .i64 x] ∧ In64 x := hM
  subst hM'
  refine ⟨b, off, e, ?_, hi⟩
  have := hc 0 _ rfl
  rw [show off + (i * i64E.size + 0) = off + i by show off + (i * 1 + 0) = off + i; omega] at this
  exact this
theorem RS.okl {w : World} {ao : Option Addr} {len cap : Nat} {os : List LnV} (h : RS lnE w ao len cap os) : ∀ o ∈ os, OkL o := fun o ho => by
  obtain ⟨i, hi, rfl⟩ := List.getElem_of_mem ho
  obtain ⟨_, _, _, _, _, _, _, _, _, _, _, _, l1, l2, _⟩ := RS.ln h (List.getElem?_eq_getElem hi)
  exact ⟨l1.2.1, l2.2.1⟩
/-- How many numbers are unlike. -/
def dc : List Int → Nat
  | [] => 0
  | x :: r => dc r + if x ∈ r then 0 else 1
theorem dc_le : ∀ l : List Int, dc l ≤ l.length
  | [] => Nat.le_refl _
  | x :: r => by
    have := dc_le r
    unfold dc
    simp only [List.length_cons]
    split <;> omega
theorem dc_all : ∀ l : List Int, dc l = l.length ↔ l.Nodup
  | [] => by simp [dc]
  | x :: r => by
    have h1 := dc_le r
    have h2 := dc_all r
    unfold dc
    rw [List.length_cons, List.nodup_cons, ← h2]
    by_cases q : x ∈ r
    · rw [if_pos q]
      constructor
      · intro h; omega
      · intro h; exact absurd q h.1
    · rw [if_neg q]
      constructor
      · intro h; exact ⟨q, by omega⟩
      · intro h; omega
theorem dc_rev (l : List Int) : dc l.reverse = l.length ↔ l.Nodup := by
  have h := dc_all l.reverse
  rw [List.length_reverse] at h
  rw [h]
  unfold List.Nodup
  rw [List.pairwise_reverse]
  constructor
  · intro g; exact g.imp fun e => e.symm
  · intro g; exact g.imp fun e => e.symm
theorem dc_take {l : List Int} {k : Nat} {x : Int} (h : l[k]? = some x) : dc (l.take (k + 1)).reverse = dc (l.take k).reverse + if x ∈ l.take k then 0 else 1 := by
  obtain ⟨hk, rfl⟩ := List.getElem?_eq_some_iff.1 h
  rw [List.take_add_one, List.getElem?_eq_getElem hk]
  simp only [Option.toList, List.reverse_append, List.reverse_cons, List.reverse_nil, List.nil_append, List.singleton_append, dc, List.mem_reverse]
theorem wf64 {x : Int} (h : In64 x) : (Lit.int .i64 x).wf = true := by
  have e1 : IntKind.i64.min = -9223372036854775808 := by decide
  have e2 : IntKind.i64.max = 9223372036854775807 := by decide
  simp only [Lit.wf, e1, e2, Bool.and_eq_true, decide_eq_true_eq]
  exact h
theorem zero3 (w : World) : (zeroValue 3).run Try.prog w = .ok (.int .i64 0) w := by kernel_rfl
theorem underI : Try.prog.underlying 72 = some (.map 2 3) := Try.underlying72
/-- A map that has counted the numbers of a list. -/
def MapI (w : World) (b n : Nat) (L : List Int) : Prop := ∃ D : DataW Unit, w.ownsMap Try.prog 2 (plainElem Try.prog 3) b n D ∧ (∀ x, In64 x → (Maps.has D (.int .i64 x) = true ↔ x ∈ L)) ∧ Maps.size D = dc L.reverse
theorem mapI_new (w : World) : MapI (w.alloc (.map #[] 0)) w.heap.size 0 [] := ⟨.map [], World.ownsMap_made w _ _ _, fun x _ => by simp [Maps.has], rfl⟩
theorem MapI.look {w : World} {b n : Nat} {L : List Int} (h : MapI w b n L) {x : Int} (hx : In64 x) : ∃ c : Int, (Instr.lookup 72 (.map (some b)) (.int .i64 x) false).run Try.prog w = .ok (.int .i64 c) w := by
  obtain ⟨D, h1, h2, h3⟩ := h
  obtain ⟨c, r1, r2, r3⟩ := h1.lookup_int (Maps.int_keyed Try.underlying2) underI Try.underlying3 (zero3 w) (Maps.keyOf_int_mk Try.underlying2 (wf64 hx))
  exact ⟨c, r1⟩
theorem MapI.put {w : World} {b n : Nat} {L : List Int} (h : MapI w b n L) (hn : n < 1000000000) {x c : Int} (hx : In64 x) (hc : In64 c) :
    ∃ w', (Instr.mapUpdate 72 (.map (some b)) (.int .i64 x) (.int .i64 c)).run Try.prog w = .ok () w' ∧ MapI w' b (n + 1) (L ++ [x]) ∧ w.grownBy w' (some b) := by
  obtain ⟨D, h1, h2, h3⟩ := h
  have K := Maps.int_keyed (P := Try.prog) Try.underlying2
  have hk := Maps.keyOf_int_mk (P := Try.prog) Try.underlying2 (wf64 hx)
  obtain ⟨w', r1, r2, r3⟩ := h1.update K underI (by unfold maxLen; omega) hk (plainElem_int Try.underlying3 (wf64 hc))
  have ht := h1.tidy K
  refine ⟨w', r1, ⟨_, r2, fun y hy => ?_, ?_⟩, r3⟩
  · by_cases e : y = x
    · subst e
      rw [Maps.has_put_same ht.isMap (K.key hk)]
      simp
    · rw [Maps.has_put_other (fun z => e (by simpa using z)), h2 y hy]
      simp [e]
  · rw [Maps.size_put ht, h3, List.reverse_append, List.reverse_cons, List.reverse_nil, List.nil_append, List.singleton_append, dc]
    by_cases q : x ∈ L
    · rw [if_pos ((h2 x hx).2 q), if_pos (by simpa using q)]; rfl
    · rw [if_neg (fun z => q ((h2 x hx).1 z)), if_neg (by simpa using q)]
theorem MapI.same {w w2 : World} {b n : Nat} {L : List Int} (h : MapI w b n L) (hb : w2.heap[b]? = w.heap[b]?) : MapI w2 b n L := by
  obtain ⟨D, ⟨es, clock, h1, h2⟩, h3⟩ := h
  exact ⟨D, ⟨es, clock, hb.trans h1, h2⟩, h3⟩
theorem MapI.lt {w : World} {b n : Nat} {L : List Int} (h : MapI w b n L) : b < w.heap.size := by
  obtain ⟨D, ⟨es, clock, h1, h2⟩, h3⟩ := h
  exact (Array.getElem?_eq_some_iff.1 h1).1
theorem MapI.len {w : World} {b n : Nat} {L : List Int} (h : MapI w b n L) (ty : TypeId) : (Builtin.len_ #[72] ty #[.map (some b)]).run Try.prog w = .ok (.int .i64 (dc L.reverse : Nat)) w := by
  obtain ⟨D, h1, h2, h3⟩ := h
  rw [h1.len underI ty, h3]
end Go.Proofs.Yteaicilehigjlaa

/- What the landed edit's MayTable answers, and the document's own. -/
namespace Go.Proofs.Yteaicilehigjlaa
open Go.RowKit
set_option linter.unusedVariables false
set_option linter.unusedSimpArgs false

set_option maxHeartbeats 1000000 in
set_option maxRecDepth 100000 in
theorem emno_any {w : World} {n : Int} : Calls Try.prog 19 #[.int .i64 n] w fun e w' => e = .returned (.bool (mayNo n)) ∧ w' = w := by
  unfold mayNo
  go_enter Try.func19, Try.ntmps19
  go_wp2_with fail
  all_goals
    go_ret
    refine ⟨congrArg (fun b => Ending.returned (.bool b)) ?_, rfl⟩
    rw [Bool.eq_iff_iff]
    simp
    try omega
set_option maxHeartbeats 1000000 in
set_option maxRecDepth 100000 in
theorem emmk_any {w : World} {n : Int} : Calls Try.prog 27 #[.int .i64 n] w fun e w' => e = .returned (.bool (mayMk n)) ∧ w' = w := by
  unfold mayMk
  go_enter Try.func27, Try.ntmps27
  go_wp2_with fail
  all_goals
    go_ret
    refine ⟨congrArg (fun b => Ending.returned (.bool b)) ?_, rfl⟩
    rw [Bool.eq_iff_iff]
    simp
    try omega
set_option maxHeartbeats 1000000 in
set_option maxRecDepth 100000 in
theorem emky_any {w : World} {a : Option Addr} {c : Nat} {k : List Int} : Calls Try.prog 20 #[.slice a k.length c] w fun e w' => e = .returned (.bool (mayKy k)) ∧ w' = w := by
  unfold mayKy
  generalize k.length = n
  go_enter Try.func20, Try.ntmps20
  go_wp2_with fail
  all_goals
    go_ret
    refine ⟨congrArg (fun b => Ending.returned (.bool b)) ?_, rfl⟩
    rw [Bool.eq_iff_iff]
    simp
    try omega
/-- A line as the program asks it, bit by bit. -/
theorem mayLn_bits (t : LnV) : mayLn t = (mayNo t.num && (decide (0 ≤ t.lvl) && (decide (t.lvl < 4) && (decide (1 ≤ t.size) && (decide (t.size ≤ 4194304) && (mayKy t.least && (mayKy t.most && decide (cmp t.least t.most ≤ 0)))))))) := by
  unfold mayLn mayNo mayKy
  rw [Bool.eq_iff_iff]
  simp only [Bool.and_eq_true, decide_eq_true_eq]
  constructor
  · rintro ⟨a, b, c, d, e, f⟩; exact ⟨a, b.1, b.2, c.1, c.2, d, e, f⟩
  · rintro ⟨a, b, b', c, c', d, e, f⟩; exact ⟨a, ⟨b, b'⟩, ⟨c, c'⟩, d, e, f⟩
set_option maxHeartbeats 4000000 in
set_option maxRecDepth 100000 in
theorem emtab_any {w : World} {la ma : Option Addr} {lc mc : Nat} {t : LnV} (hl : Sl w la t.least.length lc t.least) (hm : Sl w ma t.most.length mc t.most) :
    Calls Try.prog 8 #[.agg #[.int .i64 t.num, .int .i64 t.lvl, .int .i64 t.size, .slice la t.least.length lc, .slice ma t.most.length mc]] w fun e w' => e = .returned (.bool (mayLn t)) ∧ Below w.heap.size w w' := by
  rw [mayLn_bits]
  obtain ⟨num, lvl, size, least, most⟩ := t
  simp only at hl hm ⊢
  have hb : Below w.heap.size w (w.alloc (.cells #[.int .i64 num, .int .i64 lvl, .int .i64 size, .slice la least.length lc, .slice ma most.length mc] 24)) := (Below.refl _ w).alloc (Nat.le_refl _) _
  have hC := compare_l (hl.later hb) (hm.later hb)
  have hN := fun wx => emno_any (w := wx) (n := num)
  have hK := fun wx => emky_any (w := wx) (a := la) (c := lc) (k := least)
  have hL := fun wx => emky_any (w := wx) (a := ma) (c := mc) (k := most)
  have HB := hidE hb
  obtain ⟨X, hX⟩ : ∃ X, X = cmp least most := ⟨_, rfl⟩
  rw [← hX] at hC ⊢
  obtain ⟨b1, h1⟩ : ∃ b, b = mayNo num := ⟨_, rfl⟩
  obtain ⟨b2, h2⟩ : ∃ b, b = mayKy least := ⟨_, rfl⟩
  obtain ⟨b3, h3⟩ : ∃ b, b = mayKy most := ⟨_, rfl⟩
  rw [← h1] at hN ⊢
  rw [← h2] at hK ⊢
  rw [← h3] at hL ⊢
  clear h1 h2 h3 hX
  generalize least.length = nl at hC hK HB
  generalize most.length = nm at hC hL HB
  clear hl hm hb
  cases b1
  · go_enter Try.func8, Try.ntmps8
    go_wp2_with (go_at_call 19; refine (hN _).mono ?_; rintro e w2 ⟨rfl, hw⟩; obtain rfl := hw.symm)
    exact bodyPost_ret (v := .bool false) (by simp [results, Try.results8, go_sem]) rfl ⟨by simp, HB.out⟩
  by_cases q1 : lvl < 0
  · go_enter Try.func8, Try.ntmps8
    go_wp2_with (go_at_call 19; refine (hN _).mono ?_; rintro e w2 ⟨rfl, hw⟩; obtain rfl := hw.symm)
    exact bodyPost_ret (v := .bool false) (by simp [results, Try.results8, go_sem]) rfl ⟨by have : decide (0 ≤ lvl) = false := decide_eq_false (by omega); simp [this], HB.out⟩
  have q1' : 0 ≤ lvl := by omega
  by_cases q2 : 4 ≤ lvl
  · go_enter Try.func8, Try.ntmps8
    go_wp2_with (go_at_call 19; refine (hN _).mono ?_; rintro e w2 ⟨rfl, hw⟩; obtain rfl := hw.symm)
    exact bodyPost_ret (v := .bool false) (by simp [results, Try.results8, go_sem]) rfl ⟨by have : decide (lvl < 4) = false := decide_eq_false (by omega); simp [this], HB.out⟩
  have q2' : lvl < 4 := by omega
  by_cases q3 : size < 1
  · go_enter Try.func8, Try.ntmps8
    go_wp2_with (go_at_call 19; refine (hN _).mono ?_; rintro e w2 ⟨rfl, hw⟩; obtain rfl := hw.symm)
    exact bodyPost_ret (v := .bool false) (by simp [results, Try.results8, go_sem]) rfl ⟨by have : decide (1 ≤ size) = false := decide_eq_false (by omega); simp [this], HB.out⟩
  have q3' : 1 ≤ size := by omega
  by_cases q4 : 4194304 < size
  · go_enter Try.func8, Try.ntmps8
    go_wp2_with (go_at_call 19; refine (hN _).mono ?_; rintro e w2 ⟨rfl, hw⟩; obtain rfl := hw.symm)
    exact bodyPost_ret (v := .bool false) (by simp [results, Try.results8, go_sem]) rfl ⟨by have : decide (size ≤ 4194304) = false := decide_eq_false (by omega); simp [this], HB.out⟩
  have q4' : size ≤ 4194304 := by omega
  have e1 : decide (0 ≤ lvl) = true := decide_eq_true q1'
  have e2 : decide (lvl < 4) = true := decide_eq_true q2'
  have e3 : decide (1 ≤ size) = true := decide_eq_true q3'
  have e4 : decide (size ≤ 4194304) = true := decide_eq_true q4'
  rw [e1, e2, e3, e4]
  simp only [Bool.true_and]
  clear e1 e2 e3 e4
  cases b2
  · go_enter Try.func8, Try.ntmps8
    go_wp2_with (first | (go_at_call 19; refine (hN _).mono ?_; rintro e w2 ⟨rfl, hw⟩; obtain rfl := hw.symm) | (go_at_call 20; refine (hK _).mono ?_; rintro e w2 ⟨rfl, hw⟩; obtain rfl := hw.symm))
    exact bodyPost_ret (v := .bool false) (by simp [results, Try.results8, go_sem]) rfl ⟨by simp, HB.out⟩
  cases b3
  · go_enter Try.func8, Try.ntmps8
    go_wp2_with (first | (go_at_call 19; refine (hN _).mono ?_; rintro e w2 ⟨rfl, hw⟩; obtain rfl := hw.symm) | (go_at_call_of 20 (Value.slice la nl lc); refine (hK _).mono ?_; rintro e w2 ⟨rfl, hw⟩; obtain rfl := hw.symm; clear hK) | (go_at_call_of 20 (Value.slice ma nm mc); refine (hL _).mono ?_; rintro e w2 ⟨rfl, hw⟩; obtain rfl := hw.symm))
    exact bodyPost_ret (v := .bool false) (by simp [results, Try.results8, go_sem]) rfl ⟨by simp, HB.out⟩
  by_cases q5 : X ≤ 0
  · go_enter Try.func8, Try.ntmps8
    go_wp2_with (first | (go_at_call 19; refine (hN _).mono ?_; rintro e w2 ⟨rfl, hw⟩; obtain rfl := hw.symm) | (go_at_call_of 20 (Value.slice la nl lc); refine (hK _).mono ?_; rintro e w2 ⟨rfl, hw⟩; obtain rfl := hw.symm; clear hK) | (go_at_call_of 20 (Value.slice ma nm mc); refine (hL _).mono ?_; rintro e w2 ⟨rfl, hw⟩; obtain rfl := hw.symm) | (go_at_call 21; refine hC.mono ?_; rintro e w2 ⟨rfl, hw⟩; obtain rfl := hw.symm))
    exact bodyPost_ret (v := .bool true) (by simp [results, Try.results8, go_sem, q5]) rfl ⟨by simp [q5], HB.out⟩
  · have q5' : 0 < X := by omega
    go_enter Try.func8, Try.ntmps8
    go_wp2_with (first | (go_at_call 19; refine (hN _).mono ?_; rintro e w2 ⟨rfl, hw⟩; obtain rfl := hw.symm) | (go_at_call_of 20 (Value.slice la nl lc); refine (hK _).mono ?_; rintro e w2 ⟨rfl, hw⟩; obtain rfl := hw.symm; clear hK) | (go_at_call_of 20 (Value.slice ma nm mc); refine (hL _).mono ?_; rintro e w2 ⟨rfl, hw⟩; obtain rfl := hw.symm) | (go_at_call 21; refine hC.mono ?_; rintro e w2 ⟨rfl, hw⟩; obtain rfl := hw.symm))
    exact bodyPost_ret (v := .bool false) (by simp [results, Try.results8, go_sem, q5']) rfl ⟨by simp [q5'], HB.out⟩
set_option maxHeartbeats 4000000 in
set_option maxRecDepth 100000 in
theorem rmtab_any {w : World} {la ma : Option Addr} {lc mc : Nat} {t : LnV} (hl : Sl w la t.least.length lc t.least) (hm : Sl w ma t.most.length mc t.most) :
    Calls Try.prog 9 #[.agg #[.int .i64 t.num, .int .i64 t.lvl, .int .i64 t.size, .slice la t.least.length lc, .slice ma t.most.length mc]] w fun e w' => e = .returned (.bool (mayLn t)) ∧ Below w.heap.size w w' := by
  rw [mayLn_bits]
  obtain ⟨num, lvl, size, least, most⟩ := t
  simp only at hl hm ⊢
  have hb : Below w.heap.size w (w.alloc (.cells #[.int .i64 num, .int .i64 lvl, .int .i64 size, .slice la least.length lc, .slice ma most.length mc] 24)) := (Below.refl _ w).alloc (Nat.le_refl _) _
  have hC := rcmp_any (hl.later hb) (hm.later hb)
  have HB := hidE hb
  have hX := cmp_vals least most
  obtain ⟨X, hXX⟩ : ∃ X, X = cmp least most := ⟨_, rfl⟩
  rw [← hXX] at hC hX ⊢
  unfold mayNo mayKy
  have hnl := hl.2.2.2
  have hnm := hm.2.2.2
  generalize least.length = nl at hC HB ⊢
  generalize most.length = nm at hC HB ⊢
  clear hl hm hb hXX hnl hnm
  go_enter Try.func9, Try.ntmps9
  go_wp2_with (go_at_call 22; refine hC.mono ?_; rintro e w2 ⟨rfl, hb2⟩)
  all_goals
    go_ret
    refine ⟨congrArg (fun b => Ending.returned (.bool b)) ?_, by first | exact HB.out | exact HB.out.trans (hb2.mono HB.out.size)⟩
    rw [Bool.eq_iff_iff]
    simp
    try omega
end Go.Proofs.Yteaicilehigjlaa
