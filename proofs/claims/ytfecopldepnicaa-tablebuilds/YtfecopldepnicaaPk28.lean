import Derived.Lib.BytesEntry
import Derived.Lib.IndexLaws
import Derived.Laws.Externs
import Derived.Test.YtfecopldepnicaaPk08
import Derived.Test.YtfecopldepnicaaPk09
import Derived.Test.YtfecopldepnicaaPk25
import Derived.Test.YtfecopldepnicaaPk27
/- The landed table: how parts and rows lie in memory; where a block ends. -/
namespace Go.Proofs.Ytfecopldepnicaa
open Go.RowKit
set_option linter.unusedVariables false
set_option linter.unusedSimpArgs false

/-- Where a part stands, in cells. -/
def spnE : El (Nat × Nat) where
  ty := 74
  size := 2
  M := fun _ vs x => vs = [.int .i64 (x.1 : Int), .int .i64 (x.2 : Int)]
  len := fun h => by rw [h]; rfl
  one := fun h v hv => by
    rw [h] at hv
    simp only [List.mem_cons, List.not_mem_nil, or_false] at hv
    rcases hv with rfl | rfl <;> rfl
  lt := fun h v hv b hr => by
    rw [h] at hv
    simp only [List.mem_cons, List.not_mem_nil, or_false] at hv
    rcases hv with rfl | rfl <;> exact (refs_int hr).elim
  keep := fun h _ => h
theorem spnE_info : (Try.prog.info? spnE.ty).map (fun i => (i.zero, i.size, i.bytes)) = some (some (.agg #[.int .i64 0, .int .i64 0]), spnE.size, 16) := by kernel_rfl
theorem RS.spn {w : World} {ao : Option Addr} {len cap : Nat} {xs : List (Nat × Nat)} (h : RS spnE w ao len cap xs) {i : Nat} {x : Nat × Nat} (hx : xs[i]? = some x) :
    ∃ b off, ao = some ⟨b, off, none⟩ ∧ w.cell? ⟨b, off + i * 2, none⟩ = some (.int .i64 (x.1 : Int)) ∧ w.cell? ⟨b, off + i * 2 + 1, none⟩ = some (.int .i64 (x.2 : Int)) := by
  obtain ⟨b, off, vs, e, rfl, hc⟩ := RS.at h (by decide) hx
  exact ⟨b, off, e, hc 0 _ rfl, hc 1 _ rfl⟩
/-- A row of the index, in cells. -/
def RowM (w : World) (vs : List Value) (r : RowV) : Prop := ∃ a c, vs = [.int .i64 (r.sp.1 : Int), .int .i64 (r.sp.2 : Int), .slice a r.last.length c] ∧ Sl w a r.last.length c r.last
def rowE : El RowV where
  ty := 86
  size := 3
  M := RowM
  len := fun h => by obtain ⟨a, c, rfl, _⟩ := h; rfl
  one := fun h v hv => by
    obtain ⟨a, c, rfl, _⟩ := h
    simp only [List.mem_cons, List.not_mem_nil, or_false] at hv
    rcases hv with rfl | rfl | rfl <;> rfl
  lt := fun h v hv b hr => by
    obtain ⟨a, c, rfl, h1⟩ := h
    simp only [List.mem_cons, List.not_mem_nil, or_false] at hv
    rcases hv with rfl | rfl | rfl
    · exact (refs_int hr).elim
    · exact (refs_int hr).elim
    · exact h1.lt hr
  keep := fun h hk => by
    obtain ⟨a, c, rfl, h1⟩ := h
    exact ⟨a, c, rfl, h1.keep fun b hr => hk _ (by simp) b hr⟩
theorem rowE_info : (Try.prog.info? rowE.ty).map (fun i => (i.zero, i.size, i.bytes)) = some (some (.agg #[.int .i64 0, .int .i64 0, .slice none 0 0]), rowE.size, 40) := by kernel_rfl
theorem RS.row {w : World} {ao : Option Addr} {len cap : Nat} {xs : List RowV} (h : RS rowE w ao len cap xs) {i : Nat} {r : RowV} (hx : xs[i]? = some r) :
    ∃ b off a c, ao = some ⟨b, off, none⟩ ∧ w.cell? ⟨b, off + i * 3, none⟩ = some (.int .i64 (r.sp.1 : Int)) ∧ w.cell? ⟨b, off + i * 3 + 1, none⟩ = some (.int .i64 (r.sp.2 : Int)) ∧ w.cell? ⟨b, off + i * 3 + 2, none⟩ = some (.slice a r.last.length c) ∧ Sl w a r.last.length c r.last := by
  obtain ⟨b, off, vs, e, ⟨a, c, rfl, h1⟩, hc⟩ := RS.at h (by decide) hx
  exact ⟨b, off, a, c, e, hc 0 _ rfl, hc 1 _ rfl, hc 2 _ rfl, h1⟩
/-- How many entries the first block has. -/
def beN : Nat → List EntV → Nat
  | _, [] => 0
  | s, e :: r => if 256 ≤ s + wtE e then 1 else 1 + beN (s + wtE e) r
theorem beN_le : ∀ (l : List EntV) (s : Nat), beN s l ≤ l.length
  | [], s => Nat.le_refl _
  | e :: r, s => by
    unfold beN
    have := beN_le r (s + wtE e)
    split <;> simp <;> omega
theorem beN_pos {l : List EntV} {s : Nat} (h : l ≠ []) : 1 ≤ beN s l := by
  cases l with
  | nil => exact absurd rfl h
  | cons e r => unfold beN; split <;> omega
theorem cutB_cons (s : Nat) (cur : List EntV) (e : EntV) (r : List EntV) : cutB s cur (e :: r) = if 256 ≤ s + wtE e then (cur ++ [e]) :: cutB 0 [] r else cutB (s + wtE e) (cur ++ [e]) r := by conv => lhs; unfold cutB
theorem beN_cons (s : Nat) (e : EntV) (r : List EntV) : beN s (e :: r) = if 256 ≤ s + wtE e then 1 else 1 + beN (s + wtE e) r := by conv => lhs; unfold beN
theorem cutB_be : ∀ (l : List EntV) (s : Nat) (cur : List EntV), l ≠ [] → cutB s cur l = (cur ++ l.take (beN s l)) :: cutB 0 [] (l.drop (beN s l))
  | [], s, cur, h => absurd rfl h
  | e :: r, s, cur, _ => by
    rw [cutB_cons, beN_cons]
    by_cases q : 256 ≤ s + wtE e
    · rw [if_pos q, if_pos q]
      rfl
    · rw [if_neg q, if_neg q]
      cases r with
      | nil => simp [cutB, beN]
      | cons x t =>
        rw [cutB_be (x :: t) (s + wtE e) (cur ++ [e]) (by simp), show 1 + beN (s + wtE e) (x :: t) = beN (s + wtE e) (x :: t) + 1 by omega]
        simp
theorem cutT_be {l : List EntV} (h : l ≠ []) : cutT l = l.take (beN 0 l) :: cutT (l.drop (beN 0 l)) := by
  unfold cutT
  rw [cutB_be l 0 [] h, List.nil_append]
/-- The weight of the first entries. -/
theorem beN_at : ∀ (l : List EntV) (s k : Nat) (hk : k < l.length), k < beN s l → (256 ≤ s + wts (l.take k) + wtE l[k] → beN s l = k + 1) ∧ (s + wts (l.take k) + wtE l[k] < 256 → k + 1 < l.length → k + 1 < beN s l) ∧ (s + wts (l.take k) + wtE l[k] < 256 → k + 1 = l.length → beN s l = l.length)
  | [], s, k, hk, _ => by simp at hk
  | e :: r, s, 0, hk, h => by
    refine ⟨fun q => ?_, fun q hl => ?_, fun q hl => ?_⟩
    · have q' : 256 ≤ s + wtE e := by simpa [wts] using q
      unfold beN; rw [if_pos q']
    · have q' : s + wtE e < 256 := by simpa [wts] using q
      unfold beN; rw [if_neg (by omega)]
      have := beN_pos (l := r) (s := s + wtE e) (fun z => by rw [z] at hl; simp at hl)
      omega
    · have q' : s + wtE e < 256 := by simpa [wts] using q
      have hr : r = [] := by simp at hl; exact hl
      subst hr
      simp [beN]
  | e :: r, s, k + 1, hk, h => by
    have h0 : ¬ 256 ≤ s + wtE e := fun z => by unfold beN at h; rw [if_pos z] at h; omega
    have hb : beN s (e :: r) = 1 + beN (s + wtE e) r := by rw [beN_cons, if_neg h0]
    rw [hb] at h ⊢
    obtain ⟨h1, h2, h3⟩ := beN_at r (s + wtE e) k (by simpa using hk) (by omega)
    simp only [List.take_succ_cons, wts, List.getElem_cons_succ, List.length_cons]
    refine ⟨fun q => by rw [h1 (by omega)]; omega, fun q hl => by have := h2 (by omega) (by omega); omega, fun q hl => by rw [h3 (by omega) (by omega)]; omega⟩
end Go.Proofs.Ytfecopldepnicaa

/- What the library's IndexByte, Count and Compare answer on slices of bytes, as lists. -/
namespace Go.Proofs.Ytfecopldepnicaa
open Go.RowKit
set_option linter.unusedVariables false
set_option linter.unusedSimpArgs false

/-- What an entry of the model reads off a slice of bytes. -/
theorem ext_bytes {w : World} {ao : Option Addr} {len cap : Nat} {xs : List Int} (h : Sl w ao len cap xs) : (Extern.Bytes.bytesOf (.slice ao len cap)).run Try.prog w = .ok ⟨(Lib.bytesOf xs).toArray⟩ w := by
  cases ao with
  | none =>
    have e := (h.2.2.1 rfl).1
    have hx := h.1
    rw [e] at hx
    rw [List.length_eq_zero_iff.1 hx]
    rfl
  | some a =>
    have hl := Lib.run_loadBytesX (P := Try.prog) w xs a .empty (fun j x hj => by
      have hjl : j < xs.length := (List.getElem?_eq_some_iff.1 hj).1
      obtain ⟨_, b, off, e, hc⟩ := h.2.2.2.2.2 j (by rw [← h.1]; exact hjl)
      simp only [Option.some.injEq] at e
      subst e
      have e2 : (⟨b, off, none⟩ : Addr).add j = ⟨b, off + j, none⟩ := by unfold Addr.add; split <;> simp_all
      rw [e2, hc, ← xof_at h.2.1 hjl]
      rw [List.getElem?_eq_getElem hjl] at hj
      simpa using hj)
    rw [h.1] at hl
    have he : (⟨ByteArray.empty.data ++ (Lib.bytesOf xs).toArray⟩ : ByteArray) = ⟨(Lib.bytesOf xs).toArray⟩ := by
      apply ByteArray.ext
      show (#[] : Array UInt8) ++ (Lib.bytesOf xs).toArray = (Lib.bytesOf xs).toArray
      simp
    rw [he] at hl
    exact hl

/-- How many bytes stand ahead of the first nought. -/
def fz (xs : List Int) : Nat := (xs.takeWhile (fun x => x ≠ 0)).length
def ix (xs : List Int) : Int := if fz xs < xs.length then (fz xs : Int) else -1
theorem fz_nil : fz [] = 0 := rfl
theorem fz_zero (r : List Int) : fz (0 :: r) = 0 := by simp [fz]
theorem fz_cons {x : Int} (h : x ≠ 0) (r : List Int) : fz (x :: r) = fz r + 1 := by simp [fz, h]
theorem fz_le : ∀ xs : List Int, fz xs ≤ xs.length
  | [] => Nat.le_refl _
  | x :: r => by
    have := fz_le r
    by_cases q : x = 0
    · subst q; rw [fz_zero]; omega
    · rw [fz_cons q, List.length_cons]; omega
theorem fz_at : ∀ {xs : List Int} (h : fz xs < xs.length), xs[fz xs] = 0
  | [], h => by cases h
  | x :: r, h => by
    by_cases q : x = 0
    · subst q
      simp [fz_zero]
    · have h' : fz r < r.length := by rw [fz_cons q, List.length_cons] at h; omega
      have ih := fz_at h'
      simp only [fz_cons q, List.getElem_cons_succ]
      exact ih
theorem fz_before : ∀ {xs : List Int} {k : Nat} (h : k < fz xs) (hk : k < xs.length), xs[k] ≠ 0
  | [], _, h, hk => by cases hk
  | x :: r, k, h, hk => by
    by_cases q : x = 0
    · subst q; rw [fz_zero] at h; cases h
    · rw [fz_cons q] at h
      cases k with
      | zero => simpa using q
      | succ k =>
        rw [List.getElem_cons_succ]
        exact fz_before (by omega) (by simp at hk; omega)
theorem byte_zero {x : Int} (h : 0 ≤ x ∧ x < 256) : (UInt8.ofNat x.toNat == (0 : UInt8)) = decide (x = 0) := by
  rw [Bool.eq_iff_iff, beq_iff_eq, decide_eq_true_eq]
  constructor
  · intro e
    have := congrArg UInt8.toNat e
    rw [UInt8.toNat_ofNat'] at this
    simp only [Nat.reducePow] at this
    rw [Nat.mod_eq_of_lt (by omega)] at this
    have e0 : (0 : UInt8).toNat = 0 := rfl
    omega
  · intro e
    subst e
    rfl
theorem ix_eq : ∀ {xs : List Int}, Okb xs → Lib.indexByte (Lib.bytesOf xs) 0 = ix xs
  | [], _ => rfl
  | x :: r, h => by
    have ih := ix_eq h.tail
    have hb := byte_zero h.head
    have e : Lib.bytesOf (x :: r) = UInt8.ofNat x.toNat :: Lib.bytesOf r := rfl
    rw [e, Lib.indexByte, hb, ih]
    by_cases q : x = 0
    · subst q
      simp [ix, fz_zero]
    · have hle := fz_le r
      unfold ix
      rw [fz_cons q, List.length_cons]
      by_cases z : fz r < r.length
      · have h1 : ((fz r : Int) == -1) = false := by rw [beq_eq_false_iff_ne]; omega
        have z1 : fz r + 1 < r.length + 1 := by omega
        simp [q, h1, z, z1]
      · have z1 : ¬ fz r + 1 < r.length + 1 := by omega
        simp [q, z, z1]

theorem ext_index {w : World} {ao : Option Addr} {len cap : Nat} {xs : List Int} (h : Sl w ao len cap xs) : (Extern.BytealgIndexByte.indexByte #[.slice ao len cap, .int .u8 0]).run Try.prog w = .ok (.int .i64 (ix xs)) w := by
  have hl := ext_bytes h
  have hs := Lib.run_indexByteString (P := Try.prog) ⟨(Lib.bytesOf xs).toArray⟩ 0 w
  have e0 : (0 : Int).toNat.toUInt8 = 0 := rfl
  rw [e0] at hs
  simp only [ix_eq h.2.1] at hs
  change Sem.run Try.prog (do
    let b ← Extern.Bytes.bytesOf (.slice ao len cap)
    let c ← Extern.Bytes.asByte (.int .u8 0)
    match (List.range b.size).find? fun i => b[i]! == c with
    | some i => pure (goInt i)
    | none => pure (goInt (-1))) w = _
  change Sem.run Try.prog (do
    let b ← Extern.Bytes.bytesOf (.string ⟨(Lib.bytesOf xs).toArray⟩)
    let c ← Extern.Bytes.asByte (.int .u8 0)
    match (List.range b.size).find? fun i => b[i]! == c with
    | some i => pure (goInt i)
    | none => pure (goInt (-1))) w = _ at hs
  rw [Sem.run_bind, hl]
  have e1 : (Extern.Bytes.bytesOf (.string ⟨(Lib.bytesOf xs).toArray⟩)).run Try.prog w = .ok ⟨(Lib.bytesOf xs).toArray⟩ w := rfl
  rw [Sem.run_bind, e1] at hs
  exact hs

/-- How many noughts. -/
def cz (xs : List Int) : Nat := Lib.countByte (Lib.bytesOf xs) 0
theorem cz_le (xs : List Int) : cz xs ≤ xs.length := by
  unfold cz Lib.countByte
  refine Nat.le_trans List.count_le_length ?_
  simp [Lib.bytesOf]
theorem ext_count {w : World} {ao : Option Addr} {len cap : Nat} {xs : List Int} (h : Sl w ao len cap xs) : (Extern.BytealgCount.count #[.slice ao len cap, .int .u8 0]).run Try.prog w = .ok (.int .i64 (cz xs : Int)) w := by
  have hl := ext_bytes h
  have hs := Lib.run_countString (P := Try.prog) ⟨(Lib.bytesOf xs).toArray⟩ 0 w
  change Sem.run Try.prog (do
    let b ← Extern.Bytes.bytesOf (.slice ao len cap)
    let c' ← Extern.Bytes.asByte (.int .u8 0)
    pure (goInt (b.foldl (fun n x => if x == c' then n + 1 else n) (0 : Nat)))) w = _
  change Sem.run Try.prog (do
    let b ← Extern.Bytes.bytesOf (.string ⟨(Lib.bytesOf xs).toArray⟩)
    let c' ← Extern.Bytes.asByte (.int .u8 0)
    pure (goInt (b.foldl (fun n x => if x == c' then n + 1 else n) (0 : Nat)))) w = _ at hs
  rw [Sem.run_bind, hl]
  have e1 : (Extern.Bytes.bytesOf (.string ⟨(Lib.bytesOf xs).toArray⟩)).run Try.prog w = .ok ⟨(Lib.bytesOf xs).toArray⟩ w := rfl
  rw [Sem.run_bind, e1] at hs
  exact hs

theorem cmp_bytes : ∀ {xs ys : List Int}, Okb xs → Okb ys → Lib.compareBytes (Lib.bytesOf xs) (Lib.bytesOf ys) = cmp xs ys
  | [], [], _, _ => rfl
  | [], y :: ys, _, _ => by simp [Lib.bytesOf, Lib.compareBytes, cmp]
  | x :: xs, [], _, _ => by simp [Lib.bytesOf, Lib.compareBytes, cmp]
  | x :: xs, y :: ys, hx, hy => by
    have ih := cmp_bytes hx.tail hy.tail
    have h1 := hx.head
    have h2 := hy.head
    have e1 : (UInt8.ofNat x.toNat).toNat = x.toNat := by
      rw [UInt8.toNat_ofNat']
      simp only [Nat.reducePow]
      exact Nat.mod_eq_of_lt (by omega)
    have e2 : (UInt8.ofNat y.toNat).toNat = y.toNat := by
      rw [UInt8.toNat_ofNat']
      simp only [Nat.reducePow]
      exact Nat.mod_eq_of_lt (by omega)
    have d1 : Lib.bytesOf (x :: xs) = UInt8.ofNat x.toNat :: Lib.bytesOf xs := rfl
    have d2 : Lib.bytesOf (y :: ys) = UInt8.ofNat y.toNat :: Lib.bytesOf ys := rfl
    rw [d1, d2, Lib.compareBytes, ih]
    rcases Int.lt_trichotomy x y with h | h | h
    · have l1 : UInt8.ofNat x.toNat < UInt8.ofNat y.toNat := by rw [UInt8.lt_iff_toNat_lt, e1, e2]; omega
      rw [cmp_less h]
      simp [l1]
    · subst h
      rw [cmp_same]
      have l0 : ¬ UInt8.ofNat x.toNat < UInt8.ofNat x.toNat := UInt8.lt_irrefl _
      simp [l0]
    · have l1 : ¬ UInt8.ofNat x.toNat < UInt8.ofNat y.toNat := by rw [UInt8.lt_iff_toNat_lt, e1, e2]; omega
      have l2 : UInt8.ofNat y.toNat < UInt8.ofNat x.toNat := by rw [UInt8.lt_iff_toNat_lt, e1, e2]; omega
      rw [cmp_more h]
      simp [l1, l2]
theorem ext_cmp {w : World} {ao bo : Option Addr} {la ca lb cb : Nat} {xs ys : List Int} (ha : Sl w ao la ca xs) (hb : Sl w bo lb cb ys) : (Extern.BytealgCompare.compare #[.slice ao la ca, .slice bo lb cb]).run Try.prog w = .ok (.int .i64 (cmp xs ys)) w := by
  have h1 := ext_bytes ha
  have h2 := ext_bytes hb
  change Sem.run Try.prog (do pure (goInt (Extern.BytealgCompare.cmp (← Extern.Bytes.bytesOf (.slice ao la ca)) (← Extern.Bytes.bytesOf (.slice bo lb cb))))) w = _
  rw [Sem.run_bind, h1]
  simp only [Result.andThen]
  rw [Sem.run_bind, h2]
  simp only [Result.andThen, Sem.run_pure]
  rw [Lib.cmp_eq]
  show Result.ok (goInt (Lib.compareBytes (Lib.bytesOf xs) (Lib.bytesOf ys))) w = _
  rw [cmp_bytes ha.2.1 hb.2.1]
  rfl
set_option maxHeartbeats 1000000 in
set_option maxRecDepth 100000 in
theorem compare_l {w : World} {ao bo : Option Addr} {la ca lb cb : Nat} {xs ys : List Int} (ha : Sl w ao la ca xs) (hb : Sl w bo lb cb ys) : Calls Try.prog 55 #[.slice ao la ca, .slice bo lb cb] w fun e w' => e = .returned (.int .i64 (cmp xs ys)) ∧ w' = w := by
  have hx := ext_cmp ha hb
  clear ha hb
  go_enter Try.func55, Try.ntmps55
  go_wp2
  rw [run_callFunc_extern Try.func82 (by kernel_rfl) (by kernel_rfl) (by kernel_rfl) (e := Extern.BytealgCompare.compare) (by kernel_rfl), hx]
  simp only [Result.andThen]
  rw [Oper.upon_value]
  go_wp2
  go_ret
  exact ⟨rfl, rfl⟩
/-- A run of bytes that are no noughts. -/
theorem J.run {xs out : List Int} {i : Nat} (h : J xs out i) : ∀ (r : Nat), i + r ≤ xs.length → (∀ k, i ≤ k → k < i + r → ∀ hk : k < xs.length, xs[k] ≠ 0) → J xs (out ++ (xs.drop i).take r) (i + r)
  | 0, _, _ => by simpa using h
  | r + 1, h1, h2 => by
    have ih := J.run h r (by omega) fun k a b hk => h2 k a (by omega) hk
    have := ih.plain (by omega) (h2 (i + r) (by omega) (by omega) (by omega))
    have e : (xs.drop i).take (r + 1) = (xs.drop i).take r ++ [xs[i + r]'(by omega)] := by
      rw [List.take_add_one, List.getElem?_drop, List.getElem?_eq_getElem (by omega)]
      rfl
    rw [e, ← List.append_assoc]
    exact this
end Go.Proofs.Ytfecopldepnicaa

/- What the landed mem's small functions answer. -/
namespace Go.Proofs.Ytfecopldepnicaa
open Go.RowKit
set_option linter.unusedVariables false
set_option linter.unusedSimpArgs false

set_option maxHeartbeats 2000000 in
set_option maxRecDepth 100000 in
theorem may_m {w : World} {ka va : Option Addr} {kc vc : Nat} {e : EntV} : Calls Try.prog 59 #[entA ka kc va vc e] w fun r w' => r = .returned (.bool (mayE e)) ∧ Below w.heap.size w w' := by
  obtain ⟨key, seq, gone, till, vl⟩ := e
  unfold entA
  simp only
  unfold mayE
  simp only
  generalize key.length = kl
  generalize vl.length = ln
  cases gone
  · go_enter Try.func59, Try.ntmps59
    go_wp2_with fail
    all_goals
      go_ret
      refine ⟨congrArg (fun b => Ending.returned (.bool b)) ?_, (Below.refl _ w).alloc (Nat.le_refl _) _⟩
      rw [Bool.eq_iff_iff]
      simp
      try omega
  · go_enter Try.func59, Try.ntmps59
    go_wp2_with fail
    all_goals
      go_ret
      refine ⟨congrArg (fun b => Ending.returned (.bool b)) ?_, (Below.refl _ w).alloc (Nat.le_refl _) _⟩
      rw [Bool.eq_iff_iff]
      simp
      try omega
theorem eql_m {w : World} {ao bo : Option Addr} {la ca lb cb : Nat} {xs ys : List Int} (ha : Sl w ao la ca xs) (hb : Sl w bo lb cb ys) : Calls Try.prog 50 #[.slice ao la ca, .slice bo lb cb] w fun e w' => e = .returned (.bool (decide (xs = ys))) ∧ w' = w := by
  have h1 := str_l ha
  have h2 := str_l hb
  have HE := hid (str_eq ha.2.1 hb.2.1)
  clear ha hb
  go_enter Try.func50, Try.ntmps50
  go_wp2_with fail
  go_ret
  refine ⟨?_, rfl⟩
  rw [← HE.out]
  simp
/-- As cmp.Compare of whole numbers. -/
def cmpI (a b : Int) : Int := if a < b then -1 else if b < a then 1 else 0
end Go.Proofs.Ytfecopldepnicaa
