import Derived.Lib.BytesEntry
import Derived.Lib.IndexLaws
import Derived.Laws.Externs
import Derived.Shelf.SlSortCmp.ReverseRangeK
import Derived.Test.YtjgfklbhagcbaabPk01
import Derived.Test.YtjgfklbhagcbaabPk05
/- The document's own TakePart. -/
namespace Go.Proofs.Ytjgfklbhagcbaab
open Go.RowKit
set_option linter.unusedVariables false
set_option linter.unusedSimpArgs false

theorem tp_err : ∀ (n : Nat) (xs : List Int), xs.length ≤ n → (tp xs).1 ≠ 0 → tp xs = ((tp xs).1, [], 0)
  | 0, xs, h, h0 => by
    have e : xs = [] := List.length_eq_zero_iff.1 (by omega)
    subst e
    simp [tp]
  | n + 1, xs, h, h0 => by
    match xs, h, h0 with
    | [], _, h0 => simp [tp]
    | [x], _, h0 => simp [tp]
    | x :: y :: r, h, h0 =>
      by_cases q : x = 0
      · subst q
        by_cases y1 : y = 1
        · subst y1
          rw [tp_end] at h0
          simp at h0
        · by_cases y2 : y = 255
          · subst y2
            rw [tp_zero] at h0 ⊢
            by_cases t : (tp r).1 = 0
            · rw [if_pos t] at h0
              simp at h0
            · rw [if_neg t]
          · rw [tp_bad y1 y2]
      · rw [tp_plain q] at h0 ⊢
        by_cases t : (tp (y :: r)).1 = 0
        · rw [if_pos t] at h0
          simp at h0
        · rw [if_neg t]
theorem okb_tp : ∀ (n : Nat) (xs : List Int), xs.length ≤ n → Okb xs → Okb (tp xs).2.1
  | 0, xs, h, _ => by
    have e : xs = [] := List.length_eq_zero_iff.1 (by omega)
    subst e
    exact fun x hx => by simp [tp] at hx
  | n + 1, xs, h, hk => by
    match xs, h, hk with
    | [], _, _ => exact fun x hx => by simp [tp] at hx
    | [y], _, _ => exact fun x hx => by simp [tp] at hx
    | x :: y :: r, h, hk =>
      simp at h
      by_cases q : x = 0
      · subst q
        by_cases y1 : y = 1
        · subst y1
          rw [tp_end]
          exact fun x hx => by cases hx
        · by_cases y2 : y = 255
          · subst y2
            rw [tp_zero]
            by_cases t : (tp r).1 = 0
            · rw [if_pos t]
              intro z hz
              rcases List.mem_cons.1 hz with e | e
              · omega
              · exact okb_tp n r (by omega) hk.tail.tail z e
            · rw [if_neg t]
              exact fun x hx => by cases hx
          · rw [tp_bad y1 y2]
            exact fun x hx => by cases hx
      · rw [tp_plain q]
        by_cases t : (tp (y :: r)).1 = 0
        · rw [if_pos t]
          intro z hz
          rcases List.mem_cons.1 hz with e | e
          · rw [e]; exact hk.head
          · exact okb_tp n (y :: r) (by simp; omega) hk.tail z e
        · rw [if_neg t]
          exact fun x hx => by cases hx
/-- What was found so far, and what is still to be read. -/
def J (xs out : List Int) (i : Nat) : Prop := tp xs = if (tp (xs.drop i)).1 = 0 then (0, out ++ (tp (xs.drop i)).2.1, i + (tp (xs.drop i)).2.2) else ((tp (xs.drop i)).1, [], 0)
theorem J.zero (xs : List Int) : J xs [] 0 := by
  unfold J
  rw [List.drop_zero]
  by_cases t : (tp xs).1 = 0
  · rw [if_pos t, List.nil_append, Nat.zero_add, ← t]
  · rw [if_neg t]
    exact tp_err _ xs (Nat.le_refl _) t
theorem J.plain {xs out : List Int} {i : Nat} (h : J xs out i) (hi : i < xs.length) (hc : xs[i] ≠ 0) : J xs (out ++ [xs[i]]) (i + 1) := by
  unfold J at h ⊢
  rw [List.drop_eq_getElem_cons hi, tp_plain hc] at h
  by_cases t : (tp (xs.drop (i + 1))).1 = 0
  · rw [if_pos t] at h ⊢
    rw [h]
    simp
    omega
  · rw [if_neg t] at h ⊢
    rw [h]
    simp [t]
theorem J.esc {xs out : List Int} {i : Nat} (h : J xs out i) (hi : i + 1 < xs.length) (h0 : xs[i] = 0) (hc : xs[i + 1] = 255) : J xs (out ++ [0]) (i + 1 + 1) := by
  unfold J at h ⊢
  rw [List.drop_eq_getElem_cons (by omega), List.drop_eq_getElem_cons hi, h0, hc, tp_zero] at h
  by_cases t : (tp (xs.drop (i + 1 + 1))).1 = 0
  · rw [if_pos t] at h ⊢
    rw [h]
    simp
    omega
  · rw [if_neg t] at h ⊢
    rw [h]
    simp [t]
theorem J.end {xs out : List Int} {i : Nat} (h : J xs out i) (hi : i + 1 < xs.length) (h0 : xs[i] = 0) (hc : xs[i + 1] = 1) : tp xs = (0, out, i + 1 + 1) := by
  unfold J at h
  rw [List.drop_eq_getElem_cons (by omega), List.drop_eq_getElem_cons hi, h0, hc, tp_end] at h
  rw [h]
  simp
theorem J.bad {xs out : List Int} {i : Nat} (h : J xs out i) (hi : i + 1 < xs.length) (h0 : xs[i] = 0) (h1 : xs[i + 1] ≠ 1) (h2 : xs[i + 1] ≠ 255) : tp xs = (3, [], 0) := by
  unfold J at h
  rw [List.drop_eq_getElem_cons (by omega), List.drop_eq_getElem_cons hi, h0, tp_bad h1 h2] at h
  rw [h]
  simp
theorem J.lone {xs out : List Int} {i : Nat} (h : J xs out i) (hi : i + 1 = xs.length) (h0 : xs[i] = 0) : tp xs = (5, [], 0) := by
  unfold J at h
  rw [List.drop_eq_getElem_cons (by omega), h0, List.drop_of_length_le (by omega), tp_lone] at h
  rw [h]
  simp
theorem J.out {xs out : List Int} {i : Nat} (h : J xs out i) (hi : xs.length ≤ i) : tp xs = (5, [], 0) := by
  unfold J at h
  rw [List.drop_of_length_le hi, tp_nil] at h
  rw [h]
  simp

/-- What is told of a part. -/
def Tp (xs : List Int) (B : Nat) (e : Ending) (w' : World) : Prop := ∃ v, e = .returned (.tuple #[v, .int .i64 ((tp xs).2.2 : Int), .int .i64 ((tp xs).1 : Int)]) ∧ Row B w' v (tp xs).2.1

end Go.Proofs.Ytjgfklbhagcbaab

/- What the library's IndexByte, Count and Compare answer on slices of bytes, as lists. -/
namespace Go.Proofs.Ytjgfklbhagcbaab
open Go.RowKit
set_option linter.unusedVariables false
set_option linter.unusedSimpArgs false

/-- What an entry of the model reads off a slice of bytes. -/
theorem ext_bytes {w : World} {ao : Option Addr} {len cap : Nat} {xs : List Int} (h : Sl w ao len cap xs) : (Extern.Bytes.bytesOf (.slice ao len cap)).run Try.prog w = .ok ⟨(Lib.bytesOf xs).toArray⟩ w := by
  cases ao with
  | none =>
    have e := (h.2.2.1 rfl).1
    have hx := h.1
    rw [e] at hx
    rw [List.length_eq_zero_iff.1 hx]
    rfl
  | some a =>
    have hl := Lib.run_loadBytesX (P := Try.prog) w xs a .empty (fun j x hj => by
      have hjl : j < xs.length := (List.getElem?_eq_some_iff.1 hj).1
      obtain ⟨_, b, off, e, hc⟩ := h.2.2.2.2.2 j (by rw [← h.1]; exact hjl)
      simp only [Option.some.injEq] at e
      subst e
      have e2 : (⟨b, off, none⟩ : Addr).add j = ⟨b, off + j, none⟩ := by unfold Addr.add; split <;> simp_all
      rw [e2, hc, ← xof_at h.2.1 hjl]
      rw [List.getElem?_eq_getElem hjl] at hj
      simpa using hj)
    rw [h.1] at hl
    have he : (⟨ByteArray.empty.data ++ (Lib.bytesOf xs).toArray⟩ : ByteArray) = ⟨(Lib.bytesOf xs).toArray⟩ := by
      apply ByteArray.ext
      show (#[] : Array UInt8) ++ (Lib.bytesOf xs).toArray = (Lib.bytesOf xs).toArray
      simp
    rw [he] at hl
    exact hl

/-- How many bytes stand ahead of the first nought. -/
def fz (xs : List Int) : Nat := (xs.takeWhile (fun x => x ≠ 0)).length
def ix (xs : List Int) : Int := if fz xs < xs.length then (fz xs : Int) else -1
theorem fz_nil : fz [] = 0 := rfl
theorem fz_zero (r : List Int) : fz (0 :: r) = 0 := by simp [fz]
theorem fz_cons {x : Int} (h : x ≠ 0) (r : List Int) : fz (x :: r) = fz r + 1 := by simp [fz, h]
theorem fz_le : ∀ xs : List Int, fz xs ≤ xs.length
  | [] => Nat.le_refl _
  | x :: r => by
    have := fz_le r
    by_cases q : x = 0
    · subst q; rw [fz_zero]; omega
    · rw [fz_cons q, List.length_cons]; omega
theorem fz_at : ∀ {xs : List Int} (h : fz xs < xs.length), xs[fz xs] = 0
  | [], h => by cases h
  | x :: r, h => by
    by_cases q : x = 0
    · subst q
      simp [fz_zero]
    · have h' : fz r < r.length := by rw [fz_cons q, List.length_cons] at h; omega
      have ih := fz_at h'
      simp only [fz_cons q, List.getElem_cons_succ]
      exact ih
theorem fz_before : ∀ {xs : List Int} {k : Nat} (h : k < fz xs) (hk : k < xs.length), xs[k] ≠ 0
  | [], _, h, hk => by cases hk
  | x :: r, k, h, hk => by
    by_cases q : x = 0
    · subst q; rw [fz_zero] at h; cases h
    · rw [fz_cons q] at h
      cases k with
      | zero => simpa using q
      | succ k =>
        rw [List.getElem_cons_succ]
        exact fz_before (by omega) (by simp at hk; omega)
theorem byte_zero {x : Int} (h : 0 ≤ x ∧ x < 256) : (UInt8.ofNat x.toNat == (0 : UInt8)) = decide (x = 0) := by
  rw [Bool.eq_iff_iff, beq_iff_eq, decide_eq_true_eq]
  constructor
  · intro e
    have := congrArg UInt8.toNat e
    rw [UInt8.toNat_ofNat'] at this
    simp only [Nat.reducePow] at this
    rw [Nat.mod_eq_of_lt (by omega)] at this
    have e0 : (0 : UInt8).toNat = 0 := rfl
    omega
  · intro e
    subst e
    rfl
theorem ix_eq : ∀ {xs : List Int}, Okb xs → Lib.indexByte (Lib.bytesOf xs) 0 = ix xs
  | [], _ => rfl
  | x :: r, h => by
    have ih := ix_eq h.tail
    have hb := byte_zero h.head
    have e : Lib.bytesOf (x :: r) = UInt8.ofNat x.toNat :: Lib.bytesOf r := rfl
    rw [e, Lib.indexByte, hb, ih]
    by_cases q : x = 0
    · subst q
      simp [ix, fz_zero]
    · have hle := fz_le r
      unfold ix
      rw [fz_cons q, List.length_cons]
      by_cases z : fz r < r.length
      · have h1 : ((fz r : Int) == -1) = false := by rw [beq_eq_false_iff_ne]; omega
        have z1 : fz r + 1 < r.length + 1 := by omega
        simp [q, h1, z, z1]
      · have z1 : ¬ fz r + 1 < r.length + 1 := by omega
        simp [q, z, z1]

theorem ext_index {w : World} {ao : Option Addr} {len cap : Nat} {xs : List Int} (h : Sl w ao len cap xs) : (Extern.BytealgIndexByte.indexByte #[.slice ao len cap, .int .u8 0]).run Try.prog w = .ok (.int .i64 (ix xs)) w := by
  have hl := ext_bytes h
  have hs := Lib.run_indexByteString (P := Try.prog) ⟨(Lib.bytesOf xs).toArray⟩ 0 w
  have e0 : (0 : Int).toNat.toUInt8 = 0 := rfl
  rw [e0] at hs
  simp only [ix_eq h.2.1] at hs
  change Sem.run Try.prog (do
    let b ← Extern.Bytes.bytesOf (.slice ao len cap)
    let c ← Extern.Bytes.asByte (.int .u8 0)
    match (List.range b.size).find? fun i => b[i]! == c with
    | some i => pure (goInt i)
    | none => pure (goInt (-1))) w = _
  change Sem.run Try.prog (do
    let b ← Extern.Bytes.bytesOf (.string ⟨(Lib.bytesOf xs).toArray⟩)
    let c ← Extern.Bytes.asByte (.int .u8 0)
    match (List.range b.size).find? fun i => b[i]! == c with
    | some i => pure (goInt i)
    | none => pure (goInt (-1))) w = _ at hs
  rw [Sem.run_bind, hl]
  have e1 : (Extern.Bytes.bytesOf (.string ⟨(Lib.bytesOf xs).toArray⟩)).run Try.prog w = .ok ⟨(Lib.bytesOf xs).toArray⟩ w := rfl
  rw [Sem.run_bind, e1] at hs
  exact hs

/-- How many noughts. -/
def cz (xs : List Int) : Nat := Lib.countByte (Lib.bytesOf xs) 0
theorem cz_le (xs : List Int) : cz xs ≤ xs.length := by
  unfold cz Lib.countByte
  refine Nat.le_trans List.count_le_length ?_
  simp [Lib.bytesOf]
theorem ext_count {w : World} {ao : Option Addr} {len cap : Nat} {xs : List Int} (h : Sl w ao len cap xs) : (Extern.BytealgCount.count #[.slice ao len cap, .int .u8 0]).run Try.prog w = .ok (.int .i64 (cz xs : Int)) w := by
  have hl := ext_bytes h
  have hs := Lib.run_countString (P := Try.prog) ⟨(Lib.bytesOf xs).toArray⟩ 0 w
  change Sem.run Try.prog (do
    let b ← Extern.Bytes.bytesOf (.slice ao len cap)
    let c' ← Extern.Bytes.asByte (.int .u8 0)
    pure (goInt (b.foldl (fun n x => if x == c' then n + 1 else n) (0 : Nat)))) w = _
  change Sem.run Try.prog (do
    let b ← Extern.Bytes.bytesOf (.string ⟨(Lib.bytesOf xs).toArray⟩)
    let c' ← Extern.Bytes.asByte (.int .u8 0)
    pure (goInt (b.foldl (fun n x => if x == c' then n + 1 else n) (0 : Nat)))) w = _ at hs
  rw [Sem.run_bind, hl]
  have e1 : (Extern.Bytes.bytesOf (.string ⟨(Lib.bytesOf xs).toArray⟩)).run Try.prog w = .ok ⟨(Lib.bytesOf xs).toArray⟩ w := rfl
  rw [Sem.run_bind, e1] at hs
  exact hs

theorem cmp_bytes : ∀ {xs ys : List Int}, Okb xs → Okb ys → Lib.compareBytes (Lib.bytesOf xs) (Lib.bytesOf ys) = cmp xs ys
  | [], [], _, _ => rfl
  | [], y :: ys, _, _ => by simp [Lib.bytesOf, Lib.compareBytes, cmp]
  | x :: xs, [], _, _ => by simp [Lib.bytesOf, Lib.compareBytes, cmp]
  | x :: xs, y :: ys, hx, hy => by
    have ih := cmp_bytes hx.tail hy.tail
    have h1 := hx.head
    have h2 := hy.head
    have e1 : (UInt8.ofNat x.toNat).toNat = x.toNat := by
      rw [UInt8.toNat_ofNat']
      simp only [Nat.reducePow]
      exact Nat.mod_eq_of_lt (by omega)
    have e2 : (UInt8.ofNat y.toNat).toNat = y.toNat := by
      rw [UInt8.toNat_ofNat']
      simp only [Nat.reducePow]
      exact Nat.mod_eq_of_lt (by omega)
    have d1 : Lib.bytesOf (x :: xs) = UInt8.ofNat x.toNat :: Lib.bytesOf xs := rfl
    have d2 : Lib.bytesOf (y :: ys) = UInt8.ofNat y.toNat :: Lib.bytesOf ys := rfl
    rw [d1, d2, Lib.compareBytes, ih]
    rcases Int.lt_trichotomy x y with h | h | h
    · have l1 : UInt8.ofNat x.toNat < UInt8.ofNat y.toNat := by rw [UInt8.lt_iff_toNat_lt, e1, e2]; omega
      rw [cmp_less h]
      simp [l1]
    · subst h
      rw [cmp_same]
      have l0 : ¬ UInt8.ofNat x.toNat < UInt8.ofNat x.toNat := UInt8.lt_irrefl _
      simp [l0]
    · have l1 : ¬ UInt8.ofNat x.toNat < UInt8.ofNat y.toNat := by rw [UInt8.lt_iff_toNat_lt, e1, e2]; omega
      have l2 : UInt8.ofNat y.toNat < UInt8.ofNat x.toNat := by rw [UInt8.lt_iff_toNat_lt, e1, e2]; omega
      rw [cmp_more h]
      simp [l1, l2]
theorem ext_cmp {w : World} {ao bo : Option Addr} {la ca lb cb : Nat} {xs ys : List Int} (ha : Sl w ao la ca xs) (hb : Sl w bo lb cb ys) : (Extern.BytealgCompare.compare #[.slice ao la ca, .slice bo lb cb]).run Try.prog w = .ok (.int .i64 (cmp xs ys)) w := by
  have h1 := ext_bytes ha
  have h2 := ext_bytes hb
  change Sem.run Try.prog (do pure (goInt (Extern.BytealgCompare.cmp (← Extern.Bytes.bytesOf (.slice ao la ca)) (← Extern.Bytes.bytesOf (.slice bo lb cb))))) w = _
  rw [Sem.run_bind, h1]
  simp only [Result.andThen]
  rw [Sem.run_bind, h2]
  simp only [Result.andThen, Sem.run_pure]
  rw [Lib.cmp_eq]
  show Result.ok (goInt (Lib.compareBytes (Lib.bytesOf xs) (Lib.bytesOf ys))) w = _
  rw [cmp_bytes ha.2.1 hb.2.1]
  rfl
set_option maxHeartbeats 1000000 in
set_option maxRecDepth 100000 in
theorem compare_l {w : World} {ao bo : Option Addr} {la ca lb cb : Nat} {xs ys : List Int} (ha : Sl w ao la ca xs) (hb : Sl w bo lb cb ys) : Calls Try.prog 26 #[.slice ao la ca, .slice bo lb cb] w fun e w' => e = .returned (.int .i64 (cmp xs ys)) ∧ w' = w := by
  have hx := ext_cmp ha hb
  clear ha hb
  go_enter Try.func26, Try.ntmps26
  go_wp2
  rw [run_callFunc_extern Try.func38 (by kernel_rfl) (by kernel_rfl) (by kernel_rfl) (e := Extern.BytealgCompare.compare) (by kernel_rfl), hx]
  simp only [Result.andThen]
  rw [Oper.upon_value]
  go_wp2
  go_ret
  exact ⟨rfl, rfl⟩
/-- A run of bytes that are no noughts. -/
theorem J.run {xs out : List Int} {i : Nat} (h : J xs out i) : ∀ (r : Nat), i + r ≤ xs.length → (∀ k, i ≤ k → k < i + r → ∀ hk : k < xs.length, xs[k] ≠ 0) → J xs (out ++ (xs.drop i).take r) (i + r)
  | 0, _, _ => by simpa using h
  | r + 1, h1, h2 => by
    have ih := J.run h r (by omega) fun k a b hk => h2 k a (by omega) hk
    have := ih.plain (by omega) (h2 (i + r) (by omega) (by omega) (by omega))
    have e : (xs.drop i).take (r + 1) = (xs.drop i).take r ++ [xs[i + r]'(by omega)] := by
      rw [List.take_add_one, List.getElem?_drop, List.getElem?_eq_getElem (by omega)]
      rfl
    rw [e, ← List.append_assoc]
    exact this
end Go.Proofs.Ytjgfklbhagcbaab

/- The library's stable sort of lines of tables: two ranges that change places. -/
namespace Go.Proofs.Ytjgfklbhagcbaab
open Go.Shelf Go.RowKit Go.Lib Go.Sort
set_option linter.unusedVariables false
set_option linter.unusedSimpArgs false

/-- Only the plain end, in one frame and one world. -/
def NQ (A : Act) (W : World) : Exit → Act → World → Prop
  | .normal, a, w => a = A ∧ w = W
  | _, _, _ => False
theorem wp_thenN {P : Program} {c : Code} {Q : Exit → Act → World → Prop} {a : Act} {w : World} {A : Act} {W : World} (h : c.wp P (NQ A W) a w) (hq : Q .normal A W) : c.wp P Q a w :=
  wp_mono h fun e a w h => by
    cases e with
    | normal => obtain ⟨rfl, rfl⟩ := h; exact hq
    | _ => exact h.elim
variable {α : Type} [Inhabited α]
theorem hidS {p : Prop} (h : p) : Hid p := h
/-- How great a line is, k cells. -/
def Fives (k : Nat) : Prop := ∀ w, (Go.sizeOf 30).run Try.prog w = .ok k w
theorem fives5 : Fives 5 := Try.sizeOf30
theorem aggT : ∀ w, (isAgg 30).run Try.prog w = .ok true w := fun w => by kernel_rfl
theorem mixedT : Try.prog.follows .mixedOrders = true := by kernel_rfl
set_option maxHeartbeats 4000000 in
set_option maxRecDepth 1000000 in
theorem swpR_any {k : Nat} (zE : Fives k) (enc : α → List Value) (g : Nat) (cb : Array Value) (blk off cap a b n : Nat) (d0 d : Array α) (w0 w : World)
    (R : RowK enc k w0 blk off d0) (hs : d0.size = d.size) (S : SWK enc k w0 blk off d w) (ha : a + n ≤ d.size) (hb : b + n ≤ d.size) (hsz : d.size < 4611686018427387904) :
    Calls Try.prog 56 #[.slice (some ⟨blk, off, none⟩) d.size cap, .int .i64 a, .int .i64 b, .int .i64 n, .func (.func g) #[] cb] w fun e w' => e = .returned (.tuple #[]) ∧ SWK enc k w0 blk off (swpR d a b n) w' := by
  unfold Fives at zE
  have aE := aggT
  have mixed := mixedT
  have S0 : Aside (SWK enc k w0 blk off d w) := S
  clear S
  go_enter Try.func56, Try.ntmps56
  go_wp2
  go_loopg [10] n (fun kx s10 wr => ∃ (i : Nat), s10 = .int .i64 i ∧ i + kx = n ∧ Aside (SWK enc k w0 blk off (swpR d a b i) wr))
  case atStart => exact ⟨0, rfl, by omega, S0⟩
  case round =>
    clear S0
    obtain ⟨i, rfl, hkx, S1⟩ := hrel
    by_cases hlt : i < n
    · have hltz : (i : Int) < (n : Int) := by omega
      obtain ⟨x, hx⟩ : ∃ x, x = a + i := ⟨_, rfl⟩
      obtain ⟨y, hy⟩ : ∃ y, y = b + i := ⟨_, rfl⟩
      obtain ⟨dk, hdk⟩ : ∃ dk, dk = swpR d a b i := ⟨_, rfl⟩
      have hds : dk.size = d.size := by rw [hdk, swpR_size]
      rw [← hdk] at S1
      have HX : Hid (swpR d a b (i + 1) = swp dk x y) := by rw [hdk, hx, hy]; rfl
      have hxs : x < d.size := by omega
      have hys : y < d.size := by omega
      have ea44 : ((x : Int)).toNat = x := by omega
      have pa44 : (0 : Int) ≤ (x : Int) := by omega
      have ba44 : (x : Int) < (d.size : Int) := by omega
      have ra44 : IntKind.i64.wrap ((a : Int) + (i : Int)) = (x : Int) := by rw [IntKind.wrap_i64]; omega
      have ec44 : ((y : Int)).toNat = y := by omega
      have pc44 : (0 : Int) ≤ (y : Int) := by omega
      have bc44 : (y : Int) < (d.size : Int) := by omega
      have rc44 : IntKind.i64.wrap ((b : Int) + (i : Int)) = (y : Int) := by rw [IntKind.wrap_i64]; omega
      have S2 : Aside (SWK enc k w0 blk off (swp dk x y) ((wr.drew.setCells blk (off + x * k) (enc dk[y]!)).setCells blk (off + y * k) (enc dk[x]!))) := S1.out.swapped R x y (by omega) (by omega)
      have l44a := S1.out.ld1 R (by omega) Try.prog x (by omega)
      have l44b := S1.out.ld1 R (by omega) Try.prog y (by omega)
      have s44a := S1.out.st1 R (by omega) Try.prog x (by omega) dk[y]!
      have s44b := S1.out.st2 R (by omega) Try.prog x y (by omega) (by omega) dk[y]! dk[x]!
      have n44a : (enc dk[x]!).length = k := R.hk _
      have n44b : (enc dk[y]!).length = k := R.hk _
      generalize enc dk[x]! = cI44 at S2 l44a s44b n44a
      generalize enc dk[y]! = cJ44 at S2 l44b s44a s44b n44b
      rw [← HX.out] at S2
      clear S1 hdk hds hx hy HX
      go_wp2_with fail
      go_big_region
      clear l44a l44b s44a s44b
      generalize (wr.drew.setCells blk (off + x * k) cJ44).setCells blk (off + y * k) cI44 = w2 at S2 ⊢
      go_wp2
      go_roundg (n - (i + 1))
      case measure => omega
      case rel => exact ⟨i + 1, by simp, by omega, S2⟩
    · have hltz : ¬ (i : Int) < (n : Int) := by omega
      go_wp2
      go_end0
      exact ⟨rfl, by have : i = n := by omega
                     rw [← this]; exact S1.out⟩
end Go.Proofs.Ytjgfklbhagcbaab
