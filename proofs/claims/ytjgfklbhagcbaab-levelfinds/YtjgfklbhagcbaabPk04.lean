import Derived.Test.YtjgfklbhagcbaabPk03
/- Slices of bytes as lists: read, cut, told as texts; rows of them. -/
namespace Go.Proofs.Ytjgfklbhagcbaab
open Go.RowKit
set_option linter.unusedVariables false
set_option linter.unusedSimpArgs false

theorem Okb.tail {x : Int} {r : List Int} (h : Okb (x :: r)) : Okb r := fun y hy => h y (List.mem_cons_of_mem _ hy)
theorem xof_succ (x : Int) (r : List Int) (k : Nat) : xof (x :: r) (k + 1) = xof r k := by simp [xof]
theorem xof_zero (x : Int) (r : List Int) : xof (x :: r) 0 = x.toNat := by simp [xof]
/-- A slice of bytes: its shape and what it holds. -/
def Sl (w : World) (ao : Option Addr) (len cap : Nat) (xs : List Int) : Prop :=
  xs.length = len ∧ Okb xs ∧ (ao = none → len = 0 ∧ cap = 0) ∧ len ≤ cap ∧ cap ≤ maxLen ∧ Byt w ao len (xof xs)
theorem Sl.later {w w' : World} {ao : Option Addr} {len cap : Nat} {xs : List Int} (h : Sl w ao len cap xs) (hb : Below w.heap.size w w') : Sl w' ao len cap xs :=
  ⟨h.1, h.2.1, h.2.2.1, h.2.2.2.1, h.2.2.2.2.1, h.2.2.2.2.2.later hb⟩
theorem Sl.nil (w : World) : Sl w none 0 0 [] := ⟨rfl, (fun x hx => by cases hx), fun _ => ⟨rfl, rfl⟩, Nat.le_refl _, Nat.zero_le _, fun k hk => by cases hk⟩
theorem Sl.ofRow {B : Nat} {w : World} {v : Value} {xs : List Int} (h : Row B w v xs) (hok : Okb xs) : ∃ ao cap, v = .slice ao xs.length cap ∧ Sl w ao xs.length cap xs := by
  obtain ⟨ao, cap, rfl, q1, q2, q3, q4⟩ := h.byt hok
  exact ⟨ao, cap, rfl, rfl, hok, q1, q2, q3, q4⟩
/-- Where a slice begins that is cut at i. -/
def cutA (ao : Option Addr) (cap i : Nat) : Option Addr := if cap - i = 0 then ao else ao.map (fun a => a.add i)
theorem elem23 : Try.prog.elem 23 = 5 := by kernel_rfl
theorem under23 : Try.prog.underlying 23 = some (.slice (Try.prog.elem 23)) := by rw [elem23]; exact Try.underlying23
theorem sliced_cut (ao : Option Addr) (cap i j : Nat) (h : i ≤ cap) : sliced ao i j cap 1 = .slice (cutA ao cap i) (j - i) (cap - i) := by
  unfold sliced cutA
  rw [Nat.mul_one]
  congr 1
  by_cases q : cap = i
  · rw [if_pos q, if_pos (by omega)]
  · rw [if_neg q, if_neg (by omega)]
theorem run_cut (w : World) (ao : Option Addr) (len cap i j : Nat) (h1 : i ≤ j) (h2 : j ≤ cap) : (Instr.slice 23 (.slice ao len cap) (some (.int .i64 (i : Int))) (some (.int .i64 (j : Int))) none).run Try.prog w = .ok (.slice (cutA ao cap i) (j - i) (cap - i)) w := by
  rw [run_slice_lh (P := Try.prog) (w := w) 23 ao len cap under23 .i64 .i64 (i : Int) (j : Int) (by omega) (by omega) (by omega), elem23, Try.sizeOf5]
  simp only [Result.andThen, Int.toNat_natCast]
  rw [sliced_cut _ _ _ _ (by omega)]
theorem run_from (w : World) (ao : Option Addr) (len cap i : Nat) (h1 : i ≤ len) (h2 : len ≤ cap) : (Instr.slice 23 (.slice ao len cap) (some (.int .i64 (i : Int))) none none).run Try.prog w = .ok (.slice (cutA ao cap i) (len - i) (cap - i)) w := by
  rw [run_slice_l (P := Try.prog) (w := w) 23 ao len cap under23 .i64 (i : Int) (by omega) (by omega), elem23, Try.sizeOf5]
  simp only [Result.andThen, Int.toNat_natCast]
  rw [sliced_cut _ _ _ _ (by omega)]
/-- What a cut slice holds. -/
theorem Sl.cut {w : World} {ao : Option Addr} {len cap : Nat} {xs : List Int} (h : Sl w ao len cap xs) (i j : Nat) (h1 : i ≤ j) (h2 : j ≤ len) : Sl w (cutA ao cap i) (j - i) (cap - i) ((xs.drop i).take (j - i)) := by
  obtain ⟨e1, e2, e3, e4, e5, e6⟩ := h
  refine ⟨by rw [List.length_take, List.length_drop]; omega, fun x hx => e2 x (List.mem_of_mem_drop (List.mem_of_mem_take hx)), fun hn => ?_, by omega, by omega, fun k hk => ?_⟩
  · unfold cutA at hn
    by_cases q : cap - i = 0
    · exact ⟨by omega, q⟩
    · rw [if_neg q] at hn
      have := e3 (by simpa using hn)
      omega
  · obtain ⟨hb, b, off, rfl, hc⟩ := e6 (i + k) (by omega)
    have ex : xof ((xs.drop i).take (j - i)) k = xof xs (i + k) := by
      unfold xof
      rw [List.getD_eq_getElem?_getD, List.getElem?_take_of_lt hk, List.getElem?_drop, List.getD_eq_getElem?_getD]
    refine ⟨by rw [ex]; exact hb, b, off + i, ?_, by rw [ex, Nat.add_assoc]; exact hc⟩
    unfold cutA
    rw [if_neg (by omega)]
    simp [Addr.add]
theorem Sl.from {w : World} {ao : Option Addr} {len cap : Nat} {xs : List Int} (h : Sl w ao len cap xs) (i : Nat) (h2 : i ≤ len) : Sl w (cutA ao cap i) (len - i) (cap - i) (xs.drop i) := by
  have := h.cut i len h2 (Nat.le_refl _)
  rw [List.take_of_length_le (by rw [List.length_drop, h.1]; omega)] at this
  exact this
/-- A row of records that is read. -/
def RB (w : World) (ao : Option Addr) (len cap : Nat) (rs : List (List Int)) : Prop :=
  rs.length = len ∧ (ao = none → len = 0 ∧ cap = 0) ∧ len ≤ cap ∧ cap ≤ maxLen ∧
    ∀ (i : Nat) (r : List Int), rs[i]? = some r → ∃ b off a c, ao = some ⟨b, off, none⟩ ∧ w.cell? ⟨b, off + i, none⟩ = some (Value.slice a r.length c) ∧ Sl w a r.length c r
theorem RB.later {w w' : World} {ao : Option Addr} {len cap : Nat} {rs : List (List Int)} (h : RB w ao len cap rs) (hb : Below w.heap.size w w') : RB w' ao len cap rs := by
  obtain ⟨h1, h2, h3, h4, h5⟩ := h
  refine ⟨h1, h2, h3, h4, fun i r hr => ?_⟩
  obtain ⟨b, off, a, c, e, hc, hs⟩ := h5 i r hr
  exact ⟨b, off, a, c, e, cell_later hb hc, hs.later hb⟩
theorem Sl.grown {w w' : World} {ao : Option Addr} {len cap : Nat} {xs : List Int} {g : Option Nat} (h : Sl w ao len cap xs) (hg : w.grownBy w' g) (hne : xs ≠ [] → ∀ b off, ao = some ⟨b, off, none⟩ → g ≠ some b) : Sl w' ao len cap xs := by
  obtain ⟨e1, e2, e3, e4, e5, e6⟩ := h
  refine ⟨e1, e2, e3, e4, e5, ?_⟩
  by_cases q : xs = []
  · intro k hk
    rw [q] at e1
    simp at e1
    omega
  · exact e6.grown hg (fun b off e => (hne q b off e).symm)
theorem Sl.block {w : World} {ao : Option Addr} {len cap : Nat} {xs : List Int} (h : Sl w ao len cap xs) (hne : xs ≠ []) {b off : Nat} (e : ao = some ⟨b, off, none⟩) : b < w.heap.size := by
  have hl : 0 < len := by rw [← h.1]; exact List.length_pos_iff.2 hne
  obtain ⟨_, b', off', e', hc⟩ := h.2.2.2.2.2 0 hl
  rw [e] at e'
  simp only [Option.some.injEq, Addr.mk.injEq, and_true] at e'
  obtain ⟨rfl, rfl⟩ := e'
  rcases Nat.lt_or_ge b w.heap.size with q | q
  · exact q
  · unfold World.cell? at hc
    rw [Array.getElem?_eq_none q] at hc
    simp at hc
/-- A slice of bytes, as a value. -/
def SlV (w : World) (v : Value) (xs : List Int) : Prop := ∃ a c, v = .slice a xs.length c ∧ Sl w a xs.length c xs
def RBV (w : World) (v : Value) (rs : List (List Int)) : Prop := ∃ a c, v = .slice a rs.length c ∧ RB w a rs.length c rs
theorem SlV.later {w w' : World} {v : Value} {xs : List Int} (h : SlV w v xs) (hb : Below w.heap.size w w') : SlV w' v xs := by
  obtain ⟨a, c, e, hs⟩ := h
  exact ⟨a, c, e, hs.later hb⟩
theorem RBV.later {w w' : World} {v : Value} {rs : List (List Int)} (h : RBV w v rs) (hb : Below w.heap.size w w') : RBV w' v rs := by
  obtain ⟨a, c, e, hs⟩ := h
  exact ⟨a, c, e, hs.later hb⟩
theorem SlV.ofRow {B : Nat} {w : World} {v : Value} {xs : List Int} (h : Row B w v xs) (hok : Okb xs) : SlV w v xs := by
  obtain ⟨a, c, e, hs⟩ := Sl.ofRow h hok
  exact ⟨a, c, e, hs⟩
theorem str_l {w : World} {ao : Option Addr} {len cap : Nat} {xs : List Int} (h : Sl w ao len cap xs) : (convert 23 9 (.slice ao len cap)).run Try.prog w = .ok (.string (strOfNums xs)) w := by
  have := run_str (cap := cap) h.2.2.2.2.2 h.2.2.1
  rw [← h.1, bs_xof h.2.1, h.1] at this
  exact this
theorem Sl.drewN {w : World} {ao : Option Addr} {len cap : Nat} {xs : List Int} (h : Sl w ao len cap xs) (m : Nat) : Sl (w.drewN m) ao len cap xs := h.later (below_drewN (Below.refl _ _) m)
theorem str_inj' : ∀ {xs ys : List Int}, Okb xs → Okb ys → (xs.map fun n => UInt8.ofNat n.toNat) = (ys.map fun n => UInt8.ofNat n.toNat) → xs = ys
  | [], [], _, _, _ => rfl
  | [], _ :: _, _, _, h => by simp at h
  | _ :: _, [], _, _, h => by simp at h
  | x :: xs, y :: ys, hx, hy, h => by
    rw [List.map_cons, List.map_cons, List.cons.injEq] at h
    have h1 := hx x (List.mem_cons_self ..)
    have h2 := hy y (List.mem_cons_self ..)
    have e : x = y := by
      have := congrArg UInt8.toNat h.1
      rw [UInt8.toNat_ofNat', UInt8.toNat_ofNat'] at this
      simp only [Nat.reducePow] at this
      rw [Nat.mod_eq_of_lt (by omega), Nat.mod_eq_of_lt (by omega)] at this
      omega
    rw [e, str_inj' hx.tail hy.tail h.2]
theorem str_inj {xs ys : List Int} (hx : Okb xs) (hy : Okb ys) (h : (strOfNums xs).toList = (strOfNums ys).toList) : xs = ys := by
  rw [ByteArray.toList_eq, ByteArray.toList_eq, strOfNums_data, strOfNums_data] at h
  exact str_inj' hx hy h
theorem str_eq {xs ys : List Int} (hx : Okb xs) (hy : Okb ys) : ((strOfNums xs).toList == (strOfNums ys).toList) = decide (xs = ys) := by
  rw [Bool.eq_iff_iff, beq_iff_eq, decide_eq_true_eq]
  exact ⟨str_inj hx hy, fun e => by rw [e]⟩
theorem cutA_zero {b off : Nat} {cap : Nat} : cutA (some ⟨b, off, none⟩) cap 0 = some ⟨b, off, none⟩ := by
  unfold cutA
  split
  · rfl
  · simp [Addr.add]
theorem run_head23 (w : World) (ao : Option Addr) (len cap j : Nat) (h2 : j ≤ cap) : (Instr.slice 23 (.slice ao len cap) none (some (.int .i64 (j : Int))) none).run Try.prog w = .ok (.slice (cutA ao cap 0) j cap) w := by
  rw [run_slice_h (P := Try.prog) (w := w) 23 ao len cap under23 .i64 (j : Int) (by omega) (by omega), elem23, Try.sizeOf5]
  simp only [Result.andThen, Int.toNat_natCast]
  rw [sliced_cut _ _ _ _ (by omega)]
  rfl
theorem Sl.head {w : World} {ao : Option Addr} {len cap : Nat} {xs : List Int} (h : Sl w ao len cap xs) (j : Nat) (h2 : j ≤ len) : Sl w (cutA ao cap 0) j cap (xs.take j) := h.cut 0 j (Nat.zero_le _) h2
theorem RB.head {w : World} {ao : Option Addr} {len cap : Nat} {rs : List (List Int)} (h : RB w ao len cap rs) (j : Nat) (h2 : j ≤ len) : RB w (cutA ao cap 0) j cap (rs.take j) := by
  obtain ⟨e1, e2, e3, e4, e5⟩ := h
  refine ⟨by rw [List.length_take]; omega, fun hn => ?_, by omega, e4, fun i r hr => ?_⟩
  · cases ao with
    | none => have := e2 rfl; omega
    | some a =>
      unfold cutA at hn
      split at hn
      · cases hn
      · cases hn
  · have hi : i < j := by
      have := (List.getElem?_eq_some_iff.1 hr).1
      rw [List.length_take] at this
      omega
    rw [List.getElem?_take_of_lt hi] at hr
    obtain ⟨b, off, a, c, rfl, hc, hs⟩ := e5 i r hr
    exact ⟨b, off, a, c, cutA_zero, hc, hs⟩
theorem RB.okb {w : World} {ao : Option Addr} {len cap : Nat} {rs : List (List Int)} (h : RB w ao len cap rs) : ∀ r ∈ rs, Okb r := fun r hr => by
  obtain ⟨i, hi, rfl⟩ := List.getElem_of_mem hr
  obtain ⟨b, off, a, c, _, _, hs⟩ := h.2.2.2.2 i rs[i] (List.getElem?_eq_getElem hi)
  exact hs.2.1
theorem row_empty (w : World) : Row w.heap.size (w.alloc (.cells #[] 5)) (.slice (some ⟨w.heap.size, 0, none⟩) 0 0) [] :=
  ⟨rfl, .inr ⟨w.heap.size, 0, #[], rfl, Nat.le_refl _, heap_alloc_new w _, Nat.le_refl _, Nat.zero_le _, rfl, rfl⟩⟩
theorem Row.later {B : Nat} {w w' : World} {v : Value} {xs : List Int} (h : Row B w v xs) (hb : Below w.heap.size w w') : Row B w' v xs := by
  unfold Row at h ⊢
  refine ⟨h.1, ?_⟩
  rcases h.2 with q | ⟨g, cap, cur, q1, q2, q3, q4⟩
  · exact .inl q
  · exact .inr ⟨g, cap, cur, q1, q2, by rw [hb.block g (Array.getElem?_eq_some_iff.1 q3).1]; exact q3, q4⟩
theorem slv_nil (w : World) : SlV w (.slice none 0 0) [] := ⟨none, 0, rfl, Sl.nil w⟩
theorem Row.base {B B' : Nat} {w : World} {v : Value} {xs : List Int} (h : Row B w v xs) (hB : B' ≤ B) : Row B' w v xs := by
  unfold Row at h ⊢
  refine ⟨h.1, ?_⟩
  rcases h.2 with q | ⟨g, cap, cur, q1, q2, q3⟩
  · exact .inl q
  · exact .inr ⟨g, cap, cur, q1, by omega, q3⟩
end Go.Proofs.Ytjgfklbhagcbaab

/- Numbers of a set size, the highest byte first: what Read and Fixed answer, and the document's own. -/
namespace Go.Proofs.Ytjgfklbhagcbaab
open Go.RowKit

/-- The number of the first k bytes, the highest first. -/
def fv (X : Nat → Nat) : Nat → Nat
  | 0 => 0
  | k + 1 => fv X k * 256 + X k
theorem fv_lt (X : Nat → Nat) : ∀ k, (∀ j, j < k → X j < 256) → fv X k < 256 ^ k
  | 0, _ => by simp [fv]
  | k + 1, h => by
    have h1 := fv_lt X k fun j hj => h j (by omega)
    have h2 := h k (by omega)
    simp only [fv, Nat.pow_succ]
    omega
/-- The lowest s bytes of n, the highest first. -/
def fx (n : Nat) : Nat → List Int
  | 0 => []
  | s + 1 => ((n / 256 ^ s % 256 : Nat) : Int) :: fx n s
theorem fx_length (n : Nat) : ∀ s, (fx n s).length = s
  | 0 => rfl
  | s + 1 => by simp [fx, fx_length n s]
theorem okb_fx (n : Nat) : ∀ s, Okb (fx n s)
  | 0 => fun x hx => by cases hx
  | s + 1 => fun x hx => by
    rcases List.mem_cons.1 hx with rfl | hx
    · omega
    · exact okb_fx n s x hx
def InSize (size : Int) : Prop := 1 ≤ size ∧ size ≤ 8
instance (size : Int) : Decidable (InSize size) := by unfold InSize; infer_instance
def fxs (n : Nat) (size : Int) : List Int := if InSize size then fx n size.toNat else []
theorem okb_fxs (n : Nat) (size : Int) : Okb (fxs n size) := by
  unfold fxs
  split
  · exact okb_fx _ _
  · intro x hx; cases hx
theorem fxs_length (n : Nat) (size : Int) : (fxs n size).length ≤ 8 := by
  unfold fxs
  split
  · rename_i h; rw [fx_length]; unfold InSize at h; omega
  · simp
def readV (X : Nat → Nat) (len : Nat) (size : Int) : Value :=
  if InSize size then (if (len : Int) < size then .tuple #[.int .u64 0, .int .i64 5] else .tuple #[.int .u64 (fv X size.toNat : Nat), .int .i64 0]) else .tuple #[.int .u64 0, .int .i64 1]

theorem fv_step (X : Nat → Nat) (k : Nat) (hk : k < 8) (hX : ∀ j, j < k + 1 → X j < 256) :
    bits .or .u64 (IntKind.u64.wrap ((fv X k : Nat) * 256)) ((X k : Nat) : Int) = ((fv X (k + 1) : Nat) : Int) := by
  have h1 := fv_lt X k fun j hj => hX j (by omega)
  have h2 : 256 ^ k ≤ 256 ^ 7 := Nat.pow_le_pow_right (by decide) (by omega)
  have h3 : (256 : Nat) ^ 7 = 72057594037927936 := by decide
  have h4 := hX k (by omega)
  have e : ((fv X k : Nat) : Int) * 256 = ((fv X k * 2 ^ 8 : Nat) : Int) := by omega
  rw [e, wrapU64_of (by omega), or_high (by omega) (by omega)]
  rfl

/-- One byte of a number of a set size. -/
theorem fx_byte (n j : Nat) : IntKind.u8.wrap ((n : Int) / 2 ^ (8 * j)) = ((n / 256 ^ j % 256 : Nat) : Int) := by
  have e : (n : Int) / 2 ^ (8 * j) = ((n / 256 ^ j : Nat) : Int) := by
    rw [show (256 : Nat) = 2 ^ 8 from rfl, ← Nat.pow_mul]
    push_cast
    rfl
  rw [e, wrapU8_nat]

end Go.Proofs.Ytjgfklbhagcbaab

/- The bytes of a number, read again: where they end, that they are good, their value; and how many they are. -/
namespace Go.Proofs.Ytjgfklbhagcbaab
open Go.RowKit
set_option linter.unusedVariables false

/-- The row of bytes Z begins with the bytes of n. -/
def Begins (Z : Nat → Nat) (xs : List Int) : Prop := ∀ k, k < xs.length → (Z k : Int) = xs.getD k 0

theorem begins_cons {Z : Nat → Nat} {x : Int} {xs : List Int} (h : Begins Z (x :: xs)) : (Z 0 : Int) = x ∧ Begins (fun k => Z (k + 1)) xs := by
  refine ⟨by simpa using h 0 (by simp), fun k hk => ?_⟩
  have := h (k + 1) (by simpa using hk)
  simpa using this

theorem tv_shift (X : Nat → Nat) : ∀ (m i : Nat), tv X (i + 1) m = tv (fun k => X (k + 1)) i m
  | 0, _ => rfl
  | m + 1, i => by simp only [tv]; rw [tv_shift X m (i + 1)]

/-- All that is known of the bytes of n at the beginning of a row. -/
theorem uv_read (n : Nat) : ∀ (Z : Nat → Nat), Begins Z (uv n) → (∀ j, j + 1 < (uv n).length → 128 ≤ Z j) ∧ Z ((uv n).length - 1) < 128 ∧ tv Z 0 (uv n).length = n ∧ (1 < (uv n).length → Z ((uv n).length - 1) ≠ 0) := by
  induction n using Nat.strongRecOn with
  | _ n ih =>
    intro Z hZ
    by_cases h : n < 128
    · rw [uv_lt h] at hZ ⊢
      have h0 := (begins_cons hZ).1
      simp only [List.length_cons, List.length_nil, tv]
      refine ⟨fun j hj => absurd hj (by omega), by simp; omega, by omega, fun hh => absurd hh (by omega)⟩
    · rw [uv_ge (by omega)] at hZ ⊢
      obtain ⟨h0, h1⟩ := begins_cons hZ
      obtain ⟨i1, i2, i3, i4⟩ := ih (n / 128) (by omega) _ h1
      have hp := uv_pos (n / 128)
      have e : (uv (n / 128)).length + 1 - 1 = (uv (n / 128)).length - 1 + 1 := by omega
      simp only [List.length_cons, tv]
      rw [e]
      refine ⟨fun j hj => ?_, i2, ?_, fun _ => ?_⟩
      · cases j with
        | zero => omega
        | succ j => exact i1 j (by omega)
      · rw [tv_shift, i3]
        omega
      · by_cases g : 1 < (uv (n / 128)).length
        · exact i4 g
        · have h2 : (uv (n / 128)).length = 1 := by omega
          by_cases q : n / 128 < 128
          · have h3 := h1
            rw [uv_lt q] at h3
            have := (begins_cons h3).1
            simp only [h2] at i2 ⊢
            simp at this
            have e1 : Z 1 ≠ 0 := by omega
            exact e1
          · rw [uv_ge (by omega)] at h2
            have := uv_pos (n / 128 / 128)
            rw [List.length_cons] at h2
            omega

theorem uv_mono : ∀ (b a : Nat), a ≤ b → (uv a).length ≤ (uv b).length := by
  intro b
  induction b using Nat.strongRecOn with
  | _ b ih =>
    intro a h
    by_cases ha : a < 128
    · rw [uv_lt ha]; exact uv_pos b
    · rw [uv_ge (by omega : 128 ≤ a), uv_ge (by omega : 128 ≤ b)]
      have := ih (b / 128) (by omega) (a / 128) (by omega)
      simpa using this

/-- A number's bytes, whatever stands behind them: where they end, and that Take takes them. -/
theorem uv_end {n : Nat} {Z : Nat → Nat} {len : Nat} (hZ : Begins Z (uv n)) (hl : (uv n).length ≤ len) : IsEnd Z len ((uv n).length - 1) := by
  obtain ⟨h1, h2, _⟩ := uv_read n Z hZ
  have := uv_pos n
  exact ⟨by omega, fun j hj => h1 j (by omega), fun _ => h2⟩
theorem uv_val {n : Nat} {Z : Nat → Nat} (hZ : Begins Z (uv n)) : val Z ((uv n).length - 1 + 1) = n := by
  have := uv_pos n
  rw [show (uv n).length - 1 + 1 = (uv n).length by omega, val_eq_tv]
  exact (uv_read n Z hZ).2.2.1
theorem uv_good {n : Nat} {Z : Nat → Nat} (hn : n < 18446744073709551616) (hZ : Begins Z (uv n)) : good Z ((uv n).length - 1) := by
  obtain ⟨h1, h2, h3, h4⟩ := uv_read n Z hZ
  have hp := uv_pos n
  have h10 := uv_len64 hn
  refine ⟨fun ⟨q1, q2⟩ => h4 (by omega) q2, ?_⟩
  by_cases q : (uv n).length - 1 < 9
  · exact .inl q
  · have e : (uv n).length = 10 := by omega
    refine .inr ⟨by omega, ?_⟩
    rw [e] at h3 h2
    have h5 := val_eq_tv Z 10
    rw [h3] at h5
    have h6 : val Z 10 = val Z 9 + Z 9 % 128 * 128 ^ 9 := rfl
    have h7 : (128 : Nat) ^ 9 = 9223372036854775808 := by decide
    rw [h7] at h6
    have h8 : Z 9 < 128 := h2
    rcases Nat.lt_or_ge 1 (Z 9) with g | g
    · have : 2 * 9223372036854775808 ≤ Z 9 % 128 * 9223372036854775808 := Nat.mul_le_mul_right _ (by omega)
      omega
    · exact g

theorem takeV_uv {n : Nat} {Z : Nat → Nat} {len : Nat} (hn : n < 18446744073709551616) (hZ : Begins Z (uv n)) (hl : (uv n).length ≤ len) : takeV Z len ((uv n).length - 1) = .tuple #[.int .u64 (n : Int), .int .i64 ((uv n).length : Int), .int .i64 0] := by
  have hp := uv_pos n
  unfold takeV
  rw [if_pos (by omega), if_pos (uv_good hn hZ), uv_val hZ]
  congr 5
  omega
/-- Cut off it is short. -/
theorem takeV_cut {n : Nat} {Z : Nat → Nat} {k : Nat} (hZ : Begins Z (uv n)) (hk : k < (uv n).length) : IsEnd Z k k ∧ takeV Z k k = .tuple #[.int .u64 0, .int .i64 0, .int .i64 5] := by
  obtain ⟨h1, _⟩ := uv_read n Z hZ
  exact ⟨⟨Nat.le_refl _, fun j hj => h1 j (by omega), fun h => absurd h (by omega)⟩, by unfold takeV; rw [if_neg (by omega)]⟩

theorem begins_xof {xs ys : List Int} (h : Okb (xs ++ ys)) : Begins (xof (xs ++ ys)) xs := fun k hk => by
  have hk' : k < (xs ++ ys).length := by simp; omega
  have := h (xs ++ ys)[k] (List.getElem_mem hk')
  have e : (xs ++ ys)[k] = xs[k] := List.getElem_append_left hk
  simp only [xof, List.getD_eq_getElem?_getD, List.getElem?_eq_getElem hk', List.getElem?_eq_getElem hk, Option.getD_some]
  rw [e] at this ⊢
  omega
theorem begins_xof' {xs : List Int} (h : Okb xs) : Begins (xof xs) xs := by
  have := begins_xof (xs := xs) (ys := []) (by simpa using h)
  simpa using this

/-- The number of a set size's bytes. -/
theorem fv_fx (n : Nat) : ∀ (s : Nat) (Z : Nat → Nat) (acc i : Nat), (∀ k, k < s → (Z (i + k) : Int) = (fx n s).getD k 0) → fv Z i = acc → fv Z (i + s) = acc * 256 ^ s + n % 256 ^ s
  | 0, Z, acc, i, _, h => by simp [h]; omega
  | s + 1, Z, acc, i, hZ, h => by
    have h0 := hZ 0 (by omega)
    simp only [fx, Nat.add_zero, List.getD_cons_zero] at h0
    have h1 : fv Z (i + 1) = acc * 256 + n / 256 ^ s % 256 := by simp only [fv, h]; omega
    have := fv_fx n s Z _ (i + 1) (fun k hk => by have := hZ (k + 1) (by omega); simpa [fx, Nat.add_assoc, Nat.add_comm 1 k] using this) h1
    rw [show i + (s + 1) = i + 1 + s by omega, this, Nat.add_mul, Nat.pow_succ, Nat.mul_assoc, Nat.mul_comm 256]
    have e := Nat.mod_mul (x := n) (a := 256 ^ s) (b := 256)
    rw [Nat.mul_comm (n / 256 ^ s % 256)]
    omega
end Go.Proofs.Ytjgfklbhagcbaab
