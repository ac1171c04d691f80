import Derived.Test.YtfecopldepnicaaPk02
import Derived.Test.YtfecopldepnicaaPk03
/- Numbers of a set size, the highest byte first: what Read and Fixed answer, and the document's own. -/
namespace Go.Proofs.Ytfecopldepnicaa
open Go.RowKit

/-- The number of the first k bytes, the highest first. -/
def fv (X : Nat → Nat) : Nat → Nat
  | 0 => 0
  | k + 1 => fv X k * 256 + X k
theorem fv_lt (X : Nat → Nat) : ∀ k, (∀ j, j < k → X j < 256) → fv X k < 256 ^ k
  | 0, _ => by simp [fv]
  | k + 1, h => by
    have h1 := fv_lt X k fun j hj => h j (by omega)
    have h2 := h k (by omega)
    simp only [fv, Nat.pow_succ]
    omega
/-- The lowest s bytes of n, the highest first. -/
def fx (n : Nat) : Nat → List Int
  | 0 => []
  | s + 1 => ((n / 256 ^ s % 256 : Nat) : Int) :: fx n s
theorem fx_length (n : Nat) : ∀ s, (fx n s).length = s
  | 0 => rfl
  | s + 1 => by simp [fx, fx_length n s]
theorem okb_fx (n : Nat) : ∀ s, Okb (fx n s)
  | 0 => fun x hx => by cases hx
  | s + 1 => fun x hx => by
    rcases List.mem_cons.1 hx with rfl | hx
    · omega
    · exact okb_fx n s x hx
def InSize (size : Int) : Prop := 1 ≤ size ∧ size ≤ 8
instance (size : Int) : Decidable (InSize size) := by unfold InSize; infer_instance
def fxs (n : Nat) (size : Int) : List Int := if InSize size then fx n size.toNat else []
theorem okb_fxs (n : Nat) (size : Int) : Okb (fxs n size) := by
  unfold fxs
  split
  · exact okb_fx _ _
  · intro x hx; cases hx
theorem fxs_length (n : Nat) (size : Int) : (fxs n size).length ≤ 8 := by
  unfold fxs
  split
  · rename_i h; rw [fx_length]; unfold InSize at h; omega
  · simp
def readV (X : Nat → Nat) (len : Nat) (size : Int) : Value :=
  if InSize size then (if (len : Int) < size then .tuple #[.int .u64 0, .int .i64 5] else .tuple #[.int .u64 (fv X size.toNat : Nat), .int .i64 0]) else .tuple #[.int .u64 0, .int .i64 1]

theorem fv_step (X : Nat → Nat) (k : Nat) (hk : k < 8) (hX : ∀ j, j < k + 1 → X j < 256) :
    bits .or .u64 (IntKind.u64.wrap ((fv X k : Nat) * 256)) ((X k : Nat) : Int) = ((fv X (k + 1) : Nat) : Int) := by
  have h1 := fv_lt X k fun j hj => hX j (by omega)
  have h2 : 256 ^ k ≤ 256 ^ 7 := Nat.pow_le_pow_right (by decide) (by omega)
  have h3 : (256 : Nat) ^ 7 = 72057594037927936 := by decide
  have h4 := hX k (by omega)
  have e : ((fv X k : Nat) : Int) * 256 = ((fv X k * 2 ^ 8 : Nat) : Int) := by omega
  rw [e, wrapU64_of (by omega), or_high (by omega) (by omega)]
  rfl

theorem goodSize_any (size : Int) (w : World) : Calls Try.prog 91 #[.int .i64 size] w fun e w' => e = .returned (.bool (decide (InSize size))) ∧ w' = w := by
  go_enter Try.func91, Try.ntmps91
  go_wp2
  all_goals
    go_ret
    refine ⟨congrArg (fun b => Ending.returned (.bool b)) ?_, rfl⟩
    first
      | exact decide_eq_decide.2 (by unfold InSize; omega)
      | exact (decide_eq_false (by unfold InSize; omega)).symm

set_option maxHeartbeats 1000000 in
set_option maxRecDepth 100000 in
theorem read_any (ao : Option Addr) (len cap : Nat) (X : Nat → Nat) (size : Int) (w : World) (hb : Byt w ao len X) (hl : len ≤ cap) :
    Calls Try.prog 96 #[.slice ao len cap, .int .i64 size] w fun e w' => e = .returned (readV X len size) ∧ w' = w := by
  have hgs := goodSize_any size w
  have HB : Hid (Byt w ao len X) := hb
  clear hb
  unfold readV
  by_cases hs : InSize size
  · have hs' : decide (InSize size) = true := decide_eq_true hs
    rw [hs'] at hgs
    simp only [hs, if_true]
    unfold InSize at hs
    clear hs'
    obtain ⟨s, rfl⟩ := Int.eq_ofNat_of_zero_le (by omega : 0 ≤ size)
    have q1 : (1 : Int) ≤ (s : Int) := by omega
    have q2 : (s : Int) ≤ 8 := by omega
    by_cases h1 : (len : Int) < (s : Int)
    · simp only [h1, if_true]
      go_enter Try.func96, Try.ntmps96
      go_wp2_with (go_at_call 91; refine hgs.mono ?_; rintro e w' ⟨rfl, rfl⟩)
      exact bodyPost_ret (v := .tuple #[.int .u64 0, .int .i64 5]) (by simp [results, Try.results96, go_sem]) rfl ⟨rfl, rfl⟩
    · simp only [h1, if_false, Int.toNat_natCast]
      have h1' : (s : Int) ≤ (len : Int) := by omega
      have hsc : (s : Int) ≤ (cap : Int) := by omega
      clear h1
      go_enter Try.func96, Try.ntmps96
      go_wp2_with (go_at_call 91; refine hgs.mono ?_; rintro e w' ⟨rfl, rfl⟩)
      clear hgs
      go_loopg [6, 20] s (fun g n i wr => ∃ (k : Nat), k + g = s ∧ n = .int .u64 ((fv X k : Nat) : Int) ∧ i = .int .i64 (k : Int) ∧ wr = w')
      case atStart => exact ⟨0, by omega, rfl, rfl, rfl⟩
      case round =>
        obtain ⟨k, hk, rfl, rfl, hw⟩ := hrel
        obtain rfl := hw
        by_cases h : k < s
        · obtain ⟨hx, b, off, rfl, hcell⟩ := HB.out k (by omega)
          have h' : (k : Int) < (s : Int) := by omega
          have hst := fv_step X k (by omega) (fun j hj => (HB.out j (by omega)).1)
          obtain ⟨GK, HG⟩ : ∃ g, Hid (g < gk ∧ k + 1 + g = s) := ⟨gk - 1, by omega, by omega⟩
          have HST : Hid (bits .or .u64 (IntKind.u64.wrap ((fv X k : Nat) * 256)) ((X k : Nat) : Int) = ((fv X (k + 1) : Nat) : Int)) := hst
          clear hk hst
          go_wp2
          go_roundg GK
          case measure => exact HG.out.1
          case rel => exact ⟨k + 1, HG.out.2, by rw [← HST.out], by go_num, rfl⟩
        · have h' : (s : Int) ≤ (k : Int) := by omega
          obtain rfl : k = s := by omega
          clear hk HB h
          go_wp2
          exact bodyPost_ret (v := .tuple #[.int .u64 (fv X k : Nat), .int .i64 0]) (by simp [results, Try.results96, go_sem]) rfl ⟨rfl, rfl⟩
  · have hs' : decide (InSize size) = false := decide_eq_false hs
    rw [hs'] at hgs
    simp only [hs, if_false]
    clear hs hs'
    go_enter Try.func96, Try.ntmps96
    go_wp2_with (go_at_call 91; refine hgs.mono ?_; rintro e w' ⟨rfl, rfl⟩)
    exact bodyPost_ret (v := .tuple #[.int .u64 0, .int .i64 1]) (by simp [results, Try.results96, go_sem]) rfl ⟨rfl, rfl⟩

/-- One byte of a number of a set size. -/
theorem fx_byte (n j : Nat) : IntKind.u8.wrap ((n : Int) / 2 ^ (8 * j)) = ((n / 256 ^ j % 256 : Nat) : Int) := by
  have e : (n : Int) / 2 ^ (8 * j) = ((n / 256 ^ j : Nat) : Int) := by
    rw [show (256 : Nat) = 2 ^ 8 from rfl, ← Nat.pow_mul]
    push_cast
    rfl
  rw [e, wrapU8_nat]

set_option maxHeartbeats 1000000 in
set_option maxRecDepth 100000 in
theorem rfixed_any (B : Nat) (v : Value) (xs : List Int) (n : Nat) (size : Int) (w : World) (hrow : Row B w v xs) (hB : B ≤ w.heap.size) (hb : xs.length + 8 ≤ 175921860444160) :
    Calls Try.prog 42 #[v, .int .u64 (n : Int), .int .i64 size] w fun e w' => ∃ v', e = .returned v' ∧ Row B w' v' (xs ++ fxs n size) ∧ w.grownBy w' v.ownBlock ∧ Moved w v v' := by
  have HR : Hid (Row B w v xs) := hrow
  have HB : Hid (B ≤ w.heap.size ∧ xs.length + 8 ≤ 175921860444160) := ⟨hB, hb⟩
  clear hb hB hrow
  unfold fxs
  by_cases hs : InSize size
  · simp only [hs, if_true]
    unfold InSize at hs
    obtain ⟨s, rfl⟩ := Int.eq_ofNat_of_zero_le (by omega : 0 ≤ size)
    simp only [Int.toNat_natCast]
    have q1 : (1 : Int) ≤ (s : Int) := by omega
    have q2 : (s : Int) ≤ 8 := by omega
    clear hs
    go_enter Try.func42, Try.ntmps42
    go_wp2
    go_loopg [0, 7] s (fun g b i wr => ∃ (ys : List Int), Row B wr b ys ∧ ys ++ fx n g = xs ++ fx n s ∧ g ≤ s ∧ i = .int .i64 ((g : Int) - 1) ∧ w.grownBy wr v.ownBlock ∧ Moved w v b)
    case atStart => exact ⟨xs, HR.out, rfl, Nat.le_refl _, by go_num, grow_refl _ _, Moved.refl _ _⟩
    case round =>
      obtain ⟨ys, hrow, hys, hgs, rfl, hgr, hmv⟩ := hrel
      have HM : Hid (Row B wr u0 ys ∧ ys ++ fx n gk = xs ++ fx n s ∧ gk ≤ s ∧ w.grownBy wr v.ownBlock ∧ Moved w v u0) := ⟨hrow, hys, hgs, hgr, hmv⟩
      clear hrow hys hgs hgr hmv
      by_cases h : gk = 0
      · obtain rfl := h
        go_wp2
        have h1 := HM.out
        simp only [fx, List.append_nil] at h1
        exact bodyPost_ret (v := u0) (by simp [results, Try.results42, go_sem]) rfl ⟨u0, rfl, by rw [← h1.2.1]; exact h1.1, h1.2.2.2.1, h1.2.2.2.2⟩
      · obtain ⟨j, rfl⟩ : ∃ j, gk = j + 1 := ⟨gk - 1, by omega⟩
        have hbase : Hid (B ≤ wr.heap.size + 1) := by show B ≤ wr.heap.size + 1; have := HM.out.2.2.2.1.size; have := HB.out; omega
        have hys : Hid (ys.length + 1 ≤ 175921860444160) := by
          show ys.length + 1 ≤ 175921860444160
          have h1 := congrArg List.length HM.out.2.1
          simp only [List.length_append, fx_length] at h1
          have := HB.out
          omega
        obtain ⟨c, HC⟩ : ∃ c : Nat, Hid (c = n / 256 ^ j % 256) := ⟨_, rfl⟩
        have hj8 : (j : Int) < 8 := by have := HM.out.2.2.1; omega
        have ej : ((j + 1 : Nat) : Int) - 1 = (j : Int) := by omega
        have hw8 : ((n : Int) / 2 ^ (8 * j)) % 256 = (c : Int) := by rw [HC.out, ← IntKind.wrap_u8]; exact fx_byte n j
        rw [ej]
        clear h ej
        go_wp2_with (at_builtin; refine wpList_appW rfl (.tmp 21) (.tmp 28) rfl B u0 ys rfl (HM.out.1.alloc _) (some ⟨wr.heap.size, 0, none⟩) 1 1 (fun _ => c) rfl (fun e => by cases e) (byt_one wr c (by have := HC.out; omega)) hys.out (by simpa using hbase.out) ?_; intro v1 w1 hr1 hg1 hm1)
        have hst := app_step HM.out.2.2.2.1 HM.out.2.2.2.2 hg1 hm1
        go_roundg j
        case measure => omega
        case rel =>
          refine ⟨ys ++ bs (fun _ => c) 1, hr1, ?_, by have := HM.out.2.2.1; omega, by go_num, hst.1, hst.2⟩
          rw [← HM.out.2.1]
          simp [bs, HC.out, fx]
  · simp only [hs, if_false, List.append_nil]
    unfold InSize at hs
    by_cases h1 : size < 1
    · clear hs
      go_enter Try.func42, Try.ntmps42
      go_wp2
      exact bodyPost_ret (v := v) (by simp [results, Try.results42, go_sem]) rfl ⟨v, rfl, HR.out, grow_refl _ _, Moved.refl _ _⟩
    · have h2 : (8 : Int) < size := by omega
      have h3 : (1 : Int) ≤ size := by omega
      clear hs h1
      go_enter Try.func42, Try.ntmps42
      go_wp2
      exact bodyPost_ret (v := v) (by simp [results, Try.results42, go_sem]) rfl ⟨v, rfl, HR.out, grow_refl _ _, Moved.refl _ _⟩

set_option maxHeartbeats 1000000 in
set_option maxRecDepth 100000 in
theorem fixed_any (ao : Option Addr) (len cap n : Nat) (X : Nat → Nat) (size : Int) (w : World) (hb : Byt w ao len X) (hnil : ao = none → len = 0 ∧ cap = 0) (hl : len ≤ 140737488351232) :
    Calls Try.prog 67 #[.slice ao len cap, .int .u64 (n : Int), .int .i64 size] w fun e w' => ∃ v', e = .returned v' ∧ Row w.heap.size w' v' (bs X len ++ fxs n size) ∧ Below w.heap.size w w' := by
  have hgs := goodSize_any size w
  unfold fxs
  by_cases hs : InSize size
  · have hs' : decide (InSize size) = true := decide_eq_true hs
    rw [hs'] at hgs
    simp only [hs, if_true]
    unfold InSize at hs
    clear hs'
    obtain ⟨s, rfl⟩ := Int.eq_ofNat_of_zero_le (by omega : 0 ≤ size)
    simp only [Int.toNat_natCast]
    have q1 : (1 : Int) ≤ (s : Int) := by omega
    have q2 : (s : Int) ≤ 8 := by omega
    have hf := fresh_any ao len cap s X w hb hnil (by omega) (by omega)
    have HL : Hid (len ≤ 140737488351232) := hl
    clear hs hb hnil hl
    go_enter Try.func67, Try.ntmps67
    go_wp2_with (first | (go_at_call 91; refine hgs.mono ?_; rintro e w ⟨rfl, rfl⟩) | (go_at_call 92; refine hf.mono ?_; rintro e w2 ⟨v2, rfl, hr2, hb2⟩))
    have HR : Hid (Row w.heap.size w2 v2 (bs X len) ∧ Below w.heap.size w w2) := ⟨hr2, hb2⟩
    clear hgs hf hr2 hb2
    go_loopg [7, 8] s (fun g b i wr => ∃ (ys : List Int), Row w.heap.size wr b ys ∧ ys ++ fx n g = bs X len ++ fx n s ∧ g ≤ s ∧ i = .int .i64 ((g : Int) - 1) ∧ Below w.heap.size w wr)
    case atStart => exact ⟨_, HR.out.1, rfl, Nat.le_refl _, by go_num, HR.out.2⟩
    case round =>
      obtain ⟨ys, hrow, hys, hgs, rfl, hbel⟩ := hrel
      have HM : Hid (Row w.heap.size wr u7 ys ∧ ys ++ fx n gk = bs X len ++ fx n s ∧ gk ≤ s ∧ Below w.heap.size w wr) := ⟨hrow, hys, hgs, hbel⟩
      clear hrow hys hgs hbel
      by_cases h : gk = 0
      · obtain rfl := h
        go_wp2
        have h1 := HM.out
        simp only [fx, List.append_nil] at h1
        exact bodyPost_ret (v := u7) (by simp [results, Try.results67, go_sem]) rfl ⟨u7, rfl, by rw [← h1.2.1]; exact h1.1, h1.2.2.2⟩
      · obtain ⟨j, rfl⟩ : ∃ j, gk = j + 1 := ⟨gk - 1, by omega⟩
        have hbase : Hid (w.heap.size ≤ wr.heap.size + 1) := by show w.heap.size ≤ wr.heap.size + 1; have := HM.out.2.2.2.size; omega
        have hys : Hid (ys.length + 1 ≤ 140737488355328) := by
          show ys.length + 1 ≤ 140737488355328
          have h1 := congrArg List.length HM.out.2.1
          simp only [List.length_append, fx_length, bs_length] at h1
          have := HL.out
          omega
        obtain ⟨c, HC⟩ : ∃ c : Nat, Hid (c = n / 256 ^ j % 256) := ⟨_, rfl⟩
        have hj8 : (j : Int) < 8 := by have := HM.out.2.2.1; omega
        have ej : ((j + 1 : Nat) : Int) - 1 = (j : Int) := by omega
        have hw8 : ((n : Int) / 2 ^ (8 * j)) % 256 = (c : Int) := by rw [HC.out, ← IntKind.wrap_u8]; exact fx_byte n j
        rw [ej]
        clear h ej
        go_wp2_with (at_builtin; refine wpList_app rfl (.tmp 23) (.tmp 29) rfl w.heap.size u7 ys rfl (HM.out.1.alloc _) (some ⟨wr.heap.size, 0, none⟩) 1 1 (fun _ => c) rfl (fun e => by cases e) (byt_one wr c (by have := HC.out; omega)) hys.out (by simpa using hbase.out) ?_; intro v1 w1 hr1 hg1 hm1)
        go_roundg j
        case measure => omega
        case rel =>
          refine ⟨ys ++ bs (fun _ => c) 1, hr1, ?_, by have := HM.out.2.2.1; omega, by go_num, ?_⟩
          · rw [← HM.out.2.1]
            simp [bs, HC.out, fx]
          · exact (HM.out.2.2.2.alloc HM.out.2.2.2.size _).trans (grown_below (HM.out.1.alloc _) hg1 (by simpa using hbase.out))
  · have hs' : decide (InSize size) = false := decide_eq_false hs
    rw [hs'] at hgs
    simp only [hs, if_false, List.append_nil]
    have hf := fresh_any ao len cap 0 X w hb hnil (by omega) (by omega)
    clear hs hs' hb hnil hl
    go_enter Try.func67, Try.ntmps67
    go_wp2_with (first | (go_at_call 91; refine hgs.mono ?_; rintro e w ⟨rfl, rfl⟩) | (go_at_call 92; refine hf.mono ?_; rintro e w2 ⟨v2, rfl, hr2, hb2⟩))
    exact bodyPost_ret (v := v2) (by simp [results, Try.results67, go_sem]) rfl ⟨v2, rfl, hr2, hb2⟩
end Go.Proofs.Ytfecopldepnicaa

/- The bytes of a number, read again: where they end, that they are good, their value; and how many they are. -/
namespace Go.Proofs.Ytfecopldepnicaa
open Go.RowKit
set_option linter.unusedVariables false

/-- The row of bytes Z begins with the bytes of n. -/
def Begins (Z : Nat → Nat) (xs : List Int) : Prop := ∀ k, k < xs.length → (Z k : Int) = xs.getD k 0

theorem begins_cons {Z : Nat → Nat} {x : Int} {xs : List Int} (h : Begins Z (x :: xs)) : (Z 0 : Int) = x ∧ Begins (fun k => Z (k + 1)) xs := by
  refine ⟨by simpa using h 0 (by simp), fun k hk => ?_⟩
  have := h (k + 1) (by simpa using hk)
  simpa using this

theorem tv_shift (X : Nat → Nat) : ∀ (m i : Nat), tv X (i + 1) m = tv (fun k => X (k + 1)) i m
  | 0, _ => rfl
  | m + 1, i => by simp only [tv]; rw [tv_shift X m (i + 1)]

/-- All that is known of the bytes of n at the beginning of a row. -/
theorem uv_read (n : Nat) : ∀ (Z : Nat → Nat), Begins Z (uv n) → (∀ j, j + 1 < (uv n).length → 128 ≤ Z j) ∧ Z ((uv n).length - 1) < 128 ∧ tv Z 0 (uv n).length = n ∧ (1 < (uv n).length → Z ((uv n).length - 1) ≠ 0) := by
  induction n using Nat.strongRecOn with
  | _ n ih =>
    intro Z hZ
    by_cases h : n < 128
    · rw [uv_lt h] at hZ ⊢
      have h0 := (begins_cons hZ).1
      simp only [List.length_cons, List.length_nil, tv]
      refine ⟨fun j hj => absurd hj (by omega), by simp; omega, by omega, fun hh => absurd hh (by omega)⟩
    · rw [uv_ge (by omega)] at hZ ⊢
      obtain ⟨h0, h1⟩ := begins_cons hZ
      obtain ⟨i1, i2, i3, i4⟩ := ih (n / 128) (by omega) _ h1
      have hp := uv_pos (n / 128)
      have e : (uv (n / 128)).length + 1 - 1 = (uv (n / 128)).length - 1 + 1 := by omega
      simp only [List.length_cons, tv]
      rw [e]
      refine ⟨fun j hj => ?_, i2, ?_, fun _ => ?_⟩
      · cases j with
        | zero => omega
        | succ j => exact i1 j (by omega)
      · rw [tv_shift, i3]
        omega
      · by_cases g : 1 < (uv (n / 128)).length
        · exact i4 g
        · have h2 : (uv (n / 128)).length = 1 := by omega
          by_cases q : n / 128 < 128
          · have h3 := h1
            rw [uv_lt q] at h3
            have := (begins_cons h3).1
            simp only [h2] at i2 ⊢
            simp at this
            have e1 : Z 1 ≠ 0 := by omega
            exact e1
          · rw [uv_ge (by omega)] at h2
            have := uv_pos (n / 128 / 128)
            rw [List.length_cons] at h2
            omega

theorem uv_mono : ∀ (b a : Nat), a ≤ b → (uv a).length ≤ (uv b).length := by
  intro b
  induction b using Nat.strongRecOn with
  | _ b ih =>
    intro a h
    by_cases ha : a < 128
    · rw [uv_lt ha]; exact uv_pos b
    · rw [uv_ge (by omega : 128 ≤ a), uv_ge (by omega : 128 ≤ b)]
      have := ih (b / 128) (by omega) (a / 128) (by omega)
      simpa using this

/-- A number's bytes, whatever stands behind them: where they end, and that Take takes them. -/
theorem uv_end {n : Nat} {Z : Nat → Nat} {len : Nat} (hZ : Begins Z (uv n)) (hl : (uv n).length ≤ len) : IsEnd Z len ((uv n).length - 1) := by
  obtain ⟨h1, h2, _⟩ := uv_read n Z hZ
  have := uv_pos n
  exact ⟨by omega, fun j hj => h1 j (by omega), fun _ => h2⟩
theorem uv_val {n : Nat} {Z : Nat → Nat} (hZ : Begins Z (uv n)) : val Z ((uv n).length - 1 + 1) = n := by
  have := uv_pos n
  rw [show (uv n).length - 1 + 1 = (uv n).length by omega, val_eq_tv]
  exact (uv_read n Z hZ).2.2.1
theorem uv_good {n : Nat} {Z : Nat → Nat} (hn : n < 18446744073709551616) (hZ : Begins Z (uv n)) : good Z ((uv n).length - 1) := by
  obtain ⟨h1, h2, h3, h4⟩ := uv_read n Z hZ
  have hp := uv_pos n
  have h10 := uv_len64 hn
  refine ⟨fun ⟨q1, q2⟩ => h4 (by omega) q2, ?_⟩
  by_cases q : (uv n).length - 1 < 9
  · exact .inl q
  · have e : (uv n).length = 10 := by omega
    refine .inr ⟨by omega, ?_⟩
    rw [e] at h3 h2
    have h5 := val_eq_tv Z 10
    rw [h3] at h5
    have h6 : val Z 10 = val Z 9 + Z 9 % 128 * 128 ^ 9 := rfl
    have h7 : (128 : Nat) ^ 9 = 9223372036854775808 := by decide
    rw [h7] at h6
    have h8 : Z 9 < 128 := h2
    rcases Nat.lt_or_ge 1 (Z 9) with g | g
    · have : 2 * 9223372036854775808 ≤ Z 9 % 128 * 9223372036854775808 := Nat.mul_le_mul_right _ (by omega)
      omega
    · exact g

theorem takeV_uv {n : Nat} {Z : Nat → Nat} {len : Nat} (hn : n < 18446744073709551616) (hZ : Begins Z (uv n)) (hl : (uv n).length ≤ len) : takeV Z len ((uv n).length - 1) = .tuple #[.int .u64 (n : Int), .int .i64 ((uv n).length : Int), .int .i64 0] := by
  have hp := uv_pos n
  unfold takeV
  rw [if_pos (by omega), if_pos (uv_good hn hZ), uv_val hZ]
  congr 5
  omega
/-- Cut off it is short. -/
theorem takeV_cut {n : Nat} {Z : Nat → Nat} {k : Nat} (hZ : Begins Z (uv n)) (hk : k < (uv n).length) : IsEnd Z k k ∧ takeV Z k k = .tuple #[.int .u64 0, .int .i64 0, .int .i64 5] := by
  obtain ⟨h1, _⟩ := uv_read n Z hZ
  exact ⟨⟨Nat.le_refl _, fun j hj => h1 j (by omega), fun h => absurd h (by omega)⟩, by unfold takeV; rw [if_neg (by omega)]⟩

theorem begins_xof {xs ys : List Int} (h : Okb (xs ++ ys)) : Begins (xof (xs ++ ys)) xs := fun k hk => by
  have hk' : k < (xs ++ ys).length := by simp; omega
  have := h (xs ++ ys)[k] (List.getElem_mem hk')
  have e : (xs ++ ys)[k] = xs[k] := List.getElem_append_left hk
  simp only [xof, List.getD_eq_getElem?_getD, List.getElem?_eq_getElem hk', List.getElem?_eq_getElem hk, Option.getD_some]
  rw [e] at this ⊢
  omega
theorem begins_xof' {xs : List Int} (h : Okb xs) : Begins (xof xs) xs := by
  have := begins_xof (xs := xs) (ys := []) (by simpa using h)
  simpa using this

/-- The number of a set size's bytes. -/
theorem fv_fx (n : Nat) : ∀ (s : Nat) (Z : Nat → Nat) (acc i : Nat), (∀ k, k < s → (Z (i + k) : Int) = (fx n s).getD k 0) → fv Z i = acc → fv Z (i + s) = acc * 256 ^ s + n % 256 ^ s
  | 0, Z, acc, i, _, h => by simp [h]; omega
  | s + 1, Z, acc, i, hZ, h => by
    have h0 := hZ 0 (by omega)
    simp only [fx, Nat.add_zero, List.getD_cons_zero] at h0
    have h1 : fv Z (i + 1) = acc * 256 + n / 256 ^ s % 256 := by simp only [fv, h]; omega
    have := fv_fx n s Z _ (i + 1) (fun k hk => by have := hZ (k + 1) (by omega); simpa [fx, Nat.add_assoc, Nat.add_comm 1 k] using this) h1
    rw [show i + (s + 1) = i + 1 + s by omega, this, Nat.add_mul, Nat.pow_succ, Nat.mul_assoc, Nat.mul_comm 256]
    have e := Nat.mod_mul (x := n) (a := 256 ^ s) (b := 256)
    rw [Nat.mul_comm (n / 256 ^ s % 256)]
    omega
end Go.Proofs.Ytfecopldepnicaa

/- What the document's own Take answers. -/
namespace Go.Proofs.Ytfecopldepnicaa
open Go.RowKit

theorem good' {X : Nat → Nat} {E : Nat} : good X E ↔ ¬ (0 < E ∧ X E = 0) ∧ (E < 9 ∨ E = 9 ∧ X E ≤ 1) := by
  unfold good
  constructor
  · rintro ⟨h1, h2 | ⟨rfl, h2⟩⟩
    · exact ⟨h1, .inl h2⟩
    · exact ⟨h1, .inr ⟨rfl, h2⟩⟩
  · rintro ⟨h1, h2 | ⟨rfl, h2⟩⟩
    · exact ⟨h1, .inl h2⟩
    · exact ⟨h1, .inr ⟨rfl, h2⟩⟩

end Go.Proofs.Ytfecopldepnicaa
