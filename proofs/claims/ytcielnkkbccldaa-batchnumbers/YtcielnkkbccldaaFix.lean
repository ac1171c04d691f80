/- Numbers of a set size, the highest byte first: what Read and Fixed answer, and the document's own. -/
import Derived.Test.YtcielnkkbccldaaFresh
import Derived.Test.YtcielnkkbccldaaBwide
namespace Go.Proofs.Ytcielnkkbccldaa
open Go.RowKit

/-- The number of the first k bytes, the highest first. -/
def fv (X : Nat → Nat) : Nat → Nat
  | 0 => 0
  | k + 1 => fv X k * 256 + X k
theorem fv_lt (X : Nat → Nat) : ∀ k, (∀ j, j < k → X j < 256) → fv X k < 256 ^ k
  | 0, _ => by simp [fv]
  | k + 1, h => by
    have h1 := fv_lt X k fun j hj => h j (by omega)
    have h2 := h k (by omega)
    simp only [fv, Nat.pow_succ]
    omega
/-- The lowest s bytes of n, the highest first. -/
def fx (n : Nat) : Nat → List Int
  | 0 => []
  | s + 1 => ((n / 256 ^ s % 256 : Nat) : Int) :: fx n s
theorem fx_length (n : Nat) : ∀ s, (fx n s).length = s
  | 0 => rfl
  | s + 1 => by simp [fx, fx_length n s]
theorem okb_fx (n : Nat) : ∀ s, Okb (fx n s)
  | 0 => fun x hx => by cases hx
  | s + 1 => fun x hx => by
    rcases List.mem_cons.1 hx with rfl | hx
    · omega
    · exact okb_fx n s x hx
def InSize (size : Int) : Prop := 1 ≤ size ∧ size ≤ 8
instance (size : Int) : Decidable (InSize size) := by unfold InSize; infer_instance
def fxs (n : Nat) (size : Int) : List Int := if InSize size then fx n size.toNat else []
theorem okb_fxs (n : Nat) (size : Int) : Okb (fxs n size) := by
  unfold fxs
  split
  · exact okb_fx _ _
  · intro x hx; cases hx
theorem fxs_length (n : Nat) (size : Int) : (fxs n size).length ≤ 8 := by
  unfold fxs
  split
  · rename_i h; rw [fx_length]; unfold InSize at h; omega
  · simp
def readV (X : Nat → Nat) (len : Nat) (size : Int) : Value :=
  if InSize size then (if (len : Int) < size then .tuple #[.int .u64 0, .int .i64 5] else .tuple #[.int .u64 (fv X size.toNat : Nat), .int .i64 0]) else .tuple #[.int .u64 0, .int .i64 1]

theorem fv_step (X : Nat → Nat) (k : Nat) (hk : k < 8) (hX : ∀ j, j < k + 1 → X j < 256) :
    bits .or .u64 (IntKind.u64.wrap ((fv X k : Nat) * 256)) ((X k : Nat) : Int) = ((fv X (k + 1) : Nat) : Int) := by
  have h1 := fv_lt X k fun j hj => hX j (by omega)
  have h2 : 256 ^ k ≤ 256 ^ 7 := Nat.pow_le_pow_right (by decide) (by omega)
  have h3 : (256 : Nat) ^ 7 = 72057594037927936 := by decide
  have h4 := hX k (by omega)
  have e : ((fv X k : Nat) : Int) * 256 = ((fv X k * 2 ^ 8 : Nat) : Int) := by omega
  rw [e, wrapU64_of (by omega), or_high (by omega) (by omega)]
  rfl

theorem goodSize_any (size : Int) (w : World) : Calls Try.prog 48 #[.int .i64 size] w fun e w' => e = .returned (.bool (decide (InSize size))) ∧ w' = w := by
  go_enter Try.func48, Try.ntmps48
  go_wp2
  all_goals
    go_ret
    refine ⟨congrArg (fun b => Ending.returned (.bool b)) ?_, rfl⟩
    first
      | exact decide_eq_decide.2 (by unfold InSize; omega)
      | exact (decide_eq_false (by unfold InSize; omega)).symm

set_option maxHeartbeats 1000000 in
set_option maxRecDepth 100000 in
theorem read_any (ao : Option Addr) (len cap : Nat) (X : Nat → Nat) (size : Int) (w : World) (hb : Byt w ao len X) (hl : len ≤ cap) :
    Calls Try.prog 46 #[.slice ao len cap, .int .i64 size] w fun e w' => e = .returned (readV X len size) ∧ w' = w := by
  have hgs := goodSize_any size w
  have HB : Hid (Byt w ao len X) := hb
  clear hb
  unfold readV
  by_cases hs : InSize size
  · have hs' : decide (InSize size) = true := decide_eq_true hs
    rw [hs'] at hgs
    simp only [hs, if_true]
    unfold InSize at hs
    clear hs'
    obtain ⟨s, rfl⟩ := Int.eq_ofNat_of_zero_le (by omega : 0 ≤ size)
    have q1 : (1 : Int) ≤ (s : Int) := by omega
    have q2 : (s : Int) ≤ 8 := by omega
    by_cases h1 : (len : Int) < (s : Int)
    · simp only [h1, if_true]
      go_enter Try.func46, Try.ntmps46
      go_wp2_with (go_at_call 48; refine hgs.mono ?_; rintro e w' ⟨rfl, rfl⟩)
      exact bodyPost_ret (v := .tuple #[.int .u64 0, .int .i64 5]) (by simp [results, Try.results46, go_sem]) rfl ⟨rfl, rfl⟩
    · simp only [h1, if_false, Int.toNat_natCast]
      have h1' : (s : Int) ≤ (len : Int) := by omega
      have hsc : (s : Int) ≤ (cap : Int) := by omega
      clear h1
      go_enter Try.func46, Try.ntmps46
      go_wp2_with (go_at_call 48; refine hgs.mono ?_; rintro e w' ⟨rfl, rfl⟩)
      clear hgs
      go_loopg [6, 20] s (fun g n i wr => ∃ (k : Nat), k + g = s ∧ n = .int .u64 ((fv X k : Nat) : Int) ∧ i = .int .i64 (k : Int) ∧ wr = w')
      case atStart => exact ⟨0, by omega, rfl, rfl, rfl⟩
      case round =>
        obtain ⟨k, hk, rfl, rfl, hw⟩ := hrel
        obtain rfl := hw
        by_cases h : k < s
        · obtain ⟨hx, b, off, rfl, hcell⟩ := HB.out k (by omega)
          have h' : (k : Int) < (s : Int) := by omega
          have hst := fv_step X k (by omega) (fun j hj => (HB.out j (by omega)).1)
          obtain ⟨GK, HG⟩ : ∃ g, Hid (g < gk ∧ k + 1 + g = s) := ⟨gk - 1, by omega, by omega⟩
          have HST : Hid (bits .or .u64 (IntKind.u64.wrap ((fv X k : Nat) * 256)) ((X k : Nat) : Int) = ((fv X (k + 1) : Nat) : Int)) := hst
          clear hk hst
          go_wp2
          go_roundg GK
          case measure => exact HG.out.1
          case rel => exact ⟨k + 1, HG.out.2, by rw [← HST.out], by go_num, rfl⟩
        · have h' : (s : Int) ≤ (k : Int) := by omega
          obtain rfl : k = s := by omega
          clear hk HB h
          go_wp2
          exact bodyPost_ret (v := .tuple #[.int .u64 (fv X k : Nat), .int .i64 0]) (by simp [results, Try.results46, go_sem]) rfl ⟨rfl, rfl⟩
  · have hs' : decide (InSize size) = false := decide_eq_false hs
    rw [hs'] at hgs
    simp only [hs, if_false]
    clear hs hs'
    go_enter Try.func46, Try.ntmps46
    go_wp2_with (go_at_call 48; refine hgs.mono ?_; rintro e w' ⟨rfl, rfl⟩)
    exact bodyPost_ret (v := .tuple #[.int .u64 0, .int .i64 1]) (by simp [results, Try.results46, go_sem]) rfl ⟨rfl, rfl⟩

/-- One byte of a number of a set size. -/
theorem fx_byte (n j : Nat) : IntKind.u8.wrap ((n : Int) / 2 ^ (8 * j)) = ((n / 256 ^ j % 256 : Nat) : Int) := by
  have e : (n : Int) / 2 ^ (8 * j) = ((n / 256 ^ j : Nat) : Int) := by
    rw [show (256 : Nat) = 2 ^ 8 from rfl, ← Nat.pow_mul]
    push_cast
    rfl
  rw [e, wrapU8_nat]

end Go.Proofs.Ytcielnkkbccldaa
