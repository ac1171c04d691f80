/- Numbers of a set size, the highest byte first: what Read and Fixed answer, and the document's own. -/
import Derived.Test.YtifgojkmdicdmaaFresh
import Derived.Test.YtifgojkmdicdmaaBwide
namespace Go.Proofs.Ytifgojkmdicdmaa
open Go.RowKit

/-- The number of the first k bytes, the highest first. -/
def fv (X : Nat → Nat) : Nat → Nat
  | 0 => 0
  | k + 1 => fv X k * 256 + X k
theorem fv_lt (X : Nat → Nat) : ∀ k, (∀ j, j < k → X j < 256) → fv X k < 256 ^ k
  | 0, _ => by simp [fv]
  | k + 1, h => by
    have h1 := fv_lt X k fun j hj => h j (by omega)
    have h2 := h k (by omega)
    simp only [fv, Nat.pow_succ]
    omega
/-- The lowest s bytes of n, the highest first. -/
def fx (n : Nat) : Nat → List Int
  | 0 => []
  | s + 1 => ((n / 256 ^ s % 256 : Nat) : Int) :: fx n s
theorem fx_length (n : Nat) : ∀ s, (fx n s).length = s
  | 0 => rfl
  | s + 1 => by simp [fx, fx_length n s]
theorem okb_fx (n : Nat) : ∀ s, Okb (fx n s)
  | 0 => fun x hx => by cases hx
  | s + 1 => fun x hx => by
    rcases List.mem_cons.1 hx with rfl | hx
    · omega
    · exact okb_fx n s x hx
def InSize (size : Int) : Prop := 1 ≤ size ∧ size ≤ 8
instance (size : Int) : Decidable (InSize size) := by unfold InSize; infer_instance
def fxs (n : Nat) (size : Int) : List Int := if InSize size then fx n size.toNat else []
theorem okb_fxs (n : Nat) (size : Int) : Okb (fxs n size) := by
  unfold fxs
  split
  · exact okb_fx _ _
  · intro x hx; cases hx
theorem fxs_length (n : Nat) (size : Int) : (fxs n size).length ≤ 8 := by
  unfold fxs
  split
  · rename_i h; rw [fx_length]; unfold InSize at h; omega
  · simp
def readV (X : Nat → Nat) (len : Nat) (size : Int) : Value :=
  if InSize size then (if (len : Int) < size then .tuple #[.int .u64 0, .int .i64 5] else .tuple #[.int .u64 (fv X size.toNat : Nat), .int .i64 0]) else .tuple #[.int .u64 0, .int .i64 1]

theorem fv_step (X : Nat → Nat) (k : Nat) (hk : k < 8) (hX : ∀ j, j < k + 1 → X j < 256) :
    bits .or .u64 (IntKind.u64.wrap ((fv X k : Nat) * 256)) ((X k : Nat) : Int) = ((fv X (k + 1) : Nat) : Int) := by
  have h1 := fv_lt X k fun j hj => hX j (by omega)
  have h2 : 256 ^ k ≤ 256 ^ 7 := Nat.pow_le_pow_right (by decide) (by omega)
  have h3 : (256 : Nat) ^ 7 = 72057594037927936 := by decide
  have h4 := hX k (by omega)
  have e : ((fv X k : Nat) : Int) * 256 = ((fv X k * 2 ^ 8 : Nat) : Int) := by omega
  rw [e, wrapU64_of (by omega), or_high (by omega) (by omega)]
  rfl

theorem goodSize_any (size : Int) (w : World) : Calls Try.prog 60 #[.int .i64 size] w fun e w' => e = .returned (.bool (decide (InSize size))) ∧ w' = w := by
  go_enter Try.func60, Try.ntmps60
  go_wp2
  all_goals
    go_ret
    refine ⟨congrArg (fun b => Ending.returned (.bool b)) ?_, rfl⟩
    first
      | exact decide_eq_decide.2 (by unfold InSize; omega)
      | exact (decide_eq_false (by unfold InSize; omega)).symm

set_option maxHeartbeats 1000000 in
set_option maxRecDepth 100000 in
theorem read_any (ao : Option Addr) (len cap : Nat) (X : Nat → Nat) (size : Int) (w : World) (hb : Byt w ao len X) (hl : len ≤ cap) :
    Calls Try.prog 50 #[.slice ao len cap, .int .i64 size] w fun e w' => e = .returned (readV X len size) ∧ w' = w := by
  have hgs := goodSize_any size w
  have HB : Hid (Byt w ao len X) := hb
  clear hb
  unfold readV
  by_cases hs : InSize size
  · have hs' : decide (InSize size) = true := decide_eq_true hs
    rw [hs'] at hgs
    simp only [hs, if_true]
    unfold InSize at hs
    clear hs'
    obtain ⟨s, rfl⟩ := Int.eq_ofNat_of_zero_le (by omega : 0 ≤ size)
    have q1 : (1 : Int) ≤ (s : Int) := by omega
    have q2 : (s : Int) ≤ 8 := by omega
    by_cases h1 : (len : Int) < (s : Int)
    · simp only [h1, if_true]
      go_enter Try.func50, Try.ntmps50
      go_wp2_with (go_at_call 60; refine hgs.mono ?_; rintro e w' ⟨rfl, rfl⟩)
      exact bodyPost_ret (v := .tuple #[.int .u64 0, .int .i64 5]) (by simp [results, Try.results50, go_sem]) rfl ⟨rfl, rfl⟩
    · simp only [h1, if_false, Int.toNat_natCast]
      have h1' : (s : Int) ≤ (len : Int) := by omega
      have hsc : (s : Int) ≤ (cap : Int) := by omega
      clear h1
      go_enter Try.func50, Try.ntmps50
      go_wp2_with (go_at_call 60; refine hgs.mono ?_; rintro e w' ⟨rfl, rfl⟩)
      clear hgs
      go_loopg [6, 20] s (fun g n i wr => ∃ (k : Nat), k + g = s ∧ n = .int .u64 ((fv X k : Nat) : Int) ∧ i = .int .i64 (k : Int) ∧ wr = w')
      case atStart => exact ⟨0, by omega, rfl, rfl, rfl⟩
      case round =>
        obtain ⟨k, hk, rfl, rfl, hw⟩ := hrel
        obtain rfl := hw
        by_cases h : k < s
        · obtain ⟨hx, b, off, rfl, hcell⟩ := HB.out k (by omega)
          have h' : (k : Int) < (s : Int) := by omega
          have hst := fv_step X k (by omega) (fun j hj => (HB.out j (by omega)).1)
          obtain ⟨GK, HG⟩ : ∃ g, Hid (g < gk ∧ k + 1 + g = s) := ⟨gk - 1, by omega, by omega⟩
          have HST : Hid (bits .or .u64 (IntKind.u64.wrap ((fv X k : Nat) * 256)) ((X k : Nat) : Int) = ((fv X (k + 1) : Nat) : Int)) := hst
          clear hk hst
          go_wp2
          go_roundg GK
          case measure => exact HG.out.1
          case rel => exact ⟨k + 1, HG.out.2, by rw [← HST.out], by go_num, rfl⟩
        · have h' : (s : Int) ≤ (k : Int) := by omega
          obtain rfl : k = s := by omega
          clear hk HB h
          go_wp2
          exact bodyPost_ret (v := .tuple #[.int .u64 (fv X k : Nat), .int .i64 0]) (by simp [results, Try.results50, go_sem]) rfl ⟨rfl, rfl⟩
  · have hs' : decide (InSize size) = false := decide_eq_false hs
    rw [hs'] at hgs
    simp only [hs, if_false]
    clear hs hs'
    go_enter Try.func50, Try.ntmps50
    go_wp2_with (go_at_call 60; refine hgs.mono ?_; rintro e w' ⟨rfl, rfl⟩)
    exact bodyPost_ret (v := .tuple #[.int .u64 0, .int .i64 1]) (by simp [results, Try.results50, go_sem]) rfl ⟨rfl, rfl⟩

set_option maxHeartbeats 1000000 in
set_option maxRecDepth 100000 in
theorem rread_any (ao : Option Addr) (len cap : Nat) (X : Nat → Nat) (size : Int) (w : World) (hb : Byt w ao len X) (hl : len ≤ cap) :
    Calls Try.prog 35 #[.slice ao len cap, .int .i64 size] w fun e w' => e = .returned (readV X len size) ∧ w' = w := by
  have HB : Hid (Byt w ao len X) := hb
  clear hb
  unfold readV
  by_cases hs : InSize size
  · have hs' : decide (InSize size) = true := decide_eq_true hs
    simp only [hs, if_true]
    unfold InSize at hs
    clear hs'
    obtain ⟨s, rfl⟩ := Int.eq_ofNat_of_zero_le (by omega : 0 ≤ size)
    have q1 : (1 : Int) ≤ (s : Int) := by omega
    have q2 : (s : Int) ≤ 8 := by omega
    by_cases h1 : (len : Int) < (s : Int)
    · simp only [h1, if_true]
      go_enter Try.func35, Try.ntmps35
      go_wp2
      exact bodyPost_ret (v := .tuple #[.int .u64 0, .int .i64 5]) (by simp [results, Try.results35, go_sem]) rfl ⟨rfl, rfl⟩
    · simp only [h1, if_false, Int.toNat_natCast]
      have h1' : (s : Int) ≤ (len : Int) := by omega
      have hsc : (s : Int) ≤ (cap : Int) := by omega
      clear h1
      go_enter Try.func35, Try.ntmps35
      go_wp2
      go_loopg [6, 23] s (fun g n i wr => ∃ (k : Nat), k + g = s ∧ n = .int .u64 ((fv X k : Nat) : Int) ∧ i = .int .i64 (k : Int) ∧ wr = w)
      case atStart => exact ⟨0, by omega, rfl, rfl, rfl⟩
      case round =>
        obtain ⟨k, hk, rfl, rfl, hw⟩ := hrel
        obtain rfl := hw
        by_cases h : k < s
        · obtain ⟨hx, b, off, rfl, hcell⟩ := HB.out k (by omega)
          have h' : (k : Int) < (s : Int) := by omega
          have hst := fv_step X k (by omega) (fun j hj => (HB.out j (by omega)).1)
          obtain ⟨GK, HG⟩ : ∃ g, Hid (g < gk ∧ k + 1 + g = s) := ⟨gk - 1, by omega, by omega⟩
          have HST : Hid (bits .or .u64 (IntKind.u64.wrap ((fv X k : Nat) * 256)) ((X k : Nat) : Int) = ((fv X (k + 1) : Nat) : Int)) := hst
          clear hk hst
          go_wp2
          go_roundg GK
          case measure => exact HG.out.1
          case rel => exact ⟨k + 1, HG.out.2, by rw [← HST.out], by go_num, rfl⟩
        · have h' : (s : Int) ≤ (k : Int) := by omega
          obtain rfl : k = s := by omega
          clear hk HB h
          go_wp2
          exact bodyPost_ret (v := .tuple #[.int .u64 (fv X k : Nat), .int .i64 0]) (by simp [results, Try.results35, go_sem]) rfl ⟨rfl, rfl⟩
  · simp only [hs, if_false]
    unfold InSize at hs
    by_cases h1 : size < 1
    · clear hs
      go_enter Try.func35, Try.ntmps35
      go_wp2
      exact bodyPost_ret (v := .tuple #[.int .u64 0, .int .i64 1]) (by simp [results, Try.results35, go_sem]) rfl ⟨rfl, rfl⟩
    · have h2 : (8 : Int) < size := by omega
      have h3 : (1 : Int) ≤ size := by omega
      clear hs h1
      go_enter Try.func35, Try.ntmps35
      go_wp2
      exact bodyPost_ret (v := .tuple #[.int .u64 0, .int .i64 1]) (by simp [results, Try.results35, go_sem]) rfl ⟨rfl, rfl⟩

/-- One byte of a number of a set size. -/
theorem fx_byte (n j : Nat) : IntKind.u8.wrap ((n : Int) / 2 ^ (8 * j)) = ((n / 256 ^ j % 256 : Nat) : Int) := by
  have e : (n : Int) / 2 ^ (8 * j) = ((n / 256 ^ j : Nat) : Int) := by
    rw [show (256 : Nat) = 2 ^ 8 from rfl, ← Nat.pow_mul]
    push_cast
    rfl
  rw [e, wrapU8_nat]

set_option maxHeartbeats 1000000 in
set_option maxRecDepth 100000 in
theorem rfixed_any (B : Nat) (v : Value) (xs : List Int) (n : Nat) (size : Int) (w : World) (hrow : Row B w v xs) (hB : B ≤ w.heap.size) (hb : xs.length + 8 ≤ 175921860444160) :
    Calls Try.prog 27 #[v, .int .u64 (n : Int), .int .i64 size] w fun e w' => ∃ v', e = .returned v' ∧ Row B w' v' (xs ++ fxs n size) ∧ w.grownBy w' v.ownBlock ∧ Moved w v v' := by
  have HR : Hid (Row B w v xs) := hrow
  have HB : Hid (B ≤ w.heap.size ∧ xs.length + 8 ≤ 175921860444160) := ⟨hB, hb⟩
  clear hb hB hrow
  unfold fxs
  by_cases hs : InSize size
  · simp only [hs, if_true]
    unfold InSize at hs
    obtain ⟨s, rfl⟩ := Int.eq_ofNat_of_zero_le (by omega : 0 ≤ size)
    simp only [Int.toNat_natCast]
    have q1 : (1 : Int) ≤ (s : Int) := by omega
    have q2 : (s : Int) ≤ 8 := by omega
    clear hs
    go_enter Try.func27, Try.ntmps27
    go_wp2
    go_loopg [0, 7] s (fun g b i wr => ∃ (ys : List Int), Row B wr b ys ∧ ys ++ fx n g = xs ++ fx n s ∧ g ≤ s ∧ i = .int .i64 ((g : Int) - 1) ∧ w.grownBy wr v.ownBlock ∧ Moved w v b)
    case atStart => exact ⟨xs, HR.out, rfl, Nat.le_refl _, by go_num, grow_refl _ _, Moved.refl _ _⟩
    case round =>
      obtain ⟨ys, hrow, hys, hgs, rfl, hgr, hmv⟩ := hrel
      have HM : Hid (Row B wr u0 ys ∧ ys ++ fx n gk = xs ++ fx n s ∧ gk ≤ s ∧ w.grownBy wr v.ownBlock ∧ Moved w v u0) := ⟨hrow, hys, hgs, hgr, hmv⟩
      clear hrow hys hgs hgr hmv
      by_cases h : gk = 0
      · obtain rfl := h
        go_wp2
        have h1 := HM.out
        simp only [fx, List.append_nil] at h1
        exact bodyPost_ret (v := u0) (by simp [results, Try.results27, go_sem]) rfl ⟨u0, rfl, by rw [← h1.2.1]; exact h1.1, h1.2.2.2.1, h1.2.2.2.2⟩
      · obtain ⟨j, rfl⟩ : ∃ j, gk = j + 1 := ⟨gk - 1, by omega⟩
        have hbase : Hid (B ≤ wr.heap.size + 1) := by show B ≤ wr.heap.size + 1; have := HM.out.2.2.2.1.size; have := HB.out; omega
        have hys : Hid (ys.length + 1 ≤ 175921860444160) := by
          show ys.length + 1 ≤ 175921860444160
          have h1 := congrArg List.length HM.out.2.1
          simp only [List.length_append, fx_length] at h1
          have := HB.out
          omega
        obtain ⟨c, HC⟩ : ∃ c : Nat, Hid (c = n / 256 ^ j % 256) := ⟨_, rfl⟩
        have hj8 : (j : Int) < 8 := by have := HM.out.2.2.1; omega
        have ej : ((j + 1 : Nat) : Int) - 1 = (j : Int) := by omega
        have hw8 : ((n : Int) / 2 ^ (8 * j)) % 256 = (c : Int) := by rw [HC.out, ← IntKind.wrap_u8]; exact fx_byte n j
        rw [ej]
        clear h ej
        go_wp2_with (at_builtin; refine wpList_appW rfl (.tmp 21) (.tmp 28) rfl B u0 ys rfl (HM.out.1.alloc _) (some ⟨wr.heap.size, 0, none⟩) 1 1 (fun _ => c) rfl (fun e => by cases e) (byt_one wr c (by have := HC.out; omega)) hys.out (by simpa using hbase.out) ?_; intro v1 w1 hr1 hg1 hm1)
        have hst := app_step HM.out.2.2.2.1 HM.out.2.2.2.2 hg1 hm1
        go_roundg j
        case measure => omega
        case rel =>
          refine ⟨ys ++ bs (fun _ => c) 1, hr1, ?_, by have := HM.out.2.2.1; omega, by go_num, hst.1, hst.2⟩
          rw [← HM.out.2.1]
          simp [bs, HC.out, fx]
  · simp only [hs, if_false, List.append_nil]
    unfold InSize at hs
    by_cases h1 : size < 1
    · clear hs
      go_enter Try.func27, Try.ntmps27
      go_wp2
      exact bodyPost_ret (v := v) (by simp [results, Try.results27, go_sem]) rfl ⟨v, rfl, HR.out, grow_refl _ _, Moved.refl _ _⟩
    · have h2 : (8 : Int) < size := by omega
      have h3 : (1 : Int) ≤ size := by omega
      clear hs h1
      go_enter Try.func27, Try.ntmps27
      go_wp2
      exact bodyPost_ret (v := v) (by simp [results, Try.results27, go_sem]) rfl ⟨v, rfl, HR.out, grow_refl _ _, Moved.refl _ _⟩

set_option maxHeartbeats 1000000 in
set_option maxRecDepth 100000 in
theorem fixed_any (ao : Option Addr) (len cap n : Nat) (X : Nat → Nat) (size : Int) (w : World) (hb : Byt w ao len X) (hnil : ao = none → len = 0 ∧ cap = 0) (hl : len ≤ 140737488351232) :
    Calls Try.prog 44 #[.slice ao len cap, .int .u64 (n : Int), .int .i64 size] w fun e w' => ∃ v', e = .returned v' ∧ Row w.heap.size w' v' (bs X len ++ fxs n size) ∧ Below w.heap.size w w' := by
  have hgs := goodSize_any size w
  unfold fxs
  by_cases hs : InSize size
  · have hs' : decide (InSize size) = true := decide_eq_true hs
    rw [hs'] at hgs
    simp only [hs, if_true]
    unfold InSize at hs
    clear hs'
    obtain ⟨s, rfl⟩ := Int.eq_ofNat_of_zero_le (by omega : 0 ≤ size)
    simp only [Int.toNat_natCast]
    have q1 : (1 : Int) ≤ (s : Int) := by omega
    have q2 : (s : Int) ≤ 8 := by omega
    have hf := fresh_any ao len cap s X w hb hnil (by omega) (by omega)
    have HL : Hid (len ≤ 140737488351232) := hl
    clear hs hb hnil hl
    go_enter Try.func44, Try.ntmps44
    go_wp2_with (first | (go_at_call 60; refine hgs.mono ?_; rintro e w ⟨rfl, rfl⟩) | (go_at_call 61; refine hf.mono ?_; rintro e w2 ⟨v2, rfl, hr2, hb2⟩))
    have HR : Hid (Row w.heap.size w2 v2 (bs X len) ∧ Below w.heap.size w w2) := ⟨hr2, hb2⟩
    clear hgs hf hr2 hb2
    go_loopg [7, 8] s (fun g b i wr => ∃ (ys : List Int), Row w.heap.size wr b ys ∧ ys ++ fx n g = bs X len ++ fx n s ∧ g ≤ s ∧ i = .int .i64 ((g : Int) - 1) ∧ Below w.heap.size w wr)
    case atStart => exact ⟨_, HR.out.1, rfl, Nat.le_refl _, by go_num, HR.out.2⟩
    case round =>
      obtain ⟨ys, hrow, hys, hgs, rfl, hbel⟩ := hrel
      have HM : Hid (Row w.heap.size wr u7 ys ∧ ys ++ fx n gk = bs X len ++ fx n s ∧ gk ≤ s ∧ Below w.heap.size w wr) := ⟨hrow, hys, hgs, hbel⟩
      clear hrow hys hgs hbel
      by_cases h : gk = 0
      · obtain rfl := h
        go_wp2
        have h1 := HM.out
        simp only [fx, List.append_nil] at h1
        exact bodyPost_ret (v := u7) (by simp [results, Try.results44, go_sem]) rfl ⟨u7, rfl, by rw [← h1.2.1]; exact h1.1, h1.2.2.2⟩
      · obtain ⟨j, rfl⟩ : ∃ j, gk = j + 1 := ⟨gk - 1, by omega⟩
        have hbase : Hid (w.heap.size ≤ wr.heap.size + 1) := by show w.heap.size ≤ wr.heap.size + 1; have := HM.out.2.2.2.size; omega
        have hys : Hid (ys.length + 1 ≤ 140737488355328) := by
          show ys.length + 1 ≤ 140737488355328
          have h1 := congrArg List.length HM.out.2.1
          simp only [List.length_append, fx_length, bs_length] at h1
          have := HL.out
          omega
        obtain ⟨c, HC⟩ : ∃ c : Nat, Hid (c = n / 256 ^ j % 256) := ⟨_, rfl⟩
        have hj8 : (j : Int) < 8 := by have := HM.out.2.2.1; omega
        have ej : ((j + 1 : Nat) : Int) - 1 = (j : Int) := by omega
        have hw8 : ((n : Int) / 2 ^ (8 * j)) % 256 = (c : Int) := by rw [HC.out, ← IntKind.wrap_u8]; exact fx_byte n j
        rw [ej]
        clear h ej
        go_wp2_with (at_builtin; refine wpList_app rfl (.tmp 23) (.tmp 29) rfl w.heap.size u7 ys rfl (HM.out.1.alloc _) (some ⟨wr.heap.size, 0, none⟩) 1 1 (fun _ => c) rfl (fun e => by cases e) (byt_one wr c (by have := HC.out; omega)) hys.out (by simpa using hbase.out) ?_; intro v1 w1 hr1 hg1 hm1)
        go_roundg j
        case measure => omega
        case rel =>
          refine ⟨ys ++ bs (fun _ => c) 1, hr1, ?_, by have := HM.out.2.2.1; omega, by go_num, ?_⟩
          · rw [← HM.out.2.1]
            simp [bs, HC.out, fx]
          · exact (HM.out.2.2.2.alloc HM.out.2.2.2.size _).trans (grown_below (HM.out.1.alloc _) hg1 (by simpa using hbase.out))
  · have hs' : decide (InSize size) = false := decide_eq_false hs
    rw [hs'] at hgs
    simp only [hs, if_false, List.append_nil]
    have hf := fresh_any ao len cap 0 X w hb hnil (by omega) (by omega)
    clear hs hs' hb hnil hl
    go_enter Try.func44, Try.ntmps44
    go_wp2_with (first | (go_at_call 60; refine hgs.mono ?_; rintro e w ⟨rfl, rfl⟩) | (go_at_call 61; refine hf.mono ?_; rintro e w2 ⟨v2, rfl, hr2, hb2⟩))
    exact bodyPost_ret (v := v2) (by simp [results, Try.results44, go_sem]) rfl ⟨v2, rfl, hr2, hb2⟩
end Go.Proofs.Ytifgojkmdicdmaa
