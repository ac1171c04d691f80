import Derived.WalkKit
import Derived.Test.YtnoackenjfpcmaaPk04
import Derived.Test.YtnoackenjfpcmaaPk05
import Derived.Test.YtnoackenjfpcmaaPk07
/- Sums of bytes, on natural numbers: one step, a byte, a row; that they are linear and lose nothing; what one to four bytes that differ do. -/
namespace Go.Proofs.Ytnoackenjfpcmaa
set_option linter.unusedVariables false

def poly : Nat := 2197175160
/-- One of the eight steps. -/
def stp (s : Nat) : Nat := if s % 2 = 1 then (s / 2) ^^^ poly else s / 2
def stps : Nat → Nat → Nat
  | 0, s => s
  | n + 1, s => stps n (stp s)
def upd8 (s b : Nat) : Nat := stps 8 (s ^^^ b)
/-- What a row of bytes makes of a state. -/
def crcs (s : Nat) (l : List Nat) : Nat := l.foldl upd8 s
theorem crcs_nil (s : Nat) : crcs s [] = s := List.foldl_nil
theorem crcs_cons (s b : Nat) (l : List Nat) : crcs s (b :: l) = crcs (upd8 s b) l := List.foldl_cons

theorem xor_mod2 (a b : Nat) : (a ^^^ b) % 2 = (a % 2 + b % 2) % 2 := by
  have h := Nat.xor_mod_two_pow (a := a) (b := b) (n := 1)
  rw [show (2 : Nat) ^ 1 = 2 from rfl] at h
  rcases Nat.mod_two_eq_zero_or_one a with ha | ha <;> rcases Nat.mod_two_eq_zero_or_one b with hb | hb <;> rw [h, ha, hb] <;> rfl
theorem xor_div2 (a b : Nat) : (a ^^^ b) / 2 = a / 2 ^^^ b / 2 := by
  have := Nat.shiftRight_xor_distrib (a := a) (b := b) (i := 1)
  simpa [Nat.shiftRight_eq_div_pow] using this
theorem xor_lt {a b : Nat} (n : Nat) (ha : a < 2 ^ n) (hb : b < 2 ^ n) : a ^^^ b < 2 ^ n := Nat.xor_lt_two_pow ha hb
theorem xor_lt32 {a b : Nat} (ha : a < 4294967296) (hb : b < 4294967296) : a ^^^ b < 4294967296 := xor_lt 32 ha hb

theorem stp_lt {s : Nat} (h : s < 4294967296) : stp s < 4294967296 := by
  unfold stp poly
  split
  · exact xor_lt32 (by omega) (by decide)
  · omega
theorem stps_lt : ∀ (n : Nat) {s : Nat}, s < 4294967296 → stps n s < 4294967296
  | 0, _, h => h
  | n + 1, _, h => stps_lt n (stp_lt h)
theorem upd8_lt {s b : Nat} (h : s < 4294967296) (hb : b < 256) : upd8 s b < 4294967296 := stps_lt 8 (xor_lt32 h (by omega))
theorem crcs_lt (l : List Nat) : ∀ {s : Nat}, s < 4294967296 → (∀ x ∈ l, x < 256) → crcs s l < 4294967296 := by
  induction l with
  | nil => intro s h _; rw [crcs_nil]; exact h
  | cons b l ih =>
    intro s h hl
    rw [crcs_cons]
    exact ih (upd8_lt h (hl b (by simp))) fun x hx => hl x (by simp [hx])
theorem crcs_append (l m : List Nat) (s : Nat) : crcs s (l ++ m) = crcs (crcs s l) m := List.foldl_append

/-- Linear. -/
theorem stp_xor (a b : Nat) : stp (a ^^^ b) = stp a ^^^ stp b := by
  unfold stp
  have hm := xor_mod2 a b
  rw [xor_div2]
  rcases Nat.mod_two_eq_zero_or_one a with ha | ha <;> rcases Nat.mod_two_eq_zero_or_one b with hb | hb <;> rw [ha, hb] at hm <;> simp only [hm, ha, hb]
  · simp
  · simp [Nat.xor_assoc]
  · simp only [if_true, show ¬ (0 : Nat) = 1 by decide, if_false]
    rw [Nat.xor_assoc, Nat.xor_comm (b / 2) poly, ← Nat.xor_assoc]
  · simp only [show ¬ ((1 + 1) % 2 = 1) by decide, if_false, if_true]
    rw [Nat.xor_assoc, ← Nat.xor_assoc poly, Nat.xor_comm poly, Nat.xor_assoc, Nat.xor_self, Nat.xor_zero]
theorem stps_xor : ∀ (n a b : Nat), stps n (a ^^^ b) = stps n a ^^^ stps n b
  | 0, _, _ => rfl
  | n + 1, a, b => by simp only [stps]; rw [stp_xor, stps_xor]
theorem stps_zero : ∀ n, stps n 0 = 0
  | 0 => rfl
  | n + 1 => by simp only [stps]; exact stps_zero n
/-- Nothing is lost. -/
theorem stp_eq_zero {s : Nat} (h : s < 4294967296) (e : stp s = 0) : s = 0 := by
  unfold stp at e
  split at e
  · have : s / 2 = poly := by
      have := congrArg (· ^^^ poly) e
      simpa [Nat.xor_assoc] using this
    unfold poly at this
    omega
  · omega
theorem stps_eq_zero (n : Nat) : ∀ {s : Nat}, s < 4294967296 → stps n s = 0 → s = 0 := by
  induction n with
  | zero => intro s _ e; exact e
  | succ n ih =>
    intro s h e
    simp only [stps] at e
    exact stp_eq_zero h (ih (stp_lt h) e)
theorem stps_add : ∀ (m n s : Nat), stps (m + n) s = stps n (stps m s)
  | 0, n, s => by rw [Nat.zero_add]; rfl
  | m + 1, n, s => by rw [show m + 1 + n = (m + n) + 1 by omega]; exact stps_add m n (stp s)

/-- Two rows and their difference. -/
theorem upd8_xor (s t a b : Nat) : upd8 (s ^^^ t) (a ^^^ b) = upd8 s a ^^^ upd8 t b := by
  unfold upd8
  rw [← stps_xor]
  congr 1
  rw [Nat.xor_assoc, ← Nat.xor_assoc t, Nat.xor_comm t a, Nat.xor_assoc a, ← Nat.xor_assoc]
theorem crcs_xor (l : List Nat) : ∀ (m : List Nat) (s t : Nat), l.length = m.length → crcs (s ^^^ t) (List.zipWith (· ^^^ ·) l m) = crcs s l ^^^ crcs t m := by
  induction l with
  | nil =>
    intro m s t h
    cases m with
    | nil => rw [List.zipWith_nil_left, crcs_nil, crcs_nil, crcs_nil]
    | cons b m => simp at h
  | cons a l ih =>
    intro m s t h
    cases m with
    | nil => simp at h
    | cons b m =>
      have h' : l.length = m.length := by simpa using h
      have e := ih m (upd8 s a) (upd8 t b) h'
      rw [← upd8_xor] at e
      rw [List.zipWith_cons_cons, crcs_cons, crcs_cons, crcs_cons]
      exact e
theorem crcs_zeros (n : Nat) : ∀ {s : Nat}, s < 4294967296 → (crcs s (List.replicate n 0) = 0 ↔ s = 0) := by
  induction n with
  | zero => intro s _; rw [List.replicate_zero, crcs_nil]
  | succ n ih =>
    intro s h
    have hs : upd8 s 0 < 4294967296 := upd8_lt h (Nat.zero_lt_succ 255)
    have e1 : crcs s (List.replicate (n + 1) 0) = crcs (upd8 s 0) (List.replicate n 0) := by rw [List.replicate_succ, crcs_cons]
    have e2 : upd8 s 0 = stps 8 s := by unfold upd8; rw [Nat.xor_zero]
    rw [e1, ih hs, e2]
    exact ⟨fun e => stps_eq_zero 8 h e, fun e => by rw [e]; exact stps_zero 8⟩
theorem zip_self (q : List Nat) : List.zipWith (· ^^^ ·) q q = List.replicate q.length 0 := by
  induction q with
  | nil => rfl
  | cons a q ih => simp only [List.zipWith, List.length_cons, List.replicate, Nat.xor_self, ih]

/-- What lies above the lowest eight bits comes down. -/
theorem stp_even (y : Nat) : stp (y * 2) = y := by
  unfold stp
  rw [if_neg (by omega)]
  omega
theorem stps_high : ∀ (n y : Nat), stps n (y * 2 ^ n) = y
  | 0, y => by simp [stps]
  | n + 1, y => by
    simp only [stps]
    rw [show y * 2 ^ (n + 1) = y * 2 ^ n * 2 by rw [Nat.pow_succ, Nat.mul_assoc], stp_even]
    exact stps_high n y
theorem upd8_word (s y : Nat) : stps 8 s ^^^ y = stps 8 (s ^^^ y * 256) := by
  rw [stps_xor, show y * 256 = y * 2 ^ 8 by rfl, stps_high]

theorem xor_add {a b : Nat} (n : Nat) (ha : a < 2 ^ n) : a ^^^ b * 2 ^ n = a + b * 2 ^ n := by
  have h1 : a ^^^ b * 2 ^ n = a ||| b * 2 ^ n := by
    apply Nat.eq_of_testBit_eq
    intro i
    simp only [Nat.testBit_xor, Nat.testBit_or, Nat.testBit_mul_two_pow]
    by_cases hi : i < n
    · simp [show ¬ n ≤ i by omega]
    · rw [Nat.testBit_lt_two_pow (Nat.lt_of_lt_of_le ha (Nat.pow_le_pow_right (by decide) (by omega)))]
      simp
  rw [h1, Nat.or_comm, Nat.mul_comm, ← Nat.two_pow_add_eq_or_of_lt ha, Nat.add_comm]

/-- A row of bytes as one word, the first lowest. -/
def word : List Nat → Nat
  | [] => 0
  | b :: l => b ^^^ word l * 256
theorem crcs_word : ∀ (l : List Nat) (s : Nat), crcs s l = stps (8 * l.length) (s ^^^ word l)
  | [], s => by rw [crcs_nil, word, Nat.xor_zero]; rfl
  | b :: l, s => by
    rw [crcs_cons, word, List.length_cons]
    rw [crcs_word l, upd8, upd8_word, show 8 * (l.length + 1) = 8 + 8 * l.length by omega, stps_add, Nat.xor_assoc]
theorem word_lt : ∀ (l : List Nat), (∀ x ∈ l, x < 256) → word l < 256 ^ l.length ∧ (word l = 0 ↔ ∀ x ∈ l, x = 0)
  | [], _ => by simp [word]
  | b :: l, h => by
    obtain ⟨h1, h2⟩ := word_lt l fun x hx => h x (by simp [hx])
    have hb := h b (by simp)
    have e : word (b :: l) = b + word l * 256 := xor_add 8 hb
    rw [e, List.length_cons, Nat.pow_succ]
    refine ⟨by omega, fun e0 x hx => ?_, fun h0 => ?_⟩
    · rcases List.mem_cons.1 hx with q | q
      · omega
      · exact h2.1 (by omega) x q
    · have := h0 b (by simp)
      have := h2.2 fun x hx => h0 x (by simp [hx])
      omega
/-- One to four bytes. -/
theorem crcs_tells (l : List Nat) (h4 : l.length ≤ 4) (h : ∀ x ∈ l, x < 256) : crcs 0 l = 0 ↔ ∀ x ∈ l, x = 0 := by
  obtain ⟨h1, h2⟩ := word_lt l h
  rw [crcs_word, Nat.zero_xor, ← h2]
  have hw : word l < 4294967296 := by
    have : 256 ^ l.length ≤ 256 ^ 4 := Nat.pow_le_pow_right (by decide) h4
    have e : (256 : Nat) ^ 4 = 4294967296 := by decide
    omega
  exact ⟨stps_eq_zero _ hw, fun e => by rw [e]; exact stps_zero _⟩

/-- Two rows that differ in one to four bytes side by side have unlike sums. -/
theorem crcs_unlike (p l m q : List Nat) (s : Nat) (hs : s < 4294967296) (hlen : l.length = m.length) (h4 : l.length ≤ 4) (hp : ∀ x ∈ p, x < 256) (hl : ∀ x ∈ l, x < 256) (hm : ∀ x ∈ m, x < 256) (hq : ∀ x ∈ q, x < 256) :
    crcs s (p ++ (l ++ q)) = crcs s (p ++ (m ++ q)) ↔ l = m := by
  refine ⟨fun e => ?_, fun e => by rw [e]⟩
  rw [crcs_append, crcs_append, crcs_append, crcs_append] at e
  have ht := crcs_lt p hs hp
  generalize crcs s p = t at e ht
  have d1 := crcs_xor l m t t hlen
  have d2 := crcs_xor q q (crcs t l) (crcs t m) rfl
  rw [Nat.xor_self] at d1
  have hz := zip_self q
  rw [hz, e, Nat.xor_self] at d2
  have hx := (crcs_zeros q.length (xor_lt32 (crcs_lt l ht hl) (crcs_lt m ht hm))).1 d2
  rw [← d1] at hx
  have hzb : ∀ x ∈ List.zipWith (· ^^^ ·) l m, x < 256 := by
    intro x hx
    obtain ⟨i, hi, rfl⟩ := List.getElem_of_mem hx
    simp only [List.length_zipWith] at hi
    rw [List.getElem_zipWith]
    exact xor_lt 8 (hl _ (List.getElem_mem _)) (hm _ (List.getElem_mem _))
  have hall := (crcs_tells _ (by simp only [List.length_zipWith]; omega) hzb).1 hx
  apply List.ext_getElem hlen
  intro i h1 h2
  have hi : i < (List.zipWith (· ^^^ ·) l m).length := by simp only [List.length_zipWith]; omega
  have := hall _ (List.getElem_mem hi)
  rw [List.getElem_zipWith] at this
  have h3 := congrArg (· ^^^ m[i]) this
  simpa only [Nat.xor_assoc, Nat.xor_self, Nat.xor_zero, Nat.zero_xor] using h3

/-- Sum and More. -/
def ones : Nat := 4294967295
def more (sum : Nat) (l : List Nat) : Nat := crcs (sum ^^^ ones) l ^^^ ones
theorem xor_ones_ones (a : Nat) : a ^^^ ones ^^^ ones = a := by rw [Nat.xor_assoc, Nat.xor_self, Nat.xor_zero]
theorem xor_ones {a : Nat} (h : a < 4294967296) : a ^^^ ones = 4294967295 - a := by
  unfold ones
  have := Nat.xor_lt_two_pow (n := 32) h (show 4294967295 < 2 ^ 32 by decide)
  have e : a ^^^ (2 ^ 32 - 1) = 2 ^ 32 - 1 - a := by
    apply Nat.eq_of_testBit_eq
    intro i
    rw [Nat.testBit_xor, Nat.testBit_two_pow_sub_one, show 2 ^ 32 - 1 - a = 2 ^ 32 - (a + 1) by omega, Nat.testBit_two_pow_sub_succ h]
    by_cases hi : i < 32
    · simp [hi]
    · rw [Nat.testBit_lt_two_pow (Nat.lt_of_lt_of_le h (by exact Nat.pow_le_pow_right (n := 2) (by decide) (show 32 ≤ i by omega)))]
      simp [hi]
  exact e
theorem more_append (sum : Nat) (l m : List Nat) : more (more sum l) m = more sum (l ++ m) := by
  unfold more
  rw [xor_ones_ones, crcs_append]
theorem more_lt {sum : Nat} {l : List Nat} (h : sum < 4294967296) (hl : ∀ x ∈ l, x < 256) : more sum l < 4294967296 := xor_lt32 (crcs_lt l (xor_lt32 h (by decide)) hl) (by decide)
theorem more_unlike (p l m q : List Nat) (s : Nat) (hs : s < 4294967296) (hlen : l.length = m.length) (h4 : l.length ≤ 4) (hp : ∀ x ∈ p, x < 256) (hl : ∀ x ∈ l, x < 256) (hm : ∀ x ∈ m, x < 256) (hq : ∀ x ∈ q, x < 256) :
    more s (p ++ (l ++ q)) = more s (p ++ (m ++ q)) ↔ l = m := by
  rw [← crcs_unlike p l m q (s ^^^ ones) (xor_lt32 hs (by decide)) hlen h4 hp hl hm hq]
  unfold more
  exact ⟨fun e => by have := congrArg (· ^^^ ones) e; simpa only [xor_ones_ones] using this, fun e => by rw [e]⟩

/-- Mask and Unmask. -/
def mask (x : Nat) : Nat := (x / 32768 + x % 32768 * 131072 + 2726488792) % 4294967296
def unmask (x : Nat) : Nat := (x + 4294967296 - 2726488792) % 4294967296 % 131072 * 32768 + (x + 4294967296 - 2726488792) % 4294967296 / 131072
theorem mask_lt (x : Nat) : mask x < 4294967296 := Nat.mod_lt _ (by decide)
theorem unmask_lt {x : Nat} (h : x < 4294967296) : unmask x < 4294967296 := by unfold unmask; omega
theorem unmask_mask {x : Nat} (h : x < 4294967296) : unmask (mask x) = x := by
  have e1 : (mask x + 4294967296 - 2726488792) % 4294967296 = x / 32768 + x % 32768 * 131072 := by
    unfold mask
    have hr : x / 32768 + x % 32768 * 131072 < 4294967296 := by omega
    generalize x / 32768 + x % 32768 * 131072 = r at hr
    omega
  unfold unmask
  rw [e1]
  have h1 : x / 32768 < 131072 := by omega
  have h2 : x = x / 32768 * 32768 + x % 32768 := by omega
  generalize x / 32768 = a at h1 h2 ⊢
  generalize x % 32768 = b at h2 ⊢
  subst h2
  omega
theorem mask_unmask {x : Nat} (h : x < 4294967296) : mask (unmask x) = x := by
  unfold unmask
  obtain ⟨r, hr⟩ : ∃ r, r = (x + 4294967296 - 2726488792) % 4294967296 := ⟨_, rfl⟩
  rw [← hr]
  have hr1 : r < 4294967296 := by omega
  have e1 : (r + 2726488792) % 4294967296 = x := by omega
  unfold mask
  have h1 : r / 131072 < 32768 := by omega
  have h2 : r = r / 131072 * 131072 + r % 131072 := by omega
  have e2 : (r % 131072 * 32768 + r / 131072) / 32768 + (r % 131072 * 32768 + r / 131072) % 32768 * 131072 = r := by
    generalize r / 131072 = a at h1 h2 ⊢
    generalize r % 131072 = b at h2 ⊢
    omega
  rw [e2, e1]
end Go.Proofs.Ytnoackenjfpcmaa

/- Frames, on lists of bytes: one behind the other, taken, scanned; what follows. -/
namespace Go.Proofs.Ytnoackenjfpcmaa
set_option linter.unusedVariables false
set_option linter.unusedSimpArgs false

/-- Bytes as natural numbers. -/
def nl (xs : List Int) : List Nat := xs.map Int.toNat
/-- The frame at the beginning: an error (0: none), its record, how many bytes it has. -/
def tf (xs : List Int) : Nat × List Int × Nat :=
  if xs.length < 4 then (5, [], 0)
  else if ¬ enL (xs.drop 4) < (xs.drop 4).length then (5, [], 0)
  else if ¬ good (xof (xs.drop 4)) (enL (xs.drop 4)) then (3, [], 0)
  else if 1048576 < val (xof (xs.drop 4)) (enL (xs.drop 4) + 1) then (2, [], 0)
  else if (xs.drop 4).length < enL (xs.drop 4) + 1 + val (xof (xs.drop 4)) (enL (xs.drop 4) + 1) then (5, [], 0)
  else if fv (xof xs) 4 ≠ mask (more 0 (nl ((xs.drop 4).take (enL (xs.drop 4) + 1 + val (xof (xs.drop 4)) (enL (xs.drop 4) + 1))))) then (4, [], 0)
  else (0, ((xs.drop 4).drop (enL (xs.drop 4) + 1)).take (val (xof (xs.drop 4)) (enL (xs.drop 4) + 1)), 4 + (enL (xs.drop 4) + 1) + val (xof (xs.drop 4)) (enL (xs.drop 4) + 1))

/-- A record's frame. -/
def bd (r : List Int) : List Int := uv r.length ++ r
def fr (r : List Int) : List Int := fx (mask (more 0 (nl (bd r)))) 4 ++ bd r
theorem fx4 (n : Nat) : (fx n 4).length = 4 := fx_length n 4
theorem fr_len (r : List Int) : (fr r).length = 4 + ((uv r.length).length + r.length) := by simp [fr, bd, fx4]
theorem okb_fr {r : List Int} (h : Okb r) : Okb (fr r) := (okb_fx _ 4).app ((okb_uv _).app h)
theorem fr_pos (r : List Int) : 5 ≤ (fr r).length := by have := uv_pos r.length; rw [fr_len]; omega
theorem drop4 (n : Nat) (t : List Int) : (fx n 4 ++ t).drop 4 = t := by
  rw [List.drop_append_of_le_length (by rw [fx4]; omega), List.drop_of_length_le (by rw [fx4]; omega)]
  rfl
theorem fv_four {n : Nat} (hn : n < 4294967296) (t : List Int) (ht : Okb t) : fv (xof (fx n 4 ++ t)) 4 = n := by
  have h := fv_fx n 4 (xof (fx n 4 ++ t)) 0 0 (fun k hk => by
    rw [Nat.zero_add]
    have hb := begins_xof (xs := fx n 4) (ys := t) ((okb_fx n 4).app ht) k (by rw [fx4]; exact hk)
    exact hb) rfl
  rw [Nat.zero_add, Nat.zero_mul, Nat.zero_add] at h
  rw [h]
  exact Nat.mod_eq_of_lt (by omega)

/-- What was framed is taken, whatever stands behind it. -/
theorem tf_fr {r t : List Int} (hr : Okb r) (ht : Okb t) (hl : r.length ≤ 1048576) : tf (fr r ++ t) = (0, r, (fr r).length) := by
  have hok : Okb (bd r ++ t) := ((okb_uv _).app hr).app ht
  have hd : (fr r ++ t).drop 4 = bd r ++ t := by unfold fr; rw [List.append_assoc, drop4]
  have hZ : Begins (xof (bd r ++ t)) (uv r.length) := by
    unfold bd
    rw [List.append_assoc]
    exact begins_xof (by rw [← List.append_assoc]; exact hok)
  have hul := uv_pos r.length
  have hbl : (bd r ++ t).length = (uv r.length).length + r.length + t.length := by simp [bd]; omega
  have hE : enL (bd r ++ t) = (uv r.length).length - 1 := end_one (end_enL _ hok) (uv_end hZ (by omega))
  have hv : val (xof (bd r ++ t)) (enL (bd r ++ t) + 1) = r.length := by rw [hE]; exact uv_val hZ
  have hg : good (xof (bd r ++ t)) (enL (bd r ++ t)) := by rw [hE]; exact uv_good (by omega) hZ
  have hE1 : enL (bd r ++ t) + 1 = (uv r.length).length := by omega
  have hfl := fr_len r
  have htk : (bd r ++ t).take ((uv r.length).length + r.length) = bd r := by
    rw [List.take_append_of_le_length (by simp [bd]), List.take_of_length_le (by simp [bd])]
  have hsum : fv (xof (fr r ++ t)) 4 = mask (more 0 (nl (bd r))) := by
    unfold fr
    rw [List.append_assoc]
    exact fv_four (mask_lt _) _ hok
  unfold tf
  rw [if_neg (by rw [List.length_append]; omega), hd, hv, hE1, if_neg (by rw [hE]; omega), if_neg (not_not_intro hg), if_neg (by omega), if_neg (by rw [hbl]; omega), htk, if_neg (not_not_intro hsum)]
  simp only [Prod.mk.injEq, true_and]
  refine ⟨?_, by omega⟩
  unfold bd
  rw [List.append_assoc, List.drop_append_of_le_length (Nat.le_refl _), List.drop_of_length_le (Nat.le_refl _), List.nil_append, List.take_append_of_le_length (Nat.le_refl _), List.take_of_length_le (Nat.le_refl _)]

/-- Cut off it is no frame. -/
theorem tf_cut {r : List Int} {k : Nat} (hr : Okb r) (hl : r.length ≤ 1048576) (hk : k < (fr r).length) : (tf ((fr r).take k)).1 ≠ 0 := by
  have hfl := fr_len r
  have hul := uv_pos r.length
  by_cases h4 : k < 4
  · unfold tf
    rw [if_pos (by rw [List.length_take]; omega)]
    simp
  obtain ⟨j, rfl⟩ : ∃ j, k = 4 + j := ⟨k - 4, by omega⟩
  have hd : ((fr r).take (4 + j)).drop 4 = (bd r).take j := by
    unfold fr
    rw [List.drop_take, drop4]
    congr 1
    omega
  have hok : Okb (bd r) := (okb_uv _).app hr
  have hokt : Okb ((bd r).take j) := fun x hx => hok x (List.mem_of_mem_take hx)
  have hbl : (bd r).length = (uv r.length).length + r.length := by simp [bd]
  have hjl : ((bd r).take j).length = j := by rw [List.length_take]; omega
  have hend := end_enL _ hokt
  unfold tf
  rw [if_neg (by rw [List.length_take]; omega), hd]
  by_cases hj : j < (uv r.length).length
  · have hZ : Begins (xof (uv r.length)) (uv r.length) := begins_xof' (okb_uv _)
    have hc := (takeV_cut (n := r.length) hZ hj).1
    have he : (bd r).take j = (uv r.length).take j := by unfold bd; rw [List.take_append_of_le_length (by omega)]
    have hxo : ∀ i, i < j → xof ((bd r).take j) i = xof (uv r.length) i := fun i hi => by
      rw [he]
      unfold xof
      rw [List.getD_eq_getElem?_getD, List.getElem?_take_of_lt hi, List.getD_eq_getElem?_getD]
    have hE : enL ((bd r).take j) = j := by
      rw [hjl] at hend
      refine end_one hend ⟨Nat.le_refl _, fun i hi => ?_, fun h => absurd h (by omega)⟩
      rw [hxo i hi]
      exact hc.2.1 i hi
    rw [if_pos (by omega)]
    simp
  · have hZ : Begins (xof ((bd r).take j)) (uv r.length) := by
      have he : (bd r).take j = uv r.length ++ r.take (j - (uv r.length).length) := by
        unfold bd
        rw [List.take_append, List.take_of_length_le (by omega)]
      rw [he] at hokt ⊢
      exact begins_xof hokt
    have hE : enL ((bd r).take j) = (uv r.length).length - 1 := end_one hend (by rw [hjl]; exact uv_end hZ (by omega))
    have hv : val (xof ((bd r).take j)) (enL ((bd r).take j) + 1) = r.length := by rw [hE]; exact uv_val hZ
    have hg : good (xof ((bd r).take j)) (enL ((bd r).take j)) := by rw [hE]; exact uv_good (by omega) hZ
    have hE1 : enL ((bd r).take j) + 1 = (uv r.length).length := by omega
    rw [hv, hE1, if_neg (by omega), if_neg (not_not_intro hg), if_neg (by omega), if_pos (by omega)]
    simp
/-- How much a frame that is told has: more than four bytes, and no more than there are. -/
theorem tf_used {xs : List Int} (h : (tf xs).1 = 0) : 5 ≤ (tf xs).2.2 ∧ (tf xs).2.2 ≤ xs.length := by
  unfold tf at h ⊢
  split at h
  · simp at h
  split at h
  · simp at h
  split at h
  · simp at h
  split at h
  · simp at h
  split at h
  · simp at h
  split at h
  · simp at h
  rename_i h1 h2 h3 h4 h5 h6
  rw [if_neg h1, if_neg h2, if_neg h3, if_neg h4, if_neg h5, if_neg h6]
  have hd : (xs.drop 4).length = xs.length - 4 := List.length_drop
  simp only
  omega

theorem tf_okb {xs : List Int} (h : Okb xs) : Okb (tf xs).2.1 := by
  have hn : Okb [] := fun x hx => by cases hx
  unfold tf
  split
  · exact hn
  split
  · exact hn
  split
  · exact hn
  split
  · exact hn
  split
  · exact hn
  split
  · exact hn
  exact fun x hx => h x (List.mem_of_mem_drop (List.mem_of_mem_drop (List.mem_of_mem_take hx)))

/-- The records up to what is none, and where that stands. -/
def scn : Nat → List Int → List (List Int) × Nat
  | 0, _ => ([], 0)
  | f + 1, xs => if xs = [] then ([], 0) else if (tf xs).1 = 0 then ((tf xs).2.1 :: (scn f (xs.drop (tf xs).2.2)).1, (tf xs).2.2 + (scn f (xs.drop (tf xs).2.2)).2) else ([], 0)
def scan (xs : List Int) : List (List Int) × Nat := scn xs.length xs
theorem scn_more : ∀ (f g : Nat) (xs : List Int), xs.length ≤ f → xs.length ≤ g → scn f xs = scn g xs
  | 0, g, xs, h, _ => by
    have e : xs = [] := List.length_eq_zero_iff.1 (by omega)
    subst e
    cases g <;> simp [scn]
  | f + 1, 0, xs, _, h => by
    have e : xs = [] := List.length_eq_zero_iff.1 (by omega)
    subst e
    simp [scn]
  | f + 1, g + 1, xs, hf, hg => by
    unfold scn
    by_cases q : xs = []
    · rw [if_pos q, if_pos q]
    rw [if_neg q, if_neg q]
    by_cases t : (tf xs).1 = 0
    · rw [if_pos t, if_pos t]
      have hu := tf_used t
      have hl : (xs.drop (tf xs).2.2).length = xs.length - (tf xs).2.2 := List.length_drop
      rw [scn_more f g (xs.drop (tf xs).2.2) (by omega) (by omega)]
    · rw [if_neg t, if_neg t]
theorem scan_nil : scan [] = ([], 0) := rfl
theorem scan_on {xs : List Int} (h : (tf xs).1 = 0) : scan xs = ((tf xs).2.1 :: (scan (xs.drop (tf xs).2.2)).1, (tf xs).2.2 + (scan (xs.drop (tf xs).2.2)).2) := by
  have hu := tf_used h
  have hl : (xs.drop (tf xs).2.2).length = xs.length - (tf xs).2.2 := List.length_drop
  obtain ⟨f, hf⟩ : ∃ f, xs.length = f + 1 := ⟨xs.length - 1, by omega⟩
  have hne : xs ≠ [] := fun e => by rw [e] at hf; simp at hf
  unfold scan
  rw [hf]
  conv => lhs; unfold scn
  rw [if_neg hne, if_pos h, scn_more f _ (xs.drop (tf xs).2.2) (by omega) (Nat.le_refl _)]
theorem scan_stop {xs : List Int} (h : (tf xs).1 ≠ 0) : scan xs = ([], 0) := by
  unfold scan
  cases xs.length with
  | zero => rfl
  | succ f =>
    unfold scn
    by_cases q : xs = []
    · rw [if_pos q]
    · rw [if_neg q, if_neg h]
theorem scan_fr {r t : List Int} (hr : Okb r) (ht : Okb t) (hl : r.length ≤ 1048576) : scan (fr r ++ t) = (r :: (scan t).1, (fr r).length + (scan t).2) := by
  have h := tf_fr hr ht hl
  rw [scan_on (by rw [h]), h]
  simp only
  rw [List.drop_append_of_le_length (Nat.le_refl _), List.drop_of_length_le (Nat.le_refl _), List.nil_append]
theorem scan_le : ∀ (f : Nat) (xs : List Int), xs.length ≤ f → (scan xs).2 ≤ xs.length
  | 0, xs, h => by
    have e : xs = [] := List.length_eq_zero_iff.1 (by omega)
    subst e
    exact Nat.le_refl _
  | f + 1, xs, h => by
    by_cases t : (tf xs).1 = 0
    · rw [scan_on t]
      have hu := tf_used t
      have hl : (xs.drop (tf xs).2.2).length = xs.length - (tf xs).2.2 := List.length_drop
      have := scan_le f (xs.drop (tf xs).2.2) (by omega)
      simp only
      omega
    · rw [scan_stop t]
      exact Nat.zero_le _

/-- Frames, one behind the other. -/
def frs : List (List Int) → List Int
  | [] => []
  | r :: l => fr r ++ frs l
def Recs (l : List (List Int)) : Prop := ∀ r ∈ l, Okb r ∧ r.length ≤ 1048576
theorem okb_frs : ∀ {l : List (List Int)}, Recs l → Okb (frs l)
  | [], _ => fun x hx => by cases hx
  | r :: l, h => (okb_fr (h r (List.mem_cons_self ..)).1).app (okb_frs fun s hs => h s (List.mem_cons_of_mem _ hs))
theorem frs_app : ∀ l m : List (List Int), frs (l ++ m) = frs l ++ frs m
  | [], _ => rfl
  | r :: l, m => by rw [List.cons_append, frs, frs_app l m, frs, List.append_assoc]
theorem scan_frs : ∀ {l : List (List Int)} {t : List Int}, Recs l → Okb t → scan (frs l ++ t) = (l ++ (scan t).1, (frs l).length + (scan t).2)
  | [], t, _, _ => by simp [frs]
  | r :: l, t, h, ht => by
    have h' : Recs l := fun s hs => h s (List.mem_cons_of_mem _ hs)
    have hr := h r (List.mem_cons_self ..)
    rw [frs, List.append_assoc, scan_fr hr.1 ((okb_frs h').app ht) hr.2, scan_frs h' ht]
    simp [Nat.add_assoc]
/-- How many frames end by the place c. -/
def whole : List (List Int) → Nat → Nat
  | [], _ => 0
  | r :: l, c => if (fr r).length ≤ c then whole l (c - (fr r).length) + 1 else 0
theorem whole_le : ∀ (l : List (List Int)) (c : Nat), whole l c ≤ l.length
  | [], _ => Nat.le_refl _
  | r :: l, c => by
    unfold whole
    split
    · have := whole_le l (c - (fr r).length); simp; omega
    · simp
/-- Cut off anywhere, the whole ones ahead are told, and where the last of them ends. -/
theorem scan_take : ∀ {l : List (List Int)} {c : Nat}, Recs l → c ≤ (frs l).length → scan ((frs l).take c) = (l.take (whole l c), (frs (l.take (whole l c))).length)
  | [], c, _, _ => by simp [frs, whole, scan_nil]
  | r :: l, c, h, hc => by
    have h' : Recs l := fun s hs => h s (List.mem_cons_of_mem _ hs)
    have hr := h r (List.mem_cons_self ..)
    unfold whole
    by_cases q : (fr r).length ≤ c
    · rw [if_pos q, frs, List.take_append, List.take_of_length_le q]
      rw [frs, List.length_append] at hc
      have ih := scan_take (c := c - (fr r).length) h' (by omega)
      have hok : Okb ((frs l).take (c - (fr r).length)) := fun x hx => okb_frs h' x (List.mem_of_mem_take hx)
      rw [scan_fr hr.1 hok hr.2, ih, List.take_succ_cons, frs, List.length_append]
    · rw [if_neg q, frs, List.take_append_of_le_length (by omega), scan_stop (tf_cut hr.1 hr.2 (by omega))]
      simp [frs]
end Go.Proofs.Ytnoackenjfpcmaa

/- Blocks of entries, on lists: how they are written, how they are read. -/
namespace Go.Proofs.Ytnoackenjfpcmaa
set_option linter.unusedVariables false
set_option linter.unusedSimpArgs false

/-- How many bytes two keys share. -/
def shr : List Int → List Int → Nat
  | x :: a, y :: b => if x = y then shr a b + 1 else 0
  | _, _ => 0
theorem shr_le : ∀ a b : List Int, shr a b ≤ a.length ∧ shr a b ≤ b.length
  | [], b => by simp [shr]
  | x :: a, [] => by simp [shr]
  | x :: a, y :: b => by
    have := shr_le a b
    unfold shr
    split <;> simp <;> omega
theorem shr_take : ∀ a b : List Int, a.take (shr a b) = b.take (shr a b)
  | [], b => by simp [shr]
  | x :: a, [] => by simp [shr]
  | x :: a, y :: b => by
    unfold shr
    split
    · rename_i h
      rw [List.take_succ_cons, List.take_succ_cons, shr_take a b, h]
    · rfl
/-- An entry that shares n bytes with the key ahead. -/
def enE (n : Nat) (e : EntV) : List Int := uv n ++ (lb (e.key.drop n) ++ (uv e.seq.toNat ++ (if e.gone then [1] else 0 :: (uv e.till.toNat ++ lb e.val))))
def shI (i : Nat) (key prev : List Int) : Nat := if i % 8 = 0 then 0 else shr key prev
/-- Entries from place i on. -/
def enEs : Nat → List Int → List EntV → List Int
  | _, _, [] => []
  | i, prev, e :: r => enE (shI i e.key prev) e ++ enEs (i + 1) e.key r
/-- Where each eighth one begins. -/
def enTl : Nat → Nat → List Int → List EntV → List Int
  | _, _, _, [] => []
  | i, pos, prev, e :: r => (if i % 8 = 0 then fx pos 4 else []) ++ enTl (i + 1) (pos + (enE (shI i e.key prev) e).length) e.key r
def ordB (l : List EntV) : Bool := decide (l.Pairwise fun a b => ahead a b < 0)
/-- A block: why there is none, or its bytes. -/
def blkE (l : List EntV) : Nat := if l.length = 0 ∨ 400 < l.length then 13 else if l.all mayE = false then 1 else if ordB l = false then 11 else 0
def blkB (l : List EntV) : List Int := enEs 0 [] l ++ (enTl 0 0 [] l ++ fx ((enTl 0 0 [] l).length / 4) 4)
def OkE (e : EntV) : Prop := Okb e.key ∧ Okb e.val
theorem okb_enE {n : Nat} {e : EntV} (h : OkE e) : Okb (enE n e) := by
  unfold enE
  have h1 : Okb (e.key.drop n) := fun x hx => h.1 x (List.mem_of_mem_drop hx)
  refine (okb_uv _).app (((okb_uv _).app h1).app ((okb_uv _).app ?_))
  split
  · intro x hx; rw [List.mem_singleton.1 hx]; omega
  · intro x hx
    rcases List.mem_cons.1 hx with rfl | q
    · omega
    · exact ((okb_uv _).app ((okb_uv _).app h.2)) x q
theorem okb_enEs : ∀ {l : List EntV} {i : Nat} {prev : List Int}, (∀ e ∈ l, OkE e) → Okb (enEs i prev l)
  | [], i, prev, h => fun x hx => by cases hx
  | e :: r, i, prev, h => (okb_enE (h e (by simp))).app (okb_enEs fun x hx => h x (by simp [hx]))
theorem okb_enTl : ∀ {l : List EntV} {i pos : Nat} {prev : List Int}, Okb (enTl i pos prev l)
  | [], i, pos, prev => fun x hx => by cases hx
  | e :: r, i, pos, prev => by
    unfold enTl
    refine Okb.app ?_ okb_enTl
    split
    · exact okb_fx _ _
    · intro x hx; cases hx
/-- How much is shared, how much more there is. -/
def kNum (key : List Int) (s : Rd) : Nat × Nat × Rd :=
  ((rdN key.length s).1, (rdN 9223372036854775808 (rdN key.length s).2).1,
    if (rdN 9223372036854775808 (rdN key.length s).2).2.2 ≠ 0 then (rdN 9223372036854775808 (rdN key.length s).2).2
    else if 512 < (rdN 9223372036854775808 (rdN key.length s).2).1 ∨ 512 < (rdN key.length s).1 + (rdN 9223372036854775808 (rdN key.length s).2).1 then ((rdN 9223372036854775808 (rdN key.length s).2).2.1, 2)
    else if (rdN 9223372036854775808 (rdN key.length s).2).2.1.length < (rdN 9223372036854775808 (rdN key.length s).2).1 then ((rdN 9223372036854775808 (rdN key.length s).2).2.1, 5)
    else (rdN 9223372036854775808 (rdN key.length s).2).2)
/-- What stands behind an entry's key. -/
def deV (key : List Int) (s : Rd) : EntV × Rd :=
  if (rdF (rdN 4611686018427387904 s).2).1 = true then (⟨key, ((rdN 4611686018427387904 s).1 : Int), true, 0, []⟩, (rdF (rdN 4611686018427387904 s).2).2)
  else (⟨key, ((rdN 4611686018427387904 s).1 : Int), false, ((rdN 4611686018427387904 (rdF (rdN 4611686018427387904 s).2).2).1 : Int), (rdB 2048 (rdN 4611686018427387904 (rdF (rdN 4611686018427387904 s).2).2).2).1⟩, (rdB 2048 (rdN 4611686018427387904 (rdF (rdN 4611686018427387904 s).2).2).2).2)
def keyK (key : List Int) (s : Rd) : List Int := key.take (kNum key s).1 ++ (kNum key s).2.2.1.take (kNum key s).2.1
def deE1 (key : List Int) (s : Rd) : EntV × Rd := deV (keyK key s) ((kNum key s).2.2.1.drop (kNum key s).2.1, 0)
def deEs : Nat → List Int → Rd → List EntV × Rd
  | 0, _, s => ([], s)
  | n + 1, key, s => if s.1.length = 0 ∨ s.2 ≠ 0 then ([], s) else if (kNum key s).2.2.2 ≠ 0 then ([], (kNum key s).2.2)
    else ((deE1 key s).1 :: (deEs n (deE1 key s).1.key (deE1 key s).2).1, (deEs n (deE1 key s).1.key (deE1 key s).2).2)
/-- The number at the end; the entries' bytes. -/
def lastN (b : List Int) : Nat := fv (xof (b.drop (b.length - 4))) 4
def bodyN (b : List Int) : List Int := b.take (b.length - 4 - 4 * lastN b)
def deBk (b : List Int) : List EntV × Rd := deEs b.length [] (bodyN b, 0)
/-- What Decode answers. -/
def tkE (b : List Int) : Nat :=
  if b.length < 4 then 5 else if lastN b = 0 ∨ (b.length - 4) / 4 < lastN b then 3 else if (deBk b).2.2 ≠ 0 then (deBk b).2.2
  else if blkE (deBk b).1 ≠ 0 ∨ blkB (deBk b).1 ≠ b then 3 else 0
def tkB (b : List Int) : List EntV := if tkE b = 0 then (deBk b).1 else []
/-- What Decode takes, Encode gives. -/
theorem tk_blk {b : List Int} (h : tkE b = 0) : blkE (tkB b) = 0 ∧ blkB (tkB b) = b := by
  have e : tkB b = (deBk b).1 := by unfold tkB; rw [if_pos h]
  rw [e]
  unfold tkE at h
  split at h
  · cases h
  · split at h
    · cases h
    · split at h
      · rename_i q; exact absurd h q
      · split at h
        · cases h
        · rename_i q
          simp only [ne_eq, not_or, Classical.not_not] at q
          exact q
theorem mayE_ok {e : EntV} (h : mayE e = true) : 1 ≤ e.key.length ∧ e.key.length ≤ 512 ∧ 1 ≤ e.seq ∧ e.seq ≤ 4611686018427387904 ∧ 0 ≤ e.till ∧ e.till ≤ 4611686018427387904 ∧ e.val.length ≤ 2048 ∧ (e.gone = true → e.till = 0 ∧ e.val = []) := by
  unfold mayE at h
  simp only [decide_eq_true_eq] at h
  exact ⟨h.1, h.2.1, h.2.2.1, h.2.2.2.1, h.2.2.2.2.1, h.2.2.2.2.2.1, h.2.2.2.2.2.2.1, fun g => ⟨(h.2.2.2.2.2.2.2 g).1, List.eq_nil_of_length_eq_zero (h.2.2.2.2.2.2.2 g).2⟩⟩
theorem deV_en {e : EntV} {t : List Int} (h : mayE e = true) (ho : OkE e) (ht : Okb t) : deV e.key (uv e.seq.toNat ++ ((if e.gone then [1] else 0 :: (uv e.till.toNat ++ lb e.val)) ++ t), 0) = (e, (t, 0)) := by
  obtain ⟨h1, h2, h3, h4, h5, h6, h7, h8⟩ := mayE_ok h
  obtain ⟨key, seq, gone, till, val⟩ := e
  simp only at *
  have hs : ((seq.toNat : Nat) : Int) = seq := Int.toNat_of_nonneg (by omega)
  have hu : ((till.toNat : Nat) : Int) = till := Int.toNat_of_nonneg (by omega)
  have ho2 := ho.2
  simp only at ho2
  cases gone with
  | true =>
    obtain ⟨rfl, rfl⟩ := h8 rfl
    simp only [if_true]
    have ok1 : Okb ([1] ++ t) := Okb.app (fun x hx => by rw [List.mem_singleton.1 hx]; omega) ht
    unfold deV
    rw [rdN_uv (by omega) (by omega) ok1]
    simp [rdF, hs]
  | false =>
    simp only [Bool.false_eq_true, if_false]
    have ok3 : Okb (lb val ++ t) := Okb.app ((okb_uv _).app ho2) ht
    have ok2 : Okb (uv till.toNat ++ (lb val ++ t)) := (okb_uv _).app ok3
    have e1 : (0 :: (uv till.toNat ++ lb val)) ++ t = 0 :: (uv till.toNat ++ (lb val ++ t)) := by simp
    rw [e1]
    have ok1 : Okb (0 :: (uv till.toNat ++ (lb val ++ t))) := fun x hx => by
      rcases List.mem_cons.1 hx with rfl | q
      · omega
      · exact ok2 x q
    have r1 : rdN 4611686018427387904 (uv seq.toNat ++ 0 :: (uv till.toNat ++ (lb val ++ t)), 0) = (seq.toNat, (0 :: (uv till.toNat ++ (lb val ++ t)), 0)) := rdN_uv (by omega) (by omega) ok1
    have r2 : rdF (0 :: (uv till.toNat ++ (lb val ++ t)), 0) = (false, (uv till.toNat ++ (lb val ++ t), 0)) := by simp [rdF]
    have r3 : rdN 4611686018427387904 (uv till.toNat ++ (lb val ++ t), 0) = (till.toNat, (lb val ++ t, 0)) := rdN_uv (by omega) (by omega) ok3
    have r4 : rdB 2048 (lb val ++ t, 0) = (val, (t, 0)) := rdB_lb h7 (by omega) ho2 ht
    unfold deV
    rw [r1, r2]
    simp only [Bool.false_eq_true, if_false]
    rw [r3, r4, hs, hu]
theorem kNum_en {prev : List Int} {e : EntV} {n : Nat} {t : List Int} (hn : n ≤ prev.length) (hk : n ≤ e.key.length) (h5 : e.key.length ≤ 512) (hp : prev.length ≤ 512) (ho : Okb e.key) (ht : Okb t) : kNum prev (uv n ++ (lb (e.key.drop n) ++ t), 0) = (n, e.key.length - n, (e.key.drop n ++ t, 0)) := by
  have hd : Okb (e.key.drop n) := fun x hx => ho x (List.mem_of_mem_drop hx)
  have hl : (e.key.drop n).length = e.key.length - n := List.length_drop
  have e1 : lb (e.key.drop n) ++ t = uv (e.key.length - n) ++ (e.key.drop n ++ t) := by
    unfold lb
    rw [hl, List.append_assoc]
  rw [e1]
  have r1 : rdN prev.length (uv n ++ (uv (e.key.length - n) ++ (e.key.drop n ++ t)), 0) = (n, (uv (e.key.length - n) ++ (e.key.drop n ++ t), 0)) := rdN_uv hn (by omega) ((okb_uv _).app (hd.app ht))
  have r2 : rdN 9223372036854775808 (uv (e.key.length - n) ++ (e.key.drop n ++ t), 0) = (e.key.length - n, (e.key.drop n ++ t, 0)) := rdN_uv (by omega) (by omega) (hd.app ht)
  unfold kNum
  rw [r1, r2]
  simp only [ne_eq, not_true_eq_false, if_false]
  rw [if_neg (by omega), if_neg (by rw [List.length_append, hl]; omega)]
theorem deE1_en {prev : List Int} {e : EntV} {n : Nat} {t : List Int} (hn : n ≤ prev.length) (hk : n ≤ e.key.length) (hp : prev.length ≤ 512) (hsh : prev.take n = e.key.take n) (h : mayE e = true) (ho : OkE e) (ht : Okb t) : (kNum prev (enE n e ++ t, 0)).2.2.2 = 0 ∧ deE1 prev (enE n e ++ t, 0) = (e, (t, 0)) := by
  have hmo := mayE_ok h
  have ok2 : Okb (uv e.seq.toNat ++ ((if e.gone then [1] else 0 :: (uv e.till.toNat ++ lb e.val)) ++ t)) := by
    refine (okb_uv _).app (Okb.app ?_ ht)
    split
    · intro x hx; rw [List.mem_singleton.1 hx]; omega
    · intro x hx
      rcases List.mem_cons.1 hx with rfl | q
      · omega
      · exact ((okb_uv _).app ((okb_uv _).app ho.2)) x q
  have e1 : enE n e ++ t = uv n ++ (lb (e.key.drop n) ++ (uv e.seq.toNat ++ ((if e.gone then [1] else 0 :: (uv e.till.toNat ++ lb e.val)) ++ t))) := by
    unfold enE
    simp only [List.append_assoc]
  have hkn := kNum_en (t := uv e.seq.toNat ++ ((if e.gone then [1] else 0 :: (uv e.till.toNat ++ lb e.val)) ++ t)) hn hk hmo.2.1 hp ho.1 ok2
  rw [e1]
  refine ⟨by rw [hkn], ?_⟩
  unfold deE1 keyK
  rw [hkn]
  simp only
  have hl : (e.key.drop n).length = e.key.length - n := List.length_drop
  rw [List.take_left' hl, List.drop_left' hl, hsh, List.take_append_drop]
  exact deV_en h ho ht
theorem shI_ok (i : Nat) (key prev : List Int) : shI i key prev ≤ prev.length ∧ shI i key prev ≤ key.length ∧ prev.take (shI i key prev) = key.take (shI i key prev) := by
  unfold shI
  split
  · simp
  · exact ⟨(shr_le key prev).2, (shr_le key prev).1, (shr_take key prev).symm⟩
theorem enE_pos (n : Nat) (e : EntV) : 1 ≤ (enE n e).length := by
  have := uv_pos n
  unfold enE
  rw [List.length_append]
  omega
theorem deEs_en : ∀ {l : List EntV} {i fuel : Nat} {prev : List Int}, (∀ e ∈ l, mayE e = true ∧ OkE e) → prev.length ≤ 512 → l.length ≤ fuel → deEs fuel prev (enEs i prev l, 0) = (l, ([], 0))
  | [], i, 0, prev, _, _, _ => rfl
  | [], i, fuel + 1, prev, _, _, _ => by simp [deEs, enEs]
  | e :: r, i, 0, prev, _, _, hf => by simp at hf
  | e :: r, i, fuel + 1, prev, h, hp, hf => by
    have he := h e (by simp)
    have hs := shI_ok i e.key prev
    have hr : ∀ x ∈ r, mayE x = true ∧ OkE x := fun x hx => h x (by simp [hx])
    have ht : Okb (enEs (i + 1) e.key r) := okb_enEs fun x hx => (hr x hx).2
    have hd := deE1_en (t := enEs (i + 1) e.key r) hs.1 hs.2.1 hp hs.2.2 he.1 he.2 ht
    have hpos := enE_pos (shI i e.key prev) e
    unfold deEs enEs
    rw [if_neg (by rw [List.length_append]; simp only [ne_eq, not_true_eq_false, or_false]; omega), if_neg (by rw [hd.1]; simp), hd.2]
    simp only
    rw [deEs_en (i := i + 1) hr (mayE_ok he.1).2.1 (by simp at hf; omega)]
/-- How many eighth ones there are. -/
def eig : Nat → List EntV → Nat
  | _, [] => 0
  | i, _ :: r => (if i % 8 = 0 then 1 else 0) + eig (i + 1) r
theorem enTl_len : ∀ (l : List EntV) (i pos : Nat) (prev : List Int), (enTl i pos prev l).length = 4 * eig i l
  | [], i, pos, prev => rfl
  | e :: r, i, pos, prev => by
    unfold enTl eig
    rw [List.length_append, enTl_len r]
    split
    · rw [fx_length]; omega
    · simp
theorem eig_le : ∀ (l : List EntV) (i : Nat), eig i l ≤ l.length
  | [], i => Nat.le_refl _
  | e :: r, i => by
    have := eig_le r (i + 1)
    unfold eig
    simp only [List.length_cons]
    split <;> omega
theorem eig_pos {l : List EntV} (h : 1 ≤ l.length) : 1 ≤ eig 0 l := by
  cases l with
  | nil => simp at h
  | cons e r => unfold eig; simp
theorem enEs_len : ∀ (l : List EntV) (i : Nat) (prev : List Int), l.length ≤ (enEs i prev l).length
  | [], i, prev => Nat.zero_le _
  | e :: r, i, prev => by
    have h1 := enEs_len r (i + 1) e.key
    have h2 := enE_pos (shI i e.key prev) e
    unfold enEs
    rw [List.length_append, List.length_cons]
    omega
theorem blkE_ok {l : List EntV} (h : blkE l = 0) : 1 ≤ l.length ∧ l.length ≤ 400 ∧ (∀ e ∈ l, mayE e = true) ∧ ordE l := by
  unfold blkE at h
  split at h
  · cases h
  · rename_i h1
    split at h
    · cases h
    · rename_i h2
      split at h
      · cases h
      · rename_i h3
        have h2' : l.all mayE = true := by simpa using h2
        have h3' : ordB l = true := by simpa using h3
        have h9 : l.Pairwise (fun a b => ahead a b < 0) := by unfold ordB at h3'; simpa using h3'
        exact ⟨by omega, by omega, fun e he => List.all_eq_true.1 h2' e he, h9⟩
/-- Decode of Encode is the entries. -/
theorem tk_of_blk {l : List EntV} (h : blkE l = 0) (ho : ∀ e ∈ l, OkE e) : tkE (blkB l) = 0 ∧ tkB (blkB l) = l := by
  obtain ⟨h1, h2, h3, h4⟩ := blkE_ok h
  have hT := enTl_len l 0 0 []
  have he1 := eig_le l 0
  have he2 := eig_pos h1
  have hlen : (blkB l).length = (enEs 0 [] l).length + 4 * eig 0 l + 4 := by
    unfold blkB
    rw [List.length_append, List.length_append, fx_length, hT]
    omega
  have hlast : lastN (blkB l) = eig 0 l := by
    unfold lastN
    have e1 : (blkB l).drop ((blkB l).length - 4) = fx (eig 0 l) 4 := by
      rw [hlen]
      unfold blkB
      rw [hT, show 4 * eig 0 l / 4 = eig 0 l by omega, ← List.append_assoc]
      exact List.drop_left' (by rw [List.length_append, hT]; omega)
    rw [e1]
    have := fv_four (n := eig 0 l) (by omega) [] (fun x hx => by cases hx)
    simpa using this
  have hbody : bodyN (blkB l) = enEs 0 [] l := by
    unfold bodyN
    rw [hlast, hlen, show (enEs 0 [] l).length + 4 * eig 0 l + 4 - 4 - 4 * eig 0 l = (enEs 0 [] l).length by omega]
    unfold blkB
    exact List.take_left' rfl
  have hde : deBk (blkB l) = (l, ([], 0)) := by
    unfold deBk
    rw [hbody]
    exact deEs_en (fun e he => ⟨h3 e he, ho e he⟩) (by simp) (by have := enEs_len l 0 []; omega)
  have hE : tkE (blkB l) = 0 := by
    unfold tkE
    rw [if_neg (by omega), if_neg (by rw [hlast, hlen]; omega), hde]
    simp [h]
  exact ⟨hE, by unfold tkB; rw [if_pos hE, hde]⟩
end Go.Proofs.Ytnoackenjfpcmaa
