import Derived.BigQuiet
import Derived.Test.YtimpaindbbjieabPk01
import Derived.Test.YtimpaindbbjieabPk04
import Derived.Test.YtimpaindbbjieabPk12
import Derived.Test.YtimpaindbbjieabPk14
import Derived.Test.YtimpaindbbjieabPk22
/- What the laws on filters lean on: what a program's own must keep; the simple ones. -/
namespace Go.Proofs.Ytimpaindbbjieab
open Go.RowKit
set_option linter.unusedVariables false
set_option linter.unusedSimpArgs false

/-- : what is asked of a program's filters. -/
structure PBl : Prop where
  hash : ∀ {w : World} {ao : Option Addr} {len cap : Nat} {xs : List Int}, Sl w ao len cap xs → Calls Try.prog 66 #[.slice ao len cap] w fun e w' => e = .returned (.int .u64 (hsh xs : Nat)) ∧ Below w.heap.size w w'
  build : ∀ {w : World} {ao : Option Addr} {len cap : Nat} {keys : List (List Int)}, RB w ao len cap keys → len ≤ 100000 → Calls Try.prog 23 #[.slice ao len cap] w fun e w' => ∃ v, e = .returned (.tuple #[v, .int .i64 0]) ∧ SlV w' v (fil keys) ∧ Below w.heap.size w w'
  many : ∀ {w : World} {ao : Option Addr} {len cap : Nat} {keys : List (List Int)}, RB w ao len cap keys → 100000 < len → Calls Try.prog 23 #[.slice ao len cap] w fun e w' => ∃ v, e = .returned (.tuple #[v, .int .i64 13]) ∧ SlV w' v [] ∧ Below w.heap.size w w'
  has : ∀ {w : World} {fa ka : Option Addr} {fl fc kl kc : Nat} {f key : List Int}, Sl w fa fl fc f → Sl w ka kl kc key → Calls Try.prog 37 #[.slice fa fl fc, .slice ka kl kc] w fun e w' => e = .returned (.bool (has f key)) ∧ Below w.heap.size w w'

end Go.Proofs.Ytimpaindbbjieab

/- The law on growth: greater numbers have no fewer bytes; what was put is taken; a number of a set size is what its bytes hold. -/
namespace Go.Proofs.Ytimpaindbbjieab
open Go.RowKit
set_option linter.unusedVariables false

theorem or128_lt {a : Nat} (h : a < 18446744073709551616) : a ||| 128 < 18446744073709551616 := by
  have : a ||| 128 < 2 ^ 64 := Nat.or_lt_two_pow (by omega) (by decide)
  omega
theorem or128_ge (a : Nat) : 128 ≤ a ||| 128 := Nat.right_le_or
theorem or128_64 {a : Nat} (h : a < 18446744073709551616) : bits .or .u64 (a : Int) 128 = ((a ||| 128 : Nat) : Int) := u64_or_nat a 128 h (by decide)

/-- Bytes with their length ahead come back. -/
theorem tbR_put {ls : Nat} {S : Nat → Nat} (hs : ls ≤ 140737488351232) (hok : Okb (bs S ls)) : ∃ E, IsEnd (xof (uv ls ++ bs S ls)) (uv ls ++ bs S ls).length E ∧
    tbR (xof (uv ls ++ bs S ls)) (uv ls ++ bs S ls).length E (ls : Int) = (bs S ls, (((uv ls).length + ls : Nat) : Int), 0) := by
  have hb : Begins (xof (uv ls ++ bs S ls)) (uv ls) := begins_xof ((okb_uv ls).app hok)
  have hl : (uv ls ++ bs S ls).length = (uv ls).length + ls := by simp [bs_length]
  have hp := uv_pos ls
  refine ⟨(uv ls).length - 1, uv_end hb (by omega), ?_⟩
  unfold tbR
  rw [if_pos (by omega), if_pos (uv_good (by omega) hb), uv_val hb, if_neg (by omega), if_neg (by omega)]
  have e : bs (fun k => xof (uv ls ++ bs S ls) ((uv ls).length - 1 + 1 + k)) ls = bs S ls := by
    unfold bs
    apply List.map_congr_left
    intro k hk
    have hk' := List.mem_range.1 hk
    have h1 : (uv ls).length - 1 + 1 + k = (uv ls).length + k := by omega
    show ((xof (uv ls ++ bs S ls) ((uv ls).length - 1 + 1 + k) : Nat) : Int) = (S k : Int)
    rw [h1]
    have h2 : (uv ls ++ bs S ls)[(uv ls).length + k]? = some (S k : Int) := by
      rw [List.getElem?_append_right (by omega)]
      simp [bs, hk']
    have h3 : xof (uv ls ++ bs S ls) ((uv ls).length + k) = S k := by
      unfold xof
      rw [List.getD_eq_getElem?_getD, h2]
      simp
    rw [h3]
  rw [e]
  congr 2
  omega

theorem shl_shr (a t s : Nat) (h : t + 8 * s = 64) : IntKind.u64.wrap ((a : Int) * 2 ^ t) / 2 ^ t = ((a % 256 ^ s : Nat) : Int) := by
  have e1 : (a : Int) * 2 ^ t = ((a * 2 ^ t : Nat) : Int) := by push_cast; rfl
  rw [e1, wrapU64_nat]
  have e2 : ((2 : Int) ^ t) = ((2 ^ t : Nat) : Int) := by push_cast; rfl
  rw [e2]
  have e3 : 18446744073709551616 = 256 ^ s * 2 ^ t := by
    rw [show (256 : Nat) = 2 ^ 8 from rfl, ← Nat.pow_mul, ← Nat.pow_add, show 8 * s + t = 64 by omega]
  have e4 : a * 2 ^ t % (256 ^ s * 2 ^ t) = a % 256 ^ s * 2 ^ t := Nat.mul_mod_mul_right _ _ _
  rw [e3, e4]
  have e5 : a % 256 ^ s * 2 ^ t / 2 ^ t = a % 256 ^ s := Nat.mul_div_cancel _ (Nat.pow_pos (by decide))
  rw [← Int.natCast_ediv, e5]

/-- A slice of bytes that was made: its shape and what it holds. -/
def Made (w w' : World) (e : Ending) (L : List Int) : Prop :=
  ∃ ao cap, e = .returned (.slice ao L.length cap) ∧ (ao = none → L.length = 0 ∧ cap = 0) ∧ L.length ≤ cap ∧ cap ≤ maxLen ∧ Byt w' ao L.length (xof L) ∧ Below w.heap.size w w'
theorem made_row {w w' : World} {e : Ending} {L : List Int} (hok : Okb L) (h : ∃ v', e = .returned v' ∧ Row w.heap.size w' v' L ∧ Below w.heap.size w w') : Made w w' e L := by
  obtain ⟨v, rfl, hr, hb⟩ := h
  obtain ⟨ao, cap, rfl, q1, q2, q3, q4⟩ := hr.byt hok
  exact ⟨ao, cap, rfl, q1, q2, q3, q4, hb⟩
theorem pb_made (so : Option Addr) (ls cs : Nat) (S : Nat → Nat) (w : World) (hs : Byt w so ls S) (hnil : so = none → ls = 0 ∧ cs = 0) (hls : ls ≤ 140737488351232) :
    Calls Try.prog 65 #[.slice none 0 0, .slice so ls cs] w fun e w' => Made w w' e (uv ls ++ bs S ls) := by
  have h := pby_any none so 0 0 ls cs (fun _ => 0) S w (fun k hk => by cases hk) (fun _ => ⟨rfl, rfl⟩) hs hnil (by omega)
  simp only [show bs (fun _ => 0) 0 = [] from rfl, List.nil_append] at h
  exact h.mono fun e w' h => made_row ((okb_uv ls).app (okb_bs hs)) h
theorem tb_made {ls : Nat} {S : Nat → Nat} (ao : Option Addr) (cap : Nat) (w : World) (hls : ls ≤ 140737488351232) (hok : Okb (bs S ls)) (hb : Byt w ao (uv ls ++ bs S ls).length (xof (uv ls ++ bs S ls))) (hl : (uv ls ++ bs S ls).length ≤ cap) (hc : cap ≤ maxLen) :
    Calls Try.prog 72 #[.slice ao (uv ls ++ bs S ls).length cap, .int .i64 (ls : Int)] w fun e w' => ∃ ao2 cap2, e = .returned (.tuple #[.slice ao2 ls cap2, .int .i64 (((uv ls).length : Int) + (ls : Int)), .int .i64 0]) ∧ (ao2 = none → ls = 0 ∧ cap2 = 0) ∧ Byt w' ao2 ls (xof (bs S ls)) ∧ Below w.heap.size w w' := by
  obtain ⟨E, hE, hR⟩ := tbR_put hls hok
  have hu := uv_len64 (n := ls) (by omega)
  have hlen : (uv ls ++ bs S ls).length = (uv ls).length + ls := by simp [bs_length]
  have h := tby_any ao _ cap E _ (ls : Int) w hb hl hc (by omega) hE (by omega)
  rw [hR] at h
  refine h.mono fun e w' ⟨ao2, cap2, he, q1, _, _, q4, q5, _⟩ => ?_
  simp only [bs_length] at he q1 q4
  exact ⟨ao2, cap2, by rw [he]; congr 5, q1, q4, q5⟩
theorem fix_made (n : Nat) (size : Int) (w : World) : Calls Try.prog 50 #[.slice none 0 0, .int .u64 (n : Int), .int .i64 size] w fun e w' => Made w w' e (fxs n size) := by
  have h := fixed_any none 0 0 n (fun _ => 0) size w (fun k hk => by cases hk) (fun _ => ⟨rfl, rfl⟩) (by omega)
  simp only [show bs (fun _ => 0) 0 = [] from rfl, List.nil_append] at h
  exact h.mono fun e w' h => made_row (okb_fxs n size) h
theorem fix_read (n s : Nat) (h1 : 1 ≤ s) (h8 : s ≤ 8) (ao : Option Addr) (cap : Nat) (w : World) (hb : Byt w ao (fxs n (s : Int)).length (xof (fxs n (s : Int)))) (hl : (fxs n (s : Int)).length ≤ cap) :
    Calls Try.prog 71 #[.slice ao (fxs n (s : Int)).length cap, .int .i64 (s : Int)] w fun e w' => e = .returned (.tuple #[.int .u64 ((n % 256 ^ s : Nat) : Int), .int .i64 0]) ∧ w' = w := by
  have hin : InSize (s : Int) := ⟨by omega, by omega⟩
  have e1 : fxs n (s : Int) = fx n s := by unfold fxs; rw [if_pos hin]; rfl
  rw [e1] at hb hl ⊢
  have h := read_any ao _ cap _ (s : Int) w hb hl
  have e2 : readV (xof (fx n s)) (fx n s).length (s : Int) = .tuple #[.int .u64 ((n % 256 ^ s : Nat) : Int), .int .i64 0] := by
    unfold readV
    rw [if_pos hin, fx_length, if_neg (by omega), Int.toNat_natCast]
    have h2 := fv_fx n s (xof (fx n s)) 0 0 (fun k hk => by
      have := begins_xof' (okb_fx n s) k (by rw [fx_length]; exact hk)
      rw [Nat.zero_add]
      exact this) rfl
    simp only [Nat.zero_add, Nat.zero_mul] at h2
    rw [h2]
  rw [e2] at h
  exact h

end Go.Proofs.Ytimpaindbbjieab

/- The document's own sums. -/
namespace Go.Proofs.Ytimpaindbbjieab
open Go.RowKit
set_option linter.unusedVariables false

/-- The first n bytes that X tells, as natural numbers. -/
def bl (X : Nat → Nat) (n : Nat) : List Nat := (List.range n).map X
theorem bl_succ (X : Nat → Nat) (n : Nat) : bl X (n + 1) = bl X n ++ [X n] := by simp [bl, List.range_succ]
theorem bl_length (X : Nat → Nat) (n : Nat) : (bl X n).length = n := by simp [bl]
theorem bl_lt {w : World} {ao : Option Addr} {len : Nat} {X : Nat → Nat} (h : Byt w ao len X) {n : Nat} (hn : n ≤ len) : ∀ x ∈ bl X n, x < 256 := fun x hx => by
  obtain ⟨k, hk, rfl⟩ := List.mem_map.1 hx
  exact (h k (by have := List.mem_range.1 hk; omega)).1
theorem crcs_bl (s : Nat) (X : Nat → Nat) (n : Nat) : crcs s (bl X (n + 1)) = upd8 (crcs s (bl X n)) (X n) := by
  rw [bl_succ, crcs_append, crcs_cons, crcs_nil]

theorem not32 {a : Nat} (h : a < 4294967296) : bits .xor .u32 IntKind.u32.max (a : Int) = ((a ^^^ ones : Nat) : Int) := by
  have e : IntKind.u32.max = ((4294967295 : Nat) : Int) := by simp [IntKind.max, IntKind.bits, IntKind.signed]
  rw [e, u32_xor_nat _ _ (by decide) h, Nat.xor_comm]
  rfl
theorem and1_32 {t : Nat} (h : t < 4294967296) : bits .and .u32 (t : Int) 1 = ((t % 2 : Nat) : Int) := by
  have := u32_and_nat t 1 h (by decide)
  rw [Nat.and_one_is_mod] at this
  exact this
theorem xorP {a : Nat} (h : a < 4294967296) : bits .xor .u32 (a : Int) 2197175160 = ((a ^^^ poly : Nat) : Int) := u32_xor_nat a 2197175160 h (by decide)
theorem stps_succ (g t : Nat) : stps (g + 1) t = stps g (stp t) := rfl

end Go.Proofs.Ytimpaindbbjieab
