/- The law on growth: greater numbers have no fewer bytes; what was put is taken; a number of a set size is what its bytes hold. -/
import Derived.Test.YtpmebgcknijnkaaUvx
import Derived.Test.YtpmebgcknijnkaaPby
namespace Go.Proofs.Ytpmebgcknijnkaa
open Go.RowKit
set_option linter.unusedVariables false

theorem or128_lt {a : Nat} (h : a < 18446744073709551616) : a ||| 128 < 18446744073709551616 := by
  have : a ||| 128 < 2 ^ 64 := Nat.or_lt_two_pow (by omega) (by decide)
  omega
theorem or128_ge (a : Nat) : 128 ≤ a ||| 128 := Nat.right_le_or
theorem or128_64 {a : Nat} (h : a < 18446744073709551616) : bits .or .u64 (a : Int) 128 = ((a ||| 128 : Nat) : Int) := u64_or_nat a 128 h (by decide)

/-- Bytes with their length ahead come back. -/
theorem tbR_put {ls : Nat} {S : Nat → Nat} (hs : ls ≤ 140737488351232) (hok : Okb (bs S ls)) : ∃ E, IsEnd (xof (uv ls ++ bs S ls)) (uv ls ++ bs S ls).length E ∧
    tbR (xof (uv ls ++ bs S ls)) (uv ls ++ bs S ls).length E (ls : Int) = (bs S ls, (((uv ls).length + ls : Nat) : Int), 0) := by
  have hb : Begins (xof (uv ls ++ bs S ls)) (uv ls) := begins_xof ((okb_uv ls).app hok)
  have hl : (uv ls ++ bs S ls).length = (uv ls).length + ls := by simp [bs_length]
  have hp := uv_pos ls
  refine ⟨(uv ls).length - 1, uv_end hb (by omega), ?_⟩
  unfold tbR
  rw [if_pos (by omega), if_pos (uv_good (by omega) hb), uv_val hb, if_neg (by omega), if_neg (by omega)]
  have e : bs (fun k => xof (uv ls ++ bs S ls) ((uv ls).length - 1 + 1 + k)) ls = bs S ls := by
    unfold bs
    apply List.map_congr_left
    intro k hk
    have hk' := List.mem_range.1 hk
    have h1 : (uv ls).length - 1 + 1 + k = (uv ls).length + k := by omega
    show ((xof (uv ls ++ bs S ls) ((uv ls).length - 1 + 1 + k) : Nat) : Int) = (S k : Int)
    rw [h1]
    have h2 : (uv ls ++ bs S ls)[(uv ls).length + k]? = some (S k : Int) := by
      rw [List.getElem?_append_right (by omega)]
      simp [bs, hk']
    have h3 : xof (uv ls ++ bs S ls) ((uv ls).length + k) = S k := by
      unfold xof
      rw [List.getD_eq_getElem?_getD, h2]
      simp
    rw [h3]
  rw [e]
  congr 2
  omega

theorem shl_shr (a t s : Nat) (h : t + 8 * s = 64) : IntKind.u64.wrap ((a : Int) * 2 ^ t) / 2 ^ t = ((a % 256 ^ s : Nat) : Int) := by
  have e1 : (a : Int) * 2 ^ t = ((a * 2 ^ t : Nat) : Int) := by push_cast; rfl
  rw [e1, wrapU64_nat]
  have e2 : ((2 : Int) ^ t) = ((2 ^ t : Nat) : Int) := by push_cast; rfl
  rw [e2]
  have e3 : 18446744073709551616 = 256 ^ s * 2 ^ t := by
    rw [show (256 : Nat) = 2 ^ 8 from rfl, ← Nat.pow_mul, ← Nat.pow_add, show 8 * s + t = 64 by omega]
  have e4 : a * 2 ^ t % (256 ^ s * 2 ^ t) = a % 256 ^ s * 2 ^ t := Nat.mul_mod_mul_right _ _ _
  rw [e3, e4]
  have e5 : a % 256 ^ s * 2 ^ t / 2 ^ t = a % 256 ^ s := Nat.mul_div_cancel _ (Nat.pow_pos (by decide))
  rw [← Int.natCast_ediv, e5]

/-- A slice of bytes that was made: its shape and what it holds. -/
def Made (w w' : World) (e : Ending) (L : List Int) : Prop :=
  ∃ ao cap, e = .returned (.slice ao L.length cap) ∧ (ao = none → L.length = 0 ∧ cap = 0) ∧ L.length ≤ cap ∧ cap ≤ maxLen ∧ Byt w' ao L.length (xof L) ∧ Below w.heap.size w w'
theorem made_row {w w' : World} {e : Ending} {L : List Int} (hok : Okb L) (h : ∃ v', e = .returned v' ∧ Row w.heap.size w' v' L ∧ Below w.heap.size w w') : Made w w' e L := by
  obtain ⟨v, rfl, hr, hb⟩ := h
  obtain ⟨ao, cap, rfl, q1, q2, q3, q4⟩ := hr.byt hok
  exact ⟨ao, cap, rfl, q1, q2, q3, q4, hb⟩
end Go.Proofs.Ytpmebgcknijnkaa
