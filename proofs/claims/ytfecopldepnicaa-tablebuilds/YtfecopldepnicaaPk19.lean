import Derived.Test.YtfecopldepnicaaPk01
import Derived.Test.YtfecopldepnicaaPk04
import Derived.Test.YtfecopldepnicaaPk12
import Derived.Test.YtfecopldepnicaaPk14
/- The law on growth: greater numbers have no fewer bytes; what was put is taken; a number of a set size is what its bytes hold. -/
namespace Go.Proofs.Ytfecopldepnicaa
open Go.RowKit
set_option linter.unusedVariables false

theorem or128_lt {a : Nat} (h : a < 18446744073709551616) : a ||| 128 < 18446744073709551616 := by
  have : a ||| 128 < 2 ^ 64 := Nat.or_lt_two_pow (by omega) (by decide)
  omega
theorem or128_ge (a : Nat) : 128 ≤ a ||| 128 := Nat.right_le_or
theorem or128_64 {a : Nat} (h : a < 18446744073709551616) : bits .or .u64 (a : Int) 128 = ((a ||| 128 : Nat) : Int) := u64_or_nat a 128 h (by decide)

/-- Bytes with their length ahead come back. -/
theorem tbR_put {ls : Nat} {S : Nat → Nat} (hs : ls ≤ 140737488351232) (hok : Okb (bs S ls)) : ∃ E, IsEnd (xof (uv ls ++ bs S ls)) (uv ls ++ bs S ls).length E ∧
    tbR (xof (uv ls ++ bs S ls)) (uv ls ++ bs S ls).length E (ls : Int) = (bs S ls, (((uv ls).length + ls : Nat) : Int), 0) := by
  have hb : Begins (xof (uv ls ++ bs S ls)) (uv ls) := begins_xof ((okb_uv ls).app hok)
  have hl : (uv ls ++ bs S ls).length = (uv ls).length + ls := by simp [bs_length]
  have hp := uv_pos ls
  refine ⟨(uv ls).length - 1, uv_end hb (by omega), ?_⟩
  unfold tbR
  rw [if_pos (by omega), if_pos (uv_good (by omega) hb), uv_val hb, if_neg (by omega), if_neg (by omega)]
  have e : bs (fun k => xof (uv ls ++ bs S ls) ((uv ls).length - 1 + 1 + k)) ls = bs S ls := by
    unfold bs
    apply List.map_congr_left
    intro k hk
    have hk' := List.mem_range.1 hk
    have h1 : (uv ls).length - 1 + 1 + k = (uv ls).length + k := by omega
    show ((xof (uv ls ++ bs S ls) ((uv ls).length - 1 + 1 + k) : Nat) : Int) = (S k : Int)
    rw [h1]
    have h2 : (uv ls ++ bs S ls)[(uv ls).length + k]? = some (S k : Int) := by
      rw [List.getElem?_append_right (by omega)]
      simp [bs, hk']
    have h3 : xof (uv ls ++ bs S ls) ((uv ls).length + k) = S k := by
      unfold xof
      rw [List.getD_eq_getElem?_getD, h2]
      simp
    rw [h3]
  rw [e]
  congr 2
  omega

theorem shl_shr (a t s : Nat) (h : t + 8 * s = 64) : IntKind.u64.wrap ((a : Int) * 2 ^ t) / 2 ^ t = ((a % 256 ^ s : Nat) : Int) := by
  have e1 : (a : Int) * 2 ^ t = ((a * 2 ^ t : Nat) : Int) := by push_cast; rfl
  rw [e1, wrapU64_nat]
  have e2 : ((2 : Int) ^ t) = ((2 ^ t : Nat) : Int) := by push_cast; rfl
  rw [e2]
  have e3 : 18446744073709551616 = 256 ^ s * 2 ^ t := by
    rw [show (256 : Nat) = 2 ^ 8 from rfl, ← Nat.pow_mul, ← Nat.pow_add, show 8 * s + t = 64 by omega]
  have e4 : a * 2 ^ t % (256 ^ s * 2 ^ t) = a % 256 ^ s * 2 ^ t := Nat.mul_mod_mul_right _ _ _
  rw [e3, e4]
  have e5 : a % 256 ^ s * 2 ^ t / 2 ^ t = a % 256 ^ s := Nat.mul_div_cancel _ (Nat.pow_pos (by decide))
  rw [← Int.natCast_ediv, e5]

/-- A slice of bytes that was made: its shape and what it holds. -/
def Made (w w' : World) (e : Ending) (L : List Int) : Prop :=
  ∃ ao cap, e = .returned (.slice ao L.length cap) ∧ (ao = none → L.length = 0 ∧ cap = 0) ∧ L.length ≤ cap ∧ cap ≤ maxLen ∧ Byt w' ao L.length (xof L) ∧ Below w.heap.size w w'
theorem made_row {w w' : World} {e : Ending} {L : List Int} (hok : Okb L) (h : ∃ v', e = .returned v' ∧ Row w.heap.size w' v' L ∧ Below w.heap.size w w') : Made w w' e L := by
  obtain ⟨v, rfl, hr, hb⟩ := h
  obtain ⟨ao, cap, rfl, q1, q2, q3, q4⟩ := hr.byt hok
  exact ⟨ao, cap, rfl, q1, q2, q3, q4, hb⟩
theorem pb_made (so : Option Addr) (ls cs : Nat) (S : Nat → Nat) (w : World) (hs : Byt w so ls S) (hnil : so = none → ls = 0 ∧ cs = 0) (hls : ls ≤ 140737488351232) :
    Calls Try.prog 89 #[.slice none 0 0, .slice so ls cs] w fun e w' => Made w w' e (uv ls ++ bs S ls) := by
  have h := pby_any none so 0 0 ls cs (fun _ => 0) S w (fun k hk => by cases hk) (fun _ => ⟨rfl, rfl⟩) hs hnil (by omega)
  simp only [show bs (fun _ => 0) 0 = [] from rfl, List.nil_append] at h
  exact h.mono fun e w' h => made_row ((okb_uv ls).app (okb_bs hs)) h
theorem tb_made {ls : Nat} {S : Nat → Nat} (ao : Option Addr) (cap : Nat) (w : World) (hls : ls ≤ 140737488351232) (hok : Okb (bs S ls)) (hb : Byt w ao (uv ls ++ bs S ls).length (xof (uv ls ++ bs S ls))) (hl : (uv ls ++ bs S ls).length ≤ cap) (hc : cap ≤ maxLen) :
    Calls Try.prog 97 #[.slice ao (uv ls ++ bs S ls).length cap, .int .i64 (ls : Int)] w fun e w' => ∃ ao2 cap2, e = .returned (.tuple #[.slice ao2 ls cap2, .int .i64 (((uv ls).length : Int) + (ls : Int)), .int .i64 0]) ∧ (ao2 = none → ls = 0 ∧ cap2 = 0) ∧ Byt w' ao2 ls (xof (bs S ls)) ∧ Below w.heap.size w w' := by
  obtain ⟨E, hE, hR⟩ := tbR_put hls hok
  have hu := uv_len64 (n := ls) (by omega)
  have hlen : (uv ls ++ bs S ls).length = (uv ls).length + ls := by simp [bs_length]
  have h := tby_any ao _ cap E _ (ls : Int) w hb hl hc (by omega) hE (by omega)
  rw [hR] at h
  refine h.mono fun e w' ⟨ao2, cap2, he, q1, _, _, q4, q5, _⟩ => ?_
  simp only [bs_length] at he q1 q4
  exact ⟨ao2, cap2, by rw [he]; congr 5, q1, q4, q5⟩
theorem fix_made (n : Nat) (size : Int) (w : World) : Calls Try.prog 67 #[.slice none 0 0, .int .u64 (n : Int), .int .i64 size] w fun e w' => Made w w' e (fxs n size) := by
  have h := fixed_any none 0 0 n (fun _ => 0) size w (fun k hk => by cases hk) (fun _ => ⟨rfl, rfl⟩) (by omega)
  simp only [show bs (fun _ => 0) 0 = [] from rfl, List.nil_append] at h
  exact h.mono fun e w' h => made_row (okb_fxs n size) h
theorem fix_read (n s : Nat) (h1 : 1 ≤ s) (h8 : s ≤ 8) (ao : Option Addr) (cap : Nat) (w : World) (hb : Byt w ao (fxs n (s : Int)).length (xof (fxs n (s : Int)))) (hl : (fxs n (s : Int)).length ≤ cap) :
    Calls Try.prog 96 #[.slice ao (fxs n (s : Int)).length cap, .int .i64 (s : Int)] w fun e w' => e = .returned (.tuple #[.int .u64 ((n % 256 ^ s : Nat) : Int), .int .i64 0]) ∧ w' = w := by
  have hin : InSize (s : Int) := ⟨by omega, by omega⟩
  have e1 : fxs n (s : Int) = fx n s := by unfold fxs; rw [if_pos hin]; rfl
  rw [e1] at hb hl ⊢
  have h := read_any ao _ cap _ (s : Int) w hb hl
  have e2 : readV (xof (fx n s)) (fx n s).length (s : Int) = .tuple #[.int .u64 ((n % 256 ^ s : Nat) : Int), .int .i64 0] := by
    unfold readV
    rw [if_pos hin, fx_length, if_neg (by omega), Int.toNat_natCast]
    have h2 := fv_fx n s (xof (fx n s)) 0 0 (fun k hk => by
      have := begins_xof' (okb_fx n s) k (by rw [fx_length]; exact hk)
      rw [Nat.zero_add]
      exact this) rfl
    simp only [Nat.zero_add, Nat.zero_mul] at h2
    rw [h2]
  rw [e2] at h
  exact h

end Go.Proofs.Ytfecopldepnicaa

/- The document's own sums. -/
namespace Go.Proofs.Ytfecopldepnicaa
open Go.RowKit
set_option linter.unusedVariables false

/-- The first n bytes that X tells, as natural numbers. -/
def bl (X : Nat → Nat) (n : Nat) : List Nat := (List.range n).map X
theorem bl_succ (X : Nat → Nat) (n : Nat) : bl X (n + 1) = bl X n ++ [X n] := by simp [bl, List.range_succ]
theorem bl_length (X : Nat → Nat) (n : Nat) : (bl X n).length = n := by simp [bl]
theorem bl_lt {w : World} {ao : Option Addr} {len : Nat} {X : Nat → Nat} (h : Byt w ao len X) {n : Nat} (hn : n ≤ len) : ∀ x ∈ bl X n, x < 256 := fun x hx => by
  obtain ⟨k, hk, rfl⟩ := List.mem_map.1 hx
  exact (h k (by have := List.mem_range.1 hk; omega)).1
theorem crcs_bl (s : Nat) (X : Nat → Nat) (n : Nat) : crcs s (bl X (n + 1)) = upd8 (crcs s (bl X n)) (X n) := by
  rw [bl_succ, crcs_append, crcs_cons, crcs_nil]

theorem not32 {a : Nat} (h : a < 4294967296) : bits .xor .u32 IntKind.u32.max (a : Int) = ((a ^^^ ones : Nat) : Int) := by
  have e : IntKind.u32.max = ((4294967295 : Nat) : Int) := by simp [IntKind.max, IntKind.bits, IntKind.signed]
  rw [e, u32_xor_nat _ _ (by decide) h, Nat.xor_comm]
  rfl
theorem and1_32 {t : Nat} (h : t < 4294967296) : bits .and .u32 (t : Int) 1 = ((t % 2 : Nat) : Int) := by
  have := u32_and_nat t 1 h (by decide)
  rw [Nat.and_one_is_mod] at this
  exact this
theorem xorP {a : Nat} (h : a < 4294967296) : bits .xor .u32 (a : Int) 2197175160 = ((a ^^^ poly : Nat) : Int) := u32_xor_nat a 2197175160 h (by decide)
theorem stps_succ (g t : Nat) : stps (g + 1) t = stps g (stp t) := rfl

set_option maxHeartbeats 1000000 in
set_option maxRecDepth 100000 in
theorem rmore_any (sum : Nat) (ao : Option Addr) (len cap : Nat) (X : Nat → Nat) (w : World) (hs : sum < 4294967296) (hb : Byt w ao len X) (hl : len ≤ maxLen) :
    Calls Try.prog 95 #[.int .u32 (sum : Int), .slice ao len cap] w fun e w' => e = .returned (.int .u32 (more sum (bl X len) : Nat)) ∧ w' = w := by
  have HB : Hid (Byt w ao len X) := hb
  have hl63 : len ≤ 2 ^ 63 - 1 := by unfold maxLen at hl; omega
  obtain ⟨s0, hs0⟩ : ∃ s0, s0 = sum ^^^ ones := ⟨_, rfl⟩
  have hs1 : s0 < 4294967296 := by rw [hs0]; exact xor_lt32 hs (by decide)
  have hn := not32 hs
  rw [← hs0] at hn
  have HS : Hid (s0 = sum ^^^ ones ∧ s0 < 4294967296) := ⟨hs0, hs1⟩
  clear hb hl hs0 hs1
  go_enter Try.func95, Try.ntmps95
  go_wp2_with fail
  clear hn
  go_loopg [0, 11] len (fun g s i wr => ∃ k t : Nat, k + g = len ∧ i = .int .i64 (k : Int) ∧ s = .int .u32 (t : Int) ∧ wr = w ∧ Hid (t = crcs s0 (bl X k)))
  case atStart => exact ⟨0, s0, by omega, rfl, rfl, rfl, rfl⟩
  case round =>
    obtain ⟨k, t, hk, rfl, rfl, hw, HT⟩ := hrel
    obtain rfl := hw
    have ht : t < 4294967296 := by rw [HT.out]; exact crcs_lt _ HS.out.2 (bl_lt HB.out (by omega))
    by_cases h : k < len
    · obtain ⟨hx, b, off, rfl, hcell⟩ := HB.out k h
      have h' : (k : Int) < (len : Int) := by omega
      obtain ⟨GK, HG⟩ : ∃ g, Hid (g < gk ∧ k + 1 + g = len) := ⟨gk - 1, by omega, by omega⟩
      obtain ⟨c, hc⟩ : ∃ c, c = X k := ⟨_, rfl⟩
      rw [← hc] at hcell hx
      have hc8 : (c : Int) < 256 := by omega
      obtain ⟨t0, ht0⟩ : ∃ t0, t0 = t ^^^ c := ⟨_, rfl⟩
      have H0 : Hid (t0 = t ^^^ c) := ht0
      have hxor : bits .xor .u32 (t : Int) (c : Int) = (t0 : Int) := by rw [ht0]; exact u32_xor_nat t c ht (by omega)
      have HC : Hid (c = X k ∧ c < 256 ∧ t < 4294967296) := ⟨hc, hx, ht⟩
      clear hk h hc hx ht0
      go_wp2_with fail
      clear hxor
      go_loopg [0, 19] 8 (fun g s i wr2 => ∃ j u : Nat, j + g = 8 ∧ i = .int .i64 (j : Int) ∧ s = .int .u32 (u : Int) ∧ wr2 = wr ∧ Hid (stps g u = upd8 t c ∧ u < 4294967296))
      case atStart => exact ⟨0, t0, by omega, rfl, rfl, rfl, by rw [H0.out]; rfl, by rw [H0.out]; have := HC.out; exact xor_lt32 this.2.2 (by omega)⟩
      case round =>
        obtain ⟨j, u, hj, rfl, rfl, hw, HU⟩ := hrel
        obtain rfl := hw
        by_cases h8 : j < 8
        · have h8' : (j : Int) < 8 := by omega
          obtain ⟨GK2, HG2⟩ : ∃ g, Hid (g < gk ∧ j + 1 + g = 8 ∧ gk = g + 1) := ⟨gk - 1, by omega, by omega, by omega⟩
          have hand := and1_32 HU.out.2
          clear hj h8
          by_cases hp : u % 2 = 1
          · rw [hp] at hand
            have hand' : bits .and .u32 (u : Int) 1 = 1 := hand
            obtain ⟨v, hv⟩ : ∃ v, v = u / 2 ^^^ poly := ⟨_, rfl⟩
            have hxp : bits .xor .u32 ((u : Int) / 2) 2197175160 = (v : Int) := by
              have := xorP (a := u / 2) (by have := HU.out.2; omega)
              rw [← hv] at this
              rw [← this]
              congr 1
            have HV : Hid (v = stp u) := by unfold stp; rw [if_pos hp]; exact hv
            clear hand hv hp
            go_wp2_with fail
            go_roundg GK2
            case measure => exact HG2.out.1
            case rel =>
              refine ⟨j + 1, v, HG2.out.2.1, by go_num, rfl, rfl, ?_, ?_⟩
              · have h1 := HU.out.1
                rw [HG2.out.2.2, stps_succ] at h1
                rw [HV.out]
                exact h1
              · rw [HV.out]; exact stp_lt HU.out.2
          · have hp0 : u % 2 = 0 := by omega
            rw [hp0] at hand
            have hand' : bits .and .u32 (u : Int) 1 = 0 := hand
            have HV : Hid (u / 2 = stp u) := by unfold stp; rw [if_neg hp]; exact rfl
            clear hand hp hp0
            go_wp2_with fail
            go_roundg GK2
            case measure => exact HG2.out.1
            case rel =>
              refine ⟨j + 1, u / 2, HG2.out.2.1, by go_num, by go_num, rfl, ?_, ?_⟩
              · have h1 := HU.out.1
                rw [HG2.out.2.2, stps_succ] at h1
                rw [HV.out]
                exact h1
              · rw [HV.out]; exact stp_lt HU.out.2
        · have h8' : (8 : Int) ≤ (j : Int) := by omega
          have hg0 : gk = 0 := by omega
          have hu : u = upd8 t c := by have := HU.out.1; rw [hg0] at this; exact this
          clear hj h8
          go_wp2_with fail
          go_roundg GK
          case measure => exact HG.out.1
          case rel =>
            refine ⟨k + 1, u, HG.out.2, by go_num, rfl, rfl, ?_⟩
            show u = crcs s0 (bl X (k + 1))
            rw [crcs_bl, ← HT.out, ← HC.out.1]
            exact hu
    · have h' : (len : Int) ≤ (k : Int) := by omega
      have hkl : k = len := by omega
      have hn2 := not32 ht
      obtain ⟨r, hr⟩ : ∃ r, r = t ^^^ ones := ⟨_, rfl⟩
      rw [← hr] at hn2
      have HRR : Hid (r = more sum (bl X len)) := by
        show r = more sum (bl X len)
        rw [hr, HT.out, HS.out.1, hkl]
        rfl
      clear hk h hkl hr ht
      go_wp2_with fail
      go_ret
      exact ⟨by rw [← HRR.out]; rfl, rfl⟩
end Go.Proofs.Ytfecopldepnicaa

/- The eight steps, by goto. -/
namespace Go.Proofs.Ytfecopldepnicaa
open Go.RowKit
set_option linter.unusedVariables false

def cnt (v : Value) : Nat := match v with | .int _ n => n.toNat | _ => 0

set_option maxHeartbeats 1000000 in
set_option maxRecDepth 100000 in
theorem eight_any (s : Nat) (w : World) (hs : s < 4294967296) : Calls Try.prog 114 #[.int .u32 (s : Int)] w fun e w' => e = .returned (.int .u32 (stps 8 s : Nat)) ∧ w' = w := by
  have step : ∀ u : Nat, u < 4294967296 → ∃ v : Nat, Hid (v = stp u ∧ v < 4294967296) ∧ ((bits .and .u32 (u : Int) 1 = 1 ∧ bits .xor .u32 ((u : Int) / 2) 2197175160 = (v : Int)) ∨ (bits .and .u32 (u : Int) 1 = 0 ∧ (u : Int) / 2 = (v : Int))) := fun u hu => by
    refine ⟨stp u, ⟨rfl, stp_lt hu⟩, ?_⟩
    have hand := and1_32 hu
    by_cases hp : u % 2 = 1
    · rw [hp] at hand
      refine .inl ⟨hand, ?_⟩
      have := xorP (a := u / 2) (by omega)
      unfold stp
      rw [if_pos hp, ← this]
      congr 1
    · have hp0 : u % 2 = 0 := by omega
      rw [hp0] at hand
      refine .inr ⟨hand, ?_⟩
      unfold stp
      rw [if_neg hp]
      omega
  have HS : Hid (∀ u : Nat, u < 4294967296 → ∃ v : Nat, Hid (v = stp u ∧ v < 4294967296) ∧ ((bits .and .u32 (u : Int) 1 = 1 ∧ bits .xor .u32 ((u : Int) / 2) 2197175160 = (v : Int)) ∨ (bits .and .u32 (u : Int) 1 = 0 ∧ (u : Int) / 2 = (v : Int)))) := step
  have H0 : Hid (s < 4294967296) := hs
  clear step hs
  go_enter Try.func114, Try.ntmps114
  go_wp2_with fail
  refine wp_scope_jumps 0 (fun a' w' => w' = w ∧ ∃ (j u : Nat) (u1 u4 u5 u6 u7 u8 u9 u10 u11 u12 u13 u14 u15 u16 u17 : Value), a' = { tmps := #[.int .u32 (u : Int), u1, .int .u32 0, .int .i64 (j : Int), u4, u5, u6, u7, u8, u9, u10, u11, u12, u13, u14, u15, u16, u17], defers := [] } ∧ Hid (1 ≤ j ∧ j < 8 ∧ u < 4294967296 ∧ stps j u = stps 8 s)) (fun a _ => cnt (a.eval (.tmp 3))) rfl ?_ ?_
  · obtain ⟨v, HV, ⟨h1, h2⟩ | ⟨h1, h2⟩⟩ := HS.out s H0.out
    · go_wp2_with fail
      go_step3
      go_wp2_with fail
      go_step3
      exact ⟨rfl, rfl, 7, v, _, _, _, _, _, _, _, _, _, _, _, _, _, _, _, rfl, by omega, by omega, HV.out.2, by rw [HV.out.1]; rfl⟩
    · go_wp2_with fail
      go_step3
      go_wp2_with fail
      go_step3
      exact ⟨rfl, rfl, 7, v, _, _, _, _, _, _, _, _, _, _, _, _, _, _, _, by rw [← h2]; rfl, by omega, by omega, HV.out.2, by rw [HV.out.1]; rfl⟩
  · rintro a' w' ⟨rfl, j, u, u1, u4, u5, u6, u7, u8, u9, u10, u11, u12, u13, u14, u15, u16, u17, rfl, HJ⟩
    have hj8 : (j : Int) < 8 := by have := HJ.out; omega
    have hj1 : (1 : Int) ≤ (j : Int) := by have := HJ.out; omega
    obtain ⟨v, HV, hv⟩ := HS.out u HJ.out.2.2.1
    obtain ⟨i, rfl⟩ : ∃ i, j = i + 1 := ⟨j - 1, by have := HJ.out; omega⟩
    have hji : ((i + 1 : Nat) : Int) - 1 = (i : Int) := by omega
    have hst : stps i v = stps 8 s := by
      have h1 := HJ.out
      rw [HV.out.1, ← h1.2.2.2]
      rfl
    have HST : Hid (stps i v = stps 8 s) := hst
    clear hst
    by_cases hl : 0 < i
    · have hl' : (0 : Int) < (i : Int) := by omega
      rcases hv with ⟨h1, h2⟩ | ⟨h1, h2⟩
      · go_wp2_with fail
        go_step3
        refine ⟨rfl, ⟨rfl, i, v, _, _, _, _, _, _, _, _, _, _, _, _, _, _, _, rfl, by omega, by omega, HV.out.2, HST.out⟩, ?_⟩
        simp [cnt, Act.eval]
      · go_wp2_with fail
        go_step3
        refine ⟨rfl, ⟨rfl, i, v, _, _, _, _, _, _, _, _, _, _, _, _, _, _, _, by rw [← h2], by omega, by omega, HV.out.2, HST.out⟩, ?_⟩
        simp [cnt, Act.eval]
    · have hl' : (i : Int) ≤ 0 := by omega
      have hj7 : i = 0 := by omega
      have hr : v = stps 8 s := by have := HST.out; rw [hj7] at this; exact this
      rcases hv with ⟨h1, h2⟩ | ⟨h1, h2⟩
      · go_wp2_with fail
        simp only [Exit.jump]
        go_ret
        exact ⟨rfl, rfl⟩
      · go_wp2_with fail
        simp only [Exit.jump]
        go_ret
        exact ⟨rfl, rfl⟩
end Go.Proofs.Ytfecopldepnicaa
