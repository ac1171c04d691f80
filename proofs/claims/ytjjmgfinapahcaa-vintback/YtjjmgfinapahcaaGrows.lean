/- The law on growth: greater numbers have no fewer bytes; what was put is taken; a number of a set size is what its bytes hold. -/
import Derived.Test.YtjjmgfinapahcaaUvx
import Derived.Test.YtjjmgfinapahcaaPby
namespace Go.Proofs.Ytjjmgfinapahcaa
open Go.RowKit
set_option linter.unusedVariables false

theorem or128_lt {a : Nat} (h : a < 18446744073709551616) : a ||| 128 < 18446744073709551616 := by
  have : a ||| 128 < 2 ^ 64 := Nat.or_lt_two_pow (by omega) (by decide)
  omega
theorem or128_ge (a : Nat) : 128 ≤ a ||| 128 := Nat.right_le_or
theorem len_one (a : Nat) (w : World) : Calls Try.prog 13 #[.int .u64 ((a % 128 : Nat) : Int)] w fun e w' => e = .returned (.int .i64 1) ∧ w' = w := by
  have := len_any (a % 128) w (by omega)
  rw [uv_lt (by omega)] at this
  exact this
theorem or128_64 {a : Nat} (h : a < 18446744073709551616) : bits .or .u64 (a : Int) 128 = ((a ||| 128 : Nat) : Int) := u64_or_nat a 128 h (by decide)

/-- Bytes with their length ahead come back. -/
theorem tbR_put {ls : Nat} {S : Nat → Nat} (hs : ls ≤ 140737488351232) (hok : Okb (bs S ls)) : ∃ E, IsEnd (xof (uv ls ++ bs S ls)) (uv ls ++ bs S ls).length E ∧
    tbR (xof (uv ls ++ bs S ls)) (uv ls ++ bs S ls).length E (ls : Int) = (bs S ls, (((uv ls).length + ls : Nat) : Int), 0) := by
  have hb : Begins (xof (uv ls ++ bs S ls)) (uv ls) := begins_xof ((okb_uv ls).app hok)
  have hl : (uv ls ++ bs S ls).length = (uv ls).length + ls := by simp [bs_length]
  have hp := uv_pos ls
  refine ⟨(uv ls).length - 1, uv_end hb (by omega), ?_⟩
  unfold tbR
  rw [if_pos (by omega), if_pos (uv_good (by omega) hb), uv_val hb, if_neg (by omega), if_neg (by omega)]
  have e : bs (fun k => xof (uv ls ++ bs S ls) ((uv ls).length - 1 + 1 + k)) ls = bs S ls := by
    unfold bs
    apply List.map_congr_left
    intro k hk
    have hk' := List.mem_range.1 hk
    have h1 : (uv ls).length - 1 + 1 + k = (uv ls).length + k := by omega
    show ((xof (uv ls ++ bs S ls) ((uv ls).length - 1 + 1 + k) : Nat) : Int) = (S k : Int)
    rw [h1]
    have h2 : (uv ls ++ bs S ls)[(uv ls).length + k]? = some (S k : Int) := by
      rw [List.getElem?_append_right (by omega)]
      simp [bs, hk']
    have h3 : xof (uv ls ++ bs S ls) ((uv ls).length + k) = S k := by
      unfold xof
      rw [List.getD_eq_getElem?_getD, h2]
      simp
    rw [h3]
  rw [e]
  congr 2
  omega

theorem shl_shr (a t s : Nat) (h : t + 8 * s = 64) : IntKind.u64.wrap ((a : Int) * 2 ^ t) / 2 ^ t = ((a % 256 ^ s : Nat) : Int) := by
  have e1 : (a : Int) * 2 ^ t = ((a * 2 ^ t : Nat) : Int) := by push_cast; rfl
  rw [e1, wrapU64_nat]
  have e2 : ((2 : Int) ^ t) = ((2 ^ t : Nat) : Int) := by push_cast; rfl
  rw [e2]
  have e3 : 18446744073709551616 = 256 ^ s * 2 ^ t := by
    rw [show (256 : Nat) = 2 ^ 8 from rfl, ← Nat.pow_mul, ← Nat.pow_add, show 8 * s + t = 64 by omega]
  have e4 : a * 2 ^ t % (256 ^ s * 2 ^ t) = a % 256 ^ s * 2 ^ t := Nat.mul_mod_mul_right _ _ _
  rw [e3, e4]
  have e5 : a % 256 ^ s * 2 ^ t / 2 ^ t = a % 256 ^ s := Nat.mul_div_cancel _ (Nat.pow_pos (by decide))
  rw [← Int.natCast_ediv, e5]

/-- A slice of bytes that was made: its shape and what it holds. -/
def Made (w w' : World) (e : Ending) (L : List Int) : Prop :=
  ∃ ao cap, e = .returned (.slice ao L.length cap) ∧ (ao = none → L.length = 0 ∧ cap = 0) ∧ L.length ≤ cap ∧ cap ≤ maxLen ∧ Byt w' ao L.length (xof L) ∧ Below w.heap.size w w'
theorem made_row {w w' : World} {e : Ending} {L : List Int} (hok : Okb L) (h : ∃ v', e = .returned v' ∧ Row w.heap.size w' v' L ∧ Below w.heap.size w w') : Made w w' e L := by
  obtain ⟨v, rfl, hr, hb⟩ := h
  obtain ⟨ao, cap, rfl, q1, q2, q3, q4⟩ := hr.byt hok
  exact ⟨ao, cap, rfl, q1, q2, q3, q4, hb⟩
theorem pb_made (so : Option Addr) (ls cs : Nat) (S : Nat → Nat) (w : World) (hs : Byt w so ls S) (hnil : so = none → ls = 0 ∧ cs = 0) (hls : ls ≤ 140737488351232) :
    Calls Try.prog 26 #[.slice none 0 0, .slice so ls cs] w fun e w' => Made w w' e (uv ls ++ bs S ls) := by
  have h := pby_any none so 0 0 ls cs (fun _ => 0) S w (fun k hk => by cases hk) (fun _ => ⟨rfl, rfl⟩) hs hnil (by omega)
  simp only [show bs (fun _ => 0) 0 = [] from rfl, List.nil_append] at h
  exact h.mono fun e w' h => made_row ((okb_uv ls).app (okb_bs hs)) h
theorem tb_made {ls : Nat} {S : Nat → Nat} (ao : Option Addr) (cap : Nat) (w : World) (hls : ls ≤ 140737488351232) (hok : Okb (bs S ls)) (hb : Byt w ao (uv ls ++ bs S ls).length (xof (uv ls ++ bs S ls))) (hl : (uv ls ++ bs S ls).length ≤ cap) (hc : cap ≤ maxLen) :
    Calls Try.prog 24 #[.slice ao (uv ls ++ bs S ls).length cap, .int .i64 (ls : Int)] w fun e w' => ∃ ao2 cap2, e = .returned (.tuple #[.slice ao2 ls cap2, .int .i64 (((uv ls).length : Int) + (ls : Int)), .int .i64 0]) ∧ (ao2 = none → ls = 0 ∧ cap2 = 0) ∧ Byt w' ao2 ls (xof (bs S ls)) ∧ Below w.heap.size w w' := by
  obtain ⟨E, hE, hR⟩ := tbR_put hls hok
  have hu := uv_len64 (n := ls) (by omega)
  have hlen : (uv ls ++ bs S ls).length = (uv ls).length + ls := by simp [bs_length]
  have h := tby_any ao _ cap E _ (ls : Int) w hb hl hc (by omega) hE (by omega)
  rw [hR] at h
  refine h.mono fun e w' ⟨ao2, cap2, he, q1, _, _, q4, q5⟩ => ?_
  simp only [bs_length] at he q1 q4
  exact ⟨ao2, cap2, by rw [he]; congr 5, q1, q4, q5⟩
theorem fix_made (n : Nat) (size : Int) (w : World) : Calls Try.prog 18 #[.slice none 0 0, .int .u64 (n : Int), .int .i64 size] w fun e w' => Made w w' e (fxs n size) := by
  have h := fixed_any none 0 0 n (fun _ => 0) size w (fun k hk => by cases hk) (fun _ => ⟨rfl, rfl⟩) (by omega)
  simp only [show bs (fun _ => 0) 0 = [] from rfl, List.nil_append] at h
  exact h.mono fun e w' h => made_row (okb_fxs n size) h
theorem fix_read (n s : Nat) (h1 : 1 ≤ s) (h8 : s ≤ 8) (ao : Option Addr) (cap : Nat) (w : World) (hb : Byt w ao (fxs n (s : Int)).length (xof (fxs n (s : Int)))) (hl : (fxs n (s : Int)).length ≤ cap) :
    Calls Try.prog 16 #[.slice ao (fxs n (s : Int)).length cap, .int .i64 (s : Int)] w fun e w' => e = .returned (.tuple #[.int .u64 ((n % 256 ^ s : Nat) : Int), .int .i64 0]) ∧ w' = w := by
  have hin : InSize (s : Int) := ⟨by omega, by omega⟩
  have e1 : fxs n (s : Int) = fx n s := by unfold fxs; rw [if_pos hin]; rfl
  rw [e1] at hb hl ⊢
  have h := read_any ao _ cap _ (s : Int) w hb hl
  have e2 : readV (xof (fx n s)) (fx n s).length (s : Int) = .tuple #[.int .u64 ((n % 256 ^ s : Nat) : Int), .int .i64 0] := by
    unfold readV
    rw [if_pos hin, fx_length, if_neg (by omega), Int.toNat_natCast]
    have h2 := fv_fx n s (xof (fx n s)) 0 0 (fun k hk => by
      have := begins_xof' (okb_fx n s) k (by rw [fx_length]; exact hk)
      rw [Nat.zero_add]
      exact this) rfl
    simp only [Nat.zero_add, Nat.zero_mul] at h2
    rw [h2]
  rw [e2] at h
  exact h

set_option maxHeartbeats 1000000 in
set_option maxRecDepth 100000 in
theorem grows_any (a b : Nat) (size : Int) (so : Option Addr) (ls cs : Nat) (S : Nat → Nat) (W : World) (ha : a < 18446744073709551616) (hb : b < 18446744073709551616) (hs : Byt W so ls S) (hnil : so = none → ls = 0 ∧ cs = 0) (hls : ls ≤ 140737488351232) :
    Calls Try.prog 8 #[.int .u64 (a : Int), .int .u64 (b : Int), .int .i64 size, .slice so ls cs] W fun e w' => e = .returned (.bool true) ∧ Below W.heap.size W w' := by
  have HS : Hid (Byt W so ls S ∧ (so = none → ls = 0 ∧ cs = 0) ∧ ls ≤ 140737488351232 ∧ a < 18446744073709551616 ∧ b < 18446744073709551616) := ⟨hs, hnil, hls, ha, hb⟩
  have hpb := fun w (h : Byt w so ls S) => pb_made so ls cs S w h hnil hls
  have htb := fun ao cap w h1 h2 h3 => tb_made (S := S) (ls := ls) ao cap w hls (okb_bs hs) h1 h2 h3
  have hu10 : (uv ls).length ≤ 10 := uv_len64 (by omega)
  have hstr : strOfNums (bs (xof (bs S ls)) ls) = strOfNums (bs S ls) := by have := bs_xof (okb_bs hs); rw [bs_length] at this; rw [this]
  obtain ⟨L, hL⟩ : ∃ L, L = uv ls ++ bs S ls := ⟨_, rfl⟩
  rw [← hL] at hpb htb
  clear hL
  obtain ⟨lo, hi, hle0, hlo, hhi, hsw⟩ : ∃ lo hi : Nat, lo ≤ hi ∧ lo < 18446744073709551616 ∧ hi < 18446744073709551616 ∧ ((b < a ∧ lo = b ∧ hi = a) ∨ (a ≤ b ∧ lo = a ∧ hi = b)) := by
    by_cases hab : b < a
    · exact ⟨b, a, by omega, hb, ha, .inl ⟨hab, rfl, rfl⟩⟩
    · exact ⟨a, b, by omega, ha, hb, .inr ⟨by omega, rfl, rfl⟩⟩
  obtain ⟨d, HD⟩ : ∃ d : Nat, Hid (d = lo % 128) := ⟨_, rfl⟩
  obtain ⟨c, HC⟩ : ∃ c : Nat, Hid (c = lo ||| 128) := ⟨_, rfl⟩
  have hwa : bits .and .u64 (lo : Int) 127 = (d : Int) := by rw [HD.out]; exact and127_64 hlo
  have hwo : bits .or .u64 (lo : Int) 128 = (c : Int) := by rw [HC.out]; exact or128_64 hlo
  have hd1 : ((uv d).length : Int) = 1 := by rw [HD.out, uv_lt (by omega)]; rfl
  have hc2 : (2 : Int) ≤ ((uv c).length : Int) := by
    have h1 := or128_ge lo
    rw [HC.out, uv_ge h1]
    have := uv_pos ((lo ||| 128) / 128)
    simp
    omega
  have hle : ((uv lo).length : Int) ≤ ((uv hi).length : Int) := by have := uv_mono hi lo hle0; omega
  have HL : Hid (lo < 18446744073709551616 ∧ hi < 18446744073709551616 ∧ d < 18446744073709551616 ∧ c < 18446744073709551616 ∧ ls < 18446744073709551616) := ⟨hlo, hhi, by rw [HD.out]; omega, by rw [HC.out]; exact or128_lt hlo, by omega⟩
  have hls' : ls ≤ 2 ^ 63 - 11 := by omega
  clear ha hb hs hnil hls hle0 hlo hhi
  rcases hsw with ⟨hab, rfl, rfl⟩ | ⟨hab, rfl, rfl⟩
  · have hab' : (lo : Int) < (hi : Int) := by omega
    clear hab
    go_enter Try.func8, Try.ntmps8
    go_upto_region 5 with (go_at_call 13; refine (len_any _ _ (by first | exact HL.out.1 | exact HL.out.2.1 | exact HL.out.2.2.1 | exact HL.out.2.2.2.1 | exact HL.out.2.2.2.2)).mono ?_; rintro e W ⟨rfl, rfl⟩)
    have hpb1 := hpb W HS.out.1
    clear hwa hwo hd1 hc2 hle hpb
    go_upto_region 6 with (first | (go_at_call 26; refine hpb1.mono ?_; rintro e w1 ⟨ao1, cap1, rfl, m1, m2, m3, m4, m5⟩) | (go_at_call 24; refine (htb ao1 cap1 _ m4 m2 m3).mono ?_; rintro e w2 ⟨ao2, cap2, rfl, t1, t2, t3⟩))
    have hB2 : Below W.heap.size W w2 := m5.trans (t3.mono m5.size)
    have s1 := run_str (cap := cap2) t2 t1
    have s2 := run_str (cap := cs) (HS.out.1.later hB2) HS.out.2.1
    rw [hstr] at s1
    have HB2 : Hid (Below W.heap.size W w2) := hB2
    clear hpb1 htb m1 m2 m3 m4 m5 t1 t2 t3 hB2
    go_upto_region 8 with (go_at_call 13; refine (len_any _ _ (by first | exact HL.out.1 | exact HL.out.2.1 | exact HL.out.2.2.1 | exact HL.out.2.2.2.1 | exact HL.out.2.2.2.2)).mono ?_; rintro e w2 ⟨rfl, rfl⟩)
    clear s1 s2
    by_cases hin : InSize size
    · unfold InSize at hin
      obtain ⟨s, rfl⟩ := Int.eq_ofNat_of_zero_le (by omega : 0 ≤ size)
      have q1 : (1 : Int) ≤ (s : Int) := by omega
      have q2 : (s : Int) ≤ 8 := by omega
      have hfx := fix_made lo (s : Int) w2
      have hrd := fun ao cap w h1 h2 => fix_read lo s (by omega) (by omega) ao cap w h1 h2
      obtain ⟨t, ht⟩ : ∃ t : Nat, t + 8 * s = 64 := ⟨64 - 8 * s, by omega⟩
      have HSS := shl_shr lo t s ht
      obtain ⟨V, hV⟩ : ∃ V : Nat, V = lo % 256 ^ s := ⟨_, rfl⟩
      rw [← hV] at hrd HSS
      have e64 : (64 : Int) - 8 * (s : Int) = (t : Int) := by omega
      have ht64 : (t : Int) ≤ 64 := by omega
      clear hV ht hin
      go_upto_region 11 with (first | (go_at_call 18; refine hfx.mono ?_; rintro e w3 ⟨ao3, cap3, rfl, r1, r2, r3, r4, r5⟩) | (go_at_call 16; refine (hrd _ _ _ r4 r2).mono ?_; rintro e w4 ⟨rfl, hw4⟩; obtain rfl := hw4))
      have ha := awake_any w4
      have HB3 : Hid (Below W.heap.size W w4) := HB2.out.trans (r5.mono HB2.out.size)
      clear hfx hrd r1 r2 r3 r4 r5
      go_wp2_with (go_at_call 15; refine ha.mono ?_; rintro e w5 ⟨rfl, hb5⟩)
      go_ret
      exact ⟨rfl, HB3.out.trans (hb5.mono HB3.out.size)⟩
    · have hfx := fix_made lo size w2
      have e0 : fxs lo size = [] := by unfold fxs; rw [if_neg hin]
      rw [e0] at hfx
      unfold InSize at hin
      have fin : ∀ w3 w5, Below w2.heap.size w2 w3 → Below w3.heap.size w3 w5 → Below W.heap.size W w5 := fun w3 w5 h1 h2 => (HB2.out.trans (h1.mono HB2.out.size)).trans (h2.mono (HB2.out.trans (h1.mono HB2.out.size)).size)
      by_cases hz : size < 1
      · clear hin e0
        go_wp2_with (first | (go_at_call 18; refine hfx.mono ?_; rintro e w3 ⟨ao3, cap3, rfl, _, _, _, _, r5⟩) | (go_at_call 15; refine (awake_any _).mono ?_; rintro e w5 ⟨rfl, hb5⟩))
        go_ret
        exact ⟨rfl, fin _ _ r5 hb5⟩
      · have h8 : (8 : Int) < size := by omega
        have h1 : (1 : Int) ≤ size := by omega
        clear hin hz e0
        go_wp2_with (first | (go_at_call 18; refine hfx.mono ?_; rintro e w3 ⟨ao3, cap3, rfl, _, _, _, _, r5⟩) | (go_at_call 15; refine (awake_any _).mono ?_; rintro e w5 ⟨rfl, hb5⟩))
        go_ret
        exact ⟨rfl, fin _ _ r5 hb5⟩
  · have hab' : (lo : Int) ≤ (hi : Int) := by omega
    clear hab
    go_enter Try.func8, Try.ntmps8
    go_upto_region 5 with (go_at_call 13; refine (len_any _ _ (by first | exact HL.out.1 | exact HL.out.2.1 | exact HL.out.2.2.1 | exact HL.out.2.2.2.1 | exact HL.out.2.2.2.2)).mono ?_; rintro e W ⟨rfl, rfl⟩)
    have hpb1 := hpb W HS.out.1
    clear hwa hwo hd1 hc2 hle hpb
    go_upto_region 6 with (first | (go_at_call 26; refine hpb1.mono ?_; rintro e w1 ⟨ao1, cap1, rfl, m1, m2, m3, m4, m5⟩) | (go_at_call 24; refine (htb ao1 cap1 _ m4 m2 m3).mono ?_; rintro e w2 ⟨ao2, cap2, rfl, t1, t2, t3⟩))
    have hB2 : Below W.heap.size W w2 := m5.trans (t3.mono m5.size)
    have s1 := run_str (cap := cap2) t2 t1
    have s2 := run_str (cap := cs) (HS.out.1.later hB2) HS.out.2.1
    rw [hstr] at s1
    have HB2 : Hid (Below W.heap.size W w2) := hB2
    clear hpb1 htb m1 m2 m3 m4 m5 t1 t2 t3 hB2
    go_upto_region 8 with (go_at_call 13; refine (len_any _ _ (by first | exact HL.out.1 | exact HL.out.2.1 | exact HL.out.2.2.1 | exact HL.out.2.2.2.1 | exact HL.out.2.2.2.2)).mono ?_; rintro e w2 ⟨rfl, rfl⟩)
    clear s1 s2
    by_cases hin : InSize size
    · unfold InSize at hin
      obtain ⟨s, rfl⟩ := Int.eq_ofNat_of_zero_le (by omega : 0 ≤ size)
      have q1 : (1 : Int) ≤ (s : Int) := by omega
      have q2 : (s : Int) ≤ 8 := by omega
      have hfx := fix_made lo (s : Int) w2
      have hrd := fun ao cap w h1 h2 => fix_read lo s (by omega) (by omega) ao cap w h1 h2
      obtain ⟨t, ht⟩ : ∃ t : Nat, t + 8 * s = 64 := ⟨64 - 8 * s, by omega⟩
      have HSS := shl_shr lo t s ht
      obtain ⟨V, hV⟩ : ∃ V : Nat, V = lo % 256 ^ s := ⟨_, rfl⟩
      rw [← hV] at hrd HSS
      have e64 : (64 : Int) - 8 * (s : Int) = (t : Int) := by omega
      have ht64 : (t : Int) ≤ 64 := by omega
      clear hV ht hin
      go_upto_region 11 with (first | (go_at_call 18; refine hfx.mono ?_; rintro e w3 ⟨ao3, cap3, rfl, r1, r2, r3, r4, r5⟩) | (go_at_call 16; refine (hrd _ _ _ r4 r2).mono ?_; rintro e w4 ⟨rfl, hw4⟩; obtain rfl := hw4))
      have ha := awake_any w4
      have HB3 : Hid (Below W.heap.size W w4) := HB2.out.trans (r5.mono HB2.out.size)
      clear hfx hrd r1 r2 r3 r4 r5
      go_wp2_with (go_at_call 15; refine ha.mono ?_; rintro e w5 ⟨rfl, hb5⟩)
      go_ret
      exact ⟨rfl, HB3.out.trans (hb5.mono HB3.out.size)⟩
    · have hfx := fix_made lo size w2
      have e0 : fxs lo size = [] := by unfold fxs; rw [if_neg hin]
      rw [e0] at hfx
      unfold InSize at hin
      have fin : ∀ w3 w5, Below w2.heap.size w2 w3 → Below w3.heap.size w3 w5 → Below W.heap.size W w5 := fun w3 w5 h1 h2 => (HB2.out.trans (h1.mono HB2.out.size)).trans (h2.mono (HB2.out.trans (h1.mono HB2.out.size)).size)
      by_cases hz : size < 1
      · clear hin e0
        go_wp2_with (first | (go_at_call 18; refine hfx.mono ?_; rintro e w3 ⟨ao3, cap3, rfl, _, _, _, _, r5⟩) | (go_at_call 15; refine (awake_any _).mono ?_; rintro e w5 ⟨rfl, hb5⟩))
        go_ret
        exact ⟨rfl, fin _ _ r5 hb5⟩
      · have h8 : (8 : Int) < size := by omega
        have h1 : (1 : Int) ≤ size := by omega
        clear hin hz e0
        go_wp2_with (first | (go_at_call 18; refine hfx.mono ?_; rintro e w3 ⟨ao3, cap3, rfl, _, _, _, _, r5⟩) | (go_at_call 15; refine (awake_any _).mono ?_; rintro e w5 ⟨rfl, hb5⟩))
        go_ret
        exact ⟨rfl, fin _ _ r5 hb5⟩
end Go.Proofs.Ytjjmgfinapahcaa
