/- What the landed Put, Take and Scan answer: the document's frames. -/
import Derived.Test.YtbinabegiikcaaaPsm
import Derived.Test.YtbinabegiikcaaaFcat
namespace Go.Proofs.Ytbinabegiikcaaa
open Go.RowKit
set_option linter.unusedVariables false
set_option linter.unusedSimpArgs false

theorem masked_any {w : World} {ao : Option Addr} {len cap : Nat} {xs : List Int} (h : Sl w ao len cap xs) :
    Calls Try.prog 20 #[.slice ao len cap] w fun e w' => e = .returned (.int .u64 (mask (more 0 (nl xs)) : Nat)) ∧ w' = w := by
  have hs := sum_l h
  have hm := mask_any (more 0 (nl xs)) w (more0_lt h.2.1)
  have hl := mask_lt (more 0 (nl xs))
  generalize mask (more 0 (nl xs)) = M at hm hl
  generalize more 0 (nl xs) = S at hs hm
  clear h
  go_enter Try.func20, Try.ntmps20
  go_wp2_with (first | (go_at_call 34; refine hs.mono ?_; rintro e w' ⟨rfl, hw⟩; obtain rfl := hw.symm) | (go_at_call 33; refine hm.mono ?_; rintro e w' ⟨rfl, hw⟩; obtain rfl := hw.symm))
  exact bodyPost_ret (v := .int .u64 (M : Nat)) (by simp [results, Try.results20, go_sem]) rfl ⟨rfl, rfl⟩

theorem put_long {w : World} {ao so : Option Addr} {len cap ls cs : Nat} (hle : 1048576 < ls) (hl : ls ≤ 2 ^ 62) :
    Calls Try.prog 8 #[.slice ao len cap, .slice so ls cs] w fun e w' => e = .returned (.tuple #[.slice none 0 0, .int .i64 2]) ∧ w' = w := by
  have c1 : (1048576 : Int) < (ls : Int) := by omega
  go_enter Try.func8, Try.ntmps8
  go_wp2_with fail
  exact bodyPost_ret (v := .tuple #[.slice none 0 0, .int .i64 2]) (by simp [results, Try.results8, go_sem]) rfl ⟨rfl, rfl⟩
/-- PutBytes behind nothing: a record with its length ahead. -/
theorem body_any {w : World} {so : Option Addr} {ls cs : Nat} {rs : List Int} (hs : Sl w so ls cs rs) (hle : ls ≤ 1099511627776) : Calls Try.prog 18 #[.slice none 0 0, .slice so ls cs] w fun e w' => ∃ v', e = .returned v' ∧ Row w.heap.size w' v' (bd rs) ∧ Below w.heap.size w w' := by
  have h := pby_any none so 0 0 ls cs (fun _ => 0) (xof rs) w (fun k hk => by cases hk) (fun _ => ⟨rfl, rfl⟩) hs.2.2.2.2.2 hs.2.2.1 (by omega)
  refine h.mono ?_
  rintro e w' ⟨v', rfl, h1, h2⟩
  have e0 : bs (fun _ => 0) 0 = [] := rfl
  rw [e0, List.nil_append, ← hs.1, bs_xof hs.2.1] at h1
  exact ⟨v', rfl, h1, h2⟩
/-- Fixed behind nothing, of four bytes. -/
theorem fixed4_any {w : World} (n : Nat) : Calls Try.prog 19 #[.slice none 0 0, .int .u64 (n : Int), .int .i64 4] w fun e w' => ∃ v', e = .returned v' ∧ Row w.heap.size w' v' (fx n 4) ∧ Below w.heap.size w w' := by
  have h := fixed_any none 0 0 n (fun _ => 0) 4 w (fun k hk => by cases hk) (fun _ => ⟨rfl, rfl⟩) (by omega)
  refine h.mono ?_
  rintro e w' ⟨v', rfl, h1, h2⟩
  have e0 : bs (fun _ => 0) 0 = [] := rfl
  rw [e0, List.nil_append, fxs4] at h1
  exact ⟨v', rfl, h1, h2⟩
/-- Three rows of bytes in a new row. -/
theorem rb3 {w : World} {a1 a2 a3 : Option Addr} {c1 c2 c3 : Nat} {x1 x2 x3 : List Int} (h1 : Sl w a1 x1.length c1 x1) (h2 : Sl w a2 x2.length c2 x2) (h3 : Sl w a3 x3.length c3 x3) :
    RB (w.alloc (.cells #[.slice a1 x1.length c1, .slice a2 x2.length c2, .slice a3 x3.length c3] 22)) (some ⟨w.heap.size, 0, none⟩) 3 3 [x1, x2, x3] := by
  have hb : Below w.heap.size w (w.alloc (.cells #[.slice a1 x1.length c1, .slice a2 x2.length c2, .slice a3 x3.length c3] 22)) := (Below.refl _ w).alloc (Nat.le_refl _) _
  refine ⟨rfl, (fun q => by cases q), Nat.le_refl _, by unfold maxLen; omega, fun i r hr => ?_⟩
  have hc : ∀ j, (w.alloc (.cells #[.slice a1 x1.length c1, .slice a2 x2.length c2, .slice a3 x3.length c3] 22)).cell? ⟨w.heap.size, 0 + j, none⟩ = #[Value.slice a1 x1.length c1, .slice a2 x2.length c2, .slice a3 x3.length c3][j]? := fun j => by
    rw [Nat.zero_add]
    exact cell_of_row _ _ _ _ _ _ (heap_alloc_new w _)
  match i, hr with
  | 0, hr => obtain rfl : x1 = r := by simpa using hr
             exact ⟨_, _, a1, c1, rfl, by rw [hc]; rfl, h1.later hb⟩
  | 1, hr => obtain rfl : x2 = r := by simpa using hr
             exact ⟨_, _, a2, c2, rfl, by rw [hc]; rfl, h2.later hb⟩
  | 2, hr => obtain rfl : x3 = r := by simpa using hr
             exact ⟨_, _, a3, c3, rfl, by rw [hc]; rfl, h3.later hb⟩
  | n + 3, hr => simp at hr

set_option maxHeartbeats 2000000 in
set_option maxRecDepth 100000 in
theorem put_any6 {w : World} {ao so : Option Addr} {len cap ls cs : Nat} {xs rs : List Int} (h1 : Sl w ao len cap xs) (h2 : Sl w so ls cs rs) (hle : ls ≤ 1048576) (hx : len ≤ 140737488351232) :
    Calls Try.prog 8 #[.slice ao len cap, .slice so ls cs] w fun e w' => ∃ v, e = .returned (.tuple #[v, .int .i64 0]) ∧ Row w.heap.size w' v (xs ++ fr rs) ∧ Below w.heap.size w w' := by
  have hbd := body_any h2 (by omega)
  have c1 : ¬ (1048576 : Int) < (ls : Int) := by omega
  have hok : Okb (bd rs) := (okb_uv _).app h2.2.1
  have hbl : (bd rs).length ≤ 1048576 + 10 := by
    have := uv_len64 (n := rs.length) (by have := h2.1; omega)
    have := h2.1
    simp [bd]
    omega
  have hM : ∀ {w1 : World} {a : Option Addr} {n c : Nat}, Sl w1 a n c (bd rs) → Calls Try.prog 20 #[.slice a n c] w1 fun e w' => e = .returned (.int .u64 (mask (more 0 (nl (bd rs))) : Nat)) ∧ w' = w1 := fun h => masked_any h
  have e4 : fx (mask (more 0 (nl (bd rs)))) 4 ++ bd rs = fr rs := rfl
  generalize mask (more 0 (nl (bd rs))) = M at hM e4
  have HV : Hid (Sl w ao len cap xs ∧ Okb (bd rs) ∧ (bd rs).length ≤ 1048576 + 10 ∧ len ≤ 140737488351232 ∧ fx M 4 ++ bd rs = fr rs) := ⟨h1, hok, hbl, hx, e4⟩
  clear h1 h2 hle hx hok hbl e4
  go_enter Try.func8, Try.ntmps8
  go_upto_region 4 with (go_at_call 18; refine hbd.mono ?_; rintro e w1 ⟨v1, rfl, hr1, hb1⟩)
  obtain ⟨a1, n1, hv1, hsl1⟩ := Sl.ofRow hr1 HV.out.2.1
  subst hv1
  have hM1 := hM hsl1
  clear hM hbd
  have hF1 := fixed4_any (w := w1) M
  have HR : Hid (Sl w1 a1 (bd rs).length n1 (bd rs) ∧ Below w.heap.size w w1) := ⟨hsl1, hb1⟩
  clear hr1 hsl1 hb1
  go_upto_region 5 with (first | (go_at_call 20; refine hM1.mono ?_; rintro e w' ⟨rfl, hw⟩; obtain rfl := hw.symm) | (go_at_call 19; refine hF1.mono ?_; rintro e w2 ⟨v2, rfl, hr2, hb2⟩))
  obtain ⟨a2, n2, hv2, hsl2⟩ := Sl.ofRow hr2 (okb_fx M 4)
  subst hv2
  have hb02 : Below w.heap.size w w2 := HR.out.2.trans (hb2.mono HR.out.2.size)
  have hx1 := HV.out.1.1
  subst hx1
  have hrb := rb3 (HV.out.1.later hb02) hsl2 (HR.out.1.later hb2)
  have hct := concat_any hrb (by
    have := HV.out.2.2
    simp [tot, fx4]
    omega)
  have HB : Hid (Below w.heap.size w w2) := hb02
  clear hM1 hF1 hr2 hb2 hb02 hsl2 hrb
  have HC : Hid (∀ {w1 : World} {v : Value}, Row (w2.heap.size + 1) w1 v [xs, fx M 4, bd rs].flatten → Row w.heap.size w1 v (xs ++ fr rs)) := fun {w1 v} h => by
    have e : [xs, fx M 4, bd rs].flatten = xs ++ fr rs := by rw [← HV.out.2.2.2.2]; simp
    rw [e] at h
    exact h.base (by have := HB.out.size; omega)
  generalize (bd rs).length = nb at hct ⊢
  generalize (fx M 4).length = nf at hct ⊢
  generalize [xs, fx M 4, bd rs].flatten = L at hct HC
  have hsz : ∀ o : Obj, (w2.alloc o).heap.size = w2.heap.size + 1 := fun o => by simp
  rw [hsz] at hct
  go_wp2_with (go_at_call 21; refine hct.mono ?_; rintro e w4 ⟨v4, rfl, hr4, hb4⟩)
  refine bodyPost_ret (v := .tuple #[v4, .int .i64 0]) (by simp [results, Try.results8, go_sem]) rfl ⟨v4, rfl, HC.out hr4, ?_⟩
  exact (HB.out.alloc HB.out.size _).trans (hb4.mono (by have := HB.out.size; omega))
end Go.Proofs.Ytbinabegiikcaaa
