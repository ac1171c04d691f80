/- What fresh and Put make, and the document's own Len; and that the program is awake. -/
import Derived.Test.YtjjmgfinapahcabPut
namespace Go.Proofs.Ytjjmgfinapahcab
open Go.RowKit

theorem Byt.grown {w w' : World} {ao : Option Addr} {len : Nat} {X : Nat → Nat} {r : Option Nat} (h : Byt w ao len X) (hg : w.grownBy w' r) (hne : ∀ b off, ao = some ⟨b, off, none⟩ → some b ≠ r) : Byt w' ao len X := fun k hk => by
  obtain ⟨h1, b, off, e, hc⟩ := h k hk
  exact ⟨h1, b, off, e, hg.cell hc (hne b off e)⟩

set_option maxHeartbeats 1000000 in
set_option maxRecDepth 100000 in
theorem fresh_any (ao : Option Addr) (len cap room : Nat) (X : Nat → Nat) (w : World) (hb : Byt w ao len X) (hnil : ao = none → len = 0 ∧ cap = 0) (hl : len ≤ 140737488355328) (hr : len + room ≤ 281474976710656) :
    Calls Try.prog 13 #[.slice ao len cap, .int .i64 (room : Int)] w fun e w' => ∃ v', e = .returned v' ∧ Row w.heap.size w' v' (bs X len) ∧ Below w.heap.size w w' := by
  obtain ⟨i0, hi, hz, hsize, hbytes⟩ := info_parts Try.info5
  have HB : Hid (Byt w ao len X) := hb
  have HN : Hid (ao = none → len = 0 ∧ cap = 0) := hnil
  have HL : Hid (len ≤ 140737488355328 ∧ len + room ≤ 281474976710656) := ⟨hl, hr⟩
  have hw : IntKind.i64.wrap ((len : Int) + (room : Int)) = ((len + room : Nat) : Int) := by rw [IntKind.wrap_i64]; omega
  have hw' : wrap64 ((len : Int) + (room : Int)) = ((len + room : Nat) : Int) := by unfold wrap64; omega
  clear hb hnil hl hr
  go_enter Try.func13, Try.ntmps13
  go_wp2_with (first
    | (at_make; refine wpList_make_own w rfl _ _ 24 rfl w.heap.size 5 i0 (.int .u8 0) 1 Try.underlying24 hi hz hsize .i64 .i64 _ (len + room) rfl rfl (by omega) (by rw [hbytes]; have := HL.out; omega) (by have := HL.out; simp only [maxLen]; omega) (Nat.le_refl _) ?_; intro w1 hr1 hg1)
    | (at_builtin; refine wpList_app rfl (.tmp 9) (.tmp 10) rfl w.heap.size _ [] rfl hr1 ao len cap X rfl HN.out (HB.out.grown hg1 (fun _ _ _ => by simp)) (by have := HL.out; simp; omega) (by have := hg1.size; omega) ?_; intro v2 w2 hr2 hg2 hm2))
  refine bodyPost_ret (v := v2) (by simp [results, Try.results13, go_sem]) rfl ⟨v2, rfl, hr2, ?_⟩
  have b1 : Below w.heap.size w w1 := Below.grown (Below.refl _ _) hg1 (Nat.le_refl _) (fun k hk => by cases hk)
  exact Below.grown b1 hg2 hg1.size (fun k hk => by simp [Act.eval, Value.ownBlock] at hk; omega)

theorem put_any (ao : Option Addr) (len cap n : Nat) (X : Nat → Nat) (w : World) (hb : Byt w ao len X) (hnil : ao = none → len = 0 ∧ cap = 0) (hl : len ≤ 140737488351232) (hn : n < 18446744073709551616) :
    Calls Try.prog 6 #[.slice ao len cap, .int .u64 (n : Int)] w fun e w' => ∃ v', e = .returned v' ∧ Row w.heap.size w' v' (bs X len ++ uv n) ∧ Below w.heap.size w w' := by
  have hf := fresh_any ao len cap 10 X w hb hnil (by omega) (by omega)
  have hs : ∀ v w1, Row w.heap.size w1 v (bs X len) → Below w.heap.size w w1 → Calls Try.prog 12 #[v, .int .u64 (n : Int)] w1 fun e w' => ∃ v', e = .returned v' ∧ Row w.heap.size w' v' (bs X len ++ uv n) ∧ Below w.heap.size w w' := fun v w1 h1 h2 =>
    (sevs_any w.heap.size v (bs X len) n w1 h1 h2.size (by rw [bs_length]; have := uv_len64 hn; omega) hn).mono fun e w' ⟨v', he, hr, hg, _⟩ => ⟨v', he, hr, h2.trans (grown_below h1 hg h2.size)⟩
  clear hb hnil hl hn
  go_enter Try.func6, Try.ntmps6
  go_wp2_with (first | (go_at_call 13; refine hf.mono ?_; rintro e w1 ⟨v1, rfl, hr1, hb1⟩) | (go_at_call 12; refine (hs _ _ hr1 hb1).mono ?_; rintro e w2 ⟨v2, rfl, hr2, hb2⟩))
  exact bodyPost_ret (v := v2) (by simp [results, Try.results6, go_sem]) rfl ⟨v2, rfl, hr2, hb2⟩

theorem awake_any (w : World) : Calls Try.prog 5 #[] w fun e w' => e = .returned (.bool true) ∧ Below w.heap.size w w' := by
  have ht : ∀ cap, 3 ≤ cap → cap ≤ maxLen → Calls Try.prog 8 #[.slice (some ⟨w.heap.size, 0, none⟩) 3 cap] (w.alloc (.cells #[.int .u8 172, .int .u8 2, .int .u8 7] 5)) fun e w' => e = .returned (.tuple #[.int .u64 300, .int .i64 2, .int .i64 0]) ∧ w' = w.alloc (.cells #[.int .u8 172, .int .u8 2, .int .u8 7] 5) := fun cap h1 h2 => by
    have := take_good (some ⟨w.heap.size, 0, none⟩) 3 cap 1 (fun k => if k = 0 then 172 else if k = 1 then 2 else 7) (w.alloc (.cells #[.int .u8 172, .int .u8 2, .int .u8 7] 5)) (fun k hk => by
      have : k = 0 ∨ k = 1 ∨ k = 2 := by omega
      rcases this with rfl | rfl | rfl <;> exact ⟨by decide, w.heap.size, 0, rfl, by simp⟩) h1 h2 ⟨by decide, by decide, by decide⟩ (by decide) (by unfold good; decide)
    exact this
  go_enter Try.func5, Try.ntmps5
  go_wp2_with (go_at_call 8; refine (ht _ (by decide) (by decide)).mono ?_; rintro e w' ⟨rfl, rfl⟩)
  go_ret
  exact ⟨rfl, (Below.refl _ _).alloc (Nat.le_refl _) _⟩
end Go.Proofs.Ytjjmgfinapahcab
