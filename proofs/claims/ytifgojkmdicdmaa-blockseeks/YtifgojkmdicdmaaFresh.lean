/- What fresh and Put make, and the document's own Len; and that the program is awake. -/
import Derived.Test.YtifgojkmdicdmaaPut
import Derived.Test.YtifgojkmdicdmaaBwide
namespace Go.Proofs.Ytifgojkmdicdmaa
open Go.RowKit

theorem Byt.grown {w w' : World} {ao : Option Addr} {len : Nat} {X : Nat → Nat} {r : Option Nat} (h : Byt w ao len X) (hg : w.grownBy w' r) (hne : ∀ b off, ao = some ⟨b, off, none⟩ → some b ≠ r) : Byt w' ao len X := fun k hk => by
  obtain ⟨h1, b, off, e, hc⟩ := h k hk
  exact ⟨h1, b, off, e, hg.cell hc (hne b off e)⟩

set_option maxHeartbeats 1000000 in
set_option maxRecDepth 100000 in
theorem fresh_any (ao : Option Addr) (len cap room : Nat) (X : Nat → Nat) (w : World) (hb : Byt w ao len X) (hnil : ao = none → len = 0 ∧ cap = 0) (hl : len ≤ 175921860444160) (hr : len + room ≤ 281474976710656) :
    Calls Try.prog 61 #[.slice ao len cap, .int .i64 (room : Int)] w fun e w' => ∃ v', e = .returned v' ∧ Row w.heap.size w' v' (bs X len) ∧ Below w.heap.size w w' := by
  obtain ⟨i0, hi, hz, hsize, hbytes⟩ := info_parts Try.info5
  have HB : Hid (Byt w ao len X) := hb
  have HN : Hid (ao = none → len = 0 ∧ cap = 0) := hnil
  have HL : Hid (len ≤ 175921860444160 ∧ len + room ≤ 281474976710656) := ⟨hl, hr⟩
  have hw : IntKind.i64.wrap ((len : Int) + (room : Int)) = ((len + room : Nat) : Int) := by rw [IntKind.wrap_i64]; omega
  have hw' : wrap64 ((len : Int) + (room : Int)) = ((len + room : Nat) : Int) := by unfold wrap64; omega
  clear hb hnil hl hr
  go_enter Try.func61, Try.ntmps61
  go_wp2_with (first
    | (at_make; refine wpList_make_own w rfl _ _ 25 rfl w.heap.size 5 i0 (.int .u8 0) 1 Try.underlying25 hi hz hsize .i64 .i64 _ (len + room) rfl rfl (by omega) (by rw [hbytes]; have := HL.out; omega) (by have := HL.out; simp only [maxLen]; omega) (Nat.le_refl _) ?_; intro w1 hr1 hg1)
    | (at_builtin; refine wpList_appW rfl (.tmp 9) (.tmp 10) rfl w.heap.size _ [] rfl hr1 ao len cap X rfl HN.out (HB.out.grown hg1 (fun _ _ _ => by simp)) (by have := HL.out; simp; omega) (by have := hg1.size; omega) ?_; intro v2 w2 hr2 hg2 hm2))
  refine bodyPost_ret (v := v2) (by simp [results, Try.results61, go_sem]) rfl ⟨v2, rfl, hr2, ?_⟩
  have b1 : Below w.heap.size w w1 := Below.grown (Below.refl _ _) hg1 (Nat.le_refl _) (fun k hk => by cases hk)
  exact Below.grown b1 hg2 hg1.size (fun k hk => by simp [Act.eval, Value.ownBlock] at hk; omega)

theorem put_any (ao : Option Addr) (len cap n : Nat) (X : Nat → Nat) (w : World) (hb : Byt w ao len X) (hnil : ao = none → len = 0 ∧ cap = 0) (hl : len ≤ 140737488351232) (hn : n < 18446744073709551616) :
    Calls Try.prog 46 #[.slice ao len cap, .int .u64 (n : Int)] w fun e w' => ∃ v', e = .returned v' ∧ Row w.heap.size w' v' (bs X len ++ uv n) ∧ Below w.heap.size w w' := by
  have hf := fresh_any ao len cap 10 X w hb hnil (by omega) (by omega)
  have hs : ∀ v w1, Row w.heap.size w1 v (bs X len) → Below w.heap.size w w1 → Calls Try.prog 62 #[v, .int .u64 (n : Int)] w1 fun e w' => ∃ v', e = .returned v' ∧ Row w.heap.size w' v' (bs X len ++ uv n) ∧ Below w.heap.size w w' := fun v w1 h1 h2 =>
    (sevs_any w.heap.size v (bs X len) n w1 h1 h2.size (by rw [bs_length]; have := uv_len64 hn; omega) hn).mono fun e w' ⟨v', he, hr, hg, _⟩ => ⟨v', he, hr, h2.trans (grown_below h1 hg h2.size)⟩
  clear hb hnil hl hn
  go_enter Try.func46, Try.ntmps46
  go_wp2_with (first | (go_at_call 61; refine hf.mono ?_; rintro e w1 ⟨v1, rfl, hr1, hb1⟩) | (go_at_call 62; refine (hs _ _ hr1 hb1).mono ?_; rintro e w2 ⟨v2, rfl, hr2, hb2⟩))
  exact bodyPost_ret (v := v2) (by simp [results, Try.results46, go_sem]) rfl ⟨v2, rfl, hr2, hb2⟩

end Go.Proofs.Ytifgojkmdicdmaa
