/- What TakeBytes answers. -/
import Derived.Test.YtifgojkmdicdmaaFresh
namespace Go.Proofs.Ytifgojkmdicdmaa
open Go.RowKit
set_option linter.unusedVariables false

/-- What TakeBytes answers, where the length's number ends at E: the bytes, how many are used, the error. -/
def tbR (X : Nat → Nat) (len E : Nat) (most : Int) : List Int × Int × Int :=
  if E < len then (if good X E then
    (if most < 0 ∨ most < (val X (E + 1) : Int) then ([], 0, 2) else if len < E + 1 + val X (E + 1) then ([], 0, 5) else (bs (fun k => X (E + 1 + k)) (val X (E + 1)), (E : Int) + 1 + (val X (E + 1) : Int), 0))
    else ([], 0, 3)) else ([], 0, 5)

/-- A slice of bytes that the callee made, or nil. -/
def Got (w w' : World) (e : Ending) (r : List Int × Int × Int) : Prop :=
  ∃ ao cap, e = .returned (.tuple #[.slice ao r.1.length cap, .int .i64 r.2.1, .int .i64 r.2.2]) ∧ (ao = none → r.1.length = 0 ∧ cap = 0) ∧ r.1.length ≤ cap ∧ cap ≤ maxLen ∧ Byt w' ao r.1.length (xof r.1) ∧ Below w.heap.size w w' ∧ Row w.heap.size w' (.slice ao r.1.length cap) r.1
theorem got_nil (w : World) (K F : Int) : Got w w (.returned (.tuple #[.slice none 0 0, .int .i64 K, .int .i64 F])) ([], K, F) :=
  ⟨none, 0, rfl, fun _ => ⟨rfl, rfl⟩, Nat.le_refl _, Nat.zero_le _, (fun k hk => by cases hk), Below.refl _ _, Row.nil _ _⟩

theorem Byt.cut {w : World} {ao : Option Addr} {len l m : Nat} {X : Nat → Nat} (h : Byt w ao len X) (b off : Nat) (e : ao = some ⟨b, off, none⟩) (hl : l + m ≤ len) : Byt w (some ⟨b, off + l, none⟩) m (fun k => X (l + k)) := fun k hk => by
  obtain ⟨h1, b', off', e', hc⟩ := h (l + k) (by omega)
  rw [e] at e'
  simp only [Option.some.injEq, Addr.mk.injEq, and_true] at e'
  obtain ⟨rfl, rfl⟩ := e'
  exact ⟨h1, b, off + l, rfl, by rw [Nat.add_assoc]; exact hc⟩

set_option maxHeartbeats 400000 in
set_option maxRecDepth 100000 in
theorem tby_ok (A : Addr) (b off r rc E n mm : Nat) (Y : Nat → Nat) (w : World) (h47 : E + 1 + r ≤ 175921860444160) (h4 : n ≤ mm) (hmm : mm ≤ 2 ^ 63 - 1) (h5 : n ≤ r) (h6 : r ≤ rc)
    (hif : (if rc = 0 then some (⟨b, off, none⟩ : Addr) else some ⟨b, off + (E + 1), none⟩) = some A) (hA : Byt w (some A) r Y)
    (ht : Calls Try.prog 64 #[.slice (some ⟨b, off, none⟩) (E + 1 + r) (E + 1 + rc)] w fun e w' => e = .returned (.tuple #[.int .u64 (n : Int), .int .i64 ((E : Int) + 1), .int .i64 0]) ∧ w' = w) :
    Calls Try.prog 65 #[.slice (some ⟨b, off, none⟩) (E + 1 + r) (E + 1 + rc), .int .i64 (mm : Int)] w fun e w' => Got w w' e (bs Y n, (E : Int) + 1 + (n : Int), 0) := by
  have hf := fresh_any (some A) n rc 0 Y w (fun k hk => hA k (by omega)) (fun e => by cases e) (by omega) (by omega)
  have HO : Hid (Okb (bs Y n)) := okb_bs (w := w) (ao := some A) (fun k hk => hA k (by omega))
  have hE : E + 1 + n ≤ 2 ^ 63 - 1 := by omega
  have hr : r ≤ 2 ^ 63 - 1 := by omega
  have h4' : (n : Int) ≤ (mm : Int) := by omega
  have q0 : (0 : Int) ≤ (mm : Int) := by omega
  have h6' : (n : Int) ≤ (r : Int) := by omega
  have h7 : (n : Int) ≤ (rc : Int) := by omega
  clear h47 hA
  go_enter Try.func65, Try.ntmps65
  go_wp2_with (first | (go_at_call 64; refine ht.mono ?_; rintro e w ⟨rfl, rfl⟩) | (go_at_call 61; refine hf.mono ?_; rintro e w2 ⟨v2, rfl, hr2, hb2⟩))
  obtain ⟨ao2, cap2, rfl, q5, q6, q7, q8⟩ := hr2.byt HO.out
  exact bodyPost_ret (v := .tuple #[.slice ao2 (bs Y n).length cap2, .int .i64 ((E : Int) + 1 + (n : Int)), .int .i64 0]) (by simp [results, Try.results65, go_sem]) rfl ⟨ao2, cap2, rfl, q5, q6, q7, q8, hb2, hr2⟩

set_option maxHeartbeats 400000 in
set_option maxRecDepth 100000 in
theorem tby_short (b off r rc E n mm : Nat) (w : World) (h47 : E + 1 + r ≤ 175921860444160) (h4 : n ≤ mm) (hmm : mm ≤ 2 ^ 63 - 1) (h5 : r < n) (h6 : r ≤ rc)
    (ht : Calls Try.prog 64 #[.slice (some ⟨b, off, none⟩) (E + 1 + r) (E + 1 + rc)] w fun e w' => e = .returned (.tuple #[.int .u64 (n : Int), .int .i64 ((E : Int) + 1), .int .i64 0]) ∧ w' = w) :
    Calls Try.prog 65 #[.slice (some ⟨b, off, none⟩) (E + 1 + r) (E + 1 + rc), .int .i64 (mm : Int)] w fun e w' => Got w w' e ([], 0, 5) := by
  have hr : r ≤ 2 ^ 63 - 1 := by omega
  have hE : E + 1 + r ≤ 2 ^ 63 - 1 := by omega
  have h4' : (n : Int) ≤ (mm : Int) := by omega
  have q0 : (0 : Int) ≤ (mm : Int) := by omega
  have h6' : (r : Int) < (n : Int) := by omega
  clear h47
  go_enter Try.func65, Try.ntmps65
  go_wp2_with (go_at_call 64; refine ht.mono ?_; rintro e w ⟨rfl, rfl⟩)
  all_goals exact bodyPost_ret (v := .tuple #[.slice none 0 0, .int .i64 0, .int .i64 5]) (by simp [results, Try.results65, go_sem]) rfl (got_nil _ _ _)

set_option maxHeartbeats 1000000 in
set_option maxRecDepth 100000 in
theorem tby_any (ao : Option Addr) (len cap E : Nat) (X : Nat → Nat) (most : Int) (w : World) (hb : Byt w ao len X) (hl : len ≤ cap) (hc : cap ≤ maxLen) (h47 : len ≤ 175921860444160) (hE : IsEnd X len E) (hm : most ≤ 9223372036854775807) :
    Calls Try.prog 65 #[.slice ao len cap, .int .i64 most] w fun e w' => Got w w' e (tbR X len E most) := by
  have ht := take_any ao len cap E X w hb hl hc hE
  unfold takeV at ht
  unfold tbR
  by_cases h1 : E < len
  · simp only [h1, if_true] at ht ⊢
    obtain ⟨_, b, off, hao, _⟩ := hb E h1
    subst hao
    by_cases h2 : good X E
    · simp only [h2, if_true] at ht ⊢
      obtain ⟨n, hn⟩ : ∃ n, n = val X (E + 1) := ⟨_, rfl⟩
      rw [← hn] at ht ⊢
      clear hn
      by_cases h3 : most < 0
      · simp only [h3, true_or, if_true]
        clear hb hE h2 hc h47 hm
        go_enter Try.func65, Try.ntmps65
        go_wp2_with (go_at_call 64; refine ht.mono ?_; rintro e w' ⟨rfl, rfl⟩)
        exact bodyPost_ret (v := .tuple #[.slice none 0 0, .int .i64 0, .int .i64 2]) (by simp [results, Try.results65, go_sem]) rfl (got_nil _ _ _)
      · obtain ⟨mm, rfl⟩ := Int.eq_ofNat_of_zero_le (by omega : 0 ≤ most)
        have h3' : (0 : Int) ≤ (mm : Int) := by omega
        have hmm : mm ≤ 2 ^ 63 - 1 := by omega
        by_cases h4 : (mm : Int) < (n : Int)
        · simp only [h3, h4, or_true, if_true]
          clear hb hE h2 hc h47 hm h3
          go_enter Try.func65, Try.ntmps65
          go_wp2_with (go_at_call 64; refine ht.mono ?_; rintro e w' ⟨rfl, rfl⟩)
          exact bodyPost_ret (v := .tuple #[.slice none 0 0, .int .i64 0, .int .i64 2]) (by simp [results, Try.results65, go_sem]) rfl (got_nil _ _ _)
        · simp only [h3, h4, or_self, if_false]
          obtain ⟨r, rfl⟩ : ∃ r, len = E + 1 + r := ⟨len - (E + 1), by omega⟩
          obtain ⟨rc, rfl⟩ : ∃ rc, cap = E + 1 + rc := ⟨cap - (E + 1), by omega⟩
          by_cases h5 : E + 1 + r < E + 1 + n
          · simp only [h5, if_true]
            exact tby_short b off r rc E n mm w h47 (by omega) hmm (by omega) (by omega) ht
          · simp only [h5, if_false]
            obtain ⟨A, hif, hA⟩ : ∃ A : Addr, (if rc = 0 then some (⟨b, off, none⟩ : Addr) else some ⟨b, off + (E + 1), none⟩) = some A ∧ Byt w (some A) r (fun k => X (E + 1 + k)) := by
              by_cases g : rc = 0
              · exact ⟨⟨b, off, none⟩, by simp [g], fun k hk => absurd hk (by omega)⟩
              · exact ⟨⟨b, off + (E + 1), none⟩, by simp [g], hb.cut b off rfl (by omega)⟩
            exact tby_ok A b off r rc E n mm _ w h47 (by omega) hmm (by omega) (by omega) hif hA ht
    · simp only [h2, if_false] at ht ⊢
      clear hb hE h2 hc h47 hm
      go_enter Try.func65, Try.ntmps65
      go_wp2_with (go_at_call 64; refine ht.mono ?_; rintro e w' ⟨rfl, rfl⟩)
      exact bodyPost_ret (v := .tuple #[.slice none 0 0, .int .i64 0, .int .i64 3]) (by simp [results, Try.results65, go_sem]) rfl (got_nil _ _ _)
  · simp only [h1, if_false] at ht ⊢
    clear hb hE hc h47 hm
    go_enter Try.func65, Try.ntmps65
    go_wp2_with (go_at_call 64; refine ht.mono ?_; rintro e w' ⟨rfl, rfl⟩)
    exact bodyPost_ret (v := .tuple #[.slice none 0 0, .int .i64 0, .int .i64 5]) (by simp [results, Try.results65, go_sem]) rfl (got_nil _ _ _)

end Go.Proofs.Ytifgojkmdicdmaa
