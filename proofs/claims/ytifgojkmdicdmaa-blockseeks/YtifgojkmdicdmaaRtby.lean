/- What the document's own TakeBytes answers. -/
import Derived.Test.YtifgojkmdicdmaaTby
import Derived.Test.YtifgojkmdicdmaaRtake
namespace Go.Proofs.Ytifgojkmdicdmaa
open Go.RowKit
set_option linter.unusedVariables false

set_option maxHeartbeats 400000 in
set_option maxRecDepth 100000 in
theorem rtby_ok (A : Addr) (b off r rc E n mm : Nat) (Y : Nat → Nat) (w : World) (h47 : E + 1 + r ≤ 175921860444160) (h4 : n ≤ mm) (hmm : mm ≤ 2 ^ 63 - 1) (h5 : n ≤ r) (h6 : r ≤ rc)
    (hif : (if rc = 0 then some (⟨b, off, none⟩ : Addr) else some ⟨b, off + (E + 1), none⟩) = some A) (hA : Byt w (some A) r Y)
    (ht : Calls Try.prog 51 #[.slice (some ⟨b, off, none⟩) (E + 1 + r) (E + 1 + rc)] w fun e w' => e = .returned (.tuple #[.int .u64 (n : Int), .int .i64 ((E : Int) + 1), .int .i64 0]) ∧ w' = w) :
    Calls Try.prog 52 #[.slice (some ⟨b, off, none⟩) (E + 1 + r) (E + 1 + rc), .int .i64 (mm : Int)] w fun e w' => Got w w' e (bs Y n, (E : Int) + 1 + (n : Int), 0) := by
  have HA : Hid (Byt w (some A) n Y ∧ n ≤ 175921860444160) := ⟨fun k hk => hA k (by omega), by omega⟩
  have HO : Hid (Okb (bs Y n)) := okb_bs (w := w) (ao := some A) (fun k hk => hA k (by omega))
  have hE : E + 1 + n ≤ 2 ^ 63 - 1 := by omega
  have hr : r ≤ 2 ^ 63 - 1 := by omega
  have h4' : (n : Int) ≤ (mm : Int) := by omega
  have q0 : (0 : Int) ≤ (mm : Int) := by omega
  have h6' : (n : Int) ≤ (r : Int) := by omega
  have h7 : (n : Int) ≤ (rc : Int) := by omega
  clear h47 hA
  go_enter Try.func52, Try.ntmps52
  go_wp2_with (first | (go_at_call 51; refine ht.mono ?_; rintro e w ⟨rfl, rfl⟩) | (at_builtin; refine wpList_appW rfl _ _ rfl w.heap.size (.slice none 0 0) [] rfl (Row.nil _ _) (some A) n rc Y (by simp [Act.eval]) (fun e => by cases e) HA.out.1 (by have := HA.out.2; simpa using this) (Nat.le_refl _) ?_; intro v2 w2 hr2 hg2 hm2))
  obtain ⟨ao2, cap2, rfl, q5, q6, q7, q8⟩ := Row.byt (xs := bs Y n) hr2 HO.out
  exact bodyPost_ret (v := .tuple #[.slice ao2 (bs Y n).length cap2, .int .i64 ((E : Int) + 1 + (n : Int)), .int .i64 0]) (by simp [results, Try.results52, go_sem]) rfl ⟨ao2, cap2, rfl, q5, q6, q7, q8, grown_below (Row.nil _ _) hg2 (Nat.le_refl _), hr2⟩

set_option maxHeartbeats 400000 in
set_option maxRecDepth 100000 in
theorem rtby_short (b off r rc E n mm : Nat) (w : World) (h47 : E + 1 + r ≤ 175921860444160) (h4 : n ≤ mm) (hmm : mm ≤ 2 ^ 63 - 1) (h5 : r < n) (h6 : r ≤ rc)
    (ht : Calls Try.prog 51 #[.slice (some ⟨b, off, none⟩) (E + 1 + r) (E + 1 + rc)] w fun e w' => e = .returned (.tuple #[.int .u64 (n : Int), .int .i64 ((E : Int) + 1), .int .i64 0]) ∧ w' = w) :
    Calls Try.prog 52 #[.slice (some ⟨b, off, none⟩) (E + 1 + r) (E + 1 + rc), .int .i64 (mm : Int)] w fun e w' => Got w w' e ([], 0, 5) := by
  have hr : r ≤ 2 ^ 63 - 1 := by omega
  have hE : E + 1 + r ≤ 2 ^ 63 - 1 := by omega
  have h4' : (n : Int) ≤ (mm : Int) := by omega
  have q0 : (0 : Int) ≤ (mm : Int) := by omega
  have h6' : (r : Int) < (n : Int) := by omega
  clear h47
  go_enter Try.func52, Try.ntmps52
  go_wp2_with (go_at_call 51; refine ht.mono ?_; rintro e w ⟨rfl, rfl⟩)
  all_goals exact bodyPost_ret (v := .tuple #[.slice none 0 0, .int .i64 0, .int .i64 5]) (by simp [results, Try.results52, go_sem]) rfl (got_nil _ _ _)

set_option maxHeartbeats 1000000 in
set_option maxRecDepth 100000 in
theorem rtby_any (ao : Option Addr) (len cap E : Nat) (X : Nat → Nat) (most : Int) (w : World) (hb : Byt w ao len X) (hl : len ≤ cap) (hc : cap ≤ maxLen) (h47 : len ≤ 175921860444160) (hE : IsEnd X len E) (hm : most ≤ 9223372036854775807) :
    Calls Try.prog 52 #[.slice ao len cap, .int .i64 most] w fun e w' => Got w w' e (tbR X len E most) := by
  have ht := rtake_any ao len cap E X w hb hl hc hE
  unfold takeV at ht
  unfold tbR
  by_cases h1 : E < len
  · simp only [h1, if_true] at ht ⊢
    obtain ⟨_, b, off, hao, _⟩ := hb E h1
    subst hao
    by_cases h2 : good X E
    · simp only [h2, if_true] at ht ⊢
      obtain ⟨n, hn⟩ : ∃ n, n = val X (E + 1) := ⟨_, rfl⟩
      rw [← hn] at ht ⊢
      clear hn
      by_cases h3 : most < 0
      · simp only [h3, true_or, if_true]
        clear hb hE h2 hc h47 hm
        go_enter Try.func52, Try.ntmps52
        go_wp2_with (go_at_call 51; refine ht.mono ?_; rintro e w' ⟨rfl, rfl⟩)
        exact bodyPost_ret (v := .tuple #[.slice none 0 0, .int .i64 0, .int .i64 2]) (by simp [results, Try.results52, go_sem]) rfl (got_nil _ _ _)
      · obtain ⟨mm, rfl⟩ := Int.eq_ofNat_of_zero_le (by omega : 0 ≤ most)
        have h3' : (0 : Int) ≤ (mm : Int) := by omega
        have hmm : mm ≤ 2 ^ 63 - 1 := by omega
        by_cases h4 : (mm : Int) < (n : Int)
        · simp only [h3, h4, or_true, if_true]
          clear hb hE h2 hc h47 hm h3
          go_enter Try.func52, Try.ntmps52
          go_wp2_with (go_at_call 51; refine ht.mono ?_; rintro e w' ⟨rfl, rfl⟩)
          exact bodyPost_ret (v := .tuple #[.slice none 0 0, .int .i64 0, .int .i64 2]) (by simp [results, Try.results52, go_sem]) rfl (got_nil _ _ _)
        · simp only [h3, h4, or_self, if_false]
          obtain ⟨r, rfl⟩ : ∃ r, len = E + 1 + r := ⟨len - (E + 1), by omega⟩
          obtain ⟨rc, rfl⟩ : ∃ rc, cap = E + 1 + rc := ⟨cap - (E + 1), by omega⟩
          by_cases h5 : E + 1 + r < E + 1 + n
          · simp only [h5, if_true]
            exact rtby_short b off r rc E n mm w h47 (by omega) hmm (by omega) (by omega) ht
          · simp only [h5, if_false]
            obtain ⟨A, hif, hA⟩ : ∃ A : Addr, (if rc = 0 then some (⟨b, off, none⟩ : Addr) else some ⟨b, off + (E + 1), none⟩) = some A ∧ Byt w (some A) r (fun k => X (E + 1 + k)) := by
              by_cases g : rc = 0
              · exact ⟨⟨b, off, none⟩, by simp [g], fun k hk => absurd hk (by omega)⟩
              · exact ⟨⟨b, off + (E + 1), none⟩, by simp [g], hb.cut b off rfl (by omega)⟩
            exact rtby_ok A b off r rc E n mm _ w h47 (by omega) hmm (by omega) (by omega) hif hA ht
    · simp only [h2, if_false] at ht ⊢
      clear hb hE h2 hc h47 hm
      go_enter Try.func52, Try.ntmps52
      go_wp2_with (go_at_call 51; refine ht.mono ?_; rintro e w' ⟨rfl, rfl⟩)
      exact bodyPost_ret (v := .tuple #[.slice none 0 0, .int .i64 0, .int .i64 3]) (by simp [results, Try.results52, go_sem]) rfl (got_nil _ _ _)
  · simp only [h1, if_false] at ht ⊢
    clear hb hE hc h47 hm
    go_enter Try.func52, Try.ntmps52
    go_wp2_with (go_at_call 51; refine ht.mono ?_; rintro e w' ⟨rfl, rfl⟩)
    exact bodyPost_ret (v := .tuple #[.slice none 0 0, .int .i64 0, .int .i64 5]) (by simp [results, Try.results52, go_sem]) rfl (got_nil _ _ _)

end Go.Proofs.Ytifgojkmdicdmaa
