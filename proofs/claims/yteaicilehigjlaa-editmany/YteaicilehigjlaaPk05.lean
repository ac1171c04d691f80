import Derived.Test.YteaicilehigjlaaPk03
import Derived.Test.YteaicilehigjlaaPk04
/- What TakeBytes answers. -/
namespace Go.Proofs.Yteaicilehigjlaa
open Go.RowKit
set_option linter.unusedVariables false

/-- What TakeBytes answers, where the length's number ends at E: the bytes, how many are used, the error. -/
def tbR (X : Nat → Nat) (len E : Nat) (most : Int) : List Int × Int × Int :=
  if E < len then (if good X E then
    (if most < 0 ∨ most < (val X (E + 1) : Int) then ([], 0, 2) else if len < E + 1 + val X (E + 1) then ([], 0, 5) else (bs (fun k => X (E + 1 + k)) (val X (E + 1)), (E : Int) + 1 + (val X (E + 1) : Int), 0))
    else ([], 0, 3)) else ([], 0, 5)

/-- A slice of bytes that the callee made, or nil. -/
def Got (w w' : World) (e : Ending) (r : List Int × Int × Int) : Prop :=
  ∃ ao cap, e = .returned (.tuple #[.slice ao r.1.length cap, .int .i64 r.2.1, .int .i64 r.2.2]) ∧ (ao = none → r.1.length = 0 ∧ cap = 0) ∧ r.1.length ≤ cap ∧ cap ≤ maxLen ∧ Byt w' ao r.1.length (xof r.1) ∧ Below w.heap.size w w' ∧ Row w.heap.size w' (.slice ao r.1.length cap) r.1
theorem got_nil (w : World) (K F : Int) : Got w w (.returned (.tuple #[.slice none 0 0, .int .i64 K, .int .i64 F])) ([], K, F) :=
  ⟨none, 0, rfl, fun _ => ⟨rfl, rfl⟩, Nat.le_refl _, Nat.zero_le _, (fun k hk => by cases hk), Below.refl _ _, Row.nil _ _⟩

theorem Byt.cut {w : World} {ao : Option Addr} {len l m : Nat} {X : Nat → Nat} (h : Byt w ao len X) (b off : Nat) (e : ao = some ⟨b, off, none⟩) (hl : l + m ≤ len) : Byt w (some ⟨b, off + l, none⟩) m (fun k => X (l + k)) := fun k hk => by
  obtain ⟨h1, b', off', e', hc⟩ := h (l + k) (by omega)
  rw [e] at e'
  simp only [Option.some.injEq, Addr.mk.injEq, and_true] at e'
  obtain ⟨rfl, rfl⟩ := e'
  exact ⟨h1, b, off + l, rfl, by rw [Nat.add_assoc]; exact hc⟩

set_option maxHeartbeats 400000 in
set_option maxRecDepth 100000 in
theorem tby_ok (A : Addr) (b off r rc E n mm : Nat) (Y : Nat → Nat) (w : World) (h47 : E + 1 + r ≤ 175921860444160) (h4 : n ≤ mm) (hmm : mm ≤ 2 ^ 63 - 1) (h5 : n ≤ r) (h6 : r ≤ rc)
    (hif : (if rc = 0 then some (⟨b, off, none⟩ : Addr) else some ⟨b, off + (E + 1), none⟩) = some A) (hA : Byt w (some A) r Y)
    (ht : Calls Try.prog 42 #[.slice (some ⟨b, off, none⟩) (E + 1 + r) (E + 1 + rc)] w fun e w' => e = .returned (.tuple #[.int .u64 (n : Int), .int .i64 ((E : Int) + 1), .int .i64 0]) ∧ w' = w) :
    Calls Try.prog 51 #[.slice (some ⟨b, off, none⟩) (E + 1 + r) (E + 1 + rc), .int .i64 (mm : Int)] w fun e w' => Got w w' e (bs Y n, (E : Int) + 1 + (n : Int), 0) := by
  have hf := fresh_any (some A) n rc 0 Y w (fun k hk => hA k (by omega)) (fun e => by cases e) (by omega) (by omega)
  have HO : Hid (Okb (bs Y n)) := okb_bs (w := w) (ao := some A) (fun k hk => hA k (by omega))
  have hE : E + 1 + n ≤ 2 ^ 63 - 1 := by omega
  have hr : r ≤ 2 ^ 63 - 1 := by omega
  have h4' : (n : Int) ≤ (mm : Int) := by omega
  have q0 : (0 : Int) ≤ (mm : Int) := by omega
  have h6' : (n : Int) ≤ (r : Int) := by omega
  have h7 : (n : Int) ≤ (rc : Int) := by omega
  clear h47 hA
  go_enter Try.func51, Try.ntmps51
  go_wp2_with (first | (go_at_call 42; refine ht.mono ?_; rintro e w ⟨rfl, rfl⟩) | (go_at_call 47; refine hf.mono ?_; rintro e w2 ⟨v2, rfl, hr2, hb2⟩))
  obtain ⟨ao2, cap2, rfl, q5, q6, q7, q8⟩ := hr2.byt HO.out
  exact bodyPost_ret (v := .tuple #[.slice ao2 (bs Y n).length cap2, .int .i64 ((E : Int) + 1 + (n : Int)), .int .i64 0]) (by simp [results, Try.results51, go_sem]) rfl ⟨ao2, cap2, rfl, q5, q6, q7, q8, hb2, hr2⟩

set_option maxHeartbeats 400000 in
set_option maxRecDepth 100000 in
theorem tby_short (b off r rc E n mm : Nat) (w : World) (h47 : E + 1 + r ≤ 175921860444160) (h4 : n ≤ mm) (hmm : mm ≤ 2 ^ 63 - 1) (h5 : r < n) (h6 : r ≤ rc)
    (ht : Calls Try.prog 42 #[.slice (some ⟨b, off, none⟩) (E + 1 + r) (E + 1 + rc)] w fun e w' => e = .returned (.tuple #[.int .u64 (n : Int), .int .i64 ((E : Int) + 1), .int .i64 0]) ∧ w' = w) :
    Calls Try.prog 51 #[.slice (some ⟨b, off, none⟩) (E + 1 + r) (E + 1 + rc), .int .i64 (mm : Int)] w fun e w' => Got w w' e ([], 0, 5) := by
  have hr : r ≤ 2 ^ 63 - 1 := by omega
  have hE : E + 1 + r ≤ 2 ^ 63 - 1 := by omega
  have h4' : (n : Int) ≤ (mm : Int) := by omega
  have q0 : (0 : Int) ≤ (mm : Int) := by omega
  have h6' : (r : Int) < (n : Int) := by omega
  clear h47
  go_enter Try.func51, Try.ntmps51
  go_wp2_with (go_at_call 42; refine ht.mono ?_; rintro e w ⟨rfl, rfl⟩)
  all_goals exact bodyPost_ret (v := .tuple #[.slice none 0 0, .int .i64 0, .int .i64 5]) (by simp [results, Try.results51, go_sem]) rfl (got_nil _ _ _)

set_option maxHeartbeats 1000000 in
set_option maxRecDepth 100000 in
theorem tby_any (ao : Option Addr) (len cap E : Nat) (X : Nat → Nat) (most : Int) (w : World) (hb : Byt w ao len X) (hl : len ≤ cap) (hc : cap ≤ maxLen) (h47 : len ≤ 175921860444160) (hE : IsEnd X len E) (hm : most ≤ 9223372036854775807) :
    Calls Try.prog 51 #[.slice ao len cap, .int .i64 most] w fun e w' => Got w w' e (tbR X len E most) := by
  have ht := take_any ao len cap E X w hb hl hc hE
  unfold takeV at ht
  unfold tbR
  by_cases h1 : E < len
  · simp only [h1, if_true] at ht ⊢
    obtain ⟨_, b, off, hao, _⟩ := hb E h1
    subst hao
    by_cases h2 : good X E
    · simp only [h2, if_true] at ht ⊢
      obtain ⟨n, hn⟩ : ∃ n, n = val X (E + 1) := ⟨_, rfl⟩
      rw [← hn] at ht ⊢
      clear hn
      by_cases h3 : most < 0
      · simp only [h3, true_or, if_true]
        clear hb hE h2 hc h47 hm
        go_enter Try.func51, Try.ntmps51
        go_wp2_with (go_at_call 42; refine ht.mono ?_; rintro e w' ⟨rfl, rfl⟩)
        exact bodyPost_ret (v := .tuple #[.slice none 0 0, .int .i64 0, .int .i64 2]) (by simp [results, Try.results51, go_sem]) rfl (got_nil _ _ _)
      · obtain ⟨mm, rfl⟩ := Int.eq_ofNat_of_zero_le (by omega : 0 ≤ most)
        have h3' : (0 : Int) ≤ (mm : Int) := by omega
        have hmm : mm ≤ 2 ^ 63 - 1 := by omega
        by_cases h4 : (mm : Int) < (n : Int)
        · simp only [h3, h4, or_true, if_true]
          clear hb hE h2 hc h47 hm h3
          go_enter Try.func51, Try.ntmps51
          go_wp2_with (go_at_call 42; refine ht.mono ?_; rintro e w' ⟨rfl, rfl⟩)
          exact bodyPost_ret (v := .tuple #[.slice none 0 0, .int .i64 0, .int .i64 2]) (by simp [results, Try.results51, go_sem]) rfl (got_nil _ _ _)
        · simp only [h3, h4, or_self, if_false]
          obtain ⟨r, rfl⟩ : ∃ r, len = E + 1 + r := ⟨len - (E + 1), by omega⟩
          obtain ⟨rc, rfl⟩ : ∃ rc, cap = E + 1 + rc := ⟨cap - (E + 1), by omega⟩
          by_cases h5 : E + 1 + r < E + 1 + n
          · simp only [h5, if_true]
            exact tby_short b off r rc E n mm w h47 (by omega) hmm (by omega) (by omega) ht
          · simp only [h5, if_false]
            obtain ⟨A, hif, hA⟩ : ∃ A : Addr, (if rc = 0 then some (⟨b, off, none⟩ : Addr) else some ⟨b, off + (E + 1), none⟩) = some A ∧ Byt w (some A) r (fun k => X (E + 1 + k)) := by
              by_cases g : rc = 0
              · exact ⟨⟨b, off, none⟩, by simp [g], fun k hk => absurd hk (by omega)⟩
              · exact ⟨⟨b, off + (E + 1), none⟩, by simp [g], hb.cut b off rfl (by omega)⟩
            exact tby_ok A b off r rc E n mm _ w h47 (by omega) hmm (by omega) (by omega) hif hA ht
    · simp only [h2, if_false] at ht ⊢
      clear hb hE h2 hc h47 hm
      go_enter Try.func51, Try.ntmps51
      go_wp2_with (go_at_call 42; refine ht.mono ?_; rintro e w' ⟨rfl, rfl⟩)
      exact bodyPost_ret (v := .tuple #[.slice none 0 0, .int .i64 0, .int .i64 3]) (by simp [results, Try.results51, go_sem]) rfl (got_nil _ _ _)
  · simp only [h1, if_false] at ht ⊢
    clear hb hE hc h47 hm
    go_enter Try.func51, Try.ntmps51
    go_wp2_with (go_at_call 42; refine ht.mono ?_; rintro e w' ⟨rfl, rfl⟩)
    exact bodyPost_ret (v := .tuple #[.slice none 0 0, .int .i64 0, .int .i64 5]) (by simp [results, Try.results51, go_sem]) rfl (got_nil _ _ _)

end Go.Proofs.Yteaicilehigjlaa

/- What the document's own TakeBytes answers. -/
namespace Go.Proofs.Yteaicilehigjlaa
open Go.RowKit
set_option linter.unusedVariables false

set_option maxHeartbeats 400000 in
set_option maxRecDepth 100000 in
theorem rtby_ok (A : Addr) (b off r rc E n mm : Nat) (Y : Nat → Nat) (w : World) (h47 : E + 1 + r ≤ 175921860444160) (h4 : n ≤ mm) (hmm : mm ≤ 2 ^ 63 - 1) (h5 : n ≤ r) (h6 : r ≤ rc)
    (hif : (if rc = 0 then some (⟨b, off, none⟩ : Addr) else some ⟨b, off + (E + 1), none⟩) = some A) (hA : Byt w (some A) r Y)
    (ht : Calls Try.prog 44 #[.slice (some ⟨b, off, none⟩) (E + 1 + r) (E + 1 + rc)] w fun e w' => e = .returned (.tuple #[.int .u64 (n : Int), .int .i64 ((E : Int) + 1), .int .i64 0]) ∧ w' = w) :
    Calls Try.prog 45 #[.slice (some ⟨b, off, none⟩) (E + 1 + r) (E + 1 + rc), .int .i64 (mm : Int)] w fun e w' => Got w w' e (bs Y n, (E : Int) + 1 + (n : Int), 0) := by
  have HA : Hid (Byt w (some A) n Y ∧ n ≤ 175921860444160) := ⟨fun k hk => hA k (by omega), by omega⟩
  have HO : Hid (Okb (bs Y n)) := okb_bs (w := w) (ao := some A) (fun k hk => hA k (by omega))
  have hE : E + 1 + n ≤ 2 ^ 63 - 1 := by omega
  have hr : r ≤ 2 ^ 63 - 1 := by omega
  have h4' : (n : Int) ≤ (mm : Int) := by omega
  have q0 : (0 : Int) ≤ (mm : Int) := by omega
  have h6' : (n : Int) ≤ (r : Int) := by omega
  have h7 : (n : Int) ≤ (rc : Int) := by omega
  clear h47 hA
  go_enter Try.func45, Try.ntmps45
  go_wp2_with (first | (go_at_call 44; refine ht.mono ?_; rintro e w ⟨rfl, rfl⟩) | (at_builtin; refine wpList_appW rfl _ _ rfl w.heap.size (.slice none 0 0) [] rfl (Row.nil _ _) (some A) n rc Y (by simp [Act.eval]) (fun e => by cases e) HA.out.1 (by have := HA.out.2; simpa using this) (Nat.le_refl _) ?_; intro v2 w2 hr2 hg2 hm2))
  obtain ⟨ao2, cap2, rfl, q5, q6, q7, q8⟩ := Row.byt (xs := bs Y n) hr2 HO.out
  exact bodyPost_ret (v := .tuple #[.slice ao2 (bs Y n).length cap2, .int .i64 ((E : Int) + 1 + (n : Int)), .int .i64 0]) (by simp [results, Try.results45, go_sem]) rfl ⟨ao2, cap2, rfl, q5, q6, q7, q8, grown_below (Row.nil _ _) hg2 (Nat.le_refl _), hr2⟩

set_option maxHeartbeats 400000 in
set_option maxRecDepth 100000 in
theorem rtby_short (b off r rc E n mm : Nat) (w : World) (h47 : E + 1 + r ≤ 175921860444160) (h4 : n ≤ mm) (hmm : mm ≤ 2 ^ 63 - 1) (h5 : r < n) (h6 : r ≤ rc)
    (ht : Calls Try.prog 44 #[.slice (some ⟨b, off, none⟩) (E + 1 + r) (E + 1 + rc)] w fun e w' => e = .returned (.tuple #[.int .u64 (n : Int), .int .i64 ((E : Int) + 1), .int .i64 0]) ∧ w' = w) :
    Calls Try.prog 45 #[.slice (some ⟨b, off, none⟩) (E + 1 + r) (E + 1 + rc), .int .i64 (mm : Int)] w fun e w' => Got w w' e ([], 0, 5) := by
  have hr : r ≤ 2 ^ 63 - 1 := by omega
  have hE : E + 1 + r ≤ 2 ^ 63 - 1 := by omega
  have h4' : (n : Int) ≤ (mm : Int) := by omega
  have q0 : (0 : Int) ≤ (mm : Int) := by omega
  have h6' : (r : Int) < (n : Int) := by omega
  clear h47
  go_enter Try.func45, Try.ntmps45
  go_wp2_with (go_at_call 44; refine ht.mono ?_; rintro e w ⟨rfl, rfl⟩)
  all_goals exact bodyPost_ret (v := .tuple #[.slice none 0 0, .int .i64 0, .int .i64 5]) (by simp [results, Try.results45, go_sem]) rfl (got_nil _ _ _)

set_option maxHeartbeats 1000000 in
set_option maxRecDepth 100000 in
theorem rtby_any (ao : Option Addr) (len cap E : Nat) (X : Nat → Nat) (most : Int) (w : World) (hb : Byt w ao len X) (hl : len ≤ cap) (hc : cap ≤ maxLen) (h47 : len ≤ 175921860444160) (hE : IsEnd X len E) (hm : most ≤ 9223372036854775807) :
    Calls Try.prog 45 #[.slice ao len cap, .int .i64 most] w fun e w' => Got w w' e (tbR X len E most) := by
  have ht := rtake_any ao len cap E X w hb hl hc hE
  unfold takeV at ht
  unfold tbR
  by_cases h1 : E < len
  · simp only [h1, if_true] at ht ⊢
    obtain ⟨_, b, off, hao, _⟩ := hb E h1
    subst hao
    by_cases h2 : good X E
    · simp only [h2, if_true] at ht ⊢
      obtain ⟨n, hn⟩ : ∃ n, n = val X (E + 1) := ⟨_, rfl⟩
      rw [← hn] at ht ⊢
      clear hn
      by_cases h3 : most < 0
      · simp only [h3, true_or, if_true]
        clear hb hE h2 hc h47 hm
        go_enter Try.func45, Try.ntmps45
        go_wp2_with (go_at_call 44; refine ht.mono ?_; rintro e w' ⟨rfl, rfl⟩)
        exact bodyPost_ret (v := .tuple #[.slice none 0 0, .int .i64 0, .int .i64 2]) (by simp [results, Try.results45, go_sem]) rfl (got_nil _ _ _)
      · obtain ⟨mm, rfl⟩ := Int.eq_ofNat_of_zero_le (by omega : 0 ≤ most)
        have h3' : (0 : Int) ≤ (mm : Int) := by omega
        have hmm : mm ≤ 2 ^ 63 - 1 := by omega
        by_cases h4 : (mm : Int) < (n : Int)
        · simp only [h3, h4, or_true, if_true]
          clear hb hE h2 hc h47 hm h3
          go_enter Try.func45, Try.ntmps45
          go_wp2_with (go_at_call 44; refine ht.mono ?_; rintro e w' ⟨rfl, rfl⟩)
          exact bodyPost_ret (v := .tuple #[.slice none 0 0, .int .i64 0, .int .i64 2]) (by simp [results, Try.results45, go_sem]) rfl (got_nil _ _ _)
        · simp only [h3, h4, or_self, if_false]
          obtain ⟨r, rfl⟩ : ∃ r, len = E + 1 + r := ⟨len - (E + 1), by omega⟩
          obtain ⟨rc, rfl⟩ : ∃ rc, cap = E + 1 + rc := ⟨cap - (E + 1), by omega⟩
          by_cases h5 : E + 1 + r < E + 1 + n
          · simp only [h5, if_true]
            exact rtby_short b off r rc E n mm w h47 (by omega) hmm (by omega) (by omega) ht
          · simp only [h5, if_false]
            obtain ⟨A, hif, hA⟩ : ∃ A : Addr, (if rc = 0 then some (⟨b, off, none⟩ : Addr) else some ⟨b, off + (E + 1), none⟩) = some A ∧ Byt w (some A) r (fun k => X (E + 1 + k)) := by
              by_cases g : rc = 0
              · exact ⟨⟨b, off, none⟩, by simp [g], fun k hk => absurd hk (by omega)⟩
              · exact ⟨⟨b, off + (E + 1), none⟩, by simp [g], hb.cut b off rfl (by omega)⟩
            exact rtby_ok A b off r rc E n mm _ w h47 (by omega) hmm (by omega) (by omega) hif hA ht
    · simp only [h2, if_false] at ht ⊢
      clear hb hE h2 hc h47 hm
      go_enter Try.func45, Try.ntmps45
      go_wp2_with (go_at_call 44; refine ht.mono ?_; rintro e w' ⟨rfl, rfl⟩)
      exact bodyPost_ret (v := .tuple #[.slice none 0 0, .int .i64 0, .int .i64 3]) (by simp [results, Try.results45, go_sem]) rfl (got_nil _ _ _)
  · simp only [h1, if_false] at ht ⊢
    clear hb hE hc h47 hm
    go_enter Try.func45, Try.ntmps45
    go_wp2_with (go_at_call 44; refine ht.mono ?_; rintro e w' ⟨rfl, rfl⟩)
    exact bodyPost_ret (v := .tuple #[.slice none 0 0, .int .i64 0, .int .i64 5]) (by simp [results, Try.results45, go_sem]) rfl (got_nil _ _ _)

end Go.Proofs.Yteaicilehigjlaa

/- Numbers, and bytes with their length ahead, read at the beginning of a list of bytes; what follows. -/
namespace Go.Proofs.Yteaicilehigjlaa
open Go.RowKit
set_option linter.unusedVariables false
set_option linter.unusedSimpArgs false

/-- Where the number at the beginning ends. -/
def enL : List Int → Nat
  | [] => 0
  | x :: r => if 128 ≤ x then enL r + 1 else 0
theorem end_enL : ∀ xs : List Int, Okb xs → IsEnd (xof xs) xs.length (enL xs)
  | [], _ => ⟨Nat.le_refl _, (fun j hj => by cases hj), (fun h => by cases h)⟩
  | x :: r, h => by
    have ih := end_enL r h.tail
    have hx := h x (List.mem_cons_self ..)
    unfold enL
    by_cases q : 128 ≤ x
    · rw [if_pos q]
      refine ⟨by have := ih.1; simp; omega, fun j hj => ?_, fun hl => ?_⟩
      · cases j with
        | zero => rw [xof_zero]; omega
        | succ j => rw [xof_succ]; exact ih.2.1 j (by omega)
      · rw [xof_succ]
        exact ih.2.2 (by simp at hl; omega)
    · rw [if_neg q]
      exact ⟨by simp, (fun j hj => by cases hj), (fun _ => by rw [xof_zero]; omega)⟩
theorem end_one {X : Nat → Nat} {len E F : Nat} (h : IsEnd X len E) (g : IsEnd X len F) : E = F := by
  rcases Nat.lt_trichotomy E F with q | q | q
  · have h1 := g.2.1 E q
    have h2 := h.2.2 (by have := g.1; omega)
    omega
  · exact q
  · have h1 := h.2.1 F q
    have h2 := g.2.2 (by have := h.1; omega)
    omega

/-- A number at the beginning: the error, the number, how many bytes it has. -/
def tk (xs : List Int) : Nat × Nat × Nat :=
  if ¬ enL xs < xs.length then (5, 0, 0) else if ¬ good (xof xs) (enL xs) then (3, 0, 0) else (0, val (xof xs) (enL xs + 1), enL xs + 1)
theorem takeV_tk (xs : List Int) : takeV (xof xs) xs.length (enL xs) = .tuple #[.int .u64 ((tk xs).2.1 : Nat), .int .i64 ((tk xs).2.2 : Nat), .int .i64 ((tk xs).1 : Nat)] := by
  unfold takeV tk
  by_cases h1 : enL xs < xs.length
  · rw [if_pos h1, if_neg (not_not_intro h1)]
    by_cases h2 : good (xof xs) (enL xs)
    · rw [if_pos h2, if_neg (not_not_intro h2)]; rfl
    · rw [if_neg h2, if_pos h2]; rfl
  · rw [if_neg h1, if_pos h1]; rfl
theorem tk_case (xs : List Int) : ((tk xs).1 = 5 ∧ tk xs = (5, 0, 0)) ∨ ((tk xs).1 = 3 ∧ tk xs = (3, 0, 0)) ∨ ((tk xs).1 = 0 ∧ 1 ≤ (tk xs).2.2 ∧ (tk xs).2.2 ≤ xs.length) := by
  unfold tk
  by_cases h1 : enL xs < xs.length
  · rw [if_neg (not_not_intro h1)]
    by_cases h2 : good (xof xs) (enL xs)
    · rw [if_neg (not_not_intro h2)]; exact .inr (.inr ⟨rfl, Nat.succ_le_succ (Nat.zero_le _), h1⟩)
    · rw [if_pos h2]; exact .inr (.inl ⟨rfl, rfl⟩)
  · rw [if_pos h1]; exact .inl ⟨rfl, rfl⟩
theorem tk_used {xs : List Int} (h : (tk xs).1 = 0) : 1 ≤ (tk xs).2.2 ∧ (tk xs).2.2 ≤ xs.length := by
  rcases tk_case xs with ⟨q, _⟩ | ⟨q, _⟩ | ⟨_, q⟩
  · omega
  · omega
  · exact q
theorem tk_lt (xs : List Int) : (tk xs).2.1 < 18446744073709551616 := by
  unfold tk
  split
  · simp
  · split
    · simp
    · rename_i h
      exact val_good (Decidable.not_not.1 h)
theorem tk_err (xs : List Int) : (tk xs).1 = 0 ∨ (tk xs).1 = 3 ∨ (tk xs).1 = 5 := by
  rcases tk_case xs with ⟨q, _⟩ | ⟨q, _⟩ | ⟨q, _⟩
  · exact .inr (.inr q)
  · exact .inr (.inl q)
  · exact .inl q
/-- What was written is read, whatever stands behind it. -/
theorem tk_uv {n : Nat} {t : List Int} (hn : n < 18446744073709551616) (ht : Okb t) : tk (uv n ++ t) = (0, n, (uv n).length) := by
  have hok : Okb (uv n ++ t) := (okb_uv n).app ht
  have hZ : Begins (xof (uv n ++ t)) (uv n) := begins_xof hok
  have hul := uv_pos n
  have hE : enL (uv n ++ t) = (uv n).length - 1 := end_one (end_enL _ hok) (uv_end hZ (by simp))
  have hv : val (xof (uv n ++ t)) (enL (uv n ++ t) + 1) = n := by rw [hE]; exact uv_val hZ
  have hg : good (xof (uv n ++ t)) (enL (uv n ++ t)) := by rw [hE]; exact uv_good hn hZ
  unfold tk
  rw [if_neg (by rw [hE]; simp; omega), if_neg (not_not_intro hg), hv, hE]
  simp
  omega
/-- Cut off it is short. -/
theorem tk_cut {n k : Nat} (hk : k < (uv n).length) : tk ((uv n).take k) = (5, 0, 0) := by
  have hZ : Begins (xof (uv n)) (uv n) := begins_xof' (okb_uv _)
  have hc := (takeV_cut (n := n) hZ hk).1
  have hokt : Okb ((uv n).take k) := fun x hx => okb_uv n x (List.mem_of_mem_take hx)
  have hl : ((uv n).take k).length = k := by rw [List.length_take]; omega
  have hend := end_enL _ hokt
  rw [hl] at hend
  have hE : enL ((uv n).take k) = k := by
    refine end_one hend ⟨Nat.le_refl _, fun i hi => ?_, fun h => absurd h (by omega)⟩
    have : xof ((uv n).take k) i = xof (uv n) i := by
      unfold xof
      rw [List.getD_eq_getElem?_getD, List.getElem?_take_of_lt hi, List.getD_eq_getElem?_getD]
    rw [this]
    exact hc.2.1 i hi
  unfold tk
  rw [if_pos (by rw [hE, hl]; omega)]
/-- Bytes with their length ahead: the error, the bytes, how many bytes all of it has. -/
def tb (xs : List Int) (most : Nat) : Nat × List Int × Nat :=
  if (tk xs).1 ≠ 0 then ((tk xs).1, [], 0) else if most < (tk xs).2.1 then (2, [], 0) else if xs.length < (tk xs).2.2 + (tk xs).2.1 then (5, [], 0) else (0, (xs.drop (tk xs).2.2).take (tk xs).2.1, (tk xs).2.2 + (tk xs).2.1)
theorem tb_used {xs : List Int} {most : Nat} (h : (tb xs most).1 = 0) : 1 ≤ (tb xs most).2.2 ∧ (tb xs most).2.2 ≤ xs.length ∧ (tb xs most).2.1.length ≤ most := by
  unfold tb at h ⊢
  split at h
  · rename_i q; exact absurd h q
  · rename_i q0
    rw [if_neg q0]
    split at h
    · simp at h
    · rename_i q1
      rw [if_neg q1]
      split at h
      · simp at h
      · rename_i q2
        rw [if_neg q2]
        have := tk_used (Decidable.not_not.1 q0)
        refine ⟨by simp; omega, by simp; omega, ?_⟩
        rw [List.length_take, List.length_drop]
        omega
theorem tb_okb {xs : List Int} {most : Nat} (h : Okb xs) : Okb (tb xs most).2.1 := by
  unfold tb
  split
  · exact fun x hx => by cases hx
  · split
    · exact fun x hx => by cases hx
    · split
      · exact fun x hx => by cases hx
      · exact fun x hx => h x (List.mem_of_mem_drop (List.mem_of_mem_take hx))
/-- Bytes with their length ahead. -/
def lb (s : List Int) : List Int := uv s.length ++ s
theorem okb_lb {s : List Int} (h : Okb s) : Okb (lb s) := (okb_uv _).app h
theorem lb_len (s : List Int) : (lb s).length = (uv s.length).length + s.length := by simp [lb]
theorem lb_pos (s : List Int) : 0 < (lb s).length := by have := uv_pos s.length; rw [lb_len]; omega
theorem tb_lb {s t : List Int} {most : Nat} (hs : Okb s) (ht : Okb t) (hm : s.length ≤ most) (h64 : s.length < 18446744073709551616) : tb (lb s ++ t) most = (0, s, (lb s).length) := by
  have e : lb s ++ t = uv s.length ++ (s ++ t) := by unfold lb; rw [List.append_assoc]
  unfold tb
  rw [e, tk_uv h64 (hs.app ht)]
  rw [if_neg (by simp), if_neg (by simp; omega), if_neg (by simp)]
  simp only [Prod.mk.injEq, true_and]
  refine ⟨?_, by rw [lb_len]⟩
  rw [List.drop_append_of_le_length (Nat.le_refl _), List.drop_of_length_le (Nat.le_refl _), List.nil_append, List.take_append_of_le_length (Nat.le_refl _), List.take_of_length_le (Nat.le_refl _)]
theorem tb_cut {s : List Int} {k most : Nat} (hs : Okb s) (hm : s.length ≤ most) (h64 : s.length < 18446744073709551616) (hk : k < (lb s).length) : (tb ((lb s).take k) most).1 = 5 := by
  rw [lb_len] at hk
  by_cases hj : k < (uv s.length).length
  · have e : (lb s).take k = (uv s.length).take k := by unfold lb; rw [List.take_append_of_le_length (by omega)]
    unfold tb
    rw [e, tk_cut hj]
    rfl
  · have e : (lb s).take k = uv s.length ++ s.take (k - (uv s.length).length) := by
      unfold lb
      rw [List.take_append, List.take_of_length_le (by omega)]
    unfold tb
    rw [e, tk_uv h64 (fun x hx => hs x (List.mem_of_mem_take hx)), if_neg (by simp), if_neg (by simp; omega), if_pos (by simp; omega)]
/-- The document's own Take and TakeBytes, and the program's, on lists. -/
theorem rtk_l {w : World} {ao : Option Addr} {len cap : Nat} {xs : List Int} (h : Sl w ao len cap xs) : Calls Try.prog 44 #[.slice ao len cap] w fun e w' => e = .returned (.tuple #[.int .u64 ((tk xs).2.1 : Nat), .int .i64 ((tk xs).2.2 : Nat), .int .i64 ((tk xs).1 : Nat)]) ∧ w' = w := by
  have he := end_enL xs h.2.1
  rw [h.1] at he
  have := rtake_any ao len cap _ _ w h.2.2.2.2.2 h.2.2.2.1 h.2.2.2.2.1 he
  rw [← h.1, takeV_tk, h.1] at this
  exact this
theorem tk_l {w : World} {ao : Option Addr} {len cap : Nat} {xs : List Int} (h : Sl w ao len cap xs) : Calls Try.prog 42 #[.slice ao len cap] w fun e w' => e = .returned (.tuple #[.int .u64 ((tk xs).2.1 : Nat), .int .i64 ((tk xs).2.2 : Nat), .int .i64 ((tk xs).1 : Nat)]) ∧ w' = w := by
  have he := end_enL xs h.2.1
  rw [h.1] at he
  have := take_any ao len cap _ _ w h.2.2.2.2.2 h.2.2.2.1 h.2.2.2.2.1 he
  rw [← h.1, takeV_tk, h.1] at this
  exact this
theorem bs_cut {ys : List Int} (hok : Okb ys) {i n : Nat} (h : i + n ≤ ys.length) : bs (fun k => xof ys (i + k)) n = (ys.drop i).take n := by
  apply List.ext_getElem
  · rw [bs_length, List.length_take, List.length_drop]; omega
  · intro k h1 h2
    have hk : k < n := by rw [bs_length] at h1; exact h1
    have hik : i + k < ys.length := by omega
    have h0 := hok ys[i + k] (List.getElem_mem hik)
    simp [bs, xof, List.getElem?_eq_getElem hik]
    omega
theorem tbR_tb {xs : List Int} (hok : Okb xs) (most : Nat) : tbR (xof xs) xs.length (enL xs) (most : Int) = ((tb xs most).2.1, ((tb xs most).2.2 : Int), ((tb xs most).1 : Int)) := by
  unfold tbR tb tk
  by_cases h1 : enL xs < xs.length
  · rw [if_pos h1, if_neg (not_not_intro h1)]
    by_cases h2 : good (xof xs) (enL xs)
    · rw [if_pos h2, if_neg (not_not_intro h2)]
      simp only [ne_eq, not_true_eq_false, if_false]
      by_cases h3 : most < val (xof xs) (enL xs + 1)
      · rw [if_pos (by omega), if_pos h3]; rfl
      · rw [if_neg (by omega), if_neg h3]
        by_cases h4 : xs.length < enL xs + 1 + val (xof xs) (enL xs + 1)
        · rw [if_pos h4, if_pos h4]; rfl
        · rw [if_neg h4, if_neg h4, bs_cut hok (by omega)]
          simp
    · rw [if_neg h2, if_pos h2]; rfl
  · rw [if_neg h1, if_pos h1]; rfl
theorem rtb_l {w : World} {ao : Option Addr} {len cap : Nat} {xs : List Int} (h : Sl w ao len cap xs) (hl : len ≤ 175921860444160) (most : Nat) (hm : most ≤ 2 ^ 62) :
    Calls Try.prog 45 #[.slice ao len cap, .int .i64 (most : Int)] w fun e w' => ∃ v, e = .returned (.tuple #[v, .int .i64 ((tb xs most).2.2 : Nat), .int .i64 ((tb xs most).1 : Nat)]) ∧ Row w.heap.size w' v (tb xs most).2.1 ∧ Below w.heap.size w w' := by
  have he := end_enL xs h.2.1
  rw [h.1] at he
  have := rtby_any ao len cap _ _ (most : Int) w h.2.2.2.2.2 h.2.2.2.1 h.2.2.2.2.1 hl he (by omega)
  rw [← h.1, tbR_tb h.2.1, h.1] at this
  exact this.mono fun e w' ⟨a, c, he, _, _, _, _, hb, hr⟩ => ⟨_, he, hr, hb⟩
theorem tb_l {w : World} {ao : Option Addr} {len cap : Nat} {xs : List Int} (h : Sl w ao len cap xs) (hl : len ≤ 175921860444160) (most : Nat) (hm : most ≤ 2 ^ 62) :
    Calls Try.prog 51 #[.slice ao len cap, .int .i64 (most : Int)] w fun e w' => ∃ v, e = .returned (.tuple #[v, .int .i64 ((tb xs most).2.2 : Nat), .int .i64 ((tb xs most).1 : Nat)]) ∧ Row w.heap.size w' v (tb xs most).2.1 ∧ Below w.heap.size w w' := by
  have he := end_enL xs h.2.1
  rw [h.1] at he
  have := tby_any ao len cap _ _ (most : Int) w h.2.2.2.2.2 h.2.2.2.1 h.2.2.2.2.1 hl he (by omega)
  rw [← h.1, tbR_tb h.2.1, h.1] at this
  exact this.mono fun e w' ⟨a, c, he, _, _, _, _, hb, hr⟩ => ⟨_, he, hr, hb⟩
end Go.Proofs.Yteaicilehigjlaa
