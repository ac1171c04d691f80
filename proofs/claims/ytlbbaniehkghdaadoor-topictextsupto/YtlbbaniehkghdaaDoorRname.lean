/- The document's own names and clients. -/
import Derived.Test.YtlbbaniehkghdaaDoorRsign
import Derived.Lib.ConvBytes
namespace Go.Proofs.YtlbbaniehkghdaaDoor
open Go.RowKit
set_option linter.unusedVariables false

/-- The bytes of a string, laid anew. -/
theorem conv_str (w : World) (s : ByteArray) : (convert 9 22 (.string s)).run Tryd.prog w = .ok (.slice (some ⟨w.heap.size, 0, none⟩) s.size (grownCap w s.size 0 5)) (Lib.bytesWorld w 5 s) :=
  Lib.run_convert_string_bytes w 9 22 5 s Tryd.underlying9 Tryd.underlying22 Tryd.underlying5
theorem conv_below (w : World) (s : ByteArray) : Below w.heap.size w (Lib.bytesWorld w 5 s) :=
  ⟨rfl, rfl, rfl, by rw [Lib.bytesWorld_size]; omega, fun k hk => Lib.bytesWorld_at_old w 5 s k hk⟩
def sx (s : ByteArray) : Nat → Nat := fun k => (s.data.toList.getD k 0).toNat
theorem conv_byt (w : World) (s : ByteArray) : Byt (Lib.bytesWorld w 5 s) (some ⟨w.heap.size, 0, none⟩) s.size (sx s) := fun k hk =>
  ⟨by unfold sx; exact UInt8.toNat_lt _, w.heap.size, 0, rfl, by rw [Nat.zero_add]; exact Lib.bytesWorld_cell w 5 s k hk⟩
theorem ul_sx (s : ByteArray) : ul (sx s) s.size = s.data.toList := by
  have hsz : s.data.toList.length = s.size := Array.length_toList
  apply List.ext_getElem
  · rw [ul_length, hsz]
  · intro i h1 h2
    simp only [ul, List.getElem_map, List.getElem_range, sx]
    rw [List.getD_eq_getElem?_getD, List.getElem?_eq_getElem h2, Option.getD_some, UInt8.ofNat_toNat]
theorem rtext_str (w : World) (s : ByteArray) (hl : s.size ≤ maxLen) : Calls Tryd.prog 10 #[.slice (some ⟨w.heap.size, 0, none⟩) s.size (grownCap w s.size 0 5)] (Lib.bytesWorld w 5 s) fun e w' => e = .returned (.bool (text s.data.toList)) ∧ w' = Lib.bytesWorld w 5 s := by
  have := rtext_any _ s.size (grownCap w s.size 0 5) _ _ (conv_byt w s) (grownCap_ge w s.size 0 5) (grownCap_le_maxLen w s.size 0 5 hl)
  rw [ul_sx] at this
  exact this
theorem len_data (s : ByteArray) : s.data.toList.length = s.size := Array.length_toList

theorem rname_any (s : ByteArray) (w : World) (hl : s.size ≤ maxLen) : Calls Tryd.prog 12 #[.string s] w fun e w' => e = .returned (.bool (nam s.data.toList)) ∧ Below w.heap.size w w' := by
  have h63 : s.size ≤ 2 ^ 63 - 1 := by unfold maxLen at hl; omega
  unfold nam
  rw [len_data]
  by_cases h1 : 1 ≤ s.size
  · have h1' : (1 : Int) ≤ (s.size : Int) := by omega
    by_cases h2 : s.size ≤ 64
    · have h2' : (s.size : Int) ≤ 64 := by omega
      have hc := conv_str w s
      have ht := rtext_str w s hl
      have hB := conv_below w s
      have hsg := fun w => rsign_any s w hl
      generalize text s.data.toList = T at ht ⊢
      generalize sgn s.data.toList = S at hsg ⊢
      generalize Lib.bytesWorld w 5 s = w1 at hc ht hB
      generalize grownCap w s.size 0 5 = cp at hc ht
      simp only [h1, h2, decide_true, Bool.true_and]
      clear hl h1 h2
      cases T with
      | true =>
        simp only [Bool.true_and]
        go_enter Tryd.func12, Tryd.ntmps12
        go_wp2_with (first | (go_at_call 10; refine ht.mono ?_; rintro e w1 ⟨rfl, rfl⟩) | (go_at_call 29; refine (hsg _).mono ?_; rintro e w2 ⟨rfl, hw2⟩; obtain rfl := hw2))
        go_ret
        exact ⟨rfl, hB⟩
      | false =>
        simp only [Bool.false_and]
        go_enter Tryd.func12, Tryd.ntmps12
        go_wp2_with (go_at_call 10; refine ht.mono ?_; rintro e w1 ⟨rfl, rfl⟩)
        go_ret
        exact ⟨rfl, hB⟩
    · have h2' : (64 : Int) < (s.size : Int) := by omega
      simp only [h1, h2, decide_true, decide_false, Bool.true_and, Bool.false_and]
      clear hl
      go_enter Tryd.func12, Tryd.ntmps12
      go_wp2_with fail
      go_ret
      exact ⟨rfl, Below.refl _ _⟩
  · have h1' : (s.size : Int) < 1 := by omega
    simp only [h1, decide_false, Bool.false_and]
    clear hl
    go_enter Tryd.func12, Tryd.ntmps12
    go_wp2_with fail
    go_ret
    exact ⟨rfl, Below.refl _ _⟩
theorem rclient_any (s : ByteArray) (w : World) (hl : s.size ≤ maxLen) : Calls Tryd.prog 14 #[.string s] w fun e w' => e = .returned (.bool (cli s.data.toList)) ∧ Below w.heap.size w w' := by
  have h63 : s.size ≤ 2 ^ 63 - 1 := by unfold maxLen at hl; omega
  unfold cli
  rw [len_data]
  by_cases h1 : 1 ≤ s.size
  · have h1' : (1 : Int) ≤ (s.size : Int) := by omega
    by_cases h2 : s.size ≤ 32
    · have h2' : (s.size : Int) ≤ 32 := by omega
      have hc := conv_str w s
      have ht := rtext_str w s hl
      have hB := conv_below w s
      generalize text s.data.toList = T at ht ⊢
      generalize Lib.bytesWorld w 5 s = w1 at hc ht hB
      generalize grownCap w s.size 0 5 = cp at hc ht
      simp only [h1, h2, decide_true, Bool.true_and]
      clear hl h1 h2
      go_enter Tryd.func14, Tryd.ntmps14
      go_wp2_with (go_at_call 10; refine ht.mono ?_; rintro e w1 ⟨rfl, rfl⟩)
      go_ret
      exact ⟨rfl, hB⟩
    · have h2' : (32 : Int) < (s.size : Int) := by omega
      simp only [h1, h2, decide_true, decide_false, Bool.true_and, Bool.false_and]
      clear hl
      go_enter Tryd.func14, Tryd.ntmps14
      go_wp2_with fail
      go_ret
      exact ⟨rfl, Below.refl _ _⟩
  · have h1' : (s.size : Int) < 1 := by omega
    simp only [h1, decide_false, Bool.false_and]
    clear hl
    go_enter Tryd.func14, Tryd.ntmps14
    go_wp2_with fail
    go_ret
    exact ⟨rfl, Below.refl _ _⟩
end Go.Proofs.YtlbbaniehkghdaaDoor
