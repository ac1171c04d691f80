/- Is what is seen the same? -/
import Derived.Test.YtligofmcmjblpaaPd
import Derived.Deep.RegionHeld
namespace Go.Proofs.Ytligofmcmjblpaa
open Go.RowKit
set_option linter.unusedVariables false

set_option maxHeartbeats 1000000 in
set_option maxRecDepth 100000 in
theorem same_any (u v : Value) (xs : List ByteArray) (w : World) (hu : StrsR w u xs) (hv : StrsR w v xs) (hl : xs.length ≤ 2 ^ 40) : Calls Try.prog 25 #[u, v] w fun e w' => e = .returned (.bool true) ∧ Below w.heap.size w w' := by
  obtain ⟨ao, cap, rfl, hc⟩ := hu
  obtain ⟨bo, bcap, rfl, hd⟩ := hv
  have HC := Hid.intro hc
  have HD := Hid.intro hd
  obtain ⟨n, hn⟩ : ∃ n, n = xs.length := ⟨_, rfl⟩
  have HN := Hid.intro hn
  have hn2 : n ≤ 2 ^ 40 := by omega
  rw [← hn]
  clear hc hd hl hn
  go_enter Try.func25, Try.ntmps25
  go_wp2_with fail
  go_loopg [13] n (fun g i wr => ∃ k : Nat, k + g = n ∧ i = .int .i64 (k : Int) ∧ Below w.heap.size w wr)
  case atStart => exact ⟨0, by omega, rfl, Below.refl _ _⟩
  case round =>
    obtain ⟨k, hk, rfl, hw⟩ := hrel
    by_cases h : k < n
    · have h' : (k : Int) < (n : Int) := by omega
      obtain ⟨s, hs⟩ : ∃ s, xs[k]? = some s := ⟨_, List.getElem?_eq_getElem (by rw [← HN.out]; exact h)⟩
      obtain ⟨b, off, rfl, x1⟩ := HC.out k s hs
      obtain ⟨b', off', rfl, x2⟩ := HD.out k s hs
      have y1 := cell_later hw x1
      have y2 := cell_later hw x2
      obtain ⟨GK, HG⟩ : ∃ g, Hid (g < gk ∧ k + 1 + g = n) := ⟨gk - 1, by omega, by omega⟩
      have HW : Hid (Below w.heap.size w wr) := hw
      clear hk x1 x2 hw hs
      go_wp2_with fail
      go_quiet (fail)
      go_wp2_with fail
      go_roundg GK
      case measure => exact HG.out.1
      case rel => exact ⟨k + 1, HG.out.2, by go_num, below_drewN HW.out _⟩
    · have h' : (n : Int) ≤ (k : Int) := by omega
      go_wp2_with fail
      go_ret
      exact ⟨rfl, hw⟩

theorem BytR.str {w : World} {v : Value} {xs : List Int} (h : BytR w v xs) : ∃ ao m c, v = .slice ao m c ∧ ∀ w', Below w.heap.size w w' → (convert 26 9 (.slice ao m c)).run Try.prog w' = .ok (.string (strOfNums xs)) w' := by
  obtain ⟨ao, m, c, Y, rfl, h1, h2, h3⟩ := h
  refine ⟨ao, m, c, rfl, fun w' hb => ?_⟩
  rw [← h3]
  exact run_str (h2.later hb) h1
theorem list_len {σ : DS} (hi : Inv σ) : σ.list.length ≤ 1048576 := by
  unfold DS.list
  split
  · simp
  · rw [List.length_map]
    exact hi.dn

end Go.Proofs.Ytligofmcmjblpaa
