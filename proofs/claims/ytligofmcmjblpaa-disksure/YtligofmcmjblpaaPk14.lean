import Derived.Deep.RegionHeld
import Derived.Test.YtligofmcmjblpaaPk12
import Derived.Test.YtligofmcmjblpaaPk13
/- What is asked of a program's disk, beside the document's own. -/
namespace Go.Proofs.Ytligofmcmjblpaa
open Go.RowKit
set_option linter.unusedVariables false

theorem RefAt.kept {w w' : World} {p : Nat} {σ : DS} {F A G : Nat → Prop} {loc : Nat → Nat} {lv wv : Value} (h : RefAt w p σ F A loc lv wv) (hk : Kept G w w') (hd : ∀ k, F k → ¬ G k) : RefAt w' p σ F A loc lv wv := h.same fun k hF => hk.block k (h.lt k hF) (hd k hF)
end Go.Proofs.Ytligofmcmjblpaa

/- What a program's disk makes of a call. -/
namespace Go.Proofs.Ytligofmcmjblpaa
open Go.RowKit
set_option linter.unusedVariables false

set_option maxHeartbeats 2000000 in
set_option maxRecDepth 100000 in
theorem do_any (D : PD) (p : Nat) (σ : DS) (F : Nat → Prop) (c : CV) (w : World) (h : D.R w p σ F) (hi : Inv σ) (hc : c.Ok w) (ho : c.Off F) (hd : c.dlen ≤ 2 ^ 47) :
    Calls Try.prog 16 #[ptr p, c.val] w fun e w' => e = .returned (.int .i64 (σ.doC c).1) ∧ Nx D.R w p (σ.doC c).2 F w' := by
  have hb : Below w.heap.size w (w.alloc (.cells c.cells 36)) := (Below.refl _ _).alloc (Nat.le_refl _) _
  have h1 := PD.later h hb
  have c1 := hc.later hb
  have HE : Hid (∀ {σ' : DS} {w' : World}, Nx D.R (w.alloc (.cells c.cells 36)) p σ' F w' → Nx D.R w p σ' F w') := fun x => Nx.start hb x
  have wB := wrapB c.n
  obtain ⟨op, name, other, dao, dlen, dcap, dX, n, k, pos, pao, plen, pcap, P⟩ := c
  unfold CV.val CV.cells at *
  simp only at *
  unfold DS.doC
  simp only
  by_cases q0 : op = 0
  · rw [if_pos q0]
    subst q0
    have k1 := D.create name h1 hi c1.name
    unfold ptr at *
    clear h hi hc ho hb h1 c1 wB hd
    go_enter Try.func16, Try.ntmps16
    go_wp2_with (go_at_call 8; refine k1.mono ?_; rintro e w1 ⟨rfl, n1⟩)
    go_ret
    exact ⟨rfl, HE.out n1⟩
  rw [if_neg q0]
  by_cases q1 : op = 1
  · rw [if_pos q1]
    subst q1
    have k1 := D.append name dao dlen dcap dX h1 hi c1.byt c1.dnil ho.d hd
    unfold ptr at *
    clear h hi hc ho hb h1 c1 wB hd q0
    go_enter Try.func16, Try.ntmps16
    go_wp2_with (go_at_call 10; refine k1.mono ?_; rintro e w1 ⟨rfl, n1⟩)
    go_ret
    exact ⟨rfl, HE.out n1⟩
  rw [if_neg q1]
  by_cases q2 : op = 2
  · rw [if_pos q2]
    subst q2
    have k1 := D.sync name h1 hi
    unfold ptr at *
    clear h hi hc ho hb h1 c1 wB hd q0 q1
    go_enter Try.func16, Try.ntmps16
    go_wp2_with (go_at_call 22; refine k1.mono ?_; rintro e w1 ⟨rfl, n1⟩)
    go_ret
    exact ⟨rfl, HE.out n1⟩
  rw [if_neg q2]
  by_cases q3 : op = 3
  · rw [if_pos q3]
    subst q3
    have k1 := D.rename name other h1 hi c1.other
    unfold ptr at *
    clear h hi hc ho hb h1 c1 wB hd q0 q1 q2
    go_enter Try.func16, Try.ntmps16
    go_wp2_with (go_at_call 40; refine k1.mono ?_; rintro e w1 ⟨rfl, n1⟩)
    go_ret
    exact ⟨rfl, HE.out n1⟩
  rw [if_neg q3]
  by_cases q4 : op = 4
  · rw [if_pos q4]
    subst q4
    have k1 := D.remove name h1 hi
    unfold ptr at *
    clear h hi hc ho hb h1 c1 wB hd q0 q1 q2 q3
    go_enter Try.func16, Try.ntmps16
    go_wp2_with (go_at_call 41; refine k1.mono ?_; rintro e w1 ⟨rfl, n1⟩)
    go_ret
    exact ⟨rfl, HE.out n1⟩
  rw [if_neg q4]
  by_cases q5 : op = 5
  · rw [if_pos q5]
    subst q5
    have k1 := D.syncDir h1 hi
    unfold ptr at *
    clear h hi hc ho hb h1 c1 wB hd q0 q1 q2 q3 q4
    go_enter Try.func16, Try.ntmps16
    go_wp2_with (go_at_call 23; refine k1.mono ?_; rintro e w1 ⟨rfl, n1⟩)
    go_ret
    exact ⟨rfl, HE.out n1⟩
  rw [if_neg q5]
  by_cases q6 : op = 6
  · rw [if_pos q6]
    subst q6
    have k1 := D.fuse n h1 hi c1.n.1 c1.n.2
    unfold ptr at *
    clear h hi hc ho hb h1 c1 wB hd q0 q1 q2 q3 q4 q5
    go_enter Try.func16, Try.ntmps16
    go_wp2_with (go_at_call 42; refine k1.mono ?_; rintro e w1 ⟨rfl, n1⟩)
    go_ret
    exact ⟨rfl, HE.out n1⟩
  rw [if_neg q6]
  by_cases q7 : op = 7
  · rw [if_pos q7]
    subst q7
    have k1 := D.fault n k h1 hi c1.n c1.k
    unfold ptr at *
    clear h hi hc ho hb h1 c1 wB hd q0 q1 q2 q3 q4 q5 q6
    go_enter Try.func16, Try.ntmps16
    go_wp2_with (go_at_call 43; refine k1.mono ?_; rintro e w1 ⟨rfl, n1⟩)
    go_ret
    exact ⟨rfl, HE.out n1⟩
  rw [if_neg q7]
  by_cases q8 : op = 8
  · rw [if_pos q8]
    subst q8
    have k1 := D.crash pao plen pcap P h1 hi c1.ints ho.p c1.pl
    unfold ptr at *
    clear h hi hc ho hb h1 c1 wB hd q0 q1 q2 q3 q4 q5 q6 q7
    go_enter Try.func16, Try.ntmps16
    go_wp2_with (go_at_call 24; refine k1.mono ?_; rintro e w1 ⟨rfl, n1⟩)
    go_ret
    exact ⟨rfl, HE.out n1⟩
  rw [if_neg q8]
  have k1 := D.spoil name pos (n % 256) h1 hi c1.pos ⟨by omega, by omega⟩
  have b0 : (op == 0) = false := beq_eq_false_iff_ne.2 q0
  have b1 : (op == 1) = false := beq_eq_false_iff_ne.2 q1
  have b2 : (op == 2) = false := beq_eq_false_iff_ne.2 q2
  have b3 : (op == 3) = false := beq_eq_false_iff_ne.2 q3
  have b4 : (op == 4) = false := beq_eq_false_iff_ne.2 q4
  have b5 : (op == 5) = false := beq_eq_false_iff_ne.2 q5
  have b6 : (op == 6) = false := beq_eq_false_iff_ne.2 q6
  have b7 : (op == 7) = false := beq_eq_false_iff_ne.2 q7
  have b8 : (op == 8) = false := beq_eq_false_iff_ne.2 q8
  unfold ptr at *
  clear h hi hc ho hb h1 c1 hd q0 q1 q2 q3 q4 q5 q6 q7 q8
  generalize σ.spoil name pos (n % 256) = S at k1 ⊢
  obtain ⟨B, σ'⟩ := S
  simp only at k1 ⊢
  cases B with
  | true =>
    simp only [if_true]
    go_enter Try.func16, Try.ntmps16
    go_wp2_with (go_at_call 20; refine k1.mono ?_; rintro e w1 ⟨rfl, n1⟩)
    go_ret
    exact ⟨rfl, HE.out n1⟩
  | false =>
    simp only [Bool.false_eq_true, if_false]
    go_enter Try.func16, Try.ntmps16
    go_wp2_with (go_at_call 20; refine k1.mono ?_; rintro e w1 ⟨rfl, n1⟩)
    go_ret
    exact ⟨rfl, HE.out n1⟩
end Go.Proofs.Ytligofmcmjblpaa

/- Is what is seen the same? -/
namespace Go.Proofs.Ytligofmcmjblpaa
open Go.RowKit
set_option linter.unusedVariables false

set_option maxHeartbeats 1000000 in
set_option maxRecDepth 100000 in
theorem same_any (u v : Value) (xs : List ByteArray) (w : World) (hu : StrsR w u xs) (hv : StrsR w v xs) (hl : xs.length ≤ 2 ^ 40) : Calls Try.prog 25 #[u, v] w fun e w' => e = .returned (.bool true) ∧ Below w.heap.size w w' := by
  obtain ⟨ao, cap, rfl, hc⟩ := hu
  obtain ⟨bo, bcap, rfl, hd⟩ := hv
  have HC := Hid.intro hc
  have HD := Hid.intro hd
  obtain ⟨n, hn⟩ : ∃ n, n = xs.length := ⟨_, rfl⟩
  have HN := Hid.intro hn
  have hn2 : n ≤ 2 ^ 40 := by omega
  rw [← hn]
  clear hc hd hl hn
  go_enter Try.func25, Try.ntmps25
  go_wp2_with fail
  go_loopg [13] n (fun g i wr => ∃ k : Nat, k + g = n ∧ i = .int .i64 (k : Int) ∧ Below w.heap.size w wr)
  case atStart => exact ⟨0, by omega, rfl, Below.refl _ _⟩
  case round =>
    obtain ⟨k, hk, rfl, hw⟩ := hrel
    by_cases h : k < n
    · have h' : (k : Int) < (n : Int) := by omega
      obtain ⟨s, hs⟩ : ∃ s, xs[k]? = some s := ⟨_, List.getElem?_eq_getElem (by rw [← HN.out]; exact h)⟩
      obtain ⟨b, off, rfl, x1⟩ := HC.out k s hs
      obtain ⟨b', off', rfl, x2⟩ := HD.out k s hs
      have y1 := cell_later hw x1
      have y2 := cell_later hw x2
      obtain ⟨GK, HG⟩ : ∃ g, Hid (g < gk ∧ k + 1 + g = n) := ⟨gk - 1, by omega, by omega⟩
      have HW : Hid (Below w.heap.size w wr) := hw
      clear hk x1 x2 hw hs
      go_wp2_with fail
      go_quiet (fail)
      go_wp2_with fail
      go_roundg GK
      case measure => exact HG.out.1
      case rel => exact ⟨k + 1, HG.out.2, by go_num, below_drewN HW.out _⟩
    · have h' : (n : Int) ≤ (k : Int) := by omega
      go_wp2_with fail
      go_ret
      exact ⟨rfl, hw⟩

theorem BytR.str {w : World} {v : Value} {xs : List Int} (h : BytR w v xs) : ∃ ao m c, v = .slice ao m c ∧ ∀ w', Below w.heap.size w w' → (convert 26 9 (.slice ao m c)).run Try.prog w' = .ok (.string (strOfNums xs)) w' := by
  obtain ⟨ao, m, c, Y, rfl, h1, h2, h3⟩ := h
  refine ⟨ao, m, c, rfl, fun w' hb => ?_⟩
  rw [← h3]
  exact run_str (h2.later hb) h1
theorem list_len {σ : DS} (hi : Inv σ) : σ.list.length ≤ 1048576 := by
  unfold DS.list
  split
  · simp
  · rw [List.length_map]
    exact hi.dn

end Go.Proofs.Ytligofmcmjblpaa
