/- The landed disk: a clone of changes. -/
import Derived.Test.YtligofmcmjblpaaGreatLwithw
import Derived.Test.YtligofmcmjblpaaGreatLbehind
import Derived.Lib.SliceRun
namespace Go.Proofs.YtligofmcmjblpaaGreat
open Go.RowKit Go.Maps
set_option linter.unusedVariables false
set_option linter.unusedSimpArgs false

theorem oneC (loc : Nat → Nat) (ch : List Chg) : ∀ u ∈ ch.flatMap (chC loc), u.oneCell' = true := fun u hu => by
  obtain ⟨c, _, hu⟩ := List.mem_flatMap.1 hu
  simp only [chC, List.mem_cons, List.not_mem_nil, or_false] at hu
  rcases hu with rfl | rfl | rfl
  · rfl
  · rfl
  · cases c.f <;> rfl
theorem flatC_len (loc : Nat → Nat) (ch : List Chg) : (ch.flatMap (chC loc)).length = ch.length * 3 := by
  induction ch with
  | nil => rfl
  | cons c r ih => simp only [List.flatMap_cons, List.length_append, ih, chC, List.length_cons, List.length_nil]; omega
set_option maxHeartbeats 2000000 in
set_option maxRecDepth 100000 in
theorem slicesClone_any (loc : Nat → Nat) (ch : List Chg) (v : Value) (w : World) (h : w.ownsRow 0 83 3 v ch.length (ch.flatMap (chC loc))) (hl : ch.length ≤ 1048577) :
    Calls Tryz.prog 50 #[v] w fun e w' => ∃ ao c, e = .returned (.slice ao ch.length c) ∧ w'.ownsRow w.heap.size 83 3 (.slice ao ch.length c) ch.length (ch.flatMap (chC loc)) ∧ Below w.heap.size w w' := by
  have hq : ∀ (w : World) (a : Option Addr) (n c n' c' : Nat), (binOp .eql 47 (.slice a n c) (.slice none n' c')).run Tryz.prog w = .ok (.bool a.isNone) w := fun w a n c n' c' => Lib.run_eql_slice_nil w _ _ a n c n' c' Tryz.underlying47
  have hcells : ∀ g, v.ownBlock = some g → _ := fun g hg => World.ownsRow.cells h (g := g) hg
  rcases h.2 with ⟨rfl, h0⟩ | ⟨g, cap, cur, rfl, hb, hgg, h1, h2, h3, h4⟩
  · have hc : ch = [] := List.eq_nil_of_length_eq_zero h0
    subst hc
    clear hcells
    go_enter Tryz.func50, Tryz.ntmps50
    go_wp2
    go_ret
    exact ⟨none, 0, rfl, World.ownsRow_nil _ _ _ _, Below.refl _ _⟩
  · obtain ⟨i0, hi, hz0, hz1, hz2⟩ := info_parts Tryz.infoCh
    have HA : Hid (∀ j u, (ch.flatMap (chC loc))[j]? = some u → w.cell? ⟨g, j, none⟩ = some u) := fun j u hj => by
      have := hcells g rfl j u hj
      rw [Addr.add_lit] at this
      simpa using this
    have HO : Hid (∀ u ∈ ch.flatMap (chC loc), u.oneCell' = true) := oneC loc ch
    have HLn : Hid ((ch.flatMap (chC loc)).length = ch.length * 3) := flatC_len loc ch
    have hown0 := World.ownsRow_made (base := w.heap.size) (e := 83) (size := 3) w #[] 0 (Nat.le_refl _) (Nat.zero_le _) (by simp)
    generalize ch.flatMap (chC loc) = news at *
    generalize ch.length = n at *
    clear hcells h h4 hgg h3
    go_enter Tryz.func50, Tryz.ntmps50
    go_wp2_with (at_builtin; refine wpList_append_own _ rfl _ _ 47 rfl w.heap.size 83 i0 _ 3 40 Tryz.underlying47 hi hz0 hz1 hz2 rfl (by decide) _ _ _ rfl hown0 ⟨g, 0, none⟩ n cap news rfl ?qc1 ?qc2 ?qc3 ?qc4 ?qc5 ?qc6 ?_)
    case qc1 => exact HLn.out
    case qc2 =>
      intro j u hj
      rw [Addr.add_lit]
      exact Lib.cell?_alloc_some _ (by simpa using HA.out j u hj)
    case qc3 => exact HO.out
    case qc4 => rw [Nat.zero_add]; omega
    case qc5 => rw [Nat.zero_add]; omega
    case qc6 => simp
    intro v' w1 hown hgrow hnil
    have hsl : ∃ ao c, v' = .slice ao n c := by
      rcases hown.2 with ⟨rfl, h0⟩ | ⟨g, cap, cur, rfl, _⟩
      · exact absurd rfl hnil
      · exact ⟨_, _, rfl⟩
    obtain ⟨ao, c, rfl⟩ := hsl
    go_wp2
    go_ret
    refine ⟨ao, c, rfl, by simpa using hown, ?_⟩
    exact ((Below.refl _ w).alloc (Nat.le_refl _) _).grown hgrow (by simp) (by intro k hk; simp [Value.ownBlock] at hk; omega)
end Go.Proofs.YtligofmcmjblpaaGreat
