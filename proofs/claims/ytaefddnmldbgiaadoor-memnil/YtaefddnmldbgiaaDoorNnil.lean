/- A mem that there isn't. -/
import Derived.Test.YtaefddnmldbgiaaDoorNinst
namespace Go.Proofs.YtaefddnmldbgiaaDoor
open Go.RowKit
set_option linter.unusedVariables false
set_option linter.unusedSimpArgs false

theorem nadd0_m {w : World} {ka va : Option Addr} {kc vc : Nat} {e : EntV} : Calls Tryd.prog 23 #[.pointer none, entA ka kc va vc e] w fun r w' => r = .returned (.int .i64 1) ∧ Below w.heap.size w w' := by
  unfold entA
  go_enter Tryd.func23, Tryd.ntmps23
  go_wp2_with fail
  go_ret
  exact ⟨by simp, (Below.refl _ w).alloc (Nat.le_refl _) _⟩
theorem nlen0_m {w : World} : Calls Tryd.prog 11 #[.pointer none] w fun r w' => r = .returned (.int .i64 0) ∧ Below w.heap.size w w' := by
  go_enter Tryd.func11, Tryd.ntmps11
  go_wp2_with fail
  go_ret
  exact ⟨by simp, Below.refl _ _⟩
theorem nweight0_m {w : World} : Calls Tryd.prog 12 #[.pointer none] w fun r w' => r = .returned (.int .i64 0) ∧ Below w.heap.size w w' := by
  go_enter Tryd.func12, Tryd.ntmps12
  go_wp2_with fail
  go_ret
  exact ⟨by simp, Below.refl _ _⟩
theorem nget0_m {w : World} {ka : Option Addr} {kl kc : Nat} {s : Int} : Calls Tryd.prog 16 #[.pointer none, .slice ka kl kc, .int .i64 s] w fun r w' => r = .returned (.tuple #[ent0, .bool false]) ∧ Below w.heap.size w w' := by
  obtain ⟨W, hW⟩ : ∃ W, W = w.alloc (.cells #[.slice none 0 0, .int .i64 0, .bool false, .int .i64 0, .slice none 0 0] 28) := ⟨_, rfl⟩
  have hWb : Below w.heap.size w W := by rw [hW]; exact (Below.refl _ w).alloc (Nat.le_refl _) _
  have hWk : W.heap[w.heap.size]? = some (.cells #[.slice none 0 0, .int .i64 0, .bool false, .int .i64 0, .slice none 0 0] 28 (0, 0)) := by rw [hW]; exact heap_alloc_new w _
  have hsk := @seek_nil W ka kl kc
  have hn := @has_nil W ka kl kc
  have HW := hid hW
  have HQ := hid hWk
  have HB := hid hWb
  unfold ent0
  clear hW hWb hWk
  go_enter Tryd.func16, Tryd.ntmps16
  go_upto_region 1 with fail
  rw [← HW.out]
  obtain ⟨z0, z1, z2, z3, z4, f0, f1, f2, f3, f4⟩ := ent0_cells HQ.out
  go_wp2_with (first | (go_at_call 30; refine hsk.mono ?_; rintro e9 w2 ⟨rfl, hw⟩; obtain rfl := hw.symm; clear hw) | (go_at_call 31; refine hn.mono ?_; rintro e9 w9 ⟨rfl, hw⟩; obtain rfl := hw.symm; clear hw))
  obtain ⟨o0, o1, o2, o3, o4⟩ := cells_set5 HQ.out (.slice none 0 0) (.int .i64 0) (.bool false) (.int .i64 0) (.slice none 0 0)
  exact bodyPost_ret (v := .tuple #[.agg #[.slice none 0 0, .int .i64 0, .bool false, .int .i64 0, .slice none 0 0], .bool false]) (by simp [results, Tryd.results16, go_sem, o0, o1, o2, o3, o4]) rfl ⟨rfl, below_set5 HB.out _ _ _ _ _⟩
theorem nlatest0_m {w : World} {fa ta : Option Addr} {fl fc tl tc : Nat} {s : Int} : Calls Tryd.prog 21 #[.pointer none, .slice fa fl fc, .slice ta tl tc, .int .i64 s] w fun r w' => (∃ a c, r = .returned (.slice a 0 c)) ∧ Below w.heap.size w w' := by
  have hsk := @seek_nil w fa fl fc
  have hn := @ahead_nil w ta tl tc
  go_enter Tryd.func21, Tryd.ntmps21
  go_wp2_with (first | (go_at_call 30; refine hsk.mono ?_; rintro e9 w2 ⟨rfl, hw⟩; obtain rfl := hw.symm; clear hw))
  go_loopg [9, 10] 0 (fun g v n wr => v = .slice none 0 0 ∧ n = .pointer none ∧ wr = w)
  case atStart => exact ⟨rfl, rfl, rfl⟩
  case round =>
    obtain ⟨rfl, rfl, rfl⟩ := hrel
    go_wp2_with (first | (go_at_call 35; refine hn.mono ?_; rintro e9 w9 ⟨rfl, hw⟩; obtain rfl := hw.symm; clear hw))
    go_ret
    exact ⟨⟨none, 0, by simp⟩, Below.refl _ _⟩
theorem nlist0_m {w : World} {fa ta : Option Addr} {fl fc tl tc : Nat} : Calls Tryd.prog 19 #[.pointer none, .slice fa fl fc, .slice ta tl tc] w fun r w' => (∃ a c, r = .returned (.slice a 0 c)) ∧ Below w.heap.size w w' := by
  have hsk := fun C => @seek_nil (w.alloc C) fa fl fc
  go_enter Tryd.func19, Tryd.ntmps19
  go_wp2_with (first | (go_at_call 30; refine (hsk _).mono ?_; rintro e9 w2 ⟨rfl, hw⟩; obtain rfl := hw.symm; clear hw))
  have hb : Below w.heap.size w ((w.alloc (.cells #[.slice none 0 0] 22)).alloc (.cells #[.pointer none] 54)) := ((Below.refl _ w).alloc (Nat.le_refl _) _).alloc (by simp) _
  have H0 : Hid (∀ wx, wx.heap = ((w.alloc (.cells #[.slice none 0 0] 22)).alloc (.cells #[.pointer none] 54)).heap → wx.os = w.os → wx.tape = w.tape → wx.output = w.output → wx.cell? ⟨w.heap.size + 1, 0, none⟩ = some (.pointer none) ∧ wx.cell? ⟨w.heap.size, 0, none⟩ = some (.slice none 0 0) ∧ Below w.heap.size w wx) := fun wx h1 h2 h3 h4 => by
    have e1 := heap_alloc_new (w.alloc (.cells #[.slice none 0 0] 22)) (.cells #[.pointer none] 54)
    rw [World.size_alloc] at e1
    have e2 : wx.heap[w.heap.size + 1]? = some (.cells #[.pointer none] 54 (0, 0)) := by rw [h1]; exact e1
    have e3 : wx.heap[w.heap.size]? = some (.cells #[.slice none 0 0] 22 (0, 0)) := by rw [h1]; exact (Below.heap_alloc _ _ _ (by simp)).trans (heap_alloc_new w _)
    exact ⟨by rw [cell_of e2]; rfl, by rw [cell_of e3]; rfl, h2, h3, h4, by rw [h1]; exact hb.size, fun k hk => by rw [h1]; exact hb.block k hk⟩
  clear hb hsk
  go_loopg [8] 0 (fun g n wr => n = .pointer (some ⟨w.heap.size + 1, 0, none⟩) ∧ Hid (wr.cell? ⟨w.heap.size + 1, 0, none⟩ = some (.pointer none) ∧ wr.cell? ⟨w.heap.size, 0, none⟩ = some (.slice none 0 0) ∧ Below w.heap.size w wr))
  case atStart => exact ⟨rfl, H0.out _ (by first | rfl | simp [World.setCell, World.alloc]) rfl rfl rfl⟩
  case round =>
    obtain ⟨rfl, HK⟩ := hrel
    have hn := @ahead_nil wr ta tl tc
    obtain ⟨c1, c2, b3⟩ := HK.out
    have HB := hid b3
    clear b3 HK
    go_wp2_with (first | (go_at_call 35; refine hn.mono ?_; rintro e9 w9 ⟨rfl, hw⟩; obtain rfl := hw.symm; clear hw))
    go_ret
    exact ⟨⟨none, 0, by simp⟩, HB.out⟩
theorem nall0_m {w : World} : Calls Tryd.prog 14 #[.pointer none] w fun r w' => (∃ a c, r = .returned (.slice a 0 c)) ∧ Below w.heap.size w w' := by
  have hl := @nlist0_m w none none 0 0 0 0
  go_enter Tryd.func14, Tryd.ntmps14
  go_wp2_with fail
  refine hl.mono ?_
  rintro e w' ⟨⟨a, c, rfl⟩, b⟩
  have HB := hid b
  clear hl b
  go_wp2_with fail
  go_ret
  exact ⟨⟨a, c, by simp⟩, HB.out⟩
theorem theNone : PMN where
  add := fun _ => nadd0_m
  len := nlen0_m
  weight := nweight0_m
  get := fun _ _ => nget0_m
  list := fun _ _ => nlist0_m
  all := nall0_m
  latest := fun _ _ _ => nlatest0_m
end Go.Proofs.YtaefddnmldbgiaaDoor
