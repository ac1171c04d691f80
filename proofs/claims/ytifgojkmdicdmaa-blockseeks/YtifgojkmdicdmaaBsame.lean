/- The document's own SameOps, SameBatch, SameEntry, SameEntries, of what is the same. -/
import Derived.Test.YtifgojkmdicdmaaBent
namespace Go.Proofs.Ytifgojkmdicdmaa
open Go.RowKit
set_option linter.unusedVariables false
set_option linter.unusedSimpArgs false

set_option maxHeartbeats 2000000 in
set_option maxRecDepth 100000 in
theorem rsameE1_eq {w : World} {ka kc va vc ka' kc' va' vc' : _} {key vl : List Int} {seq till : Int} {gone : Bool} (k1 : Sl w ka key.length kc key) (k2 : Sl w va vl.length vc vl) (l1 : Sl w ka' key.length kc' key) (l2 : Sl w va' vl.length vc' vl) :
    Calls Try.prog 20 #[.agg #[.slice ka key.length kc, .int .i64 seq, .bool gone, .int .i64 till, .slice va vl.length vc], .agg #[.slice ka' key.length kc', .int .i64 seq, .bool gone, .int .i64 till, .slice va' vl.length vc']] w fun e w' => e = .returned (.bool true) ∧ Below w.heap.size w w' := by
  have hbb : Below w.heap.size w ((w.alloc (.cells #[.slice ka key.length kc, .int .i64 seq, .bool gone, .int .i64 till, .slice va vl.length vc] 35)).alloc (.cells #[.slice ka' key.length kc', .int .i64 seq, .bool gone, .int .i64 till, .slice va' vl.length vc'] 35)) := ((Below.refl _ _).alloc (Nat.le_refl _) _).alloc (by simp) _
  have g1 := str_l (k1.later hbb)
  have g2 := str_l (k2.later hbb)
  have g3 := str_l (l1.later hbb)
  have g4 := str_l (l2.later hbb)
  have HB : Hid _ := hbb
  have n1 : ((strOfNums key).toList == (strOfNums key).toList) = true := by simp
  have n2 : ((strOfNums vl).toList == (strOfNums vl).toList) = true := by simp
  have n3 : (till == till) = true := by simp
  have n5 : (seq == seq) = true := by simp
  have n4 : (gone == gone) = true := by cases gone <;> rfl
  generalize strOfNums key = s1 at g1 g3 n1
  generalize strOfNums vl = s2 at g2 g4 n2
  clear k1 k2 l1 l2 hbb
  go_enter Try.func20, Try.ntmps20
  go_wp2_with fail
  exact bodyPost_ret (v := .bool true) (by simp [results, Try.results20, go_sem]) rfl ⟨rfl, HB.out⟩

set_option maxHeartbeats 4000000 in
set_option maxRecDepth 100000 in
theorem rsameE_eq {w : World} {a1 a2 : Option Addr} {len c1 c2 : Nat} {os : List EntV} (h1 : RS entE w a1 len c1 os) (h2 : RS entE w a2 len c2 os) :
    Calls Try.prog 16 #[.slice a1 len c1, .slice a2 len c2] w fun e w' => e = .returned (.bool true) ∧ Below w.heap.size w w' := by
  have hl := h1.len
  have hl63 : len ≤ 2 ^ 63 - 1 := by have := hl.2; unfold maxLen at this; omega
  have HS : Hid (RS entE w a1 len c1 os ∧ RS entE w a2 len c2 os) := ⟨h1, h2⟩
  have hln := hl.1
  have hne : ((len : Int) != (len : Int)) = false := by simp
  clear h1 h2 hl
  go_enter Try.func16, Try.ntmps16
  go_wp2_with fail
  go_loopg [5, 13] len (fun g _ i wr => ∃ k : Nat, k + g = len ∧ i = .int .i64 (k : Int) ∧ Hid (Below w.heap.size w wr))
  case atStart => exact ⟨0, by omega, rfl, Below.refl _ _⟩
  case round =>
    obtain ⟨k, hk, rfl, HK⟩ := hrel
    by_cases hkl : k < len
    · have hkl' : (k : Int) < (len : Int) := by omega
      have hko : k < os.length := by omega
      have hox := List.getElem?_eq_getElem hko
      obtain ⟨b, off, ka, kc, va, vc, rfl, d0, d1, d2, d3, d4, k1, k2, k3⟩ := RS.ent (HS.out.1.later HK.out) hox
      obtain ⟨b', off', ka', kc', va', vc', rfl, e0, e1, e2, e3, e4, l1, l2, l3⟩ := RS.ent (HS.out.2.later HK.out) hox
      generalize os[k] = o at d0 d1 d2 d3 d4 k1 k2 k3 e0 e1 e2 e3 e4 l1 l2 l3
      obtain ⟨key, seq, gone, till, vl⟩ := o
      simp only at d0 d1 d2 d3 d4 k1 k2 k3 e0 e1 e2 e3 e4 l1 l2 l3
      have hE := rsameE1_eq (seq := seq) (till := till) (gone := gone) (k1.drewN 1) (k2.drewN 1) (l1.drewN 1) (l2.drewN 1)
      have hk62 : k ≤ 2 ^ 63 - 2 := by omega
      obtain ⟨GK, HG⟩ : ∃ g, Hid (g < gk ∧ k + 1 + g = len) := ⟨gk - 1, by omega, by omega⟩
      generalize key.length = kl at d0 e0 hE
      generalize vl.length = ln at d4 e4 hE
      clear k1 k2 k3 l1 l2 l3 hk hox
      go_wp2_with fail
      go_region_held_law (fun w' => (w'.cell? ⟨b, off + k * 5, none⟩ = some (.slice ka kl kc) ∧ w'.cell? ⟨b, off + k * 5 + 1, none⟩ = some (.int .i64 seq) ∧ w'.cell? ⟨b, off + k * 5 + 2, none⟩ = some (.bool gone) ∧ w'.cell? ⟨b, off + k * 5 + 3, none⟩ = some (.int .i64 till) ∧ w'.cell? ⟨b, off + k * 5 + 4, none⟩ = some (.slice va ln vc)) ∧ (w'.cell? ⟨b', off' + k * 5, none⟩ = some (.slice ka' kl kc') ∧ w'.cell? ⟨b', off' + k * 5 + 1, none⟩ = some (.int .i64 seq) ∧ w'.cell? ⟨b', off' + k * 5 + 2, none⟩ = some (.bool gone) ∧ w'.cell? ⟨b', off' + k * 5 + 3, none⟩ = some (.int .i64 till) ∧ w'.cell? ⟨b', off' + k * 5 + 4, none⟩ = some (.slice va' ln vc'))) (first | exact ⟨⟨d0, d1, d2, d3, d4⟩, ⟨e0, e1, e2, e3, e4⟩⟩ | exact ⟨⟨cell_later hb5 d0, cell_later hb5 d1, cell_later hb5 d2, cell_later hb5 d3, cell_later hb5 d4⟩, ⟨cell_later hb5 e0, cell_later hb5 e1, cell_later hb5 e2, cell_later hb5 e3, cell_later hb5 e4⟩⟩) (first | (go_at_call 20; refine hE.mono ?_; rintro e w5 ⟨rfl, hb5⟩))
      have HW : Hid (Below w.heap.size w w5) := (below_drewN HK.out 1).trans (hb5.mono (below_drewN HK.out 1).size)
      clear hE hb5 HK
      go_wp2_with fail
      go_roundg GK
      case measure => exact HG.out.1
      case rel => exact ⟨k + 1, HG.out.2, by go_num, HW⟩
    · have hkl' : (len : Int) ≤ (k : Int) := by omega
      have HW : Hid (Below w.heap.size w wr) := HK.out
      clear hk HK
      go_wp2_with fail
      exact bodyPost_ret (v := .bool true) (by simp [results, Try.results16, go_sem]) rfl ⟨rfl, HW.out⟩
end Go.Proofs.Ytifgojkmdicdmaa
