/- The law that each change has its number. -/
import Derived.Test.YtcielnkkbccldaaBlaw
namespace Go.Proofs.Ytcielnkkbccldaa
open Go.RowKit
set_option linter.unusedVariables false
set_option linter.unusedSimpArgs false

theorem ents_get : ∀ {s : Int} {os : List OpV} {i : Nat} {o : OpV}, os[i]? = some o → (ents s os)[i]? = some ⟨o.key, s + (i : Int), o.gone, o.till, o.val⟩
  | s, [], i, o, h => by simp at h
  | s, p :: r, 0, o, h => by
    obtain rfl : p = o := by simpa using h
    simp [ents]
  | s, p :: r, i + 1, o, h => by
    have := ents_get (s := s + 1) (os := r) (i := i) (o := o) (by simpa using h)
    rw [ents, List.getElem?_cons_succ, this]
    congr 2
    omega

set_option maxHeartbeats 4000000 in
set_option maxRecDepth 100000 in
theorem numbers_any (D : PB) {w : World} {ao : Option Addr} {len cap : Nat} {s : Int} {os : List OpV} (h : RS opE w ao len cap os) (hs : In64 s) :
    Calls Try.prog 7 #[.agg #[.int .i64 s, .slice ao len cap]] w fun e w' => e = .returned (.bool true) ∧ Below w.heap.size w w' := by
  obtain ⟨W, hW⟩ : ∃ W, W = w.alloc (.cells #[.int .i64 s, .slice ao len cap] 24) := ⟨_, rfl⟩
  have hWb : Below w.heap.size w W := by rw [hW]; exact (Below.refl _ w).alloc (Nat.le_refl _) _
  have x0 : W.cell? ⟨w.heap.size, 0, none⟩ = some (.int .i64 s) := by rw [hW, cell_of (heap_alloc_new w _)]; rfl
  have x1 : W.cell? ⟨w.heap.size, 1, none⟩ = some (.slice ao len cap) := by rw [hW, cell_of (heap_alloc_new w _)]; rfl
  have hE := D.ents (h.later hWb) hs
  have HX : Hid (∀ wx, Below W.heap.size W wx → wx.cell? ⟨w.heap.size, 0, none⟩ = some (.int .i64 s) ∧ wx.cell? ⟨w.heap.size, 1, none⟩ = some (.slice ao len cap)) := fun wx hb => ⟨cell_later hb x0, cell_later hb x1⟩
  have HM : Hid (∀ wx, Below W.heap.size W wx → Calls Try.prog 14 #[.agg #[.int .i64 s, .slice ao len cap]] wx fun e w' => e = .returned (.int .i64 (mayB s os : Nat)) ∧ Below W.heap.size W w') := fun wx hb => (D.may ((h.later hWb).later hb) hs).mono fun e w' ⟨he, hb'⟩ => ⟨he, hb.trans (hb'.mono hb.size)⟩
  have HA : Hid (∀ wx, Below W.heap.size W wx → Calls Try.prog 9 #[] wx fun e w' => e = .returned (.bool true) ∧ Below W.heap.size W w') := fun wx hb => (awake8_any D wx).mono fun e w' ⟨he, hb'⟩ => ⟨he, hb.trans (hb'.mono hb.size)⟩
  have HF : Hid (∀ wx, Below W.heap.size W wx → Below w.heap.size w wx) := fun wx hb => hWb.trans (hb.mono hWb.size)
  have HW : Hid (W = w.alloc (.cells #[.int .i64 s, .slice ao len cap] 24)) := hW
  have hl := h.len
  unfold entV at hE
  by_cases q : mayB s os = 0
  · rw [if_pos q, q] at hE
    have hok := mayB_ok q
    have hle : (ents s os).length = len := by rw [ents_len]; exact hl.1
    have HS : Hid (RS opE w ao len cap os ∧ Below w.heap.size w W ∧ os.length = len ∧ len ≤ 400 ∧ 1 ≤ s ∧ s + (len : Int) ≤ 4611686018427387904 + 1) := ⟨h, hWb, hl.1, by omega, hok.2.2.1, by omega⟩
    have hl62 : len ≤ 2 ^ 62 := by omega
    have hne : ((len : Int) != (len : Int)) = false := by simp
    rw [hW] at hE
    clear h hs hl hok q x0 x1 hW hWb HM
    go_enter Try.func7, Try.ntmps7
    go_wp2_with (go_at_call 12; refine hE.mono ?_; rintro e w2 ⟨v2, rfl, ⟨a2, c2, rfl, s2⟩, b2⟩; rw [← HW.out] at b2; obtain ⟨y0, y1⟩ := HX.out _ b2; rw [hle] at s2 ⊢)
    have H0 : Hid (Below w2.heap.size w2 w2) := Below.refl _ _
    have HS2 : Hid (RS entE w2 a2 len c2 (ents s os) ∧ Below W.heap.size W w2) := ⟨s2, b2⟩
    clear hE s2 b2
    go_loopg [5, 6, 7, 35] len (fun g _ _ _ i wr => ∃ k : Nat, k + g = len ∧ i = .int .i64 (k : Int) ∧ Hid (Below w2.heap.size w2 wr))
    case atStart => exact ⟨0, by omega, rfl, H0⟩
    case round =>
      obtain ⟨k, hk, rfl, HK⟩ := hrel
      by_cases hkl : k < len
      · have hkl' : (k : Int) < (len : Int) := by omega
        have hko : k < os.length := by have := HS.out; omega
        have hox := List.getElem?_eq_getElem hko
        have hex := ents_get (s := s) hox
        have bW : Below W.heap.size W wr := HS2.out.2.trans (HK.out.mono HS2.out.2.size)
        have bw : Below w.heap.size w wr := HF.out _ bW
        obtain ⟨b, off, ka, kc, va, vc, rfl, d0, d1, d2, d3, k1, k2, k3⟩ := RS.op (HS.out.1.later bw) hox
        obtain ⟨b', off', ka', kc', va', vc', rfl, e0, e1, e2, e3, e4, l1, l2, l3⟩ := RS.ent (HS2.out.1.later HK.out) hex
        generalize os[k] = o at d0 d1 d2 d3 k1 k2 k3 e0 e1 e2 e3 e4 l1 l2 l3
        obtain ⟨key, gone, till, vl⟩ := o
        simp only at d0 d1 d2 d3 k1 k2 k3 e0 e1 e2 e3 e4 l1 l2 l3
        have bE : Below wr.heap.size wr (wr.alloc (.cells #[.slice ka' key.length kc', .int .i64 (s + (k : Int)), .bool gone, .int .i64 till, .slice va' vl.length vc'] 46)) := (Below.refl _ _).alloc (Nat.le_refl _) _
        have bb : Below wr.heap.size wr ((wr.alloc (.cells #[.slice ka' key.length kc', .int .i64 (s + (k : Int)), .bool gone, .int .i64 till, .slice va' vl.length vc'] 46)).alloc (.cells #[.slice ka key.length kc, .bool gone, .int .i64 till, .slice va vl.length vc] 42)) := bE.alloc bE.size _
        have g1 := str_l (k1.later bb)
        have g2 := str_l (k2.later bb)
        have g3 := str_l (l1.later bb)
        have g4 := str_l (l2.later bb)
        have r0 := cell_later bE d0
        have r1 := cell_later bE d1
        have r2 := cell_later bE d2
        have r3 := cell_later bE d3
        obtain ⟨t0, t1⟩ := HX.out _ (bW.trans (bE.mono bW.size))
        obtain ⟨f0, f1⟩ := HX.out _ (bW.trans (bb.mono bW.size))
        have HWW : Hid (Below w2.heap.size w2 ((wr.alloc (.cells #[.slice ka' key.length kc', .int .i64 (s + (k : Int)), .bool gone, .int .i64 till, .slice va' vl.length vc'] 46)).alloc (.cells #[.slice ka key.length kc, .bool gone, .int .i64 till, .slice va vl.length vc] 42))) := HK.out.trans (bb.mono HK.out.size)
        have hk62 : k ≤ 2 ^ 62 := by have := HS.out; omega
        obtain ⟨GK, HG⟩ : ∃ g, Hid (g < gk ∧ k + 1 + g = len) := ⟨gk - 1, by omega, by omega⟩
        have hsk : wrap64 (s + (k : Int)) = s + (k : Int) := by unfold wrap64; have := HS.out; omega
        have hle62 : s + (k : Int) ≤ 4611686018427387904 := by have := HS.out; omega
        have n1 : ((strOfNums key).toList == (strOfNums key).toList) = true := by simp
        have n2 : ((strOfNums vl).toList == (strOfNums vl).toList) = true := by simp
        have n3 : (till != till) = false := by simp
        have n5 : ((s + (k : Int)) != (s + (k : Int))) = false := by simp
        have n4 : (gone != gone) = false := by cases gone <;> rfl
        generalize strOfNums key = s1 at g1 g3 n1
        generalize strOfNums vl = s2 at g2 g4 n2
        clear k1 k2 k3 l1 l2 l3 bE bb bW bw hk HK hox hex
        go_wp2_with fail
        go_roundg GK
        case measure => exact HG.out.1
        case rel => exact ⟨k + 1, HG.out.2, by go_num, HWW⟩
      · have hkl' : (len : Int) ≤ (k : Int) := by omega
        have b3 : Below W.heap.size W wr := HS2.out.2.trans (HK.out.mono HS2.out.2.size)
        clear hk HK
        go_wp2_with (go_at_call 9; refine (HA.out _ b3).mono ?_; rintro e w6 ⟨rfl, b6⟩)
        exact bodyPost_ret (v := .bool true) (by simp [results, Try.results7, go_sem]) rfl ⟨rfl, HF.out _ b6⟩
  · rw [if_neg q] at hE
    rw [hW] at hE
    obtain ⟨m, hm⟩ : ∃ m, m = mayB s os := ⟨_, rfl⟩
    rw [← hm] at hE HM q
    have hne : ((m : Int) != 0) = true := by simp; omega
    have heq : ((m : Int) == (m : Int)) = true := by simp
    clear h hs hl x0 x1 hW hWb hm q
    go_enter Try.func7, Try.ntmps7
    go_wp2_with (first | (go_at_call 12; refine hE.mono ?_; rintro e w2 ⟨v2, rfl, ⟨a2, c2, rfl, s2⟩, b2⟩; rw [← HW.out] at b2; obtain ⟨y0, y1⟩ := HX.out _ b2; rw [List.length_nil]) | (go_at_call 14; refine (HM.out _ b2).mono ?_; rintro e w3 ⟨rfl, b3⟩) | (go_at_call 9; refine (HA.out _ b3).mono ?_; rintro e w4 ⟨rfl, b4⟩))
    exact bodyPost_ret (v := .bool true) (by simp [results, Try.results7, go_sem]) rfl ⟨rfl, HF.out _ b4⟩
end Go.Proofs.Ytcielnkkbccldaa
