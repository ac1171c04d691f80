import Derived.Test.YtjgfklbhagcbaaaPk28
import Derived.Test.YtjgfklbhagcbaaaPk30
/- The law on edits one behind the other. -/
namespace Go.Proofs.Ytjgfklbhagcbaaa
open Go.RowKit
set_option linter.unusedVariables false
set_option linter.unusedSimpArgs false

set_option maxHeartbeats 8000000 in
set_option maxRecDepth 100000 in
theorem plays15_any {w : World} {ao : Option Addr} {n cap : Nat} {es : List EdV} (h : EdRow w ao n cap es) :
    Calls Try.prog 5 #[.slice ao n cap] w fun e w' => e = .returned (.bool true) ∧ Below w.heap.size w w' := by
  obtain ⟨W, hW⟩ : ∃ W, W = (w.alloc (.cells #[.int .i64 0, .int .i64 0, .int .i64 0, .slice none 0 0] 24)).alloc (.cells #[.int .i64 0, .int .i64 0, .int .i64 0, .slice none 0 0] 24) := ⟨_, rfl⟩
  have hWb : Below w.heap.size w W := by rw [hW]; exact ((Below.refl _ w).alloc (Nat.le_refl _) _).alloc (by simp) _
  have hB0 : BoxV w.heap.size noVr none 0 W := by rw [hW]; exact (box_new w (noVr_m w)).later ((Below.refl _ _).alloc (Nat.le_refl _) _)
  have hB1 : BoxV (w.heap.size + 1) noVr none 0 W := by
    have e : w.heap.size + 1 = (w.alloc (.cells #[.int .i64 0, .int .i64 0, .int .i64 0, .slice none 0 0] 24)).heap.size := by simp
    rw [hW, e]; exact box_new _ (noVr_m _)
  have HST : Hid (BoxV w.heap.size noVr none 0 W ∧ BoxV (w.heap.size + 1) noVr none 0 W ∧ Below w.heap.size w W) := ⟨hB0, hB1, hWb⟩
  have hn63 : n ≤ 2 ^ 63 - 1 := by have := h.len; unfold maxLen at this; omega
  have H0 := hidS h
  have HW := hidS hW
  clear h hW hWb hB0 hB1
  go_enter Try.func5, Try.ntmps5
  go_wp2_with fail
  rw [← HW.out]
  go_loopg [5] 12 (fun kx si wx => ∃ k : Nat, si = .int .i64 k ∧ k + kx = 12 ∧ k ≤ n ∧ Hid (∃ a c a2 c2, BoxV w.heap.size ((es.take k).foldl bstep noVr) a c wx ∧ BoxV (w.heap.size + 1) ((es.take k).foldl bstep noVr) a2 c2 wx ∧ Below w.heap.size w wx))
  case atStart => exact ⟨0, rfl, rfl, Nat.zero_le _, none, 0, none, 0, HST.out⟩
  case round =>
    obtain ⟨k, rfl, hg, hkn, HK⟩ := hrel
    obtain ⟨a3, c3, a2, c2, hb3, hb0, hbl⟩ := HK.out
    obtain ⟨R, hR⟩ : ∃ R, R = (es.take k).foldl bstep noVr := ⟨_, rfl⟩
    rw [← hR] at hb3 hb0
    have HMY : Hid (mayVr R = true) := by show _ = _; rw [hR]; exact foldl_may _ _ noVr_may
    have HBX : Hid (∀ wx, Below wr.heap.size wr wx → BoxV w.heap.size R a3 c3 wx ∧ BoxV (w.heap.size + 1) R a2 c2 wx ∧ Below w.heap.size w wx) := fun wx hb => ⟨hb3.later hb, hb0.later hb, hbl.trans (hb.mono hbl.size)⟩
    have HRE := hidS hR
    clear HK hb3 hb0 hR
    by_cases hk : k < n
    · have hk' : (k : Int) < (n : Int) := by omega
      by_cases hk2 : k < 12
      · have hk2' : (k : Int) < 12 := by omega
        obtain ⟨e, he⟩ : ∃ e, es[k]? = some e := ⟨_, List.getElem?_eq_getElem (by have := H0.out.len; omega)⟩
        obtain ⟨b, off, aa, ac, ra, rc, hae, ⟨c0, c1, c2', c3', c4⟩, hem⟩ := H0.out.at' k e he
        subst hae
        have HT := hidS (blt_take he)
        rw [← HRE.out] at HT
        have HEM : Hid (∀ wx, Below wr.heap.size wr wx → EdM wx e aa ac ra rc) := fun wx hb => hem.later (hbl.trans (hb.mono hbl.size))
        obtain ⟨an, han⟩ : ∃ n, n = e.add.length := ⟨_, rfl⟩
        obtain ⟨rn, hrn⟩ : ∃ n, n = e.rem.length := ⟨_, rfl⟩
        rw [← han] at c3'
        rw [← hrn] at c4
        have HCE : Hid (∀ wx, Below wr.heap.size wr wx → wx.cell? ⟨b, off + k * 5, none⟩ = some (.int .i64 e.log) ∧ wx.cell? ⟨b, off + k * 5 + 1, none⟩ = some (.int .i64 e.next) ∧ wx.cell? ⟨b, off + k * 5 + 2, none⟩ = some (.int .i64 e.seq) ∧ wx.cell? ⟨b, off + k * 5 + 3, none⟩ = some (.slice aa an ac) ∧ wx.cell? ⟨b, off + k * 5 + 4, none⟩ = some (.slice ra rn rc)) := fun wx hb => by
          have q := hbl.trans (hb.mono hbl.size)
          exact ⟨cell_later q c0, cell_later q c1, cell_later q c2', cell_later q c3', cell_later q c4⟩
        obtain ⟨L, hL⟩ : ∃ L, L = litL e.add := ⟨_, rfl⟩
        have HLI : Hid (∀ wx, Below wr.heap.size wr wx → Calls Try.prog 9 #[.slice aa an ac] wx fun r w' => r = .returned (.bool L) ∧ Below wr.heap.size wr w') := fun wx hb => by
          rw [hL, han]
          exact (light15_t (HEM.out wx hb).add).mono fun r w' hh => ⟨hh.1, hb.trans (hh.2.mono hb.size)⟩
        have HLL := hidS (And.intro hL (And.intro han hrn))
        have hrl : rn ≤ 2 ^ 63 - 1 := by have := hem.rem.len; unfold maxLen at this; omega
        have HR := hidS (And.intro hg (And.intro hk hk2))
        clear c0 c1 c2' c3' c4 hL han hrn hem he hg hk hk2
        obtain ⟨c0, c1, c2', c3', c4⟩ := HCE.out _ (Below.refl _ _)
        cases L with
        | false =>
          have HB : Hid (bstep R e = R) := by
            show _ = _
            unfold bstep
            rw [if_neg (by rw [← HLL.out.1]; simp)]
          go_wp2_with (go_at_call 9; refine (HLI.out _ (Below.refl _ _)).mono ?_; rintro r w1 ⟨rfl, b1⟩; clear c0 c1 c2' c3' c4)
          go_roundg (12 - (k + 1))
          case measure => have := HR.out; omega
          case rel => exact ⟨k + 1, by go_num, by have := HR.out; omega, by have := HR.out; omega, a3, c3, a2, c2, by rw [HT.out, HB.out]; exact HBX.out _ b1⟩
        | true =>
          by_cases q : 300 < rn
          · have q' : (300 : Int) < (rn : Int) := by omega
            have HB : Hid (bstep R e = R) := by
              show _ = _
              unfold bstep
              rw [if_neg (by rw [← HLL.out.2.2]; omega)]
            clear q
            go_wp2_with (go_at_call 9; refine (HLI.out _ (Below.refl _ _)).mono ?_; rintro r w1 ⟨rfl, b1⟩; clear c0 c1 c2' c3' c4; obtain ⟨c0, c1, c2', c3', c4⟩ := HCE.out _ b1)
            go_roundg (12 - (k + 1))
            case measure => have := HR.out; omega
            case rel => exact ⟨k + 1, by go_num, by have := HR.out; omega, by have := HR.out; omega, a3, c3, a2, c2, by rw [HT.out, HB.out]; exact HBX.out _ b1⟩
          · have q' : ¬ (300 : Int) < (rn : Int) := by omega
            have q2 : (rn : Int) ≤ 300 := by omega
            have HB : Hid (bstep R e = stepV R e) := by
              show _ = _
              unfold bstep
              rw [if_pos ⟨HLL.out.1.symm, by rw [← HLL.out.2.2]; omega⟩]
            clear q
            go_upto_region 6 with (go_at_call 9; refine (HLI.out _ (Below.refl _ _)).mono ?_; rintro r w1 ⟨rfl, b1⟩; clear c0 c1 c2' c3' c4; obtain ⟨c0, c1, c2', c3', c4⟩ := HCE.out _ b1)
            obtain ⟨E, hE⟩ : ∃ E : Int, E = (apE R e : Nat) := ⟨_, rfl⟩
            obtain ⟨R2, hR2⟩ : ∃ R2, R2 = apV R e := ⟨_, rfl⟩
            have HEQ := hidS (And.intro hE hR2)
            have HSM : Hid (R.tabs.length ≤ 200 ∧ e.add.length ≤ 210 ∧ e.rem.length ≤ 300) := ⟨(mayAd_ok (mayVr_ok HMY.out).2.1).1, (litL_ok HLL.out.1.symm).1, by rw [← HLL.out.2.2]; omega⟩
            have HB1 := hidS b1
            clear hE hR2 b1 hbl c0 c1 c2' c3' c4
            have HRA : Hid (∀ wx, Below w1.heap.size w1 wx → Calls Try.prog 13 #[.agg #[.int .i64 R.log, .int .i64 R.next, .int .i64 R.seq, .slice a3 R.tabs.length c3], .agg #[.int .i64 e.log, .int .i64 e.next, .int .i64 e.seq, .slice aa an ac, .slice ra rn rc]] wx fun r w' => ∃ a' c', r = .returned (.tuple #[.agg #[.int .i64 R2.log, .int .i64 R2.next, .int .i64 R2.seq, .slice a' R2.tabs.length c'], .int .i64 E]) ∧ VrM w' R2 a' c' ∧ Below wx.heap.size wx w') := fun wx hb => by
              have q := HB1.out.trans (hb.mono HB1.out.size)
              rw [HEQ.out.1, HEQ.out.2, HLL.out.2.1, HLL.out.2.2]
              exact apply_t (HBX.out _ q).1.2 (HEM.out _ q) (by have := HSM.out; omega) (by have := HSM.out; omega) (by have := HSM.out; omega)
            have HW1 : Hid (∀ wx, Below w1.heap.size w1 wx → (wx.cell? ⟨w.heap.size, 0, none⟩ = some (.int .i64 R.log) ∧ wx.cell? ⟨w.heap.size, 1, none⟩ = some (.int .i64 R.next) ∧ wx.cell? ⟨w.heap.size, 2, none⟩ = some (.int .i64 R.seq) ∧ wx.cell? ⟨w.heap.size, 3, none⟩ = some (.slice a3 R.tabs.length c3)) ∧ (wx.cell? ⟨b, off + k * 5, none⟩ = some (.int .i64 e.log) ∧ wx.cell? ⟨b, off + k * 5 + 1, none⟩ = some (.int .i64 e.next) ∧ wx.cell? ⟨b, off + k * 5 + 2, none⟩ = some (.int .i64 e.seq) ∧ wx.cell? ⟨b, off + k * 5 + 3, none⟩ = some (.slice aa an ac) ∧ wx.cell? ⟨b, off + k * 5 + 4, none⟩ = some (.slice ra rn rc))) := fun wx hb => by
              have q := HB1.out.trans (hb.mono HB1.out.size)
              exact ⟨(HBX.out _ q).1.cells.1, HCE.out _ q⟩
            go_cut [6, 7] from 12 to 68 (fun s5 s6 wx => ∃ b5 a5 c5, s5 = .pointer (some ⟨b5, 0, none⟩) ∧ s6 = .int .i64 E ∧ Hid (Below w1.heap.size w1 wx ∧ BoxV b5 R2 a5 c5 wx ∧ w1.heap.size ≤ b5))
            case first =>
              rename_i JJ KK hJJ hKK
              obtain ⟨⟨x0, x1, x2, x3⟩, c0, c1, c2', c3', c4⟩ := HW1.out _ (Below.refl w1.heap.size w1).drew
              obtain ⟨⟨xx0, xx1, xx2, xx3⟩, cc0, cc1, cc2, cc3', cc4⟩ := HW1.out _ ((Below.refl w1.heap.size w1).alloc (Nat.le_refl _) (.cells #[.int .i64 0, .int .i64 0, .int .i64 0, .slice none 0 0] 24)).drew
              have HZ : Hid (∀ wx, Below (w1.alloc (.cells #[.int .i64 0, .int .i64 0, .int .i64 0, .slice none 0 0] 24)).drew.heap.size (w1.alloc (.cells #[.int .i64 0, .int .i64 0, .int .i64 0, .slice none 0 0] 24)).drew wx → BoxV w1.heap.size noVr none 0 wx ∧ (wx.cell? ⟨w1.heap.size, 0, none⟩ = some (.int .i64 0) ∧ wx.cell? ⟨w1.heap.size, 1, none⟩ = some (.int .i64 0) ∧ wx.cell? ⟨w1.heap.size, 2, none⟩ = some (.int .i64 0) ∧ wx.cell? ⟨w1.heap.size, 3, none⟩ = some (.slice none 0 0)) ∧ wx.frozen? ⟨w1.heap.size, 0, none⟩ = false ∧ wx.frozen? ⟨w1.heap.size, 1, none⟩ = false ∧ wx.frozen? ⟨w1.heap.size, 2, none⟩ = false ∧ wx.frozen? ⟨w1.heap.size, 3, none⟩ = false) := fun wx hb => by
                have q := ((box_new w1 (noVr_m w1)).later (Below.refl _ _).drew).later hb
                exact ⟨q, q.cells⟩
              first
              | go_region_law (first | (refine step_fn 13 (args := #[.agg #[.int .i64 R.log, .int .i64 R.next, .int .i64 R.seq, .slice a3 R.tabs.length c3], .agg #[.int .i64 e.log, .int .i64 e.next, .int .i64 e.seq, .slice aa an ac, .slice ra rn rc]]) rfl rfl (by simp [Act.eval, Act.put]) (by kernel_rfl) (HRA.out (w1.alloc (.cells #[.int .i64 0, .int .i64 0, .int .i64 0, .slice none 0 0] 24)).drew (by exact ((Below.refl _ _).alloc (Nat.le_refl _) _).drew)) ?_; rintro r w5 ⟨a5, c5, rfl, hv5, b5⟩; obtain ⟨hz, ⟨z0, z1, z2, z3⟩, f0, f1, f2, f3⟩ := HZ.out _ b5; have HZ5 := hidS hz; clear hz; refine ⟨_, rfl, ?_⟩) | (refine step_fn 13 (args := #[.agg #[.int .i64 R.log, .int .i64 R.next, .int .i64 R.seq, .slice a3 R.tabs.length c3], .agg #[.int .i64 e.log, .int .i64 e.next, .int .i64 e.seq, .slice aa an ac, .slice ra rn rc]]) rfl rfl (by simp [Act.eval, Act.put]) (by kernel_rfl) (HRA.out w1.drew (by exact (Below.refl _ _).drew)) ?_; rintro r w5 ⟨a5, c5, rfl, hv5, b5⟩; refine ⟨_, rfl, ?_⟩))
              | fail
              all_goals
                go_simp
                refine hKK _ _ (Met.intro (hJJ _ _ ?_))
                repeat apply Exists.intro
                refine ⟨?_, rfl⟩
                first
                | (have kB : Hid (Below w1.heap.size w1 ((((w5.setCell ⟨w1.heap.size, 0, none⟩ (.int .i64 R2.log)).setCell ⟨w1.heap.size, 1, none⟩ (.int .i64 R2.next)).setCell ⟨w1.heap.size, 2, none⟩ (.int .i64 R2.seq)).setCell ⟨w1.heap.size, 3, none⟩ (.slice a5 R2.tabs.length c5)) ∧ BoxV w1.heap.size R2 a5 c5 ((((w5.setCell ⟨w1.heap.size, 0, none⟩ (.int .i64 R2.log)).setCell ⟨w1.heap.size, 1, none⟩ (.int .i64 R2.next)).setCell ⟨w1.heap.size, 2, none⟩ (.int .i64 R2.seq)).setCell ⟨w1.heap.size, 3, none⟩ (.slice a5 R2.tabs.length c5)) ∧ w1.heap.size ≤ w1.heap.size) := ⟨s4_below (((Below.refl w1.heap.size w1).alloc (Nat.le_refl _) _).drew.trans (b5.mono ((Below.refl w1.heap.size w1).alloc (Nat.le_refl _) _).drew.size)) (Nat.le_refl _) (Nat.le_refl _) _ _ _ _, HZ5.out.set hv5, Nat.le_refl _⟩
                   with_reducible exact ⟨w1.heap.size, a5, c5, rfl, rfl, kB⟩)
                | (have kA : Hid (Below w1.heap.size w1 (w5.alloc (.cells #[.int .i64 R2.log, .int .i64 R2.next, .int .i64 R2.seq, .slice a5 R2.tabs.length c5] 24)) ∧ BoxV w5.heap.size R2 a5 c5 (w5.alloc (.cells #[.int .i64 R2.log, .int .i64 R2.next, .int .i64 R2.seq, .slice a5 R2.tabs.length c5] 24)) ∧ w1.heap.size ≤ w5.heap.size) := ⟨((Below.refl w1.heap.size w1).drew.trans (b5.mono (Below.refl w1.heap.size w1).drew.size)).trans (((Below.refl w5.heap.size w5).alloc (Nat.le_refl _) _).mono ((Below.refl w1.heap.size w1).drew.trans (b5.mono (Below.refl w1.heap.size w1).drew.size)).size), box_new w5 hv5, ((Below.refl w1.heap.size w1).drew.trans (b5.mono (Below.refl w1.heap.size w1).drew.size)).size⟩
                   with_reducible exact ⟨w5.heap.size, a5, c5, rfl, rfl, kA⟩)
            case rest =>
              obtain ⟨p5, a5, c5, rfl, rfl, HC⟩ := hcut
              have HPW : Hid (Below wr.heap.size wr wc) := HB1.out.trans (HC.out.1.mono HB1.out.size)
              obtain ⟨w2, hw2⟩ : ∃ x, x = wc := ⟨_, rfl⟩
              rw [← hw2] at HC HPW ⊢
              clear hw2 HRA HW1
              have HRB : Hid (∀ wx, Below w2.heap.size w2 wx → Calls Try.prog 14 #[.agg #[.int .i64 R.log, .int .i64 R.next, .int .i64 R.seq, .slice a2 R.tabs.length c2], .agg #[.int .i64 e.log, .int .i64 e.next, .int .i64 e.seq, .slice aa an ac, .slice ra rn rc]] wx fun r w' => ∃ a' c', r = .returned (.tuple #[.agg #[.int .i64 R2.log, .int .i64 R2.next, .int .i64 R2.seq, .slice a' R2.tabs.length c'], .int .i64 E]) ∧ VrM w' R2 a' c' ∧ Below wx.heap.size wx w') := fun wx hb => by
                have q := HPW.out.trans (hb.mono HPW.out.size)
                rw [HEQ.out.1, HEQ.out.2, HLL.out.2.1, HLL.out.2.2]
                exact rapply_t (HBX.out _ q).2.1.2 (HEM.out _ q)
              have HW2 : Hid (∀ wx, Below w2.heap.size w2 wx → (wx.cell? ⟨w.heap.size + 1, 0, none⟩ = some (.int .i64 R.log) ∧ wx.cell? ⟨w.heap.size + 1, 1, none⟩ = some (.int .i64 R.next) ∧ wx.cell? ⟨w.heap.size + 1, 2, none⟩ = some (.int .i64 R.seq) ∧ wx.cell? ⟨w.heap.size + 1, 3, none⟩ = some (.slice a2 R.tabs.length c2)) ∧ (wx.cell? ⟨b, off + k * 5, none⟩ = some (.int .i64 e.log) ∧ wx.cell? ⟨b, off + k * 5 + 1, none⟩ = some (.int .i64 e.next) ∧ wx.cell? ⟨b, off + k * 5 + 2, none⟩ = some (.int .i64 e.seq) ∧ wx.cell? ⟨b, off + k * 5 + 3, none⟩ = some (.slice aa an ac) ∧ wx.cell? ⟨b, off + k * 5 + 4, none⟩ = some (.slice ra rn rc))) := fun wx hb => by
                have q := HPW.out.trans (hb.mono HPW.out.size)
                exact ⟨(HBX.out _ q).2.1.cells.1, HCE.out _ q⟩
              go_upto_region 7 with fail
              go_cut [8, 9] from 12 to 68 (fun s5 s6 wx => ∃ b5 a5 c5, s5 = .pointer (some ⟨b5, 0, none⟩) ∧ s6 = .int .i64 E ∧ Hid (Below w2.heap.size w2 wx ∧ BoxV b5 R2 a5 c5 wx ∧ w2.heap.size ≤ b5))
              case first =>
                rename_i JJ KK hJJ hKK
                obtain ⟨⟨x0, x1, x2, x3⟩, c0, c1, c2', c3', c4⟩ := HW2.out _ (Below.refl w2.heap.size w2).drew
                obtain ⟨⟨xx0, xx1, xx2, xx3⟩, cc0, cc1, cc2, cc3', cc4⟩ := HW2.out _ ((Below.refl w2.heap.size w2).alloc (Nat.le_refl _) (.cells #[.int .i64 0, .int .i64 0, .int .i64 0, .slice none 0 0] 24)).drew
                have HZ : Hid (∀ wx, Below (w2.alloc (.cells #[.int .i64 0, .int .i64 0, .int .i64 0, .slice none 0 0] 24)).drew.heap.size (w2.alloc (.cells #[.int .i64 0, .int .i64 0, .int .i64 0, .slice none 0 0] 24)).drew wx → BoxV w2.heap.size noVr none 0 wx ∧ (wx.cell? ⟨w2.heap.size, 0, none⟩ = some (.int .i64 0) ∧ wx.cell? ⟨w2.heap.size, 1, none⟩ = some (.int .i64 0) ∧ wx.cell? ⟨w2.heap.size, 2, none⟩ = some (.int .i64 0) ∧ wx.cell? ⟨w2.heap.size, 3, none⟩ = some (.slice none 0 0)) ∧ wx.frozen? ⟨w2.heap.size, 0, none⟩ = false ∧ wx.frozen? ⟨w2.heap.size, 1, none⟩ = false ∧ wx.frozen? ⟨w2.heap.size, 2, none⟩ = false ∧ wx.frozen? ⟨w2.heap.size, 3, none⟩ = false) := fun wx hb => by
                  have q := ((box_new w2 (noVr_m w2)).later (Below.refl _ _).drew).later hb
                  exact ⟨q, q.cells⟩
                first
                | go_region_law (first | (refine step_fn 14 (args := #[.agg #[.int .i64 R.log, .int .i64 R.next, .int .i64 R.seq, .slice a2 R.tabs.length c2], .agg #[.int .i64 e.log, .int .i64 e.next, .int .i64 e.seq, .slice aa an ac, .slice ra rn rc]]) rfl rfl (by simp [Act.eval, Act.put]) (by kernel_rfl) (HRB.out (w2.alloc (.cells #[.int .i64 0, .int .i64 0, .int .i64 0, .slice none 0 0] 24)).drew (by exact ((Below.refl _ _).alloc (Nat.le_refl _) _).drew)) ?_; rintro r w6 ⟨a6, c6, rfl, hv5, b5⟩; obtain ⟨hz, ⟨z0, z1, z2, z3⟩, f0, f1, f2, f3⟩ := HZ.out _ b5; have HZ5 := hidS hz; clear hz; refine ⟨_, rfl, ?_⟩) | (refine step_fn 14 (args := #[.agg #[.int .i64 R.log, .int .i64 R.next, .int .i64 R.seq, .slice a2 R.tabs.length c2], .agg #[.int .i64 e.log, .int .i64 e.next, .int .i64 e.seq, .slice aa an ac, .slice ra rn rc]]) rfl rfl (by simp [Act.eval, Act.put]) (by kernel_rfl) (HRB.out w2.drew (by exact (Below.refl _ _).drew)) ?_; rintro r w6 ⟨a6, c6, rfl, hv5, b5⟩; refine ⟨_, rfl, ?_⟩))
                | fail
                all_goals
                  go_simp
                  refine hKK _ _ (Met.intro (hJJ _ _ ?_))
                  repeat apply Exists.intro
                  refine ⟨?_, rfl⟩
                  first
                  | (have kB : Hid (Below w2.heap.size w2 ((((w6.setCell ⟨w2.heap.size, 0, none⟩ (.int .i64 R2.log)).setCell ⟨w2.heap.size, 1, none⟩ (.int .i64 R2.next)).setCell ⟨w2.heap.size, 2, none⟩ (.int .i64 R2.seq)).setCell ⟨w2.heap.size, 3, none⟩ (.slice a6 R2.tabs.length c6)) ∧ BoxV w2.heap.size R2 a6 c6 ((((w6.setCell ⟨w2.heap.size, 0, none⟩ (.int .i64 R2.log)).setCell ⟨w2.heap.size, 1, none⟩ (.int .i64 R2.next)).setCell ⟨w2.heap.size, 2, none⟩ (.int .i64 R2.seq)).setCell ⟨w2.heap.size, 3, none⟩ (.slice a6 R2.tabs.length c6)) ∧ w2.heap.size ≤ w2.heap.size) := ⟨s4_below (((Below.refl w2.heap.size w2).alloc (Nat.le_refl _) _).drew.trans (b5.mono ((Below.refl w2.heap.size w2).alloc (Nat.le_refl _) _).drew.size)) (Nat.le_refl _) (Nat.le_refl _) _ _ _ _, HZ5.out.set hv5, Nat.le_refl _⟩
                     with_reducible exact ⟨w2.heap.size, a6, c6, rfl, rfl, kB⟩)
                  | (have kA : Hid (Below w2.heap.size w2 (w6.alloc (.cells #[.int .i64 R2.log, .int .i64 R2.next, .int .i64 R2.seq, .slice a6 R2.tabs.length c6] 24)) ∧ BoxV w6.heap.size R2 a6 c6 (w6.alloc (.cells #[.int .i64 R2.log, .int .i64 R2.next, .int .i64 R2.seq, .slice a6 R2.tabs.length c6] 24)) ∧ w2.heap.size ≤ w6.heap.size) := ⟨((Below.refl w2.heap.size w2).drew.trans (b5.mono (Below.refl w2.heap.size w2).drew.size)).trans (((Below.refl w6.heap.size w6).alloc (Nat.le_refl _) _).mono ((Below.refl w2.heap.size w2).drew.trans (b5.mono (Below.refl w2.heap.size w2).drew.size)).size), box_new w6 hv5, ((Below.refl w2.heap.size w2).drew.trans (b5.mono (Below.refl w2.heap.size w2).drew.size)).size⟩
                     with_reducible exact ⟨w6.heap.size, a6, c6, rfl, rfl, kA⟩)
              case rest =>
                obtain ⟨p6, a6, c6, rfl, rfl, HD⟩ := hcut
                have HSV : Hid (∀ wx, Below wc.heap.size wc wx → Calls Try.prog 15 #[.agg #[.int .i64 R2.log, .int .i64 R2.next, .int .i64 R2.seq, .slice a5 R2.tabs.length c5], .agg #[.int .i64 R2.log, .int .i64 R2.next, .int .i64 R2.seq, .slice a6 R2.tabs.length c6]] wx fun r w' => r = .returned (.bool true) ∧ Below wx.heap.size wx w') := fun wx hb => rsameV_eq ((HC.out.2.1.later HD.out.1).later hb).2 (HD.out.2.1.later hb).2
                obtain ⟨⟨x0, x1, x2, x3⟩, -⟩ := (HC.out.2.1.later HD.out.1).cells
                obtain ⟨⟨y0, y1, y2, y3⟩, -⟩ := HD.out.2.1.cells
                have HSE := hidS (HSV.out _ (Below.refl _ _))
                have hEE : (E != E) = false := by simp
                clear HSV HRB HW2
                by_cases qE : E = 0
                · have qE' : (E == 0) = true := by simpa using qE
                  have HST2 : Hid (stepV R e = R2) := by
                    show _ = _
                    unfold stepV
                    have := HEQ.out.1
                    rw [if_pos (by omega), HEQ.out.2]
                  clear qE
                  go_upto_region 11 with (go_at_call 15; refine HSE.out.mono ?_; rintro r w7 ⟨rfl, b7⟩)
                  have HB7 := hidS b7
                  have HX7 : Hid (BoxV w.heap.size R a3 c3 w7 ∧ BoxV (w.heap.size + 1) R a2 c2 w7 ∧ Below w.heap.size w w7) := HBX.out _ (HPW.out.trans ((HD.out.1.trans (HB7.out.mono HD.out.1.size)).mono HPW.out.size))
                  have H5 : Hid (BoxV p5 R2 a5 c5 w7 ∧ BoxV p6 R2 a6 c6 w7) := ⟨(HC.out.2.1.later HD.out.1).later HB7.out, HD.out.2.1.later HB7.out⟩
                  clear x0 x1 x2 x3 y0 y1 y2 y3 b7
                  obtain ⟨⟨x0, x1, x2, x3⟩, -⟩ := H5.out.1.cells
                  obtain ⟨⟨y0, y1, y2, y3⟩, -⟩ := H5.out.2.cells
                  obtain ⟨⟨z0, z1, z2, z3⟩, f0, f1, f2, f3⟩ := HX7.out.1.cells
                  obtain ⟨⟨zz0, zz1, zz2, zz3⟩, ff0, ff1, ff2, ff3⟩ := HX7.out.2.1.cells
                  have HLB : Hid (w.heap.size + 1 < p5 ∧ w.heap.size + 1 < p6) := by
                    have h1 := (HBX.out _ HB1.out).2.1.lt
                    have h2 := HC.out.2.2
                    have h3 := HD.out.2.2
                    have h4 := HC.out.1.size
                    exact ⟨by omega, by omega⟩
                  have A3 : BoxV (w.heap.size) R2 a5 c5 ((((w7.setCell ⟨w.heap.size, 0, none⟩ (.int .i64 R2.log)).setCell ⟨w.heap.size, 1, none⟩ (.int .i64 R2.next)).setCell ⟨w.heap.size, 2, none⟩ (.int .i64 R2.seq)).setCell ⟨w.heap.size, 3, none⟩ (.slice a5 R2.tabs.length c5)) := HX7.out.1.set H5.out.1.2
                  have A4 : BoxV (w.heap.size + 1) R a2 c2 ((((w7.setCell ⟨w.heap.size, 0, none⟩ (.int .i64 R2.log)).setCell ⟨w.heap.size, 1, none⟩ (.int .i64 R2.next)).setCell ⟨w.heap.size, 2, none⟩ (.int .i64 R2.seq)).setCell ⟨w.heap.size, 3, none⟩ (.slice a5 R2.tabs.length c5)) := HX7.out.2.1.other HX7.out.1 (by omega) _ _ _ _
                  have A6 : BoxV p6 R2 a6 c6 ((((w7.setCell ⟨w.heap.size, 0, none⟩ (.int .i64 R2.log)).setCell ⟨w.heap.size, 1, none⟩ (.int .i64 R2.next)).setCell ⟨w.heap.size, 2, none⟩ (.int .i64 R2.seq)).setCell ⟨w.heap.size, 3, none⟩ (.slice a5 R2.tabs.length c5)) := H5.out.2.other HX7.out.1 (by have := HLB.out; omega) _ _ _ _
                  have B4 : BoxV (w.heap.size + 1) R2 a6 c6 ((((w7.setCell ⟨w.heap.size + 1, 0, none⟩ (.int .i64 R2.log)).setCell ⟨w.heap.size + 1, 1, none⟩ (.int .i64 R2.next)).setCell ⟨w.heap.size + 1, 2, none⟩ (.int .i64 R2.seq)).setCell ⟨w.heap.size + 1, 3, none⟩ (.slice a6 R2.tabs.length c6)) := HX7.out.2.1.set H5.out.2.2
                  have B3 : BoxV (w.heap.size) R a3 c3 ((((w7.setCell ⟨w.heap.size + 1, 0, none⟩ (.int .i64 R2.log)).setCell ⟨w.heap.size + 1, 1, none⟩ (.int .i64 R2.next)).setCell ⟨w.heap.size + 1, 2, none⟩ (.int .i64 R2.seq)).setCell ⟨w.heap.size + 1, 3, none⟩ (.slice a6 R2.tabs.length c6)) := HX7.out.1.other HX7.out.2.1 (by omega) _ _ _ _
                  have B5 : BoxV p5 R2 a5 c5 ((((w7.setCell ⟨w.heap.size + 1, 0, none⟩ (.int .i64 R2.log)).setCell ⟨w.heap.size + 1, 1, none⟩ (.int .i64 R2.next)).setCell ⟨w.heap.size + 1, 2, none⟩ (.int .i64 R2.seq)).setCell ⟨w.heap.size + 1, 3, none⟩ (.slice a6 R2.tabs.length c6)) := H5.out.1.other HX7.out.2.1 (by have := HLB.out; omega) _ _ _ _
                  have kA0 : BoxV (w.heap.size) R2 a5 c5 ((((((((w7.setCell ⟨w.heap.size, 0, none⟩ (.int .i64 R2.log)).setCell ⟨w.heap.size, 1, none⟩ (.int .i64 R2.next)).setCell ⟨w.heap.size, 2, none⟩ (.int .i64 R2.seq)).setCell ⟨w.heap.size, 3, none⟩ (.slice a5 R2.tabs.length c5)).setCell ⟨w.heap.size + 1, 0, none⟩ (.int .i64 R2.log)).setCell ⟨w.heap.size + 1, 1, none⟩ (.int .i64 R2.next)).setCell ⟨w.heap.size + 1, 2, none⟩ (.int .i64 R2.seq)).setCell ⟨w.heap.size + 1, 3, none⟩ (.slice a6 R2.tabs.length c6)) ∧ BoxV (w.heap.size + 1) R2 a6 c6 ((((((((w7.setCell ⟨w.heap.size, 0, none⟩ (.int .i64 R2.log)).setCell ⟨w.heap.size, 1, none⟩ (.int .i64 R2.next)).setCell ⟨w.heap.size, 2, none⟩ (.int .i64 R2.seq)).setCell ⟨w.heap.size, 3, none⟩ (.slice a5 R2.tabs.length c5)).setCell ⟨w.heap.size + 1, 0, none⟩ (.int .i64 R2.log)).setCell ⟨w.heap.size + 1, 1, none⟩ (.int .i64 R2.next)).setCell ⟨w.heap.size + 1, 2, none⟩ (.int .i64 R2.seq)).setCell ⟨w.heap.size + 1, 3, none⟩ (.slice a6 R2.tabs.length c6)) ∧ Below w.heap.size w ((((((((w7.setCell ⟨w.heap.size, 0, none⟩ (.int .i64 R2.log)).setCell ⟨w.heap.size, 1, none⟩ (.int .i64 R2.next)).setCell ⟨w.heap.size, 2, none⟩ (.int .i64 R2.seq)).setCell ⟨w.heap.size, 3, none⟩ (.slice a5 R2.tabs.length c5)).setCell ⟨w.heap.size + 1, 0, none⟩ (.int .i64 R2.log)).setCell ⟨w.heap.size + 1, 1, none⟩ (.int .i64 R2.next)).setCell ⟨w.heap.size + 1, 2, none⟩ (.int .i64 R2.seq)).setCell ⟨w.heap.size + 1, 3, none⟩ (.slice a6 R2.tabs.length c6)) := ⟨A3.other A4 (by omega) _ _ _ _, A4.set A6.2, s4_below (s4_below HX7.out.2.2 (Nat.le_refl _) (Nat.le_refl _) _ _ _ _) (Nat.le_succ _) (Nat.le_refl _) _ _ _ _⟩
                  have kA : Hid (BoxV (w.heap.size) R2 a5 c5 ((((((((w7.setCell ⟨w.heap.size, 0, none⟩ (.int .i64 R2.log)).setCell ⟨w.heap.size, 1, none⟩ (.int .i64 R2.next)).setCell ⟨w.heap.size, 2, none⟩ (.int .i64 R2.seq)).setCell ⟨w.heap.size, 3, none⟩ (.slice a5 R2.tabs.length c5)).setCell ⟨w.heap.size + 1, 0, none⟩ (.int .i64 R2.log)).setCell ⟨w.heap.size + 1, 1, none⟩ (.int .i64 R2.next)).setCell ⟨w.heap.size + 1, 2, none⟩ (.int .i64 R2.seq)).setCell ⟨w.heap.size + 1, 3, none⟩ (.slice a6 R2.tabs.length c6)).drew ∧ BoxV (w.heap.size + 1) R2 a6 c6 ((((((((w7.setCell ⟨w.heap.size, 0, none⟩ (.int .i64 R2.log)).setCell ⟨w.heap.size, 1, none⟩ (.int .i64 R2.next)).setCell ⟨w.heap.size, 2, none⟩ (.int .i64 R2.seq)).setCell ⟨w.heap.size, 3, none⟩ (.slice a5 R2.tabs.length c5)).setCell ⟨w.heap.size + 1, 0, none⟩ (.int .i64 R2.log)).setCell ⟨w.heap.size + 1, 1, none⟩ (.int .i64 R2.next)).setCell ⟨w.heap.size + 1, 2, none⟩ (.int .i64 R2.seq)).setCell ⟨w.heap.size + 1, 3, none⟩ (.slice a6 R2.tabs.length c6)).drew ∧ Below w.heap.size w ((((((((w7.setCell ⟨w.heap.size, 0, none⟩ (.int .i64 R2.log)).setCell ⟨w.heap.size, 1, none⟩ (.int .i64 R2.next)).setCell ⟨w.heap.size, 2, none⟩ (.int .i64 R2.seq)).setCell ⟨w.heap.size, 3, none⟩ (.slice a5 R2.tabs.length c5)).setCell ⟨w.heap.size + 1, 0, none⟩ (.int .i64 R2.log)).setCell ⟨w.heap.size + 1, 1, none⟩ (.int .i64 R2.next)).setCell ⟨w.heap.size + 1, 2, none⟩ (.int .i64 R2.seq)).setCell ⟨w.heap.size + 1, 3, none⟩ (.slice a6 R2.tabs.length c6)).drew) := ⟨kA0.1.later (Below.refl _ _).drew, kA0.2.1.later (Below.refl _ _).drew, kA0.2.2.trans ((Below.refl _ _).drew)⟩
                  have kB0 : BoxV (w.heap.size) R2 a5 c5 ((((((((w7.setCell ⟨w.heap.size + 1, 0, none⟩ (.int .i64 R2.log)).setCell ⟨w.heap.size + 1, 1, none⟩ (.int .i64 R2.next)).setCell ⟨w.heap.size + 1, 2, none⟩ (.int .i64 R2.seq)).setCell ⟨w.heap.size + 1, 3, none⟩ (.slice a6 R2.tabs.length c6)).setCell ⟨w.heap.size, 0, none⟩ (.int .i64 R2.log)).setCell ⟨w.heap.size, 1, none⟩ (.int .i64 R2.next)).setCell ⟨w.heap.size, 2, none⟩ (.int .i64 R2.seq)).setCell ⟨w.heap.size, 3, none⟩ (.slice a5 R2.tabs.length c5)) ∧ BoxV (w.heap.size + 1) R2 a6 c6 ((((((((w7.setCell ⟨w.heap.size + 1, 0, none⟩ (.int .i64 R2.log)).setCell ⟨w.heap.size + 1, 1, none⟩ (.int .i64 R2.next)).setCell ⟨w.heap.size + 1, 2, none⟩ (.int .i64 R2.seq)).setCell ⟨w.heap.size + 1, 3, none⟩ (.slice a6 R2.tabs.length c6)).setCell ⟨w.heap.size, 0, none⟩ (.int .i64 R2.log)).setCell ⟨w.heap.size, 1, none⟩ (.int .i64 R2.next)).setCell ⟨w.heap.size, 2, none⟩ (.int .i64 R2.seq)).setCell ⟨w.heap.size, 3, none⟩ (.slice a5 R2.tabs.length c5)) ∧ Below w.heap.size w ((((((((w7.setCell ⟨w.heap.size + 1, 0, none⟩ (.int .i64 R2.log)).setCell ⟨w.heap.size + 1, 1, none⟩ (.int .i64 R2.next)).setCell ⟨w.heap.size + 1, 2, none⟩ (.int .i64 R2.seq)).setCell ⟨w.heap.size + 1, 3, none⟩ (.slice a6 R2.tabs.length c6)).setCell ⟨w.heap.size, 0, none⟩ (.int .i64 R2.log)).setCell ⟨w.heap.size, 1, none⟩ (.int .i64 R2.next)).setCell ⟨w.heap.size, 2, none⟩ (.int .i64 R2.seq)).setCell ⟨w.heap.size, 3, none⟩ (.slice a5 R2.tabs.length c5)) := ⟨B3.set B5.2, B4.other B3 (by omega) _ _ _ _, s4_below (s4_below HX7.out.2.2 (Nat.le_succ _) (Nat.le_refl _) _ _ _ _) (Nat.le_refl _) (Nat.le_refl _) _ _ _ _⟩
                  have kB : Hid (BoxV (w.heap.size) R2 a5 c5 ((((((((w7.setCell ⟨w.heap.size + 1, 0, none⟩ (.int .i64 R2.log)).setCell ⟨w.heap.size + 1, 1, none⟩ (.int .i64 R2.next)).setCell ⟨w.heap.size + 1, 2, none⟩ (.int .i64 R2.seq)).setCell ⟨w.heap.size + 1, 3, none⟩ (.slice a6 R2.tabs.length c6)).setCell ⟨w.heap.size, 0, none⟩ (.int .i64 R2.log)).setCell ⟨w.heap.size, 1, none⟩ (.int .i64 R2.next)).setCell ⟨w.heap.size, 2, none⟩ (.int .i64 R2.seq)).setCell ⟨w.heap.size, 3, none⟩ (.slice a5 R2.tabs.length c5)).drew ∧ BoxV (w.heap.size + 1) R2 a6 c6 ((((((((w7.setCell ⟨w.heap.size + 1, 0, none⟩ (.int .i64 R2.log)).setCell ⟨w.heap.size + 1, 1, none⟩ (.int .i64 R2.next)).setCell ⟨w.heap.size + 1, 2, none⟩ (.int .i64 R2.seq)).setCell ⟨w.heap.size + 1, 3, none⟩ (.slice a6 R2.tabs.length c6)).setCell ⟨w.heap.size, 0, none⟩ (.int .i64 R2.log)).setCell ⟨w.heap.size, 1, none⟩ (.int .i64 R2.next)).setCell ⟨w.heap.size, 2, none⟩ (.int .i64 R2.seq)).setCell ⟨w.heap.size, 3, none⟩ (.slice a5 R2.tabs.length c5)).drew ∧ Below w.heap.size w ((((((((w7.setCell ⟨w.heap.size + 1, 0, none⟩ (.int .i64 R2.log)).setCell ⟨w.heap.size + 1, 1, none⟩ (.int .i64 R2.next)).setCell ⟨w.heap.size + 1, 2, none⟩ (.int .i64 R2.seq)).setCell ⟨w.heap.size + 1, 3, none⟩ (.slice a6 R2.tabs.length c6)).setCell ⟨w.heap.size, 0, none⟩ (.int .i64 R2.log)).setCell ⟨w.heap.size, 1, none⟩ (.int .i64 R2.next)).setCell ⟨w.heap.size, 2, none⟩ (.int .i64 R2.seq)).setCell ⟨w.heap.size, 3, none⟩ (.slice a5 R2.tabs.length c5)).drew) := ⟨kB0.1.later (Below.refl _ _).drew, kB0.2.1.later (Below.refl _ _).drew, kB0.2.2.trans ((Below.refl _ _).drew)⟩
                  obtain ⟨⟨-, -, -, -⟩, -⟩ := A3.cells
                  obtain ⟨⟨za0, za1, za2, za3⟩, fa0, fa1, fa2, fa3⟩ := A4.cells
                  obtain ⟨⟨ya0, ya1, ya2, ya3⟩, -⟩ := A6.cells
                  obtain ⟨⟨zb0, zb1, zb2, zb3⟩, fb0, fb1, fb2, fb3⟩ := B3.cells
                  obtain ⟨⟨xb0, xb1, xb2, xb3⟩, -⟩ := B5.cells
                  clear A3 A4 A6 B3 B4 B5 kA0 kB0
                  go_region
                  all_goals
                    go_wp2_with fail
                    go_roundg (12 - (k + 1))
                    case measure => have := HR.out; omega
                    case rel =>
                      refine ⟨k + 1, by go_num, by have := HR.out; omega, by have := HR.out; omega, a5, c5, a6, c6, ?_⟩
                      rw [HT.out, HB.out, HST2.out]
                      first
                      | with_reducible exact kA.out
                      | with_reducible exact kB.out
                · have qE' : (E == 0) = false := by simpa using qE
                  have HST2 : Hid (stepV R e = R) := by
                    show _ = _
                    unfold stepV
                    have := HEQ.out.1
                    rw [if_neg (by omega)]
                  clear qE
                  go_wp2_with (go_at_call 15; refine HSE.out.mono ?_; rintro r w7 ⟨rfl, b7⟩)
                  go_roundg (12 - (k + 1))
                  case measure => have := HR.out; omega
                  case rel => exact ⟨k + 1, by go_num, by have := HR.out; omega, by have := HR.out; omega, a3, c3, a2, c2, by rw [HT.out, HB.out, HST2.out]; exact HBX.out _ (HPW.out.trans ((HD.out.1.trans (b7.mono HD.out.1.size)).mono HPW.out.size))⟩
      · have hk2' : ¬ (k : Int) < 12 := by omega
        obtain ⟨hb3, -, hbl2⟩ := HBX.out _ (Below.refl _ _)
        obtain ⟨⟨x0, x1, x2, x3⟩, -⟩ := hb3.cells
        have HMA : Hid (Calls Try.prog 11 #[.agg #[.int .i64 R.log, .int .i64 R.next, .int .i64 R.seq, .slice a3 R.tabs.length c3]] wr fun r w' => r = .returned (.bool true) ∧ Below wr.heap.size wr w') := by
          have := may_t hb3.2 (by have := (mayAd_ok (mayVr_ok HMY.out).2.1).1; omega)
          rw [HMY.out] at this
          exact this
        have HBL := hidS hbl2
        clear hb3 hbl2 hbl hg
        go_wp2_with (first | (go_at_call 11; refine HMA.out.mono ?_; rintro r w2 ⟨rfl, b2⟩) | (go_at_call 10; refine (awake15_t _).mono ?_; rintro r w3 ⟨rfl, b3⟩))
        have b4 := HBL.out.trans (b2.mono HBL.out.size)
        exact bodyPost_ret (v := .bool true) (by simp [results, Try.results5, go_sem]) rfl ⟨rfl, b4.trans (b3.mono b4.size)⟩
    · have hk' : ¬ (k : Int) < (n : Int) := by omega
      obtain ⟨hb3, -, hbl2⟩ := HBX.out _ (Below.refl _ _)
      obtain ⟨⟨x0, x1, x2, x3⟩, -⟩ := hb3.cells
      have HMA : Hid (Calls Try.prog 11 #[.agg #[.int .i64 R.log, .int .i64 R.next, .int .i64 R.seq, .slice a3 R.tabs.length c3]] wr fun r w' => r = .returned (.bool true) ∧ Below wr.heap.size wr w') := by
        have := may_t hb3.2 (by have := (mayAd_ok (mayVr_ok HMY.out).2.1).1; omega)
        rw [HMY.out] at this
        exact this
      have HBL := hidS hbl2
      clear hb3 hbl2 hbl hg
      go_wp2_with (first | (go_at_call 11; refine HMA.out.mono ?_; rintro r w2 ⟨rfl, b2⟩) | (go_at_call 10; refine (awake15_t _).mono ?_; rintro r w3 ⟨rfl, b3⟩))
      have b4 := HBL.out.trans (b2.mono HBL.out.size)
      exact bodyPost_ret (v := .bool true) (by simp [results, Try.results5, go_sem]) rfl ⟨rfl, b4.trans (b3.mono b4.size)⟩
end Go.Proofs.Ytjgfklbhagcbaaa
