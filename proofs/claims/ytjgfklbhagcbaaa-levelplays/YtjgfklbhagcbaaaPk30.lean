import Derived.WalkKit
import Derived.RegionTactic
import Derived.Test.YtjgfklbhagcbaaaPk14
import Derived.Test.YtjgfklbhagcbaaaPk17
import Derived.Test.YtjgfklbhagcbaaaPk18
import Derived.Test.YtjgfklbhagcbaaaPk21
import Derived.Test.YtjgfklbhagcbaaaPk27
import Derived.Test.YtjgfklbhagcbaaaPk29
/- A row of edits: how one lies in memory, how one that came in is opened. -/
namespace Go.Proofs.Ytjgfklbhagcbaaa
open Go.RowKit
set_option linter.unusedVariables false
set_option linter.unusedSimpArgs false

/-- A row of edits that is read. -/
structure EdRow (w : World) (ao : Option Addr) (n cap : Nat) (es : List EdV) : Prop where
  len : es.length = n ∧ n ≤ cap ∧ cap ≤ maxLen
  nil : ao = none → n = 0 ∧ cap = 0
  at' : ∀ (k : Nat) (e : EdV), es[k]? = some e → ∃ b off aa ac ra rc, ao = some ⟨b, off, none⟩ ∧ (w.cell? ⟨b, off + k * 5, none⟩ = some (.int .i64 e.log) ∧ w.cell? ⟨b, off + k * 5 + 1, none⟩ = some (.int .i64 e.next) ∧ w.cell? ⟨b, off + k * 5 + 2, none⟩ = some (.int .i64 e.seq) ∧ w.cell? ⟨b, off + k * 5 + 3, none⟩ = some (.slice aa e.add.length ac) ∧ w.cell? ⟨b, off + k * 5 + 4, none⟩ = some (.slice ra e.rem.length rc)) ∧ EdM w e aa ac ra rc
theorem EdRow.later {w w' : World} {ao : Option Addr} {n cap : Nat} {es : List EdV} (h : EdRow w ao n cap es) (hb : Below w.heap.size w w') : EdRow w' ao n cap es := by
  refine ⟨h.len, h.nil, fun k e he => ?_⟩
  obtain ⟨b, off, aa, ac, ra, rc, e1, ⟨c0, c1, c2, c3, c4⟩, hm⟩ := h.at' k e he
  exact ⟨b, off, aa, ac, ra, rc, e1, ⟨cell_later hb c0, cell_later hb c1, cell_later hb c2, cell_later hb c3, cell_later hb c4⟩, hm.later hb⟩
end Go.Proofs.Ytjgfklbhagcbaaa

/- The version that the laws build out of edits. -/
namespace Go.Proofs.Ytjgfklbhagcbaaa
open Go.RowKit
set_option linter.unusedVariables false
set_option linter.unusedSimpArgs false

def bstep (v : VrV) (e : EdV) : VrV := if litL e.add = true ∧ e.rem.length ≤ 300 then stepV v e else v
def bltV (es : List EdV) : VrV := (es.take 12).foldl bstep noVr
theorem bstep_may {v : VrV} (h : mayVr v = true) (e : EdV) : mayVr (bstep v e) = true := by
  unfold bstep
  split
  · exact stepV_may h e
  · exact h
theorem foldl_may : ∀ (es : List EdV) (v : VrV), mayVr v = true → mayVr (es.foldl bstep v) = true
  | [], v, h => h
  | e :: r, v, h => foldl_may r _ (bstep_may h e)
theorem noVr_may : mayVr noVr = true := by decide
theorem bltV_may (es : List EdV) : mayVr (bltV es) = true := foldl_may _ _ noVr_may
theorem blt_take {es : List EdV} {k : Nat} {e : EdV} (h : es[k]? = some e) : (es.take (k + 1)).foldl bstep noVr = bstep ((es.take k).foldl bstep noVr) e := by
  obtain ⟨hkl, rfl⟩ := List.getElem?_eq_some_iff.1 h
  rw [List.take_add_one, List.getElem?_eq_getElem hkl, List.foldl_append]
  rfl
set_option maxHeartbeats 8000000 in
set_option maxRecDepth 100000 in
theorem built15_t {w : World} {ao : Option Addr} {n cap : Nat} {es : List EdV} (h : EdRow w ao n cap es) :
    Calls Try.prog 16 #[.slice ao n cap] w fun e w' => ∃ a' c', e = .returned (vrV (bltV es) a' c') ∧ VrM w' (bltV es) a' c' ∧ Below w.heap.size w w' := by
  obtain ⟨W, hW⟩ : ∃ W, W = (w.alloc (.cells #[.int .i64 0, .int .i64 0, .int .i64 0, .slice none 0 0] 24)).alloc (.cells #[.int .i64 0, .int .i64 0, .int .i64 0, .slice none 0 0] 24) := ⟨_, rfl⟩
  have hWb : Below w.heap.size w W := by rw [hW]; exact ((Below.refl _ w).alloc (Nat.le_refl _) _).alloc (by simp) _
  have hB0 : BoxV w.heap.size noVr none 0 W := by rw [hW]; exact (box_new w (noVr_m w)).later ((Below.refl _ _).alloc (Nat.le_refl _) _)
  have hB1 : BoxV (w.heap.size + 1) noVr none 0 W := by
    have e : w.heap.size + 1 = (w.alloc (.cells #[.int .i64 0, .int .i64 0, .int .i64 0, .slice none 0 0] 24)).heap.size := by simp
    rw [hW, e]; exact box_new _ (noVr_m _)
  have HST : Hid (BoxV (w.heap.size + 1) noVr none 0 W ∧ BoxV w.heap.size noVr none 0 W ∧ Below w.heap.size w W) := ⟨hB1, hB0, hWb⟩
  have hn63 : n ≤ 2 ^ 63 - 1 := by have := h.len; unfold maxLen at this; omega
  have H0 := hidS h
  have HW := hidS hW
  obtain ⟨R0, hR0⟩ : ∃ R, R = bltV es := ⟨_, rfl⟩
  have HR0 := hidS hR0
  rw [← hR0]
  clear h hW hWb hB0 hB1 hR0
  go_enter Try.func16, Try.ntmps16
  go_wp2_with fail
  rw [← HW.out]
  go_loopg [4] 12 (fun kx si wx => ∃ k : Nat, si = .int .i64 k ∧ k + kx = 12 ∧ k ≤ n ∧ Hid (∃ a c, BoxV (w.heap.size + 1) ((es.take k).foldl bstep noVr) a c wx ∧ BoxV w.heap.size noVr none 0 wx ∧ Below w.heap.size w wx))
  case atStart => exact ⟨0, rfl, rfl, Nat.zero_le _, none, 0, HST.out⟩
  case round =>
    obtain ⟨k, rfl, hg, hkn, HK⟩ := hrel
    obtain ⟨a3, c3, hb3, hb0, hbl⟩ := HK.out
    obtain ⟨R, hR⟩ : ∃ R, R = (es.take k).foldl bstep noVr := ⟨_, rfl⟩
    rw [← hR] at hb3
    have HBX : Hid (∀ wx, Below wr.heap.size wr wx → BoxV (w.heap.size + 1) R a3 c3 wx ∧ BoxV w.heap.size noVr none 0 wx ∧ Below w.heap.size w wx) := fun wx hb => ⟨hb3.later hb, hb0.later hb, hbl.trans (hb.mono hbl.size)⟩
    have HRE := hidS hR
    clear HK hb3 hb0 hR
    by_cases hk : k < n
    · have hk' : (k : Int) < (n : Int) := by omega
      by_cases hk2 : k < 12
      · have hk2' : (k : Int) < 12 := by omega
        obtain ⟨e, he⟩ : ∃ e, es[k]? = some e := ⟨_, List.getElem?_eq_getElem (by have := H0.out.len; omega)⟩
        obtain ⟨b, off, aa, ac, ra, rc, hae, ⟨c0, c1, c2, c3', c4⟩, hem⟩ := H0.out.at' k e he
        subst hae
        have HT := hidS (blt_take he)
        rw [← HRE.out] at HT
        have HEM : Hid (∀ wx, Below wr.heap.size wr wx → EdM wx e aa ac ra rc) := fun wx hb => hem.later (hbl.trans (hb.mono hbl.size))
        obtain ⟨an, han⟩ : ∃ n, n = e.add.length := ⟨_, rfl⟩
        obtain ⟨rn, hrn⟩ : ∃ n, n = e.rem.length := ⟨_, rfl⟩
        rw [← han] at c3'
        rw [← hrn] at c4
        have HCE : Hid (∀ wx, Below wr.heap.size wr wx → wx.cell? ⟨b, off + k * 5, none⟩ = some (.int .i64 e.log) ∧ wx.cell? ⟨b, off + k * 5 + 1, none⟩ = some (.int .i64 e.next) ∧ wx.cell? ⟨b, off + k * 5 + 2, none⟩ = some (.int .i64 e.seq) ∧ wx.cell? ⟨b, off + k * 5 + 3, none⟩ = some (.slice aa an ac) ∧ wx.cell? ⟨b, off + k * 5 + 4, none⟩ = some (.slice ra rn rc)) := fun wx hb => by
          have q := hbl.trans (hb.mono hbl.size)
          exact ⟨cell_later q c0, cell_later q c1, cell_later q c2, cell_later q c3', cell_later q c4⟩
        obtain ⟨L, hL⟩ : ∃ L, L = litL e.add := ⟨_, rfl⟩
        have HLI : Hid (∀ wx, Below wr.heap.size wr wx → Calls Try.prog 9 #[.slice aa an ac] wx fun r w' => r = .returned (.bool L) ∧ Below wr.heap.size wr w') := fun wx hb => by
          rw [hL, han]
          exact (light15_t (HEM.out wx hb).add).mono fun r w' hh => ⟨hh.1, hb.trans (hh.2.mono hb.size)⟩
        have HLL := hidS (And.intro hL (And.intro han hrn))
        have hrl : rn ≤ 2 ^ 63 - 1 := by have := hem.rem.len; unfold maxLen at this; omega
        have HR := hidS (And.intro hg (And.intro hk hk2))
        clear c0 c1 c2 c3' c4 hL han hrn hem he hg hk hk2
        obtain ⟨c0, c1, c2, c3', c4⟩ := HCE.out _ (Below.refl _ _)
        cases L with
        | false =>
          have HB : Hid (bstep R e = R) := by
            show _ = _
            unfold bstep
            rw [if_neg (by rw [← HLL.out.1]; simp)]
          go_wp2_with (go_at_call 9; refine (HLI.out _ (Below.refl _ _)).mono ?_; rintro r w1 ⟨rfl, b1⟩; clear c0 c1 c2 c3' c4)
          go_roundg (12 - (k + 1))
          case measure => have := HR.out; omega
          case rel => exact ⟨k + 1, by go_num, by have := HR.out; omega, by have := HR.out; omega, a3, c3, by rw [HT.out, HB.out]; exact HBX.out _ b1⟩
        | true =>
          by_cases q : 300 < rn
          · have q' : (300 : Int) < (rn : Int) := by omega
            have HB : Hid (bstep R e = R) := by
              show _ = _
              unfold bstep
              rw [if_neg (by rw [← HLL.out.2.2]; omega)]
            clear q
            go_wp2_with (go_at_call 9; refine (HLI.out _ (Below.refl _ _)).mono ?_; rintro r w1 ⟨rfl, b1⟩; clear c0 c1 c2 c3' c4; obtain ⟨c0, c1, c2, c3', c4⟩ := HCE.out _ b1)
            go_roundg (12 - (k + 1))
            case measure => have := HR.out; omega
            case rel => exact ⟨k + 1, by go_num, by have := HR.out; omega, by have := HR.out; omega, a3, c3, by rw [HT.out, HB.out]; exact HBX.out _ b1⟩
          · have q' : ¬ (300 : Int) < (rn : Int) := by omega
            have q2 : (rn : Int) ≤ 300 := by omega
            have HB : Hid (bstep R e = stepV R e) := by
              show _ = _
              unfold bstep
              rw [if_pos ⟨HLL.out.1.symm, by rw [← HLL.out.2.2]; omega⟩]
            clear q
            go_upto_region 6 with (go_at_call 9; refine (HLI.out _ (Below.refl _ _)).mono ?_; rintro r w1 ⟨rfl, b1⟩; clear c0 c1 c2 c3' c4; obtain ⟨c0, c1, c2, c3', c4⟩ := HCE.out _ b1)
            obtain ⟨⟨⟨x0, x1, x2, x3⟩, -⟩, hbl1⟩ : _ ∧ Below w.heap.size w w1 := ⟨(HBX.out _ b1).1.cells, (HBX.out _ b1).2.2⟩
            obtain ⟨E, hE⟩ : ∃ E : Int, E = (apE R e : Nat) := ⟨_, rfl⟩
            obtain ⟨R2, hR2⟩ : ∃ R2, R2 = apV R e := ⟨_, rfl⟩
            have HRA : Hid (∀ wx, Below w1.heap.size w1 wx → Calls Try.prog 14 #[.agg #[.int .i64 R.log, .int .i64 R.next, .int .i64 R.seq, .slice a3 R.tabs.length c3], .agg #[.int .i64 e.log, .int .i64 e.next, .int .i64 e.seq, .slice aa an ac, .slice ra rn rc]] wx fun r w' => ∃ a' c', r = .returned (.tuple #[.agg #[.int .i64 R2.log, .int .i64 R2.next, .int .i64 R2.seq, .slice a' R2.tabs.length c'], .int .i64 E]) ∧ VrM w' R2 a' c' ∧ Below wx.heap.size wx w') := fun wx hb => by
              have q := b1.trans (hb.mono b1.size)
              rw [hE, hR2, HLL.out.2.1, HLL.out.2.2]
              exact rapply_t (HBX.out _ q).1.2 (HEM.out _ q)
            have HB1 := hidS b1
            have HEQ := hidS (And.intro hE hR2)
            have HW1 : Hid (∀ wx, Below w1.heap.size w1 wx → (wx.cell? ⟨w.heap.size + 1, 0, none⟩ = some (.int .i64 R.log) ∧ wx.cell? ⟨w.heap.size + 1, 1, none⟩ = some (.int .i64 R.next) ∧ wx.cell? ⟨w.heap.size + 1, 2, none⟩ = some (.int .i64 R.seq) ∧ wx.cell? ⟨w.heap.size + 1, 3, none⟩ = some (.slice a3 R.tabs.length c3)) ∧ (wx.cell? ⟨b, off + k * 5, none⟩ = some (.int .i64 e.log) ∧ wx.cell? ⟨b, off + k * 5 + 1, none⟩ = some (.int .i64 e.next) ∧ wx.cell? ⟨b, off + k * 5 + 2, none⟩ = some (.int .i64 e.seq) ∧ wx.cell? ⟨b, off + k * 5 + 3, none⟩ = some (.slice aa an ac) ∧ wx.cell? ⟨b, off + k * 5 + 4, none⟩ = some (.slice ra rn rc))) := fun wx hb => by
              have q := HB1.out.trans (hb.mono HB1.out.size)
              exact ⟨(HBX.out _ q).1.cells.1, HCE.out _ q⟩
            clear hE hR2 b1 hbl1 hbl x0 x1 x2 x3
            go_cut [5, 6] from 8 to 44 (fun s5 s6 wx => ∃ b5 a5 c5, s5 = .pointer (some ⟨b5, 0, none⟩) ∧ s6 = .int .i64 E ∧ Hid (Below w1.heap.size w1 wx ∧ BoxV b5 R2 a5 c5 wx))
            case first =>
              rename_i JJ KK hJJ hKK
              obtain ⟨⟨x0, x1, x2, x3⟩, c0, c1, c2, c3', c4⟩ := HW1.out _ (Below.refl _ w1).drew
              obtain ⟨⟨xx0, xx1, xx2, xx3⟩, cc0, cc1, cc2, cc3', cc4⟩ := HW1.out _ ((Below.refl _ w1).alloc (Nat.le_refl _) (.cells #[.int .i64 0, .int .i64 0, .int .i64 0, .slice none 0 0] 24)).drew
              have HZ : Hid (∀ wx, Below (w1.alloc (.cells #[.int .i64 0, .int .i64 0, .int .i64 0, .slice none 0 0] 24)).drew.heap.size (w1.alloc (.cells #[.int .i64 0, .int .i64 0, .int .i64 0, .slice none 0 0] 24)).drew wx → BoxV w1.heap.size noVr none 0 wx ∧ (wx.cell? ⟨w1.heap.size, 0, none⟩ = some (.int .i64 0) ∧ wx.cell? ⟨w1.heap.size, 1, none⟩ = some (.int .i64 0) ∧ wx.cell? ⟨w1.heap.size, 2, none⟩ = some (.int .i64 0) ∧ wx.cell? ⟨w1.heap.size, 3, none⟩ = some (.slice none 0 0)) ∧ wx.frozen? ⟨w1.heap.size, 0, none⟩ = false ∧ wx.frozen? ⟨w1.heap.size, 1, none⟩ = false ∧ wx.frozen? ⟨w1.heap.size, 2, none⟩ = false ∧ wx.frozen? ⟨w1.heap.size, 3, none⟩ = false) := fun wx hb => by
                have q := ((box_new w1 (noVr_m w1)).later (Below.refl _ _).drew).later hb
                exact ⟨q, q.cells⟩
              first
              | go_region_law (first | (refine step_fn 14 (args := #[.agg #[.int .i64 R.log, .int .i64 R.next, .int .i64 R.seq, .slice a3 R.tabs.length c3], .agg #[.int .i64 e.log, .int .i64 e.next, .int .i64 e.seq, .slice aa an ac, .slice ra rn rc]]) rfl rfl (by simp [Act.eval, Act.put]) (by kernel_rfl) (HRA.out (w1.alloc (.cells #[.int .i64 0, .int .i64 0, .int .i64 0, .slice none 0 0] 24)).drew (by exact ((Below.refl _ _).alloc (Nat.le_refl _) _).drew)) ?_; rintro r w5 ⟨a5, c5, rfl, hv5, b5⟩; obtain ⟨hz, ⟨z0, z1, z2, z3⟩, f0, f1, f2, f3⟩ := HZ.out _ b5; have HZ5 := hidS hz; clear hz; refine ⟨_, rfl, ?_⟩) | (refine step_fn 14 (args := #[.agg #[.int .i64 R.log, .int .i64 R.next, .int .i64 R.seq, .slice a3 R.tabs.length c3], .agg #[.int .i64 e.log, .int .i64 e.next, .int .i64 e.seq, .slice aa an ac, .slice ra rn rc]]) rfl rfl (by simp [Act.eval, Act.put]) (by kernel_rfl) (HRA.out w1.drew (by exact (Below.refl _ _).drew)) ?_; rintro r w5 ⟨a5, c5, rfl, hv5, b5⟩; refine ⟨_, rfl, ?_⟩))
              | fail
              all_goals
                go_simp
                refine hKK _ _ (Met.intro (hJJ _ _ ?_))
                repeat apply Exists.intro
                refine ⟨?_, rfl⟩
                first
                | (have kB : Hid (Below w1.heap.size w1 ((((w5.setCell ⟨w1.heap.size, 0, none⟩ (.int .i64 R2.log)).setCell ⟨w1.heap.size, 1, none⟩ (.int .i64 R2.next)).setCell ⟨w1.heap.size, 2, none⟩ (.int .i64 R2.seq)).setCell ⟨w1.heap.size, 3, none⟩ (.slice a5 R2.tabs.length c5)) ∧ BoxV w1.heap.size R2 a5 c5 ((((w5.setCell ⟨w1.heap.size, 0, none⟩ (.int .i64 R2.log)).setCell ⟨w1.heap.size, 1, none⟩ (.int .i64 R2.next)).setCell ⟨w1.heap.size, 2, none⟩ (.int .i64 R2.seq)).setCell ⟨w1.heap.size, 3, none⟩ (.slice a5 R2.tabs.length c5))) := ⟨s4_below (((Below.refl w1.heap.size w1).alloc (Nat.le_refl _) _).drew.trans (b5.mono ((Below.refl w1.heap.size w1).alloc (Nat.le_refl _) _).drew.size)) (Nat.le_refl _) (Nat.le_refl _) _ _ _ _, HZ5.out.set hv5⟩
                   with_reducible exact ⟨w1.heap.size, a5, c5, rfl, rfl, kB⟩)
                | (have kA : Hid (Below w1.heap.size w1 (w5.alloc (.cells #[.int .i64 R2.log, .int .i64 R2.next, .int .i64 R2.seq, .slice a5 R2.tabs.length c5] 24)) ∧ BoxV w5.heap.size R2 a5 c5 (w5.alloc (.cells #[.int .i64 R2.log, .int .i64 R2.next, .int .i64 R2.seq, .slice a5 R2.tabs.length c5] 24))) := ⟨((Below.refl w1.heap.size w1).drew.trans (b5.mono (Below.refl w1.heap.size w1).drew.size)).trans (((Below.refl w5.heap.size w5).alloc (Nat.le_refl _) _).mono ((Below.refl w1.heap.size w1).drew.trans (b5.mono (Below.refl w1.heap.size w1).drew.size)).size), box_new w5 hv5⟩
                   with_reducible exact ⟨w5.heap.size, a5, c5, rfl, rfl, kA⟩)
            case rest =>
              obtain ⟨p5, a5, c5, rfl, rfl, HC⟩ := hcut
              have hbw := HB1.out.trans (HC.out.1.mono HB1.out.size)
              have HPW := hidS hbw
              obtain ⟨⟨y0, y1, y2, y3⟩, -⟩ := HC.out.2.cells
              obtain ⟨⟨x0, x1, x2, x3⟩, f0, f1, f2, f3⟩ := (HBX.out _ hbw).1.cells
              clear hbw
              by_cases qE : E = 0
              · have qE' : (E == 0) = true := by simpa using qE
                have HSV : Hid (stepV R e = R2) := by
                  show _ = _
                  unfold stepV
                  have := HEQ.out.1
                  rw [if_pos (by omega), HEQ.out.2]
                have HIN := HC.out.2
                have HIX := hidS HIN
                clear qE HIN
                go_wp2_with fail
                go_roundg (12 - (k + 1))
                case measure => have := HR.out; omega
                case rel =>
                  have q := HBX.out _ HPW.out
                  have q1 := BoxV.set q.1 HIX.out.2
                  exact ⟨k + 1, by go_num, by have := HR.out; omega, by have := HR.out; omega, a5, c5, by rw [HT.out, HB.out, HSV.out]; exact ⟨q1, q.2.1.other q.1 (by omega) _ _ _ _, s4_below q.2.2 (Nat.le_succ _) (Nat.le_refl _) _ _ _ _⟩⟩
              · have qE' : (E == 0) = false := by simpa using qE
                have HSV : Hid (stepV R e = R) := by
                  show _ = _
                  unfold stepV
                  have := HEQ.out.1
                  rw [if_neg (by omega)]
                clear qE
                go_wp2_with fail
                go_roundg (12 - (k + 1))
                case measure => have := HR.out; omega
                case rel => exact ⟨k + 1, by go_num, by have := HR.out; omega, by have := HR.out; omega, a3, c3, by rw [HT.out, HB.out, HSV.out]; exact HBX.out _ HPW.out⟩
      · have hk2' : ¬ (k : Int) < 12 := by omega
        have HF : Hid ((es.take k).foldl bstep noVr = R0) := by
          show _ = _
          rw [HR0.out]; unfold bltV
          rw [show k = 12 by omega]
        have hRR : R = R0 := HRE.out.trans HF.out
        subst hRR
        obtain ⟨hb3, hb0, hbl2⟩ := HBX.out _ (Below.refl _ _)
        obtain ⟨⟨x0, x1, x2, x3⟩, -⟩ := hb3.cells
        obtain ⟨⟨z0, z1, z2, z3⟩, f0, f1, f2, f3⟩ := hb0.cells
        have HVB := hidS (And.intro hb3 (And.intro hb0 hbl2))
        unfold noVr at z0 z1 z2 z3
        generalize hT : R.tabs.length = tn at x3
        clear hb3 hb0 hbl2 hbl HRE HF hg HR0
        go_wp2_with fail
        have S4 := set4_cells z0 z1 z2 z3 (.int .i64 R.log) (.int .i64 R.next) (.int .i64 R.seq) (.slice a3 tn c3)
        refine bodyPost_ret (v := .agg #[.int .i64 R.log, .int .i64 R.next, .int .i64 R.seq, .slice a3 tn c3]) (by simp [results, Try.results16, go_sem, S4.1, S4.2.1, S4.2.2.1, S4.2.2.2]) rfl ⟨a3, c3, by rw [← hT]; rfl, vr_s4 HVB.out.1.2 HVB.out.2.1 _ _ _ _, s4_below HVB.out.2.2 (Nat.le_refl _) (Nat.le_refl _) _ _ _ _⟩
    · have hk' : ¬ (k : Int) < (n : Int) := by omega
      have HF : Hid ((es.take k).foldl bstep noVr = R0) := by
        show _ = _
        rw [HR0.out]; unfold bltV
        rw [List.take_of_length_le (by have := H0.out.len; omega), List.take_of_length_le (by have := H0.out.len; omega)]
      have hRR : R = R0 := HRE.out.trans HF.out
      subst hRR
      obtain ⟨hb3, hb0, hbl2⟩ := HBX.out _ (Below.refl _ _)
      obtain ⟨⟨x0, x1, x2, x3⟩, -⟩ := hb3.cells
      obtain ⟨⟨z0, z1, z2, z3⟩, f0, f1, f2, f3⟩ := hb0.cells
      have HVB := hidS (And.intro hb3 (And.intro hb0 hbl2))
      unfold noVr at z0 z1 z2 z3
      generalize hT : R.tabs.length = tn at x3
      clear hb3 hb0 hbl2 hbl HRE HF hg HR0
      go_wp2_with fail
      have S4 := set4_cells z0 z1 z2 z3 (.int .i64 R.log) (.int .i64 R.next) (.int .i64 R.seq) (.slice a3 tn c3)
      refine bodyPost_ret (v := .agg #[.int .i64 R.log, .int .i64 R.next, .int .i64 R.seq, .slice a3 tn c3]) (by simp [results, Try.results16, go_sem, S4.1, S4.2.1, S4.2.2.1, S4.2.2.2]) rfl ⟨a3, c3, by rw [← hT]; rfl, vr_s4 HVB.out.1.2 HVB.out.2.1 _ _ _ _, s4_below HVB.out.2.2 (Nat.le_refl _) (Nat.le_refl _) _ _ _ _⟩
end Go.Proofs.Ytjgfklbhagcbaaa

/- A region that draws its order, by an invariant: what holds of the operations that have come up, whatever their order, is enough. -/
namespace Go.Proofs.Ytjgfklbhagcbaaa

theorem mem_ready {md : Region.Mode} {ops : Array Oper} {listed : Array Bool} {i : Nat} :
    i ∈ Region.ready md ops listed ↔ i < ops.size ∧ listed.getD i true = false ∧ ∃ o, ops[i]? = some o ∧ ∀ e ∈ o.after, Region.binds md e = true → listed.getD e.on false = true := by
  unfold Region.ready
  rw [List.mem_filter, List.mem_range]
  constructor
  · rintro ⟨h1, h2⟩
    cases ho : ops[i]? with
    | none => simp [ho] at h2
    | some o =>
      simp only [ho, Option.map_some, Option.getD_some, Bool.and_eq_true, Bool.not_eq_true', Array.all_eq_true_iff_forall_mem, Bool.or_eq_true] at h2
      refine ⟨h1, h2.1, o, rfl, fun e he hb => ?_⟩
      rcases h2.2 e he with h | h
      · rw [hb] at h; cases h
      · exact h
  · rintro ⟨h1, h2, o, ho, h3⟩
    refine ⟨h1, ?_⟩
    simp only [ho, Option.map_some, Option.getD_some, Bool.and_eq_true, Bool.not_eq_true', Array.all_eq_true_iff_forall_mem, Bool.or_eq_true]
    refine ⟨h2, fun e he => ?_⟩
    cases hb : Region.binds md e with
    | false => exact Or.inl rfl
    | true => exact Or.inr (h3 e he hb)

/-- How many of the first n have not come up. -/
def left (listed : Array Bool) : Nat → Nat
  | 0 => 0
  | n + 1 => left listed n + (if listed.getD n true then 0 else 1)

theorem left_set (listed : Array Bool) (i : Nat) (hi : listed.getD i true = false) : ∀ n, left (listed.setIfInBounds i true) n = left listed n - (if i < n then 1 else 0) ∧ (i < n → 0 < left listed n) := by
  have hlt : i < listed.size := by
    rcases Nat.lt_or_ge i listed.size with h | h
    · exact h
    · simp [h] at hi
  intro n
  induction n with
  | zero => simp [left]
  | succ n ih =>
    by_cases hn : n = i
    · subst hn
      have e1 : (listed.setIfInBounds n true).getD n true = true := by simp [hlt]
      simp only [left, e1, hi]
      have := ih.1
      simp at this
      simp
      omega
    · have e1 : (listed.setIfInBounds i true).getD n true = listed.getD n true := by
        simp [Ne.symm hn]
      simp only [left, e1]
      have h1 := ih.1
      have h2 := ih.2
      by_cases hin : i < n
      · simp only [hin, if_true, show i < n + 1 by omega] at *
        have := h2 trivial
        omega
      · simp only [hin, if_false] at h1
        refine ⟨?_, fun h => absurd h (by omega)⟩
        rw [if_neg (show ¬ i < n + 1 by omega)]
        omega

theorem left_zero (listed : Array Bool) : ∀ n, left listed n = 0 → ∀ i, i < n → listed.getD i true = true := by
  intro n
  induction n with
  | zero => intro _ i hi; omega
  | succ n ih =>
    intro h i hi
    simp only [left] at h
    rcases Nat.lt_or_ge i n with g | g
    · exact ih (by omega) i g
    · have : i = n := by omega
      subst this
      cases hl : listed.getD i true with
      | true => rfl
      | false => simp [hl] at h

theorem wp_region_inv {P : Program} {id : Nat} {Q : Exit → Act → World → Prop} {A : Act} {w : World} {ops : Array Oper} (hm : P.follows .mixedOrders = true)
    (hlow : ∀ (i : Nat) o, ops[i]? = some o → ∀ e ∈ o.after, Region.binds .any e = true → e.on < i)
    (Inv0 : Act → (Nat → Bool) → Act → World → Prop) (h0 : Inv0 A (fun _ => false) A w.drew)
    (hstep : ∀ (L : Nat → Bool) (a : Act) (w : World) (i : Nat) (o : Oper), Inv0 A L a w → ops[i]? = some o → L i = false → (∀ e ∈ o.after, Region.binds .any e = true → L e.on = true) →
      ∀ K : Act → World → Prop, (∀ a w, Inv0 A (fun j => if j = i then true else L j) a w → K a w) → if Region.wanted o (yielded ops a.tmps) = true then o.wp P a w K Q else K (a.put o.dst undef) w)
    (hend : ∀ (L : Nat → Bool) (a : Act) (w : World), Inv0 A L a w → (∀ i, i < ops.size → L i = true) → Q .normal a w) :
    (Code.region id ops true).wp P Q A w := by
  obtain ⟨Inv, hInv⟩ : ∃ Inv, Inv = Inv0 A := ⟨_, rfl⟩
  rw [← hInv] at h0 hstep hend
  clear hInv
  refine wp_region_any hm ?_
  have all : ∀ (listed : Array Bool), listed.size = ops.size → Region.ready .any ops listed = [] → ∀ i, i < ops.size → listed.getD i true = true := by
    intro listed hsz hr i
    induction i using Nat.strongRecOn with
    | _ i ih =>
      intro hi
      cases hl : listed.getD i true with
      | true => rfl
      | false =>
        have ho : ops[i]? = some ops[i] := Array.getElem?_eq_getElem hi
        have : i ∈ Region.ready .any ops listed := mem_ready.2 ⟨hi, hl, ops[i], ho, fun e he hb => by
          have hlt := hlow i _ ho e he hb
          have := ih e.on hlt (by omega)
          have hs : e.on < listed.size := by omega
          simpa [hs] using this⟩
        rw [hr] at this
        cases this
  have eqd : ∀ (listed : Array Bool) (j : Nat), j < listed.size → listed.getD j true = listed.getD j false := fun listed j hj => by simp [hj]
  have key : ∀ (fuel : Nat) (listed : Array Bool) (a : Act) (w : World), listed.size = ops.size → left listed ops.size ≤ fuel → Inv (fun j => listed.getD j false) a w → wpAny P .any ops Q fuel listed a w := by
    intro fuel
    induction fuel with
    | zero =>
      intro listed a w hsz hf hI
      have hz := left_zero listed ops.size (by omega)
      refine ⟨?_, hend _ a w hI fun i hi => by rw [← eqd listed i (by omega)]; exact hz i hi⟩
      cases hr : Region.ready .any ops listed with
      | nil => rfl
      | cons i rest =>
        have : i ∈ Region.ready .any ops listed := by rw [hr]; simp
        obtain ⟨h1, h2, _⟩ := mem_ready.1 this
        rw [hz i h1] at h2
        cases h2
    | succ fuel ih =>
      intro listed a w hsz hf hI
      refine ⟨fun hr => hend _ a w hI fun i hi => by rw [← eqd listed i (by omega)]; exact all listed hsz hr i hi, fun i hi => ?_⟩
      obtain ⟨h1, h2, o, ho, h3⟩ := mem_ready.1 hi
      have hs : i < listed.size := by omega
      refine wpOp_step ho fun K hK => hstep _ a w i o hI ho (by rw [← eqd listed i hs]; exact h2) h3 K fun a' w' hI' => hK a' w' ?_
      refine ih _ a' w' (by simpa using hsz) ?_ ?_
      · have hls := left_set listed i h2 ops.size
        have e := hls.1
        have p := hls.2 h1
        simp only [h1, if_true] at e
        omega
      · have : (fun j => (listed.setIfInBounds i true).getD j false) = fun j => if j = i then true else listed.getD j false := by
          funext j
          by_cases hj : j = i
          · subst hj; simp [hs]
          · simp [Ne.symm hj, hj]
        rw [this]; exact hI'
  refine key ops.size _ A _ (by simp) ?_ ?_
  · have : ∀ n, left (Array.replicate ops.size false) n ≤ n := by
      intro n
      induction n with
      | zero => simp [left]
      | succ n ih => simp only [left]; split <;> omega
    exact this ops.size
  · have : (fun j => (Array.replicate ops.size false).getD j false) = fun _ => false := by
      funext j
      simp only [Array.getD_eq_getD_getElem?, Array.getElem?_replicate]
      split <;> rfl
    rw [this]; exact h0
end Go.Proofs.Ytjgfklbhagcbaaa
