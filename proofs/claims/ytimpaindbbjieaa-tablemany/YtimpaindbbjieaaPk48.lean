import Derived.Test.YtimpaindbbjieaaPk11
import Derived.Test.YtimpaindbbjieaaPk17
import Derived.Test.YtimpaindbbjieaaPk43
import Derived.Test.YtimpaindbbjieaaPk44
import Derived.Test.YtimpaindbbjieaaPk47
/- The landed table: the first entry that is not ahead. -/
namespace Go.Proofs.Ytimpaindbbjieaa
open Go.RowKit
set_option linter.unusedVariables false
set_option linter.unusedSimpArgs false

theorem GotE.lay {B p : Nat} {g : Option EntV} {r : Ending} {w' w'' : World} (h : GotE B g r w') (hg : w'.grownBy w'' (some p)) (hp : p < B) : GotE B g r w'' := by
  rcases h with h | ⟨x, ka, kc, va, vc, h1, h2, h3, h4⟩
  · exact .inl h
  · exact .inr ⟨x, ka, kc, va, vc, h1, h2, entE.keep h3 fun v hv b hr => hg.block b (entE.lt h3 v hv b hr) (fun e => by
      have := h4 v hv b hr
      simp only [Option.some.injEq] at e
      omega), h4⟩
theorem GotE.less {B C : Nat} {g : Option EntV} {r : Ending} {w' : World} (h : GotE B g r w') (hc : C ≤ B) : GotE C g r w' := by
  rcases h with h | ⟨x, ka, kc, va, vc, h1, h2, h3, h4⟩
  · exact .inl h
  · exact .inr ⟨x, ka, kc, va, vc, h1, h2, h3, fun u hu b hr => Nat.le_trans hc (h4 u hu b hr)⟩
theorem GotE.later {B : Nat} {g : Option EntV} {r : Ending} {w' w'' : World} (h : GotE B g r w') (hb : Below w'.heap.size w' w'') : GotE B g r w'' := by
  rcases h with h | ⟨x, ka, kc, va, vc, h1, h2, h3, h4⟩
  · exact .inl h
  · exact .inr ⟨x, ka, kc, va, vc, h1, h2, El.later (E := entE) h3 hb, h4⟩
/-- What Seek tells, as five cells and a bool, in new memory alone. -/
theorem seekB_cells {w : World} {ao ka : Option Addr} {len cap kl kc : Nat} {d key : List Int} {s : Int} (h : Sl w ao len cap d) (hl : len ≤ 2000000) (hk : Sl w ka kl kc key) (hs : In64 s) :
    Calls Try.prog 77 #[.slice ao len cap, .slice ka kl kc, .int .i64 s] w fun r w' => ∃ (a0 : Option Addr) (n0 c0 : Nat) (s1 : Int) (g2 : Bool) (t3 : Int) (a4 : Option Addr) (n4 c4 : Nat) (f : Bool), r = .returned (.tuple #[.agg #[.slice a0 n0 c0, .int .i64 s1, .bool g2, .int .i64 t3, .slice a4 n4 c4], .bool f]) ∧ (∃ B, w.heap.size ≤ B ∧ GotE B (skE (tkB d) key s) r w') ∧ Below w.heap.size w w' := by
  refine (sekB_k h hl hk hs).mono ?_
  rintro r w' ⟨⟨B, hB, hG⟩, hb⟩
  have hG0 := hG
  rcases hG with ⟨h1, rfl⟩ | ⟨x, ka', kc', va, vc, h1, rfl, h3, h4⟩
  · exact ⟨_, _, _, _, _, _, _, _, _, false, rfl, ⟨B, hB, hG0⟩, hb⟩
  · exact ⟨_, _, _, _, _, _, _, _, _, true, rfl, ⟨B, hB, hG0⟩, hb⟩
/-- In a block of a table that may be. -/
theorem blk_few {l : List EntV} (h : tblE l = 0) {c : List EntV} (hc : c ∈ cutT l) : (blkB c).length ≤ 2000000 := by
  have h5 := (tblE_ok h).2.2.2.2
  have hm := cutT_blk (tblE_ok h).2.2.1 (tblE_ok h).2.2.2.1 c hc
  have h6 := cutB_few l 0 [] (tblE_ok h).2.2.1 (by simp) (by omega) c hc
  have h7 := blk_some (M := 2700) (c := c) (fun e he => ⟨(tblE_ok h).2.2.1 e (hm.2 e he), by have := mayE_ok ((tblE_ok h).2.2.1 e (hm.2 e he)); omega⟩)
  omega
set_option maxHeartbeats 4000000 in
set_option maxRecDepth 100000 in
theorem seek_t {w : World} {p : Nat} {l : List EntV} {ka : Option Addr} {kl kc : Nat} {key : List Int} {s : Int} (hT : RTb w p l) (hk : Sl w ka kl kc key) (hs : In64 s) :
    Calls Try.prog 51 #[.pointer (some ⟨p, 0, none⟩), .slice ka kl kc, .int .i64 s] w fun r w' => (∃ B, w.heap.size ≤ B ∧ GotE B (skE l key s) r w') ∧ Below w.heap.size w w' := by
  obtain ⟨W, hW⟩ : ∃ W, w.alloc (.cells #[.slice none 0 0, .int .i64 0, .bool false, .int .i64 0, .slice none 0 0] 34) = W := ⟨_, rfl⟩
  have hb0 : W.heap[w.heap.size]? = some (.cells #[.slice none 0 0, .int .i64 0, .bool false, .int .i64 0, .slice none 0 0] 34 (0, 0)) := by rw [← hW]; exact heap_alloc_new w _
  have B0 : Below w.heap.size w W := by rw [← hW]; exact (Below.refl _ _).alloc (Nat.le_refl _) _
  have hf := from_t (hT.later B0) (hk.later B0) hs
  have hsk0 : skE l key s = (frB (cutT l) key s).head?.bind fun c => skE c key s := by rw [← skE_flat, cutT_flat]
  have hlen : (rowsT l).length = (cutT l).length := rowsB_len _ _
  have HB0 := hid B0
  have HH := hid hb0
  have HT : Hid (RTb w p l ∧ Sl w ka kl kc key ∧ In64 s) := ⟨hT, hk, hs⟩
  have HSZ : Hid (w.heap.size < W.heap.size) := (Array.getElem?_eq_some_iff.1 hb0).1
  have HSK := hid hsk0
  have HLEN := hid hlen
  clear B0 hb0 hT hk hs hsk0 hlen
  go_enter Try.func51, Try.ntmps51
  go_upto_region 2 with (go_at_call 53; refine hf.mono ?_; rintro e w1 ⟨a, n, c, rfl, hrow, b1⟩)
  obtain ⟨j, hjn, hfr, hrs⟩ := hrow
  have hb1 : w1.heap[w.heap.size]? = some (.cells #[.slice none 0 0, .int .i64 0, .bool false, .int .i64 0, .slice none 0 0] 34 (0, 0)) := (b1.block _ (Array.getElem?_eq_some_iff.1 HH.out).1).trans HH.out
  have B1 := HB0.out.trans (b1.mono HB0.out.size)
  clear hf
  by_cases hn : n = 0
  · have HSN : Hid (skE l key s = none) := by
      show _ = _
      rw [HSK.out, hfr, List.drop_eq_nil_of_le (by have := HLEN.out; omega)]
      rfl
    subst hn
    obtain ⟨y0, y1, y2, y3, y4, f0, f1, f2, f3, f4⟩ := resK hb1
    obtain ⟨z0, z1, z2, z3, z4, hB⟩ := finK hb1 B1 (.slice none 0 0) (.int .i64 0) (.bool false) (.int .i64 0) (.slice none 0 0)
    have HBF := hid hB
    have HZ := hid (And.intro z0 (And.intro z1 (And.intro z2 (And.intro z3 z4))))
    unfold lay5 at HBF HZ
    clear z0 z1 z2 z3 z4 hB b1 B1 hb1 hrs hfr hjn
    go_wp2_with fail
    obtain ⟨z0, z1, z2, z3, z4⟩ := HZ.out
    exact bodyPost_ret (v := .tuple #[.agg #[.slice none 0 0, .int .i64 0, .bool false, .int .i64 0, .slice none 0 0], .bool false]) (by simp [results, Try.results51, go_sem, z0, z1, z2, z3, z4]) rfl ⟨⟨w.heap.size, Nat.le_refl _, .inl ⟨HSN.out, rfl⟩⟩, HBF.out⟩
  · obtain ⟨cc, hcc⟩ : ∃ cc, (cutT l)[j]? = some cc := ⟨_, List.getElem?_eq_getElem (by have := HLEN.out; omega)⟩
    have HSC : Hid (skE l key s = skE cc key s) := by
      show _ = _
      rw [HSK.out, hfr, List.head?_drop, hcc]
      rfl
    obtain ⟨q, q1, q2, q3, q4, q5, q6, q7, q8, q9, q10⟩ := tbl_block HT.out.1.ok HT.out.1.oke hcc
    have hbl := blk_few HT.out.1.ok (List.mem_of_getElem? hcc)
    have hT1 := HT.out.1.later B1
    obtain ⟨wa, wc, ra, rc, t0, t1, -, -, -, s4, r5⟩ := hT1.facts
    have h5 := (tblE_ok HT.out.1.ok).2.2.2.2
    obtain ⟨b, off, la, lc, rfl, d0, d1, d2, sk⟩ := RS.row hrs (i := 0) (r := ⟨(q, (blkB cc).length), lastK [] cc⟩) (by rw [List.getElem?_drop, Nat.add_zero]; exact q1)
    simp only [Nat.zero_mul, Nat.add_zero] at d0 d1
    have hcut := s4.cut q (q + (blkB cc).length) (by omega) (by omega)
    rw [show q + (blkB cc).length - q = (blkB cc).length by omega, q3] at hcut
    have hwc := s4.2.2.2.1
    have HSE : Hid (∀ wx, Below w1.heap.size w1 wx → Calls Try.prog 77 #[.slice (cutA wa wc q) (blkB cc).length (wc - q), .slice ka kl kc, .int .i64 s] wx fun r w' => ∃ (a0 : Option Addr) (n0 c0 : Nat) (s1 : Int) (g2 : Bool) (t3 : Int) (a4 : Option Addr) (n4 c4 : Nat) (f : Bool), r = .returned (.tuple #[.agg #[.slice a0 n0 c0, .int .i64 s1, .bool g2, .int .i64 t3, .slice a4 n4 c4], .bool f]) ∧ (∃ B, wx.heap.size ≤ B ∧ GotE B (skE l key s) r w') ∧ Below wx.heap.size wx w') := fun wx hb => by
      have := seekB_cells (hcut.later hb) hbl ((HT.out.2.1.later B1).later hb) HT.out.2.2
      rw [q6, ← HSC.out] at this
      exact this
    have HOF : Hid (∀ wx, Calls Try.prog 47 #[.agg #[.int .i64 (q : Int), .int .i64 ((blkB cc).length : Int)], .slice wa (tblB l).length wc] wx fun e w' => e = .returned (.slice (cutA wa wc q) (blkB cc).length (wc - q)) ∧ Below wx.heap.size wx w') := fun wx => spof_t (by omega) (by omega) (by omega)
    have HC : Hid (∀ wx, Below w1.heap.size w1 wx → wx.cell? ⟨p, 0, none⟩ = some (.slice wa (tblB l).length wc) ∧ wx.cell? ⟨b, off, none⟩ = some (.int .i64 (q : Int)) ∧ wx.cell? ⟨b, off + 1, none⟩ = some (.int .i64 ((blkB cc).length : Int))) := fun wx hb =>
      ⟨cell_later hb t0, cell_later hb d0, cell_later hb d1⟩
    have HZB : Hid (∀ wx, Below w1.heap.size w1 wx → wx.heap[w.heap.size]? = some (.cells #[.slice none 0 0, .int .i64 0, .bool false, .int .i64 0, .slice none 0 0] 34 (0, 0)) ∧ Below w.heap.size w wx) := fun wx hb => ⟨(hb.block _ (Array.getElem?_eq_some_iff.1 hb1).1).trans hb1, B1.trans (hb.mono B1.size)⟩
    have hpne : p ≠ w.heap.size := by
      obtain ⟨_, _, _, _, hp, _⟩ := HT.out.1.at_
      have := (Array.getElem?_eq_some_iff.1 hp).1
      omega
    have hbne : b ≠ w.heap.size := fun e => by
      subst e
      have h0 := (cell_of hb1 off).symm.trans d0
      have h1 := (cell_of hb1 (off + 1)).symm.trans d1
      rcases off with _ | _ | _ | _ | _ | off <;> simp at h0 h1
    have HCL : Hid (∀ wx, Below w1.heap.size w1 wx → ∀ x0 x1 x2 x3 x4, (lay5 w.heap.size wx x0 x1 x2 x3 x4).cell? ⟨p, 0, none⟩ = some (.slice wa (tblB l).length wc) ∧ (lay5 w.heap.size wx x0 x1 x2 x3 x4).cell? ⟨b, off, none⟩ = some (.int .i64 (q : Int)) ∧ (lay5 w.heap.size wx x0 x1 x2 x3 x4).cell? ⟨b, off + 1, none⟩ = some (.int .i64 ((blkB cc).length : Int))) := fun wx hb x0 x1 x2 x3 x4 =>
      ⟨(lay5_grown w.heap.size wx x0 x1 x2 x3 x4).cell (cell_later hb t0) (fun e => hpne (Option.some.inj e)), (lay5_grown w.heap.size wx x0 x1 x2 x3 x4).cell (cell_later hb d0) (fun e => hbne (Option.some.inj e)), (lay5_grown w.heap.size wx x0 x1 x2 x3 x4).cell (cell_later hb d1) (fun e => hbne (Option.some.inj e))⟩
    have HSZ1 : Hid (w.heap.size < w1.heap.size) := (Array.getElem?_eq_some_iff.1 hb1).1
    generalize cutA wa wc q = a1 at HSE HOF
    generalize wc - q = c9 at HSE HOF
    generalize (blkB cc).length = BN at HSE HOF HC HCL d1
    generalize (tblB l).length = TL at HOF HC HCL t0
    have hn1 : (0 : Int) < (n : Int) := by omega
    have hn62 : n ≤ 2 ^ 61 := by have := (rowsT_some HT.out.1.ok).2; omega
    have hn0 : ((n : Int) == 0) = false := by simp; omega
    obtain ⟨e0, e1, e2⟩ := HC.out w1 (Below.refl _ _)
    have HBD : Hid (Below w1.heap.size w1 w1.drew) := (Below.refl _ _).drew
    clear s4 r5 q1 q2 q3 q4 q5 q6 q7 q8 q9 q10 sk hbl hcut hwc h5 hT1 t0 t1 d0 d1 d2 hrs hfr hjn hcc B1 hb1 b1 hpne hbne
    go_upto_region 4 with fail
    go_region_held_law (fun w' => w'.cell? ⟨p, 0, none⟩ = some (.slice wa TL wc) ∧ w'.cell? ⟨b, off, none⟩ = some (.int .i64 (q : Int)) ∧ w'.cell? ⟨b, off + 1, none⟩ = some (.int .i64 (BN : Int))) (first | with_reducible exact ⟨e0, e1, e2⟩ | with_reducible exact HC.out _ HBD.out | with_reducible exact HC.out _ B5 | with_reducible exact HC.out _ B6 | with_reducible exact BLC) (first | (go_at_call 47; refine (HOF.out _).mono ?_; rintro e w5 ⟨rfl, b5⟩; have B5 : Below w1.heap.size w1 w5 := HBD.out.trans (b5.mono HBD.out.size)) | (go_at_call 77; refine (HSE.out _ B5).mono ?_; rintro e w6 ⟨p0, m0, k0, s1, g2, t3, p4, m4, k4, F, rfl, hgot, b6⟩; have B6 := B5.trans (b6.mono B5.size); have hz6 := (HZB.out _ B6).1; have z0 := (cell_of hz6 0).trans rfl; have z1 := (cell_of hz6 1).trans rfl; have z2 := (cell_of hz6 2).trans rfl; have z3 := (cell_of hz6 3).trans rfl; have z4 := (cell_of hz6 4).trans rfl; have f0 := frozen_of hz6 0; have f1 := frozen_of hz6 1; have f2 := frozen_of hz6 2; have f3 := frozen_of hz6 3; have f4 := frozen_of hz6 4; have HG6 := hid hgot; have HSZ6 := hid B5.size; have BLC := HCL.out _ B6 (.slice p0 m0 k0) (.int .i64 s1) (.bool g2) (.int .i64 t3) (.slice p4 m4 k4); unfold lay5 at BLC; clear hgot))
    all_goals
      obtain ⟨x0, x1, x2, x3, x4, ob⟩ := finK hz6 (HZB.out _ B6).2 (.slice p0 m0 k0) (.int .i64 s1) (.bool g2) (.int .i64 t3) (.slice p4 m4 k4)
      obtain ⟨B, hB, hG⟩ := HG6.out
      have hG9 := GotE.lay hG (lay5_grown w.heap.size w6 (.slice p0 m0 k0) (.int .i64 s1) (.bool g2) (.int .i64 t3) (.slice p4 m4 k4)) (by have := HSZ6.out; have := HSZ1.out; omega)
      have HG9 : Hid (∃ B, w.heap.size ≤ B ∧ GotE B (skE l key s) (.returned (.tuple #[.agg #[.slice p0 m0 k0, .int .i64 s1, .bool g2, .int .i64 t3, .slice p4 m4 k4], .bool F])) (lay5 w.heap.size w6 (.slice p0 m0 k0) (.int .i64 s1) (.bool g2) (.int .i64 t3) (.slice p4 m4 k4))) := ⟨B, by have := HSZ6.out; have := HSZ1.out; omega, hG9⟩
      have HOB := hid ob
      unfold lay5 at x0 x1 x2 x3 x4 HG9 HOB
      clear hG hG9 ob hB
      go_wp2_with fail
      exact bodyPost_ret (v := .tuple #[.agg #[.slice p0 m0 k0, .int .i64 s1, .bool g2, .int .i64 t3, .slice p4 m4 k4], .bool F]) (by simp [results, Try.results51, go_sem, x0, x1, x2, x3, x4]) rfl ⟨HG9.out, HOB.out⟩
theorem le_in64 : In64 9223372036854775807 := ⟨by decide, by decide⟩
set_option maxHeartbeats 2000000 in
set_option maxRecDepth 100000 in
theorem get_t {w : World} {p : Nat} {l : List EntV} {ka : Option Addr} {kl kc : Nat} {key : List Int} {s : Int} (hT : RTb w p l) (hk : Sl w ka kl kc key) (hs : In64 s) :
    Calls Try.prog 13 #[.pointer (some ⟨p, 0, none⟩), .slice ka kl kc, .int .i64 s] w fun r w' => (∃ B, GotE B (getE l key s) r w') ∧ Below w.heap.size w w' := by
  obtain ⟨W, hW⟩ : ∃ W, w.alloc (.cells #[.slice none 0 0, .int .i64 0, .bool false, .int .i64 0, .slice none 0 0] 34) = W := ⟨_, rfl⟩
  have hb0 : W.heap[w.heap.size]? = some (.cells #[.slice none 0 0, .int .i64 0, .bool false, .int .i64 0, .slice none 0 0] 34 (0, 0)) := by rw [← hW]; exact heap_alloc_new w _
  have B0 : Below w.heap.size w W := by rw [← hW]; exact (Below.refl _ _).alloc (Nat.le_refl _) _
  have hsk := seek_t (hT.later B0) (hk.later B0) hs
  have HGE := hid (getE_sk (key := key) (s := s) (tblE_ok hT.ok).2.2.2.1)
  have HB0 := hid B0
  have HH := hid hb0
  have HK := hid hk
  have HSZ : Hid (w.heap.size < W.heap.size) := (Array.getElem?_eq_some_iff.1 hb0).1
  clear B0 hb0 hT hk hs
  cases hx : skE l key s with
  | none =>
    rw [hx] at HGE hsk
    have HGN : Hid (getE l key s = none) := HGE.out
    have hs2 : Calls Try.prog 51 #[.pointer (some ⟨p, 0, none⟩), .slice ka kl kc, .int .i64 s] W fun r w' => r = .returned (.tuple #[.agg #[.slice none 0 0, .int .i64 0, .bool false, .int .i64 0, .slice none 0 0], .bool false]) ∧ Below W.heap.size W w' := hsk.mono fun r w' ⟨⟨B, _, hG⟩, hb⟩ => by
      rcases hG with ⟨_, h⟩ | ⟨x, _, _, _, _, h, _⟩
      · exact ⟨h, hb⟩
      · cases h
    clear hsk HGE hx
    go_enter Try.func13, Try.ntmps13
    go_upto_region 2 with (go_at_call 51; refine hs2.mono ?_; rintro e w1 ⟨rfl, b1⟩)
    obtain ⟨W2, hW2⟩ : ∃ W, w1.alloc (.cells #[.slice none 0 0, .int .i64 0, .bool false, .int .i64 0, .slice none 0 0] 34) = W := ⟨_, rfl⟩
    have b2 : Below w1.heap.size w1 W2 := by rw [← hW2]; exact (Below.refl _ _).alloc (Nat.le_refl _) _
    have b12 := b1.trans (b2.mono b1.size)
    have hb1 : W2.heap[w.heap.size]? = some (.cells #[.slice none 0 0, .int .i64 0, .bool false, .int .i64 0, .slice none 0 0] 34 (0, 0)) := (b12.block _ (Array.getElem?_eq_some_iff.1 HH.out).1).trans HH.out
    have B1 := HB0.out.trans (b12.mono HB0.out.size)
    obtain ⟨y0, y1, y2, y3, y4, f0, f1, f2, f3, f4⟩ := resK hb1
    obtain ⟨z0, z1, z2, z3, z4, hB⟩ := finK hb1 B1 (.slice none 0 0) (.int .i64 0) (.bool false) (.int .i64 0) (.slice none 0 0)
    have HBF := hid hB
    have HZ := hid (And.intro z0 (And.intro z1 (And.intro z2 (And.intro z3 z4))))
    unfold lay5 at HBF HZ
    rw [hW2]
    clear z0 z1 z2 z3 z4 hB hs2 b1 b2 b12 B1 hb1 hW2
    go_wp2_with fail
    obtain ⟨z0, z1, z2, z3, z4⟩ := HZ.out
    exact bodyPost_ret (v := .tuple #[.agg #[.slice none 0 0, .int .i64 0, .bool false, .int .i64 0, .slice none 0 0], .bool false]) (by simp [results, Try.results13, go_sem, z0, z1, z2, z3, z4]) rfl ⟨⟨0, .inl ⟨HGN.out, rfl⟩⟩, HBF.out⟩
  | some x =>
    rw [hx] at HGE hsk
    have hs2 : Calls Try.prog 51 #[.pointer (some ⟨p, 0, none⟩), .slice ka kl kc, .int .i64 s] W fun r w' => ∃ a0 c0 a4 c4, r = .returned (.tuple #[.agg #[.slice a0 x.key.length c0, .int .i64 x.seq, .bool x.gone, .int .i64 x.till, .slice a4 x.val.length c4], .bool true]) ∧ (EntM w' (entL a0 c0 a4 c4 x) x ∧ ∀ u ∈ entL a0 c0 a4 c4 x, ∀ b, Refs u b → W.heap.size ≤ b) ∧ Below W.heap.size W w' := hsk.mono fun r w' ⟨⟨B, hB, hG⟩, hb⟩ => by
      rcases hG with ⟨h, _⟩ | ⟨y, a0, c0, a4, c4, h1, h2, h3, h4⟩
      · cases h
      · obtain rfl := Option.some.inj h1
        exact ⟨a0, c0, a4, c4, h2, ⟨h3, fun u hu b hr => Nat.le_trans hB (h4 u hu b hr)⟩, hb⟩
    clear hsk hx
    go_enter Try.func13, Try.ntmps13
    go_upto_region 2 with (go_at_call 51; refine hs2.mono ?_; rintro e w1 ⟨a0, c0, a4, c4, rfl, hM, b1⟩)
    obtain ⟨W2, hW2⟩ : ∃ W, w1.alloc (.cells #[.slice a0 x.key.length c0, .int .i64 x.seq, .bool x.gone, .int .i64 x.till, .slice a4 x.val.length c4] 34) = W := ⟨_, rfl⟩
    have b2 : Below w1.heap.size w1 W2 := by rw [← hW2]; exact (Below.refl _ _).alloc (Nat.le_refl _) _
    have hz2 : W2.heap[w1.heap.size]? = some (.cells #[.slice a0 x.key.length c0, .int .i64 x.seq, .bool x.gone, .int .i64 x.till, .slice a4 x.val.length c4] 34 (0, 0)) := by rw [← hW2]; exact heap_alloc_new w1 _
    have b12 := b1.trans (b2.mono b1.size)
    have hb1 : W2.heap[w.heap.size]? = some (.cells #[.slice none 0 0, .int .i64 0, .bool false, .int .i64 0, .slice none 0 0] 34 (0, 0)) := (b12.block _ (Array.getElem?_eq_some_iff.1 HH.out).1).trans HH.out
    have B1 := HB0.out.trans (b12.mono HB0.out.size)
    have hM2 : EntM W2 (entL a0 c0 a4 c4 x) x := El.later (E := entE) hM.1 b2
    have hsk2 : Sl W2 a0 x.key.length c0 x.key := by
      obtain ⟨k0, k1, k2, k3, e, s1, s2, s3, s4⟩ := hM2
      unfold entL at e
      simp only [List.cons.injEq, Value.slice.injEq, true_and, and_true] at e
      obtain ⟨⟨rfl, rfl⟩, _⟩ := e
      exact s1
    have heq := eql_m hsk2 (HK.out.later B1)
    obtain ⟨y0, y1, y2, y3, y4, f0, f1, f2, f3, f4⟩ := resK hb1
    have x0 := (cell_of hz2 0).trans rfl
    have x1 := (cell_of hz2 1).trans rfl
    have x2 := (cell_of hz2 2).trans rfl
    have x3 := (cell_of hz2 3).trans rfl
    have x4 := (cell_of hz2 4).trans rfl
    rw [hW2]
    by_cases hq : x.key = key
    · have HGN : Hid (getE l key s = some x) := by
        show _ = _
        rw [HGE.out]
        simp [Option.filter, hq]
      rw [decide_eq_true hq] at heq
      obtain ⟨z0, z1, z2, z3, z4, hB⟩ := finK hb1 B1 (.slice a0 x.key.length c0) (.int .i64 x.seq) (.bool x.gone) (.int .i64 x.till) (.slice a4 x.val.length c4)
      have HG9 : Hid (GotE W.heap.size (some x) (.returned (.tuple #[.agg #[.slice a0 x.key.length c0, .int .i64 x.seq, .bool x.gone, .int .i64 x.till, .slice a4 x.val.length c4], .bool true])) (lay5 w.heap.size W2 (.slice a0 x.key.length c0) (.int .i64 x.seq) (.bool x.gone) (.int .i64 x.till) (.slice a4 x.val.length c4))) := GotE.lay (.inr ⟨x, a0, c0, a4, c4, rfl, rfl, hM2, hM.2⟩) (lay5_grown _ _ _ _ _ _ _) HSZ.out
      have HBF := hid hB
      have HZ := hid (And.intro z0 (And.intro z1 (And.intro z2 (And.intro z3 z4))))
      unfold lay5 at HBF HZ HG9
      clear z0 z1 z2 z3 z4 hB hs2 b1 b2 b12 B1 hb1 hW2 hz2 hM hM2 hsk2 hq HGE
      go_wp2_with (go_at_call 50; refine heq.mono ?_; rintro e w4 ⟨rfl, hw⟩; obtain rfl := hw.symm)
      obtain ⟨z0, z1, z2, z3, z4⟩ := HZ.out
      exact bodyPost_ret (v := .tuple #[.agg #[.slice a0 x.key.length c0, .int .i64 x.seq, .bool x.gone, .int .i64 x.till, .slice a4 x.val.length c4], .bool true]) (by simp [results, Try.results13, go_sem, z0, z1, z2, z3, z4]) rfl ⟨⟨W.heap.size, by rw [HGN.out]; exact HG9.out⟩, HBF.out⟩
    · have HGN : Hid (getE l key s = none) := by
        show _ = _
        rw [HGE.out]
        simp [Option.filter, hq]
      rw [decide_eq_false hq] at heq
      obtain ⟨z0, z1, z2, z3, z4, hB⟩ := finK hb1 B1 (.slice none 0 0) (.int .i64 0) (.bool false) (.int .i64 0) (.slice none 0 0)
      have HBF := hid hB
      have HZ := hid (And.intro z0 (And.intro z1 (And.intro z2 (And.intro z3 z4))))
      unfold lay5 at HBF HZ
      clear z0 z1 z2 z3 z4 hB hs2 b1 b2 b12 B1 hb1 hW2 hz2 hM hM2 hsk2 hq HGE
      go_wp2_with (go_at_call 50; refine heq.mono ?_; rintro e w4 ⟨rfl, hw⟩; obtain rfl := hw.symm)
      obtain ⟨z0, z1, z2, z3, z4⟩ := HZ.out
      exact bodyPost_ret (v := .tuple #[.agg #[.slice none 0 0, .int .i64 0, .bool false, .int .i64 0, .slice none 0 0], .bool false]) (by simp [results, Try.results13, go_sem, z0, z1, z2, z3, z4]) rfl ⟨⟨0, .inl ⟨HGN.out, rfl⟩⟩, HBF.out⟩
set_option maxHeartbeats 1000000 in
set_option maxRecDepth 100000 in
theorem least_t {w : World} {p : Nat} {l : List EntV} (hT : RTb w p l) :
    Calls Try.prog 17 #[.pointer (some ⟨p, 0, none⟩)] w fun r w' => ∃ v, r = .returned v ∧ SlV w' v (l.head?.elim [] (·.key)) ∧ Below w.heap.size w w' := by
  have hsk := seek_t hT (Sl.nil w) le_in64
  rw [skE_least (fun e he => by have := (mayE_ok ((tblE_ok hT.ok).2.2.1 e he)); omega)] at hsk
  have hs2 : Calls Try.prog 51 #[.pointer (some ⟨p, 0, none⟩), .slice none 0 0, .int .i64 9223372036854775807] w fun r w' => ∃ (a0 : Option Addr) (n0 c0 : Nat) (s1 : Int) (g2 : Bool) (t3 : Int) (a4 : Option Addr) (n4 c4 : Nat) (f : Bool), r = .returned (.tuple #[.agg #[.slice a0 n0 c0, .int .i64 s1, .bool g2, .int .i64 t3, .slice a4 n4 c4], .bool f]) ∧ SlV w' (.slice a0 n0 c0) (l.head?.elim [] (·.key)) ∧ Below w.heap.size w w' := hsk.mono fun r w' ⟨⟨B, hB, hG⟩, hb⟩ => by
    rcases hG with ⟨h1, h2⟩ | ⟨y, a0, c0, a4, c4, h1, h2, h3, h4⟩
    · exact ⟨_, _, _, _, _, _, _, _, _, _, h2, by rw [h1]; exact slv_nil _, hb⟩
    · refine ⟨_, _, _, _, _, _, _, _, _, _, h2, ?_, hb⟩
      rw [h1]
      obtain ⟨k0, k1, k2, k3, e, s1, s2, s3, s4⟩ := h3
      unfold entL at e
      simp only [List.cons.injEq, Value.slice.injEq, true_and, and_true] at e
      obtain ⟨⟨rfl, rfl⟩, _⟩ := e
      exact ⟨_, _, rfl, s1⟩
  clear hsk hT
  go_enter Try.func17, Try.ntmps17
  go_wp2_with (go_at_call 51; refine hs2.mono ?_; rintro e w1 ⟨a0, n0, c0, s1, g2, t3, a4, n4, c4, f, rfl, hv, b1⟩)
  exact bodyPost_ret (v := .slice a0 n0 c0) (by simp [results, Try.results17, go_sem]) rfl ⟨_, rfl, hv.later ((Below.refl _ _).alloc (Nat.le_refl _) _), b1.alloc b1.size _⟩
end Go.Proofs.Ytimpaindbbjieaa

/- The landed table: the entries between two keys. -/
namespace Go.Proofs.Ytimpaindbbjieaa
open Go.RowKit
set_option linter.unusedVariables false
set_option linter.unusedSimpArgs false

theorem RSG.grownT {α : Type} {E : El α} {G : Nat → Prop} {w w' : World} {ao : Option Addr} {len cap : Nat} {xs : List α} {r : Option Nat} (h : RSG E G w ao len cap xs) (hg : w.grownBy w' r) (h1 : ∀ b off, ao = some ⟨b, off, none⟩ → some b ≠ r) (h2 : ∀ b, G b → some b ≠ r) : RSG E G w' ao len cap xs := by
  obtain ⟨us, ⟨g1, g2, g3, g4, g5, g6⟩, hG⟩ := h
  refine ⟨us, ⟨g1, g2, g3, g4, g5.keep fun u hu b hr => hg.block b (g5.lt u hu b hr) (h2 b (hG u hu b hr)), fun j u hu => ?_⟩, hG⟩
  obtain ⟨b, off, e, hc⟩ := g6 j u hu
  exact ⟨b, off, e, hg.cell hc (h1 b off e)⟩
theorem RSG.bound {α : Type} {E : El α} {G : Nat → Prop} {w : World} {ao : Option Addr} {len cap : Nat} {xs : List α} (h : RSG E G w ao len cap xs) : RSG E (fun b => G b ∧ b < w.heap.size) w ao len cap xs := by
  obtain ⟨us, h1, h2⟩ := h
  exact ⟨us, h1, fun u hu b hr => ⟨h2 u hu b hr, h1.2.2.2.2.1.lt u hu b hr⟩⟩
/-- Where List stands within a block: its answer's row, the block's entries. -/
structure LsT (w : World) (a9 : Option Addr) (n9 c9 : Nat) (L : List EntV) (B1 B2 : Nat) (wr : World) (v : Value) (acc : List EntV) : Prop where
  row : RowS entE w.heap.size wr v acc
  dec : RSG entE (fun b => B1 ≤ b ∧ b < B2) wr a9 n9 c9 L
  blk : ∀ b off, a9 = some ⟨b, off, none⟩ → B1 ≤ b ∧ b < B2
  own : ∀ b, v.ownBlock = some b → b < B1 ∨ B2 ≤ b
  bel : Below w.heap.size w wr
  siz : B2 ≤ wr.heap.size
theorem LsT.later {w : World} {a9 : Option Addr} {n9 c9 : Nat} {L : List EntV} {B1 B2 : Nat} {wr wy : World} {v : Value} {acc : List EntV} (h : LsT w a9 n9 c9 L B1 B2 wr v acc) (hb : Below wr.heap.size wr wy) : LsT w a9 n9 c9 L B1 B2 wy v acc :=
  ⟨h.row.later hb, h.dec.later hb, h.blk, h.own, h.bel.trans (hb.mono h.bel.size), Nat.le_trans h.siz hb.size⟩
theorem LsT.step {w : World} {a9 : Option Addr} {n9 c9 : Nat} {L : List EntV} {B1 B2 : Nat} {wr wy : World} {v v' : Value} {acc acc' : List EntV} (h : LsT w a9 n9 c9 L B1 B2 wr v acc) (hr : RowS entE w.heap.size wy v' acc') (hg : wr.grownBy wy v.ownBlock) (hm : Moved wr v v') : LsT w a9 n9 c9 L B1 B2 wy v' acc' := by
  have hno : ∀ b, B1 ≤ b ∧ b < B2 → some b ≠ v.ownBlock := fun b hb e => by
    have := h.own b e.symm
    omega
  refine ⟨hr, h.dec.grownT hg (fun b off e => hno b (h.blk b off e)) hno, h.blk, fun b e => ?_, h.bel.trans (h.row.below hg h.bel.size), Nat.le_trans h.siz hg.size⟩
  rcases hm with q | ⟨g, q1, q2⟩
  · exact h.own b (q ▸ e)
  · rw [q1] at e
    simp only [Option.some.injEq] at e
    have := h.siz
    omega
theorem listE_in {e : EntV} {r : List EntV} {fr ub : List Int} (h : inE fr ub e = true) : listE (e :: r) fr ub = e :: listE r fr ub := by
  unfold listE
  rw [List.filter_cons, if_pos h]
theorem listE_out {e : EntV} {r : List EntV} {fr ub : List Int} (h : inE fr ub e = false) : listE (e :: r) fr ub = listE r fr ub := by
  unfold listE
  rw [List.filter_cons, if_neg (by rw [h]; decide)]
theorem listE_end {e : EntV} {r : List EntV} {fr ub : List Int} (ho : ordE (e :: r)) (hu : ub.length ≠ 0) (h : 0 ≤ cmp e.key ub) : listE (e :: r) fr ub = [] := listE_stop (d := []) ho hu h

set_option maxHeartbeats 4000000 in
set_option maxRecDepth 100000 in
theorem list_t {w : World} {p : Nat} {l : List EntV} {fa ta : Option Addr} {fl fc tl tc : Nat} {fr ub : List Int} (hT : RTb w p l) (hf : Sl w fa fl fc fr) (ht : Sl w ta tl tc ub) :
    Calls Try.prog 21 #[.pointer (some ⟨p, 0, none⟩), .slice fa fl fc, .slice ta tl tc] w fun r w' => ∃ v, r = .returned v ∧ RSV entE w' v (listE l fr ub) ∧ Below w.heap.size w w' := by
  have hfr := from_t hT hf le_in64
  have hlen : (rowsT l).length = (cutT l).length := rowsB_len _ _
  obtain ⟨n1, n2⟩ := rowsT_some hT.ok
  obtain ⟨t1, t2, t3, t4, t5⟩ := tblE_ok hT.ok
  have HT : Hid (RTb w p l ∧ Sl w fa fl fc fr ∧ Sl w ta tl tc ub) := ⟨hT, hf, ht⟩
  have HLEN := hid hlen
  have HLL : Hid (l.length ≤ 4000) := by show _ ≤ _; omega
  have HFR : Hid (listE (frB (cutT l) fr 9223372036854775807).flatten fr ub = listE l fr ub) := by
    show _ = _
    rw [listE_fr (bs := cutT l), cutT_flat]
    intro c hc e he
    have hel : e ∈ l := by rw [← cutT_flat l]; exact List.mem_flatten.2 ⟨c, hc, he⟩
    have := mayE_ok (t3 e hel)
    omega
  have HORD : Hid (ordE (cutT l).flatten) := by show ordE _; rw [cutT_flat]; exact t4
  obtain ⟨T, hTT⟩ : ∃ T, T = listE l fr ub := ⟨_, rfl⟩
  rw [← hTT] at HFR ⊢
  have HTL : Hid (T.length ≤ 4000) := by
    show _ ≤ _
    rw [hTT]
    have := listE_len l fr ub
    omega
  have htl := ht.1
  have htl63 : tl ≤ 2 ^ 63 - 1 := by have := ht.2.2.2.1; have := ht.2.2.2.2.1; unfold maxLen at this; omega
  clear hT hf ht hlen n1 t1 t2 t3 t4 t5 hTT
  go_enter Try.func21, Try.ntmps21
  go_wp2_with (go_at_call 53; refine hfr.mono ?_; rintro e w1 ⟨a, n, c, rfl, hrow, b1⟩)
  obtain ⟨j, hjn, hfb, hrs⟩ := hrow
  rw [hfb] at HFR
  have HB1 := hid b1
  have HRS := hid hrs
  have HJN := hid hjn
  have hn62 : n ≤ 2 ^ 61 := by omega
  have H0 : Hid (RowS entE w1.heap.size w1 (.slice none 0 0) [] ∧ Below w1.heap.size w1 w1 ∧ T = [] ++ listE ((cutT l).drop (j + 0)).flatten fr ub) := ⟨RowS.nil _ _, Below.refl _ _, HFR.out.symm⟩
  clear hfr hrs hfb b1 hjn n2 HFR
  go_loopg [7, 9, 10, 11, 13, 18] n (fun g v _ _ _ _ i wr => ∃ (k : Nat) (acc : List EntV), k + g = n ∧ i = .int .i64 (k : Int) ∧ Hid (RowS entE w1.heap.size wr v acc ∧ Below w1.heap.size w1 wr ∧ T = acc ++ listE ((cutT l).drop (j + k)).flatten fr ub))
  case atStart => exact ⟨0, [], by omega, rfl, H0⟩
  case round =>
    obtain ⟨k, acc, hk, rfl, HK⟩ := hrel
    obtain ⟨v1, v2, v3, hv⟩ : ∃ v1 v2 v3, u7 = .slice v1 v2 v3 := by obtain ⟨a9, c9, hv, _⟩ := HK.out.1.rs; exact ⟨_, _, _, hv⟩
    subst hv
    by_cases hkl : k < n
    · have hkl' : (k : Int) < (n : Int) := by omega
      have hB0 : Below w.heap.size w wr := HB1.out.trans (HK.out.2.1.mono HB1.out.size)
      obtain ⟨cc, hcc⟩ : ∃ cc, (cutT l)[j + k]? = some cc := ⟨_, List.getElem?_eq_getElem (by have := HLEN.out; have := HJN.out; omega)⟩
      obtain ⟨q, q1, q2, q3, q4, q5, q6, q7, q8, q9, q10⟩ := tbl_block HT.out.1.ok HT.out.1.oke hcc
      have hbl := blk_few HT.out.1.ok (List.mem_of_getElem? hcc)
      have hT1 := HT.out.1.later hB0
      obtain ⟨wa, wc, ra, rc, t0, t1, -, -, -, s4, r5⟩ := hT1.facts
      have h5 := (tblE_ok HT.out.1.ok).2.2.2.2
      obtain ⟨b, off, la, lc, rfl, d0, d1, d2, sk⟩ := RS.row (HRS.out.later HK.out.2.1) (i := k) (r := ⟨(q, (blkB cc).length), lastK [] cc⟩) (by rw [List.getElem?_drop]; exact q1)
      simp only at d0 d1 d2
      have hcut := s4.cut q (q + (blkB cc).length) (by omega) (by omega)
      rw [show q + (blkB cc).length - q = (blkB cc).length by omega, q3] at hcut
      have hwc := s4.2.2.2.1
      generalize hLK : (lastK [] cc).length = lk at d2
      obtain ⟨W, hW⟩ : ∃ W, wr.alloc (.cells #[.int .i64 (q : Int), .int .i64 ((blkB cc).length : Int), .slice la lk lc] 86) = W := ⟨_, rfl⟩
      have bW : Below wr.heap.size wr W := by rw [← hW]; exact (Below.refl _ _).alloc (Nat.le_refl _) _
      have hblk : W.heap[wr.heap.size]? = some (.cells #[.int .i64 (q : Int), .int .i64 ((blkB cc).length : Int), .slice la lk lc] 86 (0, 0)) := by rw [← hW]; exact heap_alloc_new wr _
      have HOF : Hid (∀ wx, Calls Try.prog 47 #[.agg #[.int .i64 (q : Int), .int .i64 ((blkB cc).length : Int)], .slice wa (tblB l).length wc] wx fun e w' => e = .returned (.slice (cutA wa wc q) (blkB cc).length (wc - q)) ∧ Below wx.heap.size wx w') := fun wx => spof_t (by omega) (by omega) (by omega)
      have HDE : Hid (∀ wx, Below W.heap.size W wx → Calls Try.prog 54 #[.slice (cutA wa wc q) (blkB cc).length (wc - q)] wx fun e w' => ∃ a9 c9, e = .returned (.tuple #[.slice a9 cc.length c9, .int .i64 0]) ∧ (RSG entE (fun b => wx.heap.size ≤ b) w' a9 cc.length c9 cc ∧ ∀ b off, a9 = some ⟨b, off, none⟩ → wx.heap.size ≤ b) ∧ Below wx.heap.size wx w') := fun wx hb => (decG_k ((hcut.later bW).later hb) (by omega)).mono fun e w' ⟨v, he, ⟨a9, c9, hv, h1, h2⟩, h3⟩ => by
        rw [q4] at he
        rw [q5] at hv h1
        exact ⟨a9, c9, by rw [he, hv]; rfl, ⟨h1, h2⟩, h3⟩
      have HC : Hid (∀ wx, Below W.heap.size W wx → wx.cell? ⟨p, 0, none⟩ = some (.slice wa (tblB l).length wc) ∧ wx.cell? ⟨wr.heap.size, 0, none⟩ = some (.int .i64 (q : Int)) ∧ wx.cell? ⟨wr.heap.size, 1, none⟩ = some (.int .i64 ((blkB cc).length : Int))) := fun wx hb =>
        ⟨cell_later hb (cell_later bW t0), cell_later hb (by rw [cell_of hblk]; rfl), cell_later hb (by rw [cell_of hblk]; rfl)⟩
      have HROW : Hid (RowS entE w1.heap.size W (.slice v1 v2 v3) acc ∧ Below w1.heap.size w1 W ∧ ∀ g, (Value.slice v1 v2 v3).ownBlock = some g → g < W.heap.size) := ⟨HK.out.1.later bW, HK.out.2.1.trans (bW.mono HK.out.2.1.size), fun g hg => Nat.lt_of_lt_of_le (HK.out.1.own_lt hg).2 bW.size⟩
      have hdr : (cutT l).drop (j + k) = cc :: (cutT l).drop (j + (k + 1)) := by
        have hx := (List.getElem?_eq_some_iff.1 hcc)
        obtain ⟨hx1, hx2⟩ := hx
        rw [List.drop_eq_getElem_cons hx1, hx2]
        rfl
      have HT0 : Hid (T = acc ++ listE (cc ++ ((cutT l).drop (j + (k + 1))).flatten) fr ub ∧ ordE (cc ++ ((cutT l).drop (j + (k + 1))).flatten) ∧ cc ≠ []) := by
        refine ⟨?_, ?_, q7⟩
        · rw [HK.out.2.2, hdr]; rfl
        · have ho := HORD.out
          rw [← List.take_append_drop (j + k) (cutT l), List.flatten_append, hdr] at ho
          exact (List.pairwise_append.1 ho).2.1
      have HCL : Hid (cc.length ≤ 401) := by have := tkBL_len (blkB cc); rw [q5] at this; exact this
      generalize hRR : ((cutT l).drop (j + (k + 1))).flatten = R at HT0
      have HRR := hid hRR
      generalize cutA wa wc q = a1 at HOF HDE
      generalize wc - q = c1 at HOF HDE
      generalize (blkB cc).length = BN at HOF HDE HC d1 hblk hW
      generalize (tblB l).length = TL at HOF HC t0
      have hk62 : k ≤ 2 ^ 61 := by omega
      obtain ⟨GK, HG⟩ : ∃ g, Hid (g < gk ∧ k + 1 + g = n) := ⟨gk - 1, by omega, by omega⟩
      have HW := hid hW
      obtain ⟨e0, e1, e2⟩ := HC.out W (Below.refl _ _)
      clear hk hB0 hcc q1 q2 q3 q4 q5 q6 q7 q8 q9 q10 hbl hT1 t1 s4 r5 h5 sk hcut hwc bW hblk hLK hdr hRR HK H0
      have HBD : Hid (Below W.heap.size W W.drew) := (Below.refl _ _).drew
      clear t0
      go_upto_region 5 with fail
      clear d0 d1 d2
      go_region_held_law (fun w' => w'.cell? ⟨p, 0, none⟩ = some (.slice wa TL wc) ∧ w'.cell? ⟨wr.heap.size, 0, none⟩ = some (.int .i64 (q : Int)) ∧ w'.cell? ⟨wr.heap.size, 1, none⟩ = some (.int .i64 (BN : Int))) (first | with_reducible exact ⟨e0, e1, e2⟩ | with_reducible exact HC.out _ HBD.out | with_reducible exact HC.out _ B5 | with_reducible exact HC.out _ B6) (first | (go_at_call 47; refine (HOF.out _).mono ?_; rintro e w5 ⟨rfl, b5⟩; have B5 : Below W.heap.size W w5 := HBD.out.trans (b5.mono HBD.out.size)) | (go_at_call 54; refine (HDE.out _ B5).mono ?_; rintro e w6 ⟨a9, c9, rfl, hdec, b6⟩; have B6 := B5.trans (b6.mono B5.size)))
      all_goals
        have HS0 : Hid (LsT w1 a9 cc.length c9 cc w5.heap.size w6.heap.size w6 (.slice v1 v2 v3) acc) := by
          have hW1 := HROW.out.2.1.trans (B6.mono HROW.out.2.1.size)
          refine ⟨HROW.out.1.later B6, hdec.1.bound, fun b off e => ⟨hdec.2 b off e, ?_⟩, fun b e => ?_, hW1, Nat.le_refl _⟩
          · obtain ⟨o, hox⟩ : ∃ o, cc[0]? = some o := by
              cases hcc : cc with
              | nil => exact absurd hcc HT0.out.2.2
              | cons o r => exact ⟨o, rfl⟩
            obtain ⟨b', off', ka, kc, va, vc, e', d0, -⟩ := RSG.ent hdec.1 hox
            rw [e] at e'
            simp only [Option.some.injEq, Addr.mk.injEq, and_true] at e'
            have := World.block_lt_of_cell? w6 _ d0
            rw [e'.1]
            exact this
          · have h1 := HROW.out.2.2 b e
            have h2 := B5.size
            omega
        have HJ0 : Hid (LsT w1 a9 cc.length c9 cc w5.heap.size w6.heap.size w6 (.slice v1 v2 v3) acc ∧ T = acc ++ listE (cc.drop 0 ++ R) fr ub ∧ ordE (cc.drop 0 ++ R)) := ⟨HS0.out, HT0.out.1, HT0.out.2.1⟩
        have HB16 : Hid (Below w1.heap.size w1 w6) := HROW.out.2.1.trans (B6.mono HROW.out.2.1.size)
        have HCC0 : Hid (LsT w1 a9 cc.length c9 cc w5.heap.size w6.heap.size w6 (.slice v1 v2 v3) acc) := HS0.out
        clear hdec b5 b6 B5 B6 e0 e1 e2 HROW HOF HDE HC HBD HT0 HS0 HCC0
        generalize hB1 : w5.heap.size = B1 at HJ0
        generalize hB2 : w6.heap.size = B2 at HJ0
        generalize hNL : cc.length = NL at HJ0 ⊢
        have HNL := hid hNL
        have HBB : Hid (w6.heap.size = B2) := hB2
        have hNL62 : NL ≤ 2 ^ 61 := by have := HCL.out; omega
        clear hB1 hB2 hNL
        go_wp2_with fail
        go_loopg [7, 13, 35] NL (fun g v _ i wi => ∃ (mm : Nat) (acc2 : List EntV), mm + g = NL ∧ i = .int .i64 (mm : Int) ∧ Hid (LsT w1 a9 NL c9 cc B1 B2 wi v acc2 ∧ T = acc2 ++ listE (cc.drop mm ++ R) fr ub ∧ ordE (cc.drop mm ++ R)) ∧ Hid (Below w1.heap.size w1 wi))
        case atStart => exact ⟨0, acc, by omega, rfl, HJ0, HB16⟩
        case round =>
          obtain ⟨mm, acc2, hmg, rfl, HJ, HBW⟩ := hrel
          obtain ⟨v4, v5, v6, hv4⟩ : ∃ v1 v2 v3, u7 = .slice v1 v2 v3 := by obtain ⟨a9, c9, hv, _⟩ := HJ.out.1.row.rs; exact ⟨_, _, _, hv⟩
          subst hv4
          by_cases hml : mm < NL
          · have hml' : (mm : Int) < (NL : Int) := by omega
            have hmx : mm < cc.length := by have := HNL.out; omega
            have hox := List.getElem?_eq_getElem hmx
            obtain ⟨b', off', ka, kc, va, vc, rfl, d0, d1, d2, d3, d4, hem, sk, heg⟩ := RSG.ent HJ.out.1.dec hox
            have hdm : cc.drop mm = cc[mm] :: cc.drop (mm + 1) := List.drop_eq_getElem_cons hmx
            have HTJ : Hid (T = acc2 ++ listE (cc[mm] :: (cc.drop (mm + 1) ++ R)) fr ub ∧ ordE (cc[mm] :: (cc.drop (mm + 1) ++ R))) := by
              have h1 := HJ.out.2.1
              have h2 := HJ.out.2.2
              rw [hdm] at h1 h2
              exact ⟨h1, h2⟩
            generalize cc[mm] = o at d0 d1 d2 d3 d4 hem sk heg HTJ
            obtain ⟨W1, hW1⟩ : ∃ W, wr.alloc (.cells #[.slice ka o.key.length kc, .int .i64 o.seq, .bool o.gone, .int .i64 o.till, .slice va o.val.length vc] 34) = W := ⟨_, rfl⟩
            have b1 : Below wr.heap.size wr W1 := by rw [← hW1]; exact (Below.refl _ _).alloc (Nat.le_refl _) _
            obtain ⟨y0, y1, y2, y3, y4⟩ := box_cells wr (.slice ka o.key.length kc) (.int .i64 o.seq) (.bool o.gone) (.int .i64 o.till) (.slice va o.val.length vc) 34 (wx := W1) (by rw [hW1]; exact Below.refl _ _)
            have hbw := HB1.out.trans ((HBW.out.trans (b1.mono HBW.out.size)).mono HB1.out.size)
            have hC1 := compare_l (sk.later b1) (HT.out.2.2.later hbw)
            have hC2 := compare_l (sk.later b1) (HT.out.2.1.later hbw)
            have HL1 := hid (HJ.out.1.later b1)
            have HW1 := hid (HBW.out.trans (b1.mono HBW.out.size))
            have HEM := hid (El.later (E := entE) hem b1)
            have HEG := hid heg
            have HIN : Hid (inE fr ub o = decide (0 ≤ cmp o.key fr ∧ (tl = 0 ∨ cmp o.key ub < 0))) := by unfold inE; rw [htl]; rfl
            have HEN : Hid (tl ≠ 0 → 0 ≤ cmp o.key ub → T = acc2) := fun h1 h2 => by
              rw [HTJ.out.1, listE_end HTJ.out.2 (by rw [htl]; exact h1) h2, List.append_nil]
            have HNX : Hid (ordE (cc.drop (mm + 1) ++ R) ∧ (inE fr ub o = true → T = (acc2 ++ [o]) ++ listE (cc.drop (mm + 1) ++ R) fr ub) ∧ (inE fr ub o = false → T = acc2 ++ listE (cc.drop (mm + 1) ++ R) fr ub)) := ⟨(List.pairwise_cons.1 HTJ.out.2).2, fun h => by rw [HTJ.out.1, listE_in h, List.append_assoc]; rfl, fun h => by rw [HTJ.out.1, listE_out h]⟩
            obtain ⟨C1, hc1⟩ : ∃ c, c = cmp o.key ub := ⟨_, rfl⟩
            obtain ⟨C2, hc2⟩ : ∃ c, c = cmp o.key fr := ⟨_, rfl⟩
            rw [← hc1] at hC1 HIN HEN
            rw [← hc2] at hC2 HIN
            have HAL : Hid (acc2.length ≤ 4000) := by
              have h1 := HTL.out
              have h2 := congrArg List.length HTJ.out.1
              rw [List.length_append] at h2
              show _ ≤ _
              omega
            have hmm62 : mm ≤ 2 ^ 61 := by omega
            obtain ⟨GM, HGM⟩ : ∃ g, Hid (g < gk ∧ mm + 1 + g = NL) := ⟨gk - 1, by omega, by omega⟩
            have b2 : Below W1.heap.size W1 (W1.alloc (.cells #[.slice ka o.key.length kc, .int .i64 o.seq, .bool o.gone, .int .i64 o.till, .slice va o.val.length vc] 34)) := (Below.refl _ _).alloc (Nat.le_refl _) _
            have HADD : Hid (RSu entE (W1.alloc (.cells #[.slice ka o.key.length kc, .int .i64 o.seq, .bool o.gone, .int .i64 o.till, .slice va o.val.length vc] 34)) (some ⟨W1.heap.size, 0, none⟩) 1 1 [.slice ka o.key.length kc, .int .i64 o.seq, .bool o.gone, .int .i64 o.till, .slice va o.val.length vc] [o] ∧ LsT w1 (some ⟨b', off', none⟩) NL c9 cc B1 B2 (W1.alloc (.cells #[.slice ka o.key.length kc, .int .i64 o.seq, .bool o.gone, .int .i64 o.till, .slice va o.val.length vc] 34)) (.slice v4 v5 v6) acc2 ∧ Below w1.heap.size w1 (W1.alloc (.cells #[.slice ka o.key.length kc, .int .i64 o.seq, .bool o.gone, .int .i64 o.till, .slice va o.val.length vc] 34)) ∧ (∀ u ∈ [Value.slice ka o.key.length kc, .int .i64 o.seq, .bool o.gone, .int .i64 o.till, .slice va o.val.length vc], ∀ b, Refs u b → (Value.slice v4 v5 v6).ownBlock ≠ some b)) :=
              ⟨rs_one (E := entE) (w := W1) HEM.out, HL1.out.later b2, HW1.out.trans (b2.mono HW1.out.size), fun u hu b hr e => by
                have h1 := heg u hu b hr
                have h2 := HL1.out.own b e
                omega⟩
            clear hc1 hc2 hem sk heg hbw b1 b2 HTJ hdm hox hmx hmg HJ HBW HJ0
            generalize o.key.length = kl at d0 hW1 y0 hC1 hC2 HADD HEM HEG
            generalize o.val.length = vl at d4 hW1 y4 HADD HEM HEG
            generalize o.seq = sq at d1 hW1 y1 HADD HEM HEG
            generalize o.gone = gn at d2 hW1 y2 HADD HEM HEG
            generalize o.till = ti at d3 hW1 y3 HADD HEM HEG
            clear HEM HEG
            by_cases q1 : tl = 0
            · have q1' : ¬ ((0 : Int) < (tl : Int)) := by omega
              by_cases q2 : C2 < 0
              · have HIF : Hid (inE fr ub o = false) := by show _ = _; rw [HIN.out]; simp; omega
                have HTN := hid (HNX.out.2.2 HIF.out)
                clear HIN HEN q1
                go_wp2_with (go_at_call 55; refine hC2.mono ?_; rintro e w4 ⟨rfl, hw⟩; obtain rfl := hw.symm)
                go_roundg GM
                case measure => exact HGM.out.1
                case rel => exact ⟨mm + 1, acc2, HGM.out.2, by go_num, ⟨HL1.out, HTN.out, HNX.out.1⟩, HW1⟩
              · have q2' : (0 : Int) ≤ C2 := by omega
                have HIF : Hid (inE fr ub o = true) := by show _ = _; rw [HIN.out]; simp [q2', q1]
                have HTN := hid (HNX.out.2.1 HIF.out)
                clear HIN HEN q1
                go_wp2_with (first | (go_at_call 55; refine hC2.mono ?_; rintro e w4 ⟨rfl, hw⟩; obtain rfl := hw.symm) | (at_builtin; refine wpList_appS entE (t := 22) (z := .agg #[.slice none 0 0, .int .i64 0, .bool false, .int .i64 0, .slice none 0 0]) (bytes := 72) (B := w1.heap.size) Try.underlying22 entE_info rfl (by decide) rfl (.tmp 55) (.tmp 57) rfl rfl HADD.out.2.1.row rfl HADD.out.1 HADD.out.2.2.2 (by have := HAL.out; omega) (by have := HAL.out; omega) HADD.out.2.1.bel.size ?_; intro v9 w9 r9 g9 m9; have HS9 := hid (HADD.out.2.1.step r9 g9 m9); have HB9 : Hid (Below w1.heap.size w1 w9) := HS9.out.bel))
                go_roundg GM
                case measure => exact HGM.out.1
                case rel => exact ⟨mm + 1, acc2 ++ [o], HGM.out.2, by go_num, ⟨HS9.out, HTN.out, HNX.out.1⟩, HB9⟩
            · have q1' : (0 : Int) < (tl : Int) := by omega
              by_cases q3 : C1 < 0
              · by_cases q2 : C2 < 0
                · have HIF : Hid (inE fr ub o = false) := by show _ = _; rw [HIN.out]; simp; omega
                  have HTN := hid (HNX.out.2.2 HIF.out)
                  clear HIN HEN q1
                  go_wp2_with (go_at_call 55; first | (refine hC1.mono ?_; rintro e w4 ⟨rfl, hw⟩; obtain rfl := hw.symm) | (refine hC2.mono ?_; rintro e w4 ⟨rfl, hw⟩; obtain rfl := hw.symm))
                  go_roundg GM
                  case measure => exact HGM.out.1
                  case rel => exact ⟨mm + 1, acc2, HGM.out.2, by go_num, ⟨HL1.out, HTN.out, HNX.out.1⟩, HW1⟩
                · have q2' : (0 : Int) ≤ C2 := by omega
                  have HIF : Hid (inE fr ub o = true) := by show _ = _; rw [HIN.out]; simp [q2', q3]
                  have HTN := hid (HNX.out.2.1 HIF.out)
                  clear HIN HEN q1
                  go_wp2_with (first | (go_at_call 55; first | (refine hC1.mono ?_; rintro e w4 ⟨rfl, hw⟩; obtain rfl := hw.symm) | (refine hC2.mono ?_; rintro e w4 ⟨rfl, hw⟩; obtain rfl := hw.symm)) | (at_builtin; refine wpList_appS entE (t := 22) (z := .agg #[.slice none 0 0, .int .i64 0, .bool false, .int .i64 0, .slice none 0 0]) (bytes := 72) (B := w1.heap.size) Try.underlying22 entE_info rfl (by decide) rfl (.tmp 55) (.tmp 57) rfl rfl HADD.out.2.1.row rfl HADD.out.1 HADD.out.2.2.2 (by have := HAL.out; omega) (by have := HAL.out; omega) HADD.out.2.1.bel.size ?_; intro v9 w9 r9 g9 m9; have HS9 := hid (HADD.out.2.1.step r9 g9 m9); have HB9 : Hid (Below w1.heap.size w1 w9) := HS9.out.bel))
                  go_roundg GM
                  case measure => exact HGM.out.1
                  case rel => exact ⟨mm + 1, acc2 ++ [o], HGM.out.2, by go_num, ⟨HS9.out, HTN.out, HNX.out.1⟩, HB9⟩
              · have q3' : (0 : Int) ≤ C1 := by omega
                have HEND := hid (HEN.out q1 q3')
                clear HIN HEN q1
                go_wp2_with (go_at_call 55; refine hC1.mono ?_; rintro e w4 ⟨rfl, hw⟩; obtain rfl := hw.symm)
                exact bodyPost_ret (v := .slice v4 v5 v6) (by simp [results, Try.results21, go_sem]) rfl ⟨_, rfl, by rw [HEND.out]; exact RSV.ofRow HL1.out.row, HB1.out.trans (HL1.out.bel.mono HB1.out.size)⟩
          · have hml' : (NL : Int) ≤ (mm : Int) := by omega
            have HE2 : Hid (T = acc2 ++ listE R fr ub) := by
              have h1 := HJ.out.2.1
              rw [List.drop_eq_nil_of_le (by have := HNL.out; omega), List.nil_append] at h1
              exact h1
            have HJR := hid HJ.out.1
            clear hmg hml HJ HJ0
            go_wp2_with fail
            go_roundg GK
            case measure => exact HG.out.1
            case rel => exact ⟨k + 1, acc2, HG.out.2, by go_num, HJR.out.row, HBW.out, by rw [HRR.out]; exact HE2.out⟩
    · have hkl' : (n : Int) ≤ (k : Int) := by omega
      have HE : Hid (T = acc) := by
        show _ = _
        rw [HK.out.2.2, List.drop_eq_nil_of_le (by have := HLEN.out; have := HJN.out; omega)]
        simp [listE]
      have HB := hid (HB1.out.trans (HK.out.2.1.mono HB1.out.size))
      have HR := hid HK.out.1
      clear hk hkl HK
      go_wp2_with fail
      exact bodyPost_ret (v := .slice v1 v2 v3) (by simp [results, Try.results21, go_sem]) rfl ⟨_, rfl, by rw [HE.out]; exact RSV.ofRow HR.out, HB.out⟩
end Go.Proofs.Ytimpaindbbjieaa

/- The landed table: all that is asked of it. -/
namespace Go.Proofs.Ytimpaindbbjieaa
open Go.RowKit
set_option linter.unusedVariables false
set_option linter.unusedSimpArgs false

set_option maxRecDepth 100000 in
theorem all_t {w : World} {p : Nat} {l : List EntV} (hT : RTb w p l) : Calls Try.prog 26 #[.pointer (some ⟨p, 0, none⟩)] w fun r w' => ∃ v, r = .returned v ∧ RSV entE w' v l ∧ Below w.heap.size w w' := by
  have hf := list_t hT (Sl.nil w) (Sl.nil w)
  rw [listE_all] at hf
  clear hT
  go_enter Try.func26, Try.ntmps26
  go_wp2_with (go_at_call 21; refine hf.mono ?_; rintro e w1 ⟨v1, rfl, ⟨a1, c1, rfl, hr⟩, b1⟩)
  exact bodyPost_ret (v := .slice a1 l.length c1) (by simp [results, Try.results26, go_sem]) rfl ⟨_, rfl, ⟨a1, c1, rfl, hr⟩, b1⟩
/-- -/
def theT : PT where
  R := RTb
  later := fun h hb => h.later hb
  build := fun {w ao len cap l} h hl _ => build_t h (by omega)
  opn := fun h hl => opnT h hl
  len := fun h => lenA_t h
  least := fun h => least_t h
  most := fun h => most_t h
  get := fun h hk hs => get_t h hk hs
  may := fun h hk => may_t h hk
  list := fun h hf ht => list_t h hf ht
  all := fun h => all_t h
end Go.Proofs.Ytimpaindbbjieaa
