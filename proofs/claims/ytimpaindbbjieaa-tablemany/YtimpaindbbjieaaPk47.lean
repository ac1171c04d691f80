import Derived.Deep.RegionHeldLaw
import Derived.Test.YtimpaindbbjieaaPk24
import Derived.Test.YtimpaindbbjieaaPk41
import Derived.Test.YtimpaindbbjieaaPk43
/- The landed table: where a key and a number stand. -/
namespace Go.Proofs.Ytimpaindbbjieaa
open Go.RowKit
set_option linter.unusedVariables false
set_option linter.unusedSimpArgs false

theorem elemTr : Try.prog.elem 71 = 86 := by kernel_rfl
theorem underTr : Try.prog.underlying 71 = some (.slice (Try.prog.elem 71)) := by rw [elemTr]; exact Try.underlying71
theorem run_fromTr (w : World) (ao : Option Addr) (len cap i : Nat) (h1 : i ≤ len) (h2 : len ≤ cap) : (Instr.slice 71 (.slice ao len cap) (some (.int .i64 (i : Int))) none none).run Try.prog w = .ok (.slice (cutS ao cap i 3) (len - i) (cap - i)) w := by
  rw [run_slice_l (P := Try.prog) (w := w) 71 ao len cap underTr .i64 (i : Int) (by omega) (by omega), elemTr, Try.sizeOf86]
  simp only [Result.andThen, Int.toNat_natCast]
  rw [sliced_cutS _ _ _ _ _ (by omega)]
theorem RS.fromTr {w : World} {ao : Option Addr} {len cap : Nat} {l : List RowV} (h : RS rowE w ao len cap l) (i : Nat) (hi : i ≤ len) : RS rowE w (cutS ao cap i 3) (len - i) (cap - i) (l.drop i) := by
  have := (RSG.any h).cut (by decide) i len hi (Nat.le_refl _)
  have e : (l.drop i).take (len - i) = l.drop i := List.take_of_length_le (by rw [List.length_drop, h.len.1]; exact Nat.le_refl _)
  rw [e] at this
  exact this.rs
/-- The search by halves, of any function of three kept values. -/
theorem srch_t {w : World} {n : Nat} (hn : n ≤ 1000000) {p0 p1 p2 : Value} {F : Nat → Bool}
    (HF0 : ∀ wx, Below w.heap.size w wx → ∀ i, i < n → Calls Try.prog 79 #[.int .i64 (i : Int), p0, p1, p2] wx fun e w' => e = .returned (.bool (F i)) ∧ Below wx.heap.size wx w') :
    Calls Try.prog 78 #[.int .i64 (n : Int), .func (.func 79) #[] #[p0, p1, p2]] w fun e w' => ∃ r : Nat, r ≤ n ∧ e = .returned (.int .i64 (r : Int)) ∧ (r = 0 ∨ F (r - 1) = false) ∧ (r = n ∨ F r = true) ∧ Below w.heap.size w w' := by
  have HF := hid HF0
  clear HF0
  go_enter Try.func78, Try.ntmps78
  go_wp2_with fail
  go_loopg [5, 6, 7] n (fun g i j _ wr => ∃ a b : Nat, b = a + g ∧ b ≤ n ∧ i = .int .i64 (a : Int) ∧ j = .int .i64 (b : Int) ∧ Hid ((a = 0 ∨ F (a - 1) = false) ∧ (b = n ∨ F b = true) ∧ Below w.heap.size w wr))
  case atStart => exact ⟨0, n, by omega, Nat.le_refl _, rfl, rfl, .inl rfl, .inl rfl, Below.refl _ _⟩
  case round =>
    obtain ⟨a, b, hg, hbn, rfl, rfl, HK⟩ := hrel
    by_cases hab : a < b
    · have hab' : (a : Int) < (b : Int) := by omega
      obtain ⟨m, hm⟩ : ∃ m, m = (a + b) / 2 := ⟨_, rfl⟩
      have hdiv : ((a : Int) + (b : Int)) / 2 = (m : Int) := by omega
      have HM : Hid (a ≤ m ∧ m < b ∧ m < n) := ⟨by omega, by omega, by omega⟩
      have hm62 : m ≤ 2 ^ 61 := by omega
      have ha62 : a ≤ 2 ^ 61 := by omega
      have hb62 : b ≤ 2 ^ 61 := by omega
      have HG : Hid (b = a + gk ∧ b ≤ n) := ⟨hg, hbn⟩
      have hc := HF.out wr HK.out.2.2 m HM.out.2.2
      have HB := hid HK.out
      clear hm hg hbn hab HK
      cases hF : F m with
      | false =>
        rw [hF] at hc
        go_wp2_with (go_at_call 79; refine hc.mono ?_; rintro e w1 ⟨rfl, b1⟩)
        go_roundg (b - (m + 1))
        case measure => have := HM.out; have := HG.out; omega
        case rel => exact ⟨m + 1, b, by have := HM.out; omega, HG.out.2, by go_num, rfl, .inr (by rw [Nat.add_sub_cancel]; exact hF), HB.out.2.1, HB.out.2.2.trans (b1.mono HB.out.2.2.size)⟩
      | true =>
        rw [hF] at hc
        go_wp2_with (go_at_call 79; refine hc.mono ?_; rintro e w1 ⟨rfl, b1⟩)
        go_roundg (m - a)
        case measure => have := HM.out; have := HG.out; omega
        case rel => exact ⟨a, m, by have := HM.out; omega, by have := HM.out; omega, rfl, rfl, HB.out.1, .inr hF, HB.out.2.2.trans (b1.mono HB.out.2.2.size)⟩
    · have hab' : ¬ ((a : Int) < (b : Int)) := by omega
      have HA : Hid (a ≤ n ∧ (a = n ∨ F a = true)) := by
        refine ⟨by omega, ?_⟩
        have : a = b := by omega
        rw [this]
        exact HK.out.2.1
      clear hg hab
      go_wp2_with fail
      exact bodyPost_ret (v := .int .i64 (a : Int)) (by simp [results, Try.results78, go_sem]) rfl ⟨a, HA.out.1, rfl, HK.out.1, HA.out.2, HK.out.2.2⟩
end Go.Proofs.Ytimpaindbbjieaa

/- The landed table: what the search asks of a block. -/
namespace Go.Proofs.Ytimpaindbbjieaa
open Go.RowKit
set_option linter.unusedVariables false
set_option linter.unusedSimpArgs false

/-- What Seek tells, as five cells and a bool. -/
theorem seek_cells {w : World} {ao ka : Option Addr} {len cap kl kc : Nat} {d key : List Int} {s : Int} (h : Sl w ao len cap d) (hl : len ≤ 2000000) (hk : Sl w ka kl kc key) (hs : In64 s) :
    Calls Try.prog 77 #[.slice ao len cap, .slice ka kl kc, .int .i64 s] w fun r w' => ∃ (a0 : Option Addr) (n0 c0 : Nat) (s1 : Int) (g2 : Bool) (t3 : Int) (a4 : Option Addr) (n4 c4 : Nat) (f : Bool), r = .returned (.tuple #[.agg #[.slice a0 n0 c0, .int .i64 s1, .bool g2, .int .i64 t3, .slice a4 n4 c4], .bool f]) ∧ f = (skE (tkB d) key s).isSome ∧ (∃ B, GotE B (skE (tkB d) key s) r w') ∧ Below w.heap.size w w' := by
  refine (sek_k h hl hk hs).mono ?_
  rintro r w' ⟨⟨B, hG⟩, hb⟩
  have hG0 := hG
  rcases hG with ⟨h1, rfl⟩ | ⟨x, ka', kc', va, vc, h1, rfl, h3, h4⟩
  · exact ⟨_, _, _, _, _, _, _, _, _, false, rfl, by rw [h1]; rfl, ⟨B, hG0⟩, hb⟩
  · exact ⟨_, _, _, _, _, _, _, _, _, true, rfl, by rw [h1]; rfl, ⟨B, hG0⟩, hb⟩
set_option maxHeartbeats 4000000 in
set_option maxRecDepth 100000 in
theorem cloO_t {w : World} {b0 b1 b2 p i : Nat} {l : List EntV} {ka : Option Addr} {kl kc : Nat} {key : List Int} {s : Int} {c : List EntV} (hT : RTb w p l) (hk : Sl w ka kl kc key) (hc : (cutT l)[i]? = some c) (hz : cmp (lastK [] c) key ≠ 0)
    (c0 : w.cell? ⟨b0, 0, none⟩ = some (.pointer (some ⟨p, 0, none⟩))) (c1 : w.cell? ⟨b1, 0, none⟩ = some (.slice ka kl kc)) (c2 : w.cell? ⟨b2, 0, none⟩ = some (.int .i64 s)) :
    Calls Try.prog 79 #[.int .i64 (i : Int), .pointer (some ⟨b0, 0, none⟩), .pointer (some ⟨b1, 0, none⟩), .pointer (some ⟨b2, 0, none⟩)] w fun e w' => e = .returned (.bool (decide (0 < cmp (lastK [] c) key))) ∧ Below w.heap.size w w' := by
  obtain ⟨wa, wc, ra, rc, t0, t1, -, -, -, s4, r5⟩ := hT.facts
  obtain ⟨q, q1, q2, q3, q4, q5, q6, q7, q8, q9, q10⟩ := tbl_block hT.ok hT.oke hc
  obtain ⟨n1, n2⟩ := rowsT_some hT.ok
  obtain ⟨b, off, la, lc, rfl, d0, d1, d2, sk⟩ := RS.row r5 q1
  replace d2 : w.cell? ⟨b, off + i * 3 + 2, none⟩ = some (.slice la (lastK [] c).length lc) := d2
  replace sk : Sl w la (lastK [] c).length lc (lastK [] c) := sk
  have hil : i < (rowsT l).length := (List.getElem?_eq_some_iff.1 q1).1
  have HCM : Hid (∀ m, Calls Try.prog 55 #[.slice la (lastK [] c).length lc, .slice ka kl kc] (w.drewN m) fun e w' => e = .returned (.int .i64 (cmp (lastK [] c) key)) ∧ w' = w.drewN m) := fun m => compare_l (sk.drewN m) (hk.drewN m)
  have hv := cmp_vals (lastK [] c) key
  generalize cmp (lastK [] c) key = V at HCM hv hz ⊢
  generalize (lastK [] c).length = ll at HCM d2
  generalize (rowsT l).length = NL at t1 hil n2
  have hi1 : (i : Int) < (NL : Int) := by omega
  have hi62 : i ≤ 2 ^ 60 := by omega
  clear hT hk hc s4 r5 q1 q2 q3 q4 q5 q6 q7 q8 q9 q10 n1 d0 d1 sk t0 c2
  rcases hv with rfl | rfl | rfl
  · go_enter Try.func79, Try.ntmps79
    go_upto_region 1 with fail
    go_quiet ((go_at_call 55; exact Calls.quiet_of_same (HCM.out _)))
    go_wp2_with fail
    exact bodyPost_ret (v := .bool false) (by simp [results, Try.results79, go_sem]) rfl ⟨by simp, below_drewN (Below.refl _ _) _⟩
  · exact absurd rfl hz
  · go_enter Try.func79, Try.ntmps79
    go_upto_region 1 with fail
    go_quiet ((go_at_call 55; exact Calls.quiet_of_same (HCM.out _)))
    go_wp2_with fail
    exact bodyPost_ret (v := .bool true) (by simp [results, Try.results79, go_sem]) rfl ⟨by simp, below_drewN (Below.refl _ _) _⟩
set_option maxHeartbeats 8000000 in
set_option maxRecDepth 100000 in
theorem cloZ_t {w : World} {b0 b1 b2 p i : Nat} {l : List EntV} {ka : Option Addr} {kl kc : Nat} {key : List Int} {s : Int} {c : List EntV} (hT : RTb w p l) (hk : Sl w ka kl kc key) (hs : In64 s) (hc : (cutT l)[i]? = some c) (hz : cmp (lastK [] c) key = 0)
    (c0 : w.cell? ⟨b0, 0, none⟩ = some (.pointer (some ⟨p, 0, none⟩))) (c1 : w.cell? ⟨b1, 0, none⟩ = some (.slice ka kl kc)) (c2 : w.cell? ⟨b2, 0, none⟩ = some (.int .i64 s)) :
    Calls Try.prog 79 #[.int .i64 (i : Int), .pointer (some ⟨b0, 0, none⟩), .pointer (some ⟨b1, 0, none⟩), .pointer (some ⟨b2, 0, none⟩)] w fun e w' => e = .returned (.bool (skE c key s).isSome) ∧ Below w.heap.size w w' := by
  obtain ⟨wa, wc, ra, rc, t0, t1, -, -, -, s4, r5⟩ := hT.facts
  obtain ⟨q, q1, q2, q3, q4, q5, q6, q7, q8, q9, q10⟩ := tbl_block hT.ok hT.oke hc
  obtain ⟨n1, n2⟩ := rowsT_some hT.ok
  have h5 := (tblE_ok hT.ok).2.2.2.2
  obtain ⟨b, off, la, lc, rfl, d0, d1, d2, sk⟩ := RS.row r5 q1
  replace d0 : w.cell? ⟨b, off + i * 3, none⟩ = some (.int .i64 (q : Int)) := d0
  replace d1 : w.cell? ⟨b, off + i * 3 + 1, none⟩ = some (.int .i64 ((blkB c).length : Int)) := d1
  replace d2 : w.cell? ⟨b, off + i * 3 + 2, none⟩ = some (.slice la (lastK [] c).length lc) := d2
  replace sk : Sl w la (lastK [] c).length lc (lastK [] c) := sk
  have hil : i < (rowsT l).length := (List.getElem?_eq_some_iff.1 q1).1
  have hbl : (blkB c).length ≤ 2000000 := by
    have hm := cutT_blk (tblE_ok hT.ok).2.2.1 (tblE_ok hT.ok).2.2.2.1 c (List.mem_of_getElem? hc)
    have h6 := cutB_few l 0 [] (tblE_ok hT.ok).2.2.1 (by simp) (by omega) c (List.mem_of_getElem? hc)
    have h7 := blk_some (M := 2700) (c := c) (fun e he => ⟨(tblE_ok hT.ok).2.2.1 e (hm.2 e he), by have := mayE_ok ((tblE_ok hT.ok).2.2.1 e (hm.2 e he)); omega⟩)
    omega
  have hcut := s4.cut q (q + (blkB c).length) (by omega) (by omega)
  rw [show q + (blkB c).length - q = (blkB c).length by omega, q3] at hcut
  have hwc := s4.2.2.2.1
  have HCM : Hid (∀ m, Calls Try.prog 55 #[.slice la (lastK [] c).length lc, .slice ka kl kc] (w.drewN m) fun e w' => e = .returned (.int .i64 0) ∧ w' = w.drewN m) := fun m => by have := compare_l (sk.drewN m) (hk.drewN m); rw [hz] at this; exact this
  have HSK : Hid (∀ wx, Below w.heap.size w wx → Calls Try.prog 77 #[.slice (cutA wa wc q) (blkB c).length (wc - q), .slice ka kl kc, .int .i64 s] wx fun r w' => ∃ (a0 : Option Addr) (n0 c0 : Nat) (s1 : Int) (g2 : Bool) (t3 : Int) (a4 : Option Addr) (n4 c4 : Nat), r = .returned (.tuple #[.agg #[.slice a0 n0 c0, .int .i64 s1, .bool g2, .int .i64 t3, .slice a4 n4 c4], .bool (skE c key s).isSome]) ∧ Below wx.heap.size wx w') := fun wx hb => (seek_cells (hcut.later hb) hbl (hk.later hb) hs).mono fun r w' ⟨a0, n0, c0, s1, g2, t3, a4, n4, c4, f, h1, h2, _, h4⟩ => ⟨a0, n0, c0, s1, g2, t3, a4, n4, c4, by rw [h1, h2, q6], h4⟩
  have HOF : Hid (∀ wx, Calls Try.prog 47 #[.agg #[.int .i64 (q : Int), .int .i64 ((blkB c).length : Int)], .slice wa (tblB l).length wc] wx fun e w' => e = .returned (.slice (cutA wa wc q) (blkB c).length (wc - q)) ∧ Below wx.heap.size wx w') := fun wx => spof_t (by omega) (by omega) (by omega)
  have HC : Hid (∀ wx, Below w.heap.size w wx → wx.cell? ⟨b0, 0, none⟩ = some (.pointer (some ⟨p, 0, none⟩)) ∧ wx.cell? ⟨b1, 0, none⟩ = some (.slice ka kl kc) ∧ wx.cell? ⟨b2, 0, none⟩ = some (.int .i64 s) ∧ wx.cell? ⟨p, 0, none⟩ = some (.slice wa (tblB l).length wc) ∧ wx.cell? ⟨p, 1, none⟩ = some (.slice (some ⟨b, off, none⟩) (rowsT l).length rc) ∧ wx.cell? ⟨b, off + i * 3, none⟩ = some (.int .i64 (q : Int)) ∧ wx.cell? ⟨b, off + i * 3 + 1, none⟩ = some (.int .i64 ((blkB c).length : Int))) := fun wx hb =>
    ⟨cell_later hb c0, cell_later hb c1, cell_later hb c2, cell_later hb t0, cell_later hb t1, cell_later hb d0, cell_later hb d1⟩
  generalize (skE c key s).isSome = F at HSK ⊢
  generalize cutA wa wc q = a1 at HSK HOF
  generalize wc - q = c9 at HSK HOF
  generalize (blkB c).length = BN at HSK HOF HC d1
  generalize (tblB l).length = TL at HOF HC t0
  generalize (lastK [] c).length = ll at HCM d2
  generalize (rowsT l).length = NL at t1 hil n2 HC
  have hi1 : (i : Int) < (NL : Int) := by omega
  have hi62 : i ≤ 2 ^ 60 := by omega
  have HW0 : Hid (∀ m, Below w.heap.size w (w.drewN m)) := fun m => below_drewN (Below.refl _ _) m
  clear hT hk hc s4 r5 q1 q2 q3 q4 q5 q6 q7 q8 q9 q10 n1 sk hz h5 hbl hcut hwc hs
  go_enter Try.func79, Try.ntmps79
  go_upto_region 1 with fail
  go_quiet ((go_at_call 55; exact Calls.quiet_of_same (HCM.out _)))
  go_upto_region 4 with fail
  have HB0 := hid (HW0.out nq)
  generalize w.drewN nq = w0 at HB0 ⊢
  obtain ⟨e0, e1, e2, e3, e4, e5, e6⟩ := HC.out w0 HB0.out
  have HBD : Hid (Below w.heap.size w w0.drew) := HB0.out.drew
  have HBA : Hid (Below w.heap.size w (w0.alloc (.cells #[.slice none 0 0, .int .i64 0, .bool false, .int .i64 0, .slice none 0 0] 34))) := HB0.out.alloc HB0.out.size _
  have HBE : Hid (Below w.heap.size w (w0.alloc (.cells #[.slice none 0 0, .int .i64 0, .bool false, .int .i64 0, .slice none 0 0] 34)).drew) := HBA.out.drew
  clear c0 c1 c2 t0 t1 d0 d1 d2 HCM HW0
  have HZ : Hid (∀ w2, Below (w0.alloc (.cells #[.slice none 0 0, .int .i64 0, .bool false, .int .i64 0, .slice none 0 0] 34)).drew.heap.size (w0.alloc (.cells #[.slice none 0 0, .int .i64 0, .bool false, .int .i64 0, .slice none 0 0] 34)).drew w2 → w2.heap[w0.heap.size]? = some (.cells #[.slice none 0 0, .int .i64 0, .bool false, .int .i64 0, .slice none 0 0] 34 (0, 0))) := fun w2 hb => by
    have hs : w0.heap.size < (w0.alloc (.cells #[.slice none 0 0, .int .i64 0, .bool false, .int .i64 0, .slice none 0 0] 34)).heap.size := by simp
    have h1 : w2.heap[w0.heap.size]? = (w0.alloc (.cells #[.slice none 0 0, .int .i64 0, .bool false, .int .i64 0, .slice none 0 0] 34)).heap[w0.heap.size]? := hb.block _ hs
    rw [h1]
    exact heap_alloc_new w0 _
  go_region_held_law (fun w' => w'.cell? ⟨b0, 0, none⟩ = some (.pointer (some ⟨p, 0, none⟩)) ∧ w'.cell? ⟨b1, 0, none⟩ = some (.slice ka kl kc) ∧ w'.cell? ⟨b2, 0, none⟩ = some (.int .i64 s) ∧ w'.cell? ⟨p, 0, none⟩ = some (.slice wa TL wc) ∧ w'.cell? ⟨p, 1, none⟩ = some (.slice (some ⟨b, off, none⟩) NL rc) ∧ w'.cell? ⟨b, off + i * 3, none⟩ = some (.int .i64 (q : Int)) ∧ w'.cell? ⟨b, off + i * 3 + 1, none⟩ = some (.int .i64 (BN : Int))) (first | with_reducible exact ⟨e0, e1, e2, e3, e4, e5, e6⟩ | with_reducible exact HC.out _ HBD.out | with_reducible exact HC.out _ HBE.out | with_reducible exact HC.out _ HBA.out | with_reducible exact HC.out _ B5 | with_reducible exact HC.out _ (B5.alloc B5.size _) | with_reducible exact HC.out _ B6 | with_reducible exact HC.out _ (B6.alloc B6.size _) | with_reducible exact HC.out _ BL) (first | (go_at_call 47; refine (HOF.out _).mono ?_; rintro e w5 ⟨rfl, b5⟩; have B5 : Below w.heap.size w w5 := (by first | exact HBD.out.trans (b5.mono HBD.out.size) | exact HBE.out.trans (b5.mono HBE.out.size))) | (go_at_call 77; have hz5 := HZ.out _ b5; refine (HSK.out _ B5).mono ?_; rintro e w6 ⟨p0, m0, k0, s1, g2, t3, p4, m4, k4, rfl, b6⟩; have B6 := B5.trans (b6.mono B5.size); have hz6 := (b6.block _ (Array.getElem?_eq_some_iff.1 hz5).1).trans hz5; have z0 := (cell_of hz6 0).trans rfl; have z1 := (cell_of hz6 1).trans rfl; have z2 := (cell_of hz6 2).trans rfl; have z3 := (cell_of hz6 3).trans rfl; have z4 := (cell_of hz6 4).trans rfl; have f0 := frozen_of hz6 0; have f1 := frozen_of hz6 1; have f2 := frozen_of hz6 2; have f3 := frozen_of hz6 3; have f4 := frozen_of hz6 4; have BL : Below w.heap.size w (lay5 w0.heap.size w6 (.slice p0 m0 k0) (.int .i64 s1) (.bool g2) (.int .i64 t3) (.slice p4 m4 k4)) := Below.grown B6 (lay5_grown _ _ _ _ _ _ _) B6.size (fun k e => by simp only [Option.some.injEq] at e; have := HB0.out.size; omega); unfold lay5 at BL) | (go_at_call 77; refine (HSK.out _ (B5.alloc B5.size _)).mono ?_; rintro e w6 ⟨p0, m0, k0, s1, g2, t3, p4, m4, k4, rfl, b6⟩; have B6 := (B5.alloc B5.size (.cells #[.slice none 0 0, .int .i64 0, .bool false, .int .i64 0, .slice none 0 0] 34)).trans (b6.mono (B5.alloc B5.size _).size); have hz6 := (b6.block w5.heap.size (by simp)).trans (heap_alloc_new w5 (.cells #[.slice none 0 0, .int .i64 0, .bool false, .int .i64 0, .slice none 0 0] 34)); have z0 := (cell_of hz6 0).trans rfl; have z1 := (cell_of hz6 1).trans rfl; have z2 := (cell_of hz6 2).trans rfl; have z3 := (cell_of hz6 3).trans rfl; have z4 := (cell_of hz6 4).trans rfl; have f0 := frozen_of hz6 0; have f1 := frozen_of hz6 1; have f2 := frozen_of hz6 2; have f3 := frozen_of hz6 3; have f4 := frozen_of hz6 4; have BL : Below w.heap.size w (lay5 w5.heap.size w6 (.slice p0 m0 k0) (.int .i64 s1) (.bool g2) (.int .i64 t3) (.slice p4 m4 k4)) := Below.grown B6 (lay5_grown _ _ _ _ _ _ _) B6.size (fun k e => by simp only [Option.some.injEq] at e; have := B5.size; omega); unfold lay5 at BL) | (go_at_call 77; refine (HSK.out _ B5).mono ?_; rintro e w6 ⟨p0, m0, k0, s1, g2, t3, p4, m4, k4, rfl, b6⟩; have B6 := B5.trans (b6.mono B5.size)))
  all_goals
    go_wp2_with fail
    exact bodyPost_ret (v := .bool F) (by simp [results, Try.results79, go_sem]) rfl ⟨rfl, by first | exact BL | exact B6.alloc B6.size _ | exact B6⟩
/-- What the search asks of a block, told. -/
theorem clo_t {w : World} {b0 b1 b2 p i : Nat} {l : List EntV} {ka : Option Addr} {kl kc : Nat} {key : List Int} {s : Int} {c : List EntV} (hT : RTb w p l) (hk : Sl w ka kl kc key) (hs : In64 s) (hc : (cutT l)[i]? = some c)
    (c0 : w.cell? ⟨b0, 0, none⟩ = some (.pointer (some ⟨p, 0, none⟩))) (c1 : w.cell? ⟨b1, 0, none⟩ = some (.slice ka kl kc)) (c2 : w.cell? ⟨b2, 0, none⟩ = some (.int .i64 s)) :
    Calls Try.prog 79 #[.int .i64 (i : Int), .pointer (some ⟨b0, 0, none⟩), .pointer (some ⟨b1, 0, none⟩), .pointer (some ⟨b2, 0, none⟩)] w fun e w' => e = .returned (.bool (skE c key s).isSome) ∧ Below w.heap.size w w' := by
  obtain ⟨q, q1, q2, q3, q4, q5, q6, q7, q8, q9, q10⟩ := tbl_block hT.ok hT.oke hc
  by_cases hz : cmp (lastK [] c) key = 0
  · exact cloZ_t hT hk hs hc hz c0 c1 c2
  · rw [← fndK_is q7 q8]
    unfold fndK
    rw [if_pos hz]
    exact cloO_t hT hk hc hz c0 c1 c2
end Go.Proofs.Ytimpaindbbjieaa

/- The landed table: the blocks from the first one on that has an entry which is not ahead. -/
namespace Go.Proofs.Ytimpaindbbjieaa
open Go.RowKit
set_option linter.unusedVariables false
set_option linter.unusedSimpArgs false

def FnB (bs : List (List EntV)) (key : List Int) (s : Int) (i : Nat) : Bool := match bs[i]? with
  | some c => (skE c key s).isSome
  | none => false
theorem frB_srch {bs : List (List EntV)} {key : List Int} {s : Int} (hne : ∀ c ∈ bs, c ≠ []) (ho : ordE bs.flatten) {r : Nat} (hr : r ≤ bs.length) (h1 : r = 0 ∨ FnB bs key s (r - 1) = false) (h2 : r = bs.length ∨ FnB bs key s r = true) : frB bs key s = bs.drop r := by
  refine frB_drop hr (fun i c hi hc => ?_) (fun c hc => ?_)
  · rcases h1 with z | z
    · omega
    · obtain ⟨d, hd⟩ : ∃ d, bs[r - 1]? = some d := ⟨_, List.getElem?_eq_getElem (by omega)⟩
      unfold FnB at z
      rw [hd] at z
      replace z : (skE d key s).isSome = false := z
      cases hs : (skE c key s).isSome with
      | false => rfl
      | true =>
        have := fnd_mono hne ho (i := i) (j := r - 1) (by omega) hc hd hs
        rw [z] at this
        cases this
  · rcases h2 with z | z
    · have := (List.getElem?_eq_some_iff.1 hc).1; omega
    · unfold FnB at z
      rw [hc] at z
      exact z
set_option maxHeartbeats 2000000 in
set_option maxRecDepth 100000 in
theorem from_t {w : World} {p : Nat} {l : List EntV} {ka : Option Addr} {kl kc : Nat} {key : List Int} {s : Int} (hT : RTb w p l) (hk : Sl w ka kl kc key) (hs : In64 s) :
    Calls Try.prog 53 #[.pointer (some ⟨p, 0, none⟩), .slice ka kl kc, .int .i64 s] w fun r w' => ∃ a n c, r = .returned (.slice a n c) ∧ (∃ j, j + n = (rowsT l).length ∧ frB (cutT l) key s = (cutT l).drop j ∧ RS rowE w' a n c ((rowsT l).drop j)) ∧ Below w.heap.size w w' := by
  obtain ⟨W, hW⟩ : ∃ W, ((w.alloc (.cells #[.pointer (some ⟨p, 0, none⟩)] 30)).alloc (.cells #[.slice ka kl kc] 25)).alloc (.cells #[.int .i64 s] 2) = W := ⟨_, rfl⟩
  have bA : Below w.heap.size w (w.alloc (.cells #[.pointer (some ⟨p, 0, none⟩)] 30)) := (Below.refl _ _).alloc (Nat.le_refl _) _
  have sA : (w.alloc (.cells #[.pointer (some ⟨p, 0, none⟩)] 30)).heap.size = w.heap.size + 1 := by simp
  have bB : Below (w.heap.size + 1) (w.alloc (.cells #[.pointer (some ⟨p, 0, none⟩)] 30)) ((w.alloc (.cells #[.pointer (some ⟨p, 0, none⟩)] 30)).alloc (.cells #[.slice ka kl kc] 25)) := by rw [← sA]; exact (Below.refl _ _).alloc (Nat.le_refl _) _
  have sB : ((w.alloc (.cells #[.pointer (some ⟨p, 0, none⟩)] 30)).alloc (.cells #[.slice ka kl kc] 25)).heap.size = w.heap.size + 1 + 1 := by simp
  have bC : Below (w.heap.size + 1 + 1) ((w.alloc (.cells #[.pointer (some ⟨p, 0, none⟩)] 30)).alloc (.cells #[.slice ka kl kc] 25)) W := by rw [← hW, ← sB]; exact (Below.refl _ _).alloc (Nat.le_refl _) _
  have k0 : W.cell? ⟨w.heap.size, 0, none⟩ = some (.pointer (some ⟨p, 0, none⟩)) := by
    have : W.heap[w.heap.size]? = some (.cells #[.pointer (some ⟨p, 0, none⟩)] 30 (0, 0)) := by rw [bC.block _ (by omega), bB.block _ (by omega)]; exact heap_alloc_new w _
    rw [cell_of this]; rfl
  have k1 : W.cell? ⟨w.heap.size + 1, 0, none⟩ = some (.slice ka kl kc) := by
    have : W.heap[w.heap.size + 1]? = some (.cells #[.slice ka kl kc] 25 (0, 0)) := by rw [bC.block _ (by omega), ← sA]; exact heap_alloc_new _ _
    rw [cell_of this]; rfl
  have k2 : W.cell? ⟨w.heap.size + 1 + 1, 0, none⟩ = some (.int .i64 s) := by
    have : W.heap[w.heap.size + 1 + 1]? = some (.cells #[.int .i64 s] 2 (0, 0)) := by rw [← hW, ← sB]; exact heap_alloc_new _ _
    rw [cell_of this]; rfl
  have BW : Below w.heap.size w W := (bA.trans (bB.mono (by omega))).trans (bC.mono (by omega))
  have hTW := hT.later BW
  have hkW := hk.later BW
  obtain ⟨wa, wc, ra, rc, t0, t1, -, -, -, s4, r5⟩ := hTW.facts
  obtain ⟨n1, n2⟩ := rowsT_some hT.ok
  have hlen : (rowsT l).length = (cutT l).length := rowsB_len _ _
  have hsr := srch_t (w := W) (n := (rowsT l).length) (by omega) (p0 := .pointer (some ⟨w.heap.size, 0, none⟩)) (p1 := .pointer (some ⟨w.heap.size + 1, 0, none⟩)) (p2 := .pointer (some ⟨w.heap.size + 1 + 1, 0, none⟩)) (F := FnB (cutT l) key s) (fun wx hb i hi => by
    obtain ⟨c, hc⟩ : ∃ c, (cutT l)[i]? = some c := ⟨_, List.getElem?_eq_getElem (by omega)⟩
    have := clo_t (hTW.later hb) (hkW.later hb) hs hc (cell_later hb k0) (cell_later hb k1) (cell_later hb k2)
    unfold FnB
    rw [hc]
    exact this)
  have HFR : Hid (∀ r, r ≤ (rowsT l).length → (r = 0 ∨ FnB (cutT l) key s (r - 1) = false) → (r = (rowsT l).length ∨ FnB (cutT l) key s r = true) → frB (cutT l) key s = (cutT l).drop r) := fun r h1 h2 h3 => frB_srch (bs := cutT l) (cutB_ne l 0 []) (by rw [cutT_flat]; exact (tblE_ok hT.ok).2.2.2.1) (by omega) h2 (by rw [← hlen]; exact h3)
  have HR5 := hid r5
  have HBW := hid BW
  have HC : Hid (∀ wx, Below W.heap.size W wx → wx.cell? ⟨w.heap.size, 0, none⟩ = some (.pointer (some ⟨p, 0, none⟩)) ∧ wx.cell? ⟨p, 1, none⟩ = some (.slice ra (rowsT l).length rc)) := fun wx hb => ⟨cell_later hb k0, cell_later hb t1⟩
  have HRC : Hid ((rowsT l).length ≤ rc) := r5.len.2.1
  generalize hNL : (rowsT l).length = NL at hsr HFR HR5 HC HRC n2 t1 ⊢
  have HCF : Hid (∀ i, i ≤ NL → ∀ w, (Instr.slice 71 (.slice ra NL rc) (some (.int .i64 (i : Int))) none none).run Try.prog w = .ok (.slice (cutS ra rc i 3) (NL - i) (rc - i)) w) := fun i hi w => run_fromTr w ra NL rc i hi HRC.out
  have hNL62 : NL ≤ 2 ^ 60 := by omega
  clear hT hk hs bA bB bC sA sB BW hTW hkW s4 r5 n1 hlen k1 k2 t0 hNL
  go_enter Try.func53, Try.ntmps53
  go_upto_region 4 with (go_at_call 78; refine hsr.mono ?_; rintro e w1 ⟨r, hr, rfl, h1, h2, b1⟩)
  obtain ⟨y0, y1⟩ := HC.out _ b1
  have hcf := HCF.out r hr
  have hr62 : r ≤ 2 ^ 60 := by omega
  have HF := hid (HFR.out r hr h1 h2)
  have HRR := hid ((HR5.out.later b1).fromTr r hr)
  have HB := hid (HBW.out.trans (b1.mono HBW.out.size))
  have HR := hid hr
  generalize cutS ra rc r 3 = a9 at hcf HRR
  generalize rc - r = c9 at hcf HRR
  obtain ⟨M, hM⟩ : ∃ M, M = NL - r := ⟨_, rfl⟩
  rw [← hM] at hcf HRR
  have HM : Hid (r + M = NL) := by show _ = _; omega
  have hrn : (r : Int) ≤ (NL : Int) := by omega
  clear hsr h1 h2 b1 hM hr
  go_wp2_with fail
  exact bodyPost_ret (v := .slice a9 M c9) (by simp [results, Try.results53, go_sem]) rfl ⟨a9, M, c9, rfl, ⟨r, HM.out, HF.out, HRR.out⟩, HB.out⟩
end Go.Proofs.Ytimpaindbbjieaa
