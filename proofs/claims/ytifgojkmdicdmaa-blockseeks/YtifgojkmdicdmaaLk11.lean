/- The landed block: the search by halves between restarts. -/
import Derived.Test.YtifgojkmdicdmaaLk10
import Derived.Test.YtifgojkmdicdmaaLk1
import Derived.Test.YtifgojkmdicdmaaSfn
namespace Go.Proofs.Ytifgojkmdicdmaa
open Go.RowKit
set_option linter.unusedVariables false
set_option linter.unusedSimpArgs false

set_option maxHeartbeats 1000000 in
set_option maxRecDepth 100000 in
theorem srch_k {w : World} {n : Nat} (hn : n ≤ 1000000) {p0 p1 p2 p3 : Value} {F : Nat → Bool}
    (HF0 : ∀ wx, Below w.heap.size w wx → ∀ i, i < n → Calls Try.prog 54 #[.int .i64 (i : Int), p0, p1, p2, p3] wx fun e w' => e = .returned (.bool (F i)) ∧ Below wx.heap.size wx w') :
    Calls Try.prog 53 #[.int .i64 (n : Int), .func (.func 54) #[] #[p0, p1, p2, p3]] w fun e w' => ∃ r : Nat, r ≤ n ∧ e = .returned (.int .i64 (r : Int)) ∧ (r = 0 ∨ F (r - 1) = false) ∧ Below w.heap.size w w' := by
  have HF := hid HF0
  clear HF0
  go_enter Try.func53, Try.ntmps53
  go_wp2_with fail
  go_loopg [5, 6, 7] n (fun g i j _ wr => ∃ a b : Nat, b = a + g ∧ b ≤ n ∧ i = .int .i64 (a : Int) ∧ j = .int .i64 (b : Int) ∧ Hid ((a = 0 ∨ F (a - 1) = false) ∧ Below w.heap.size w wr))
  case atStart => exact ⟨0, n, by omega, Nat.le_refl _, rfl, rfl, .inl rfl, Below.refl _ _⟩
  case round =>
    obtain ⟨a, b, hg, hbn, rfl, rfl, HK⟩ := hrel
    by_cases hab : a < b
    · have hab' : (a : Int) < (b : Int) := by omega
      obtain ⟨m, hm⟩ : ∃ m, m = (a + b) / 2 := ⟨_, rfl⟩
      have hdiv : ((a : Int) + (b : Int)) / 2 = (m : Int) := by omega
      have HM : Hid (a ≤ m ∧ m < b ∧ m < n) := ⟨by omega, by omega, by omega⟩
      have hm62 : m ≤ 2 ^ 61 := by omega
      have ha62 : a ≤ 2 ^ 61 := by omega
      have hb62 : b ≤ 2 ^ 61 := by omega
      have HG : Hid (b = a + gk ∧ b ≤ n) := ⟨hg, hbn⟩
      have hc := HF.out wr HK.out.2 m HM.out.2.2
      have HB := hid HK.out
      clear hm hg hbn hab HK
      cases hF : F m with
      | false =>
        rw [hF] at hc
        go_wp2_with (go_at_call 54; refine hc.mono ?_; rintro e w1 ⟨rfl, b1⟩)
        go_roundg (b - (m + 1))
        case measure => have := HM.out; have := HG.out; omega
        case rel => exact ⟨m + 1, b, by have := HM.out; omega, HG.out.2, by go_num, rfl, .inr (by rw [Nat.add_sub_cancel]; exact hF), HB.out.2.trans (b1.mono HB.out.2.size)⟩
      | true =>
        rw [hF] at hc
        go_wp2_with (go_at_call 54; refine hc.mono ?_; rintro e w1 ⟨rfl, b1⟩)
        go_roundg (m - a)
        case measure => have := HM.out; have := HG.out; omega
        case rel => exact ⟨a, m, by have := HM.out; omega, by have := HM.out; omega, rfl, rfl, HB.out.1, HB.out.2.trans (b1.mono HB.out.2.size)⟩
    · have hab' : ¬ ((a : Int) < (b : Int)) := by omega
      have HA : Hid (a ≤ n) := by show _ ≤ _; omega
      clear hg hab
      go_wp2_with fail
      exact bodyPost_ret (v := .int .i64 (a : Int)) (by simp [results, Try.results53, go_sem]) rfl ⟨a, HA.out, rfl, HK.out.1, HK.out.2⟩

set_option maxHeartbeats 1000000 in
set_option maxRecDepth 100000 in
theorem plc_k {w : World} {ao : Option Addr} {len cap : Nat} {P : List Int} (h : Sl w ao len cap P) {i V : Nat} (hi : 4 * i + 4 ≤ len) (hl : len ≤ 2000000) (hV : fv (xof (P.drop (4 * i))) 4 = V) (hV2 : V ≤ 2000000) :
    Calls Try.prog 55 #[.slice ao len cap, .int .i64 (i : Int)] w fun e w' => e = .returned (.int .i64 (V : Int)) ∧ w' = w := by
  have hcap := h.2.2.2.1
  have hr := read_any (cutA ao cap (4 * i)) (len - 4 * i) (cap - 4 * i) (xof (P.drop (4 * i))) 4 w (h.from (4 * i) (by omega)).2.2.2.2.2 (by omega)
  unfold readV at hr
  rw [if_pos (by unfold InSize; omega), if_neg (by omega)] at hr
  rw [show (4 : Int).toNat = 4 from rfl, hV] at hr
  have hcf := fun w => run_from w ao len cap (4 * i) (by omega) hcap
  have hi4 : ((4 * i : Nat) : Int) = (i : Int) * 4 := by omega
  simp only [hi4] at hcf
  have hi62 : i ≤ 2 ^ 60 := by omega
  have hV62 : V ≤ 2 ^ 61 := by omega
  have hw4 : wrap64 ((i : Int) * 4) = (i : Int) * 4 := by unfold wrap64; omega
  generalize cutA ao cap (4 * i) = a1 at hr hcf
  generalize len - 4 * i = l1 at hr hcf
  generalize cap - 4 * i = c1 at hr hcf
  clear h hi hl hV hV2 hcap hi4
  go_enter Try.func55, Try.ntmps55
  go_wp2_with (go_at_call 50; refine hr.mono ?_; rintro e w' ⟨rfl, hw⟩; obtain rfl := hw.symm)
  exact bodyPost_ret (v := .int .i64 (V : Int)) (by simp [results, Try.results55, go_sem]) rfl ⟨rfl, rfl⟩

set_option maxHeartbeats 1000000 in
set_option maxRecDepth 100000 in
theorem clo_k {w : World} {b0 b1 b2 b3 : Nat} {ba pa ka : Option Addr} {bl bc pl pc kl kc i V : Nat} {s : Int} {B P key t : List Int} {o : EntV}
    (c0 : w.cell? ⟨b0, 0, none⟩ = some (.slice ba bl bc)) (c1 : w.cell? ⟨b1, 0, none⟩ = some (.slice pa pl pc)) (c2 : w.cell? ⟨b2, 0, none⟩ = some (.slice ka kl kc)) (c3 : w.cell? ⟨b3, 0, none⟩ = some (.int .i64 s))
    (hB : Sl w ba bl bc B) (hP : Sl w pa pl pc P) (hK : Sl w ka kl kc key) (hi : 4 * i + 4 ≤ pl) (hpl : pl ≤ 2000000) (hbl : bl ≤ 2000000) (hV : fv (xof (P.drop (4 * i))) 4 = V) (hV2 : V ≤ bl) (ht : tE [] (B.drop V) = (0, o, t)) :
    Calls Try.prog 54 #[.int .i64 (i : Int), .pointer (some ⟨b0, 0, none⟩), .pointer (some ⟨b1, 0, none⟩), .pointer (some ⟨b2, 0, none⟩), .pointer (some ⟨b3, 0, none⟩)] w fun e w' => e = .returned (.bool (!ahK o key s)) ∧ Below w.heap.size w w' := by
  have HPL : Hid (∀ wx, Below w.heap.size w wx → Calls Try.prog 55 #[.slice pa pl pc, .int .i64 (i : Int)] wx fun e w' => e = .returned (.int .i64 (V : Int)) ∧ w' = wx) := fun wx hb => plc_k (hP.later hb) hi hpl hV (by omega)
  have hcf := fun w => run_from w ba bl bc V hV2 hB.2.2.2.1
  have HTE : Hid (∀ wx, Below w.heap.size w wx → Calls Try.prog 41 #[.slice (cutA ba bc V) (bl - V) (bc - V), .slice none 0 0] wx fun r w' => ∃ ka kc va vc rv, r = .returned (.tuple #[.agg #[.slice ka o.key.length kc, .int .i64 o.seq, .bool o.gone, .int .i64 o.till, .slice va o.val.length vc], rv, .int .i64 0]) ∧ Sg (fun b => wx.heap.size ≤ b) w' ka kc o.key ∧ Below wx.heap.size wx w') := fun wx hb => by
    refine (tent_k ((hB.from V hV2).later hb) (by omega) (Sl.nil wx) (by omega)).mono ?_
    rintro r w' ⟨ka, kc, va, vc, rv, he, K1, K2, I1, I2, s1, b1⟩
    rw [ht] at he K1
    exact ⟨ka, kc, va, vc, rv, he, K1, b1⟩
  have HAK : Hid (∀ {wx ka' kc' va' vc'}, Sl wx ka' o.key.length kc' o.key → Below w.heap.size w wx → Calls Try.prog 30 #[.agg #[.slice ka' o.key.length kc', .int .i64 o.seq, .bool o.gone, .int .i64 o.till, .slice va' o.val.length vc'], .slice ka kl kc, .int .i64 s] wx fun r w' => r = .returned (.bool (ahK o key s)) ∧ Below wx.heap.size wx w') := fun {wx ka' kc' va' vc'} hs hb => ahd_k hs (hK.later hb)
  have HC : Hid (∀ wx, Below w.heap.size w wx → wx.cell? ⟨b0, 0, none⟩ = some (.slice ba bl bc) ∧ wx.cell? ⟨b1, 0, none⟩ = some (.slice pa pl pc) ∧ wx.cell? ⟨b2, 0, none⟩ = some (.slice ka kl kc) ∧ wx.cell? ⟨b3, 0, none⟩ = some (.int .i64 s)) := fun wx hb => ⟨cell_later hb c0, cell_later hb c1, cell_later hb c2, cell_later hb c3⟩
  generalize cutA ba bc V = a5 at hcf HTE
  generalize bl - V = l5 at hcf HTE
  generalize bc - V = c5 at hcf HTE
  generalize ahK o key s = A at HAK ⊢
  have hV62 : V ≤ 2 ^ 61 := by omega
  clear hB hP hK hi hpl hbl hV hV2 ht
  have HBD : Hid (Below w.heap.size w w.drew) := (Below.refl _ _).drew
  have HBA : Hid (Below w.heap.size w (w.alloc (.cells #[.slice none 0 0, .int .i64 0, .bool false, .int .i64 0, .slice none 0 0] 35))) := (Below.refl _ _).alloc (Nat.le_refl _) _
  have HBE : Hid (Below w.heap.size w (w.alloc (.cells #[.slice none 0 0, .int .i64 0, .bool false, .int .i64 0, .slice none 0 0] 35)).drew) := HBA.out.drew
  have HZ : Hid (∀ w2, Below (w.alloc (.cells #[.slice none 0 0, .int .i64 0, .bool false, .int .i64 0, .slice none 0 0] 35)).drew.heap.size (w.alloc (.cells #[.slice none 0 0, .int .i64 0, .bool false, .int .i64 0, .slice none 0 0] 35)).drew w2 → w2.heap[w.heap.size]? = some (.cells #[.slice none 0 0, .int .i64 0, .bool false, .int .i64 0, .slice none 0 0] 35 (0, 0))) := fun w2 hb => by
    have hs : w.heap.size < (w.alloc (.cells #[.slice none 0 0, .int .i64 0, .bool false, .int .i64 0, .slice none 0 0] 35)).heap.size := by simp
    have h1 : w2.heap[w.heap.size]? = (w.alloc (.cells #[.slice none 0 0, .int .i64 0, .bool false, .int .i64 0, .slice none 0 0] 35)).heap[w.heap.size]? := hb.block _ hs
    rw [h1]
    exact heap_alloc_new w _
  go_enter Try.func54, Try.ntmps54
  go_wp2_with fail
  go_region_held_law (fun w' => w'.cell? ⟨b0, 0, none⟩ = some (.slice ba bl bc) ∧ w'.cell? ⟨b1, 0, none⟩ = some (.slice pa pl pc)) (first | with_reducible exact ⟨c0, c1⟩ | with_reducible exact ⟨(HC.out _ HBD.out).1, (HC.out _ HBD.out).2.1⟩ | with_reducible exact ⟨(HC.out _ HBE.out).1, (HC.out _ HBE.out).2.1⟩ | with_reducible exact ⟨(HC.out _ HBA.out).1, (HC.out _ HBA.out).2.1⟩ | with_reducible exact ⟨(HC.out _ B2).1, (HC.out _ B2).2.1⟩ | with_reducible exact ⟨(HC.out _ (B2.alloc B2.size _)).1, (HC.out _ (B2.alloc B2.size _)).2.1⟩ | with_reducible exact ⟨(HC.out _ BL).1, (HC.out _ BL).2.1⟩) (first | (with_reducible refine step_fn 55 (args := #[.slice pa pl pc, .int .i64 (i : Int)]) rfl rfl (by simp [Act.eval, Act.put]) (by kernel_rfl) (HPL.out _ (by first | with_reducible exact HBD.out | with_reducible exact HBE.out)) ?_; rintro e w1 ⟨rfl, hw1⟩; subst hw1; refine ⟨_, rfl, ?_⟩) | (with_reducible refine step_fn 41 (args := #[.slice a5 l5 c5, .slice none 0 0]) rfl rfl (by simp [Act.eval, Act.put]) (by kernel_rfl) (HTE.out _ HBD.out) ?_; rintro e w2 ⟨ka2, kc2, va2, vc2, rv2, rfl, k2, bb2⟩; have B2 := HBD.out.trans (bb2.mono HBD.out.size); refine ⟨_, rfl, ?_⟩) | (with_reducible refine step_fn 41 (args := #[.slice a5 l5 c5, .slice none 0 0]) rfl rfl (by simp [Act.eval, Act.put]) (by kernel_rfl) (HTE.out _ HBE.out) ?_; rintro e w2 ⟨ka2, kc2, va2, vc2, rv2, rfl, k2, bb2⟩; have B2 := HBE.out.trans (bb2.mono HBE.out.size); have hz := HZ.out _ bb2; have z0 := (cell_of hz 0).trans rfl; have z1 := (cell_of hz 1).trans rfl; have z2 := (cell_of hz 2).trans rfl; have z3 := (cell_of hz 3).trans rfl; have z4 := (cell_of hz 4).trans rfl; have f0 := frozen_of hz 0; have f1 := frozen_of hz 1; have f2 := frozen_of hz 2; have f3 := frozen_of hz 3; have f4 := frozen_of hz 4; have BL : Below w.heap.size w (lay5 w.heap.size w2 (.slice ka2 o.key.length kc2) (.int .i64 o.seq) (.bool o.gone) (.int .i64 o.till) (.slice va2 o.val.length vc2)) := Below.grown B2 (lay5_grown _ _ _ _ _ _ _) B2.size (fun k e => by simp only [Option.some.injEq] at e; omega); unfold lay5 at BL; refine ⟨_, rfl, ?_⟩))
  all_goals first
    | (have hs : w.heap.size < (w.alloc (.cells #[.slice none 0 0, .int .i64 0, .bool false, .int .i64 0, .slice none 0 0] 35)).drew.heap.size := by show _ < (w.alloc _).heap.size; simp
       have hk2 := k2.grown (lay5_grown w.heap.size w2 (.slice ka2 o.key.length kc2) (.int .i64 o.seq) (.bool o.gone) (.int .i64 o.till) (.slice va2 o.val.length vc2)) (fun b hb e => by simp only [Option.some.injEq] at e; subst e; exact absurd hb (Nat.not_le_of_lt hs))
       have hl5 := lay5_block hz (.slice ka2 o.key.length kc2) (.int .i64 o.seq) (.bool o.gone) (.int .i64 o.till) (.slice va2 o.val.length vc2)
       have BL2 : Below w.heap.size w (lay5 w.heap.size w2 (.slice ka2 o.key.length kc2) (.int .i64 o.seq) (.bool o.gone) (.int .i64 o.till) (.slice va2 o.val.length vc2)) := BL
       obtain ⟨WF, hWF⟩ : ∃ WF, WF = lay5 w.heap.size w2 (.slice ka2 o.key.length kc2) (.int .i64 o.seq) (.bool o.gone) (.int .i64 o.till) (.slice va2 o.val.length vc2) := ⟨_, rfl⟩
       rw [← hWF] at hk2 hl5 BL2
       unfold lay5 at hWF
       rw [← hWF]
       have x0 := (cell_of hl5 0).trans rfl
       have x1 := (cell_of hl5 1).trans rfl
       have x2 := (cell_of hl5 2).trans rfl
       have x3 := (cell_of hl5 3).trans rfl
       have x4 := (cell_of hl5 4).trans rfl
       obtain ⟨y0, y1, y2, y3⟩ := HC.out _ BL2
       have hk := HAK.out (va' := va2) (vc' := vc2) hk2.1 BL2
       clear z0 z1 z2 z3 z4 f0 f1 f2 f3 f4 hz BL hWF hl5 hk2 k2 bb2 B2 c0 c1 c2 c3
       go_wp2_with (go_at_call 30; refine hk.mono ?_; rintro e w5 ⟨rfl, b5⟩)
       exact bodyPost_ret (v := .bool (!A)) (by simp [results, Try.results54, go_sem]) rfl ⟨rfl, BL2.trans (b5.mono BL2.size)⟩)
    | (have BF := B2.alloc B2.size (.cells #[.slice ka2 o.key.length kc2, .int .i64 o.seq, .bool o.gone, .int .i64 o.till, .slice va2 o.val.length vc2] 35)
       obtain ⟨y0, y1, y2, y3⟩ := HC.out _ BF
       have hk := HAK.out (va' := va2) (vc' := vc2) (k2.later ((Below.refl _ w2).alloc (Nat.le_refl _) (.cells #[.slice ka2 o.key.length kc2, .int .i64 o.seq, .bool o.gone, .int .i64 o.till, .slice va2 o.val.length vc2] 35))).1 BF
       clear k2 bb2 B2 c0 c1 c2 c3
       go_wp2_with (go_at_call 30; refine hk.mono ?_; rintro e w5 ⟨rfl, b5⟩)
       exact bodyPost_ret (v := .bool (!A)) (by simp [results, Try.results54, go_sem]) rfl ⟨rfl, BF.trans (b5.mono BF.size)⟩)
end Go.Proofs.Ytifgojkmdicdmaa
