import Derived.Test.YtimpaindbbjieaaPk25
import Derived.Test.YtimpaindbbjieaaPk29
import Derived.Test.YtimpaindbbjieaaPk32
import Derived.Test.YtimpaindbbjieaaPk39
import Derived.Test.YtimpaindbbjieaaPk40
/- The landed block: the search by halves between restarts. -/
namespace Go.Proofs.Ytimpaindbbjieaa
open Go.RowKit
set_option linter.unusedVariables false
set_option linter.unusedSimpArgs false

set_option maxHeartbeats 1000000 in
set_option maxRecDepth 100000 in
theorem srch_k {w : World} {n : Nat} (hn : n ≤ 1000000) {p0 p1 p2 p3 : Value} {F : Nat → Bool}
    (HF0 : ∀ wx, Below w.heap.size w wx → ∀ i, i < n → Calls Try.prog 108 #[.int .i64 (i : Int), p0, p1, p2, p3] wx fun e w' => e = .returned (.bool (F i)) ∧ Below wx.heap.size wx w') :
    Calls Try.prog 78 #[.int .i64 (n : Int), .func (.func 108) #[] #[p0, p1, p2, p3]] w fun e w' => ∃ r : Nat, r ≤ n ∧ e = .returned (.int .i64 (r : Int)) ∧ (r = 0 ∨ F (r - 1) = false) ∧ Below w.heap.size w w' := by
  have HF := hid HF0
  clear HF0
  go_enter Try.func78, Try.ntmps78
  go_wp2_with fail
  go_loopg [5, 6, 7] n (fun g i j _ wr => ∃ a b : Nat, b = a + g ∧ b ≤ n ∧ i = .int .i64 (a : Int) ∧ j = .int .i64 (b : Int) ∧ Hid ((a = 0 ∨ F (a - 1) = false) ∧ Below w.heap.size w wr))
  case atStart => exact ⟨0, n, by omega, Nat.le_refl _, rfl, rfl, .inl rfl, Below.refl _ _⟩
  case round =>
    obtain ⟨a, b, hg, hbn, rfl, rfl, HK⟩ := hrel
    by_cases hab : a < b
    · have hab' : (a : Int) < (b : Int) := by omega
      obtain ⟨m, hm⟩ : ∃ m, m = (a + b) / 2 := ⟨_, rfl⟩
      have hdiv : ((a : Int) + (b : Int)) / 2 = (m : Int) := by omega
      have HM : Hid (a ≤ m ∧ m < b ∧ m < n) := ⟨by omega, by omega, by omega⟩
      have hm62 : m ≤ 2 ^ 61 := by omega
      have ha62 : a ≤ 2 ^ 61 := by omega
      have hb62 : b ≤ 2 ^ 61 := by omega
      have HG : Hid (b = a + gk ∧ b ≤ n) := ⟨hg, hbn⟩
      have hc := HF.out wr HK.out.2 m HM.out.2.2
      have HB := hid HK.out
      clear hm hg hbn hab HK
      cases hF : F m with
      | false =>
        rw [hF] at hc
        go_wp2_with (go_at_call 108; refine hc.mono ?_; rintro e w1 ⟨rfl, b1⟩)
        go_roundg (b - (m + 1))
        case measure => have := HM.out; have := HG.out; omega
        case rel => exact ⟨m + 1, b, by have := HM.out; omega, HG.out.2, by go_num, rfl, .inr (by rw [Nat.add_sub_cancel]; exact hF), HB.out.2.trans (b1.mono HB.out.2.size)⟩
      | true =>
        rw [hF] at hc
        go_wp2_with (go_at_call 108; refine hc.mono ?_; rintro e w1 ⟨rfl, b1⟩)
        go_roundg (m - a)
        case measure => have := HM.out; have := HG.out; omega
        case rel => exact ⟨a, m, by have := HM.out; omega, by have := HM.out; omega, rfl, rfl, HB.out.1, HB.out.2.trans (b1.mono HB.out.2.size)⟩
    · have hab' : ¬ ((a : Int) < (b : Int)) := by omega
      have HA : Hid (a ≤ n) := by show _ ≤ _; omega
      clear hg hab
      go_wp2_with fail
      exact bodyPost_ret (v := .int .i64 (a : Int)) (by simp [results, Try.results78, go_sem]) rfl ⟨a, HA.out, rfl, HK.out.1, HK.out.2⟩

set_option maxHeartbeats 1000000 in
set_option maxRecDepth 100000 in
theorem plc_k {w : World} {ao : Option Addr} {len cap : Nat} {P : List Int} (h : Sl w ao len cap P) {i V : Nat} (hi : 4 * i + 4 ≤ len) (hl : len ≤ 2000000) (hV : fv (xof (P.drop (4 * i))) 4 = V) (hV2 : V ≤ 2000000) :
    Calls Try.prog 109 #[.slice ao len cap, .int .i64 (i : Int)] w fun e w' => e = .returned (.int .i64 (V : Int)) ∧ w' = w := by
  have hcap := h.2.2.2.1
  have hr := read_any (cutA ao cap (4 * i)) (len - 4 * i) (cap - 4 * i) (xof (P.drop (4 * i))) 4 w (h.from (4 * i) (by omega)).2.2.2.2.2 (by omega)
  unfold readV at hr
  rw [if_pos (by unfold InSize; omega), if_neg (by omega)] at hr
  rw [show (4 : Int).toNat = 4 from rfl, hV] at hr
  have hcf := fun w => run_from w ao len cap (4 * i) (by omega) hcap
  have hi4 : ((4 * i : Nat) : Int) = (i : Int) * 4 := by omega
  simp only [hi4] at hcf
  have hi62 : i ≤ 2 ^ 60 := by omega
  have hV62 : V ≤ 2 ^ 61 := by omega
  have hw4 : wrap64 ((i : Int) * 4) = (i : Int) * 4 := by unfold wrap64; omega
  generalize cutA ao cap (4 * i) = a1 at hr hcf
  generalize len - 4 * i = l1 at hr hcf
  generalize cap - 4 * i = c1 at hr hcf
  clear h hi hl hV hV2 hcap hi4
  go_enter Try.func109, Try.ntmps109
  go_wp2_with (go_at_call 96; refine hr.mono ?_; rintro e w' ⟨rfl, hw⟩; obtain rfl := hw.symm)
  exact bodyPost_ret (v := .int .i64 (V : Int)) (by simp [results, Try.results109, go_sem]) rfl ⟨rfl, rfl⟩

set_option maxHeartbeats 1000000 in
set_option maxRecDepth 100000 in
theorem clo_k {w : World} {b0 b1 b2 b3 : Nat} {ba pa ka : Option Addr} {bl bc pl pc kl kc i V : Nat} {s : Int} {B P key t : List Int} {o : EntV}
    (c0 : w.cell? ⟨b0, 0, none⟩ = some (.slice ba bl bc)) (c1 : w.cell? ⟨b1, 0, none⟩ = some (.slice pa pl pc)) (c2 : w.cell? ⟨b2, 0, none⟩ = some (.slice ka kl kc)) (c3 : w.cell? ⟨b3, 0, none⟩ = some (.int .i64 s))
    (hB : Sl w ba bl bc B) (hP : Sl w pa pl pc P) (hK : Sl w ka kl kc key) (hi : 4 * i + 4 ≤ pl) (hpl : pl ≤ 2000000) (hbl : bl ≤ 2000000) (hV : fv (xof (P.drop (4 * i))) 4 = V) (hV2 : V ≤ bl) (ht : tE [] (B.drop V) = (0, o, t)) :
    Calls Try.prog 108 #[.int .i64 (i : Int), .pointer (some ⟨b0, 0, none⟩), .pointer (some ⟨b1, 0, none⟩), .pointer (some ⟨b2, 0, none⟩), .pointer (some ⟨b3, 0, none⟩)] w fun e w' => e = .returned (.bool (!ahK o key s)) ∧ Below w.heap.size w w' := by
  have HPL : Hid (∀ wx, Below w.heap.size w wx → Calls Try.prog 109 #[.slice pa pl pc, .int .i64 (i : Int)] wx fun e w' => e = .returned (.int .i64 (V : Int)) ∧ w' = wx) := fun wx hb => plc_k (hP.later hb) hi hpl hV (by omega)
  have hcf := fun w => run_from w ba bl bc V hV2 hB.2.2.2.1
  have HTE : Hid (∀ wx, Below w.heap.size w wx → Calls Try.prog 100 #[.slice (cutA ba bc V) (bl - V) (bc - V), .slice none 0 0] wx fun r w' => ∃ ka kc va vc rv, r = .returned (.tuple #[.agg #[.slice ka o.key.length kc, .int .i64 o.seq, .bool o.gone, .int .i64 o.till, .slice va o.val.length vc], rv, .int .i64 0]) ∧ Sg (fun b => wx.heap.size ≤ b) w' ka kc o.key ∧ Below wx.heap.size wx w') := fun wx hb => by
    refine (tent_k ((hB.from V hV2).later hb) (by omega) (Sl.nil wx) (by omega)).mono ?_
    rintro r w' ⟨ka, kc, va, vc, rv, he, K1, K2, I1, I2, s1, b1⟩
    rw [ht] at he K1
    exact ⟨ka, kc, va, vc, rv, he, K1, b1⟩
  have HAK : Hid (∀ {wx ka' kc' va' vc'}, Sl wx ka' o.key.length kc' o.key → Below w.heap.size w wx → Calls Try.prog 60 #[.agg #[.slice ka' o.key.length kc', .int .i64 o.seq, .bool o.gone, .int .i64 o.till, .slice va' o.val.length vc'], .slice ka kl kc, .int .i64 s] wx fun r w' => r = .returned (.bool (ahK o key s)) ∧ Below wx.heap.size wx w') := fun {wx ka' kc' va' vc'} hs hb => ahd_k hs (hK.later hb)
  have HC : Hid (∀ wx, Below w.heap.size w wx → wx.cell? ⟨b0, 0, none⟩ = some (.slice ba bl bc) ∧ wx.cell? ⟨b1, 0, none⟩ = some (.slice pa pl pc) ∧ wx.cell? ⟨b2, 0, none⟩ = some (.slice ka kl kc) ∧ wx.cell? ⟨b3, 0, none⟩ = some (.int .i64 s)) := fun wx hb => ⟨cell_later hb c0, cell_later hb c1, cell_later hb c2, cell_later hb c3⟩
  generalize cutA ba bc V = a5 at hcf HTE
  generalize bl - V = l5 at hcf HTE
  generalize bc - V = c5 at hcf HTE
  generalize ahK o key s = A at HAK ⊢
  have hV62 : V ≤ 2 ^ 61 := by omega
  clear hB hP hK hi hpl hbl hV hV2 ht
  have HBD : Hid (Below w.heap.size w w.drew) := (Below.refl _ _).drew
  have HBA : Hid (Below w.heap.size w (w.alloc (.cells #[.slice none 0 0, .int .i64 0, .bool false, .int .i64 0, .slice none 0 0] 34))) := (Below.refl _ _).alloc (Nat.le_refl _) _
  have HBE : Hid (Below w.heap.size w (w.alloc (.cells #[.slice none 0 0, .int .i64 0, .bool false, .int .i64 0, .slice none 0 0] 34)).drew) := HBA.out.drew
  have HZ : Hid (∀ w2, Below (w.alloc (.cells #[.slice none 0 0, .int .i64 0, .bool false, .int .i64 0, .slice none 0 0] 34)).drew.heap.size (w.alloc (.cells #[.slice none 0 0, .int .i64 0, .bool false, .int .i64 0, .slice none 0 0] 34)).drew w2 → w2.heap[w.heap.size]? = some (.cells #[.slice none 0 0, .int .i64 0, .bool false, .int .i64 0, .slice none 0 0] 34 (0, 0))) := fun w2 hb => by
    have hs : w.heap.size < (w.alloc (.cells #[.slice none 0 0, .int .i64 0, .bool false, .int .i64 0, .slice none 0 0] 34)).heap.size := by simp
    have h1 : w2.heap[w.heap.size]? = (w.alloc (.cells #[.slice none 0 0, .int .i64 0, .bool false, .int .i64 0, .slice none 0 0] 34)).heap[w.heap.size]? := hb.block _ hs
    rw [h1]
    exact heap_alloc_new w _
  go_enter Try.func108, Try.ntmps108
  go_wp2_with fail
  go_region_held_law (fun w' => w'.cell? ⟨b0, 0, none⟩ = some (.slice ba bl bc) ∧ w'.cell? ⟨b1, 0, none⟩ = some (.slice pa pl pc)) (first | with_reducible exact ⟨c0, c1⟩ | with_reducible exact ⟨(HC.out _ HBD.out).1, (HC.out _ HBD.out).2.1⟩ | with_reducible exact ⟨(HC.out _ HBE.out).1, (HC.out _ HBE.out).2.1⟩ | with_reducible exact ⟨(HC.out _ HBA.out).1, (HC.out _ HBA.out).2.1⟩ | with_reducible exact ⟨(HC.out _ B2).1, (HC.out _ B2).2.1⟩ | with_reducible exact ⟨(HC.out _ (B2.alloc B2.size _)).1, (HC.out _ (B2.alloc B2.size _)).2.1⟩ | with_reducible exact ⟨(HC.out _ BL).1, (HC.out _ BL).2.1⟩) (first | (with_reducible refine step_fn 109 (args := #[.slice pa pl pc, .int .i64 (i : Int)]) rfl rfl (by simp [Act.eval, Act.put]) (by kernel_rfl) (HPL.out _ (by first | with_reducible exact HBD.out | with_reducible exact HBE.out)) ?_; rintro e w1 ⟨rfl, hw1⟩; subst hw1; refine ⟨_, rfl, ?_⟩) | (with_reducible refine step_fn 100 (args := #[.slice a5 l5 c5, .slice none 0 0]) rfl rfl (by simp [Act.eval, Act.put]) (by kernel_rfl) (HTE.out _ HBD.out) ?_; rintro e w2 ⟨ka2, kc2, va2, vc2, rv2, rfl, k2, bb2⟩; have B2 := HBD.out.trans (bb2.mono HBD.out.size); refine ⟨_, rfl, ?_⟩) | (with_reducible refine step_fn 100 (args := #[.slice a5 l5 c5, .slice none 0 0]) rfl rfl (by simp [Act.eval, Act.put]) (by kernel_rfl) (HTE.out _ HBE.out) ?_; rintro e w2 ⟨ka2, kc2, va2, vc2, rv2, rfl, k2, bb2⟩; have B2 := HBE.out.trans (bb2.mono HBE.out.size); have hz := HZ.out _ bb2; have z0 := (cell_of hz 0).trans rfl; have z1 := (cell_of hz 1).trans rfl; have z2 := (cell_of hz 2).trans rfl; have z3 := (cell_of hz 3).trans rfl; have z4 := (cell_of hz 4).trans rfl; have f0 := frozen_of hz 0; have f1 := frozen_of hz 1; have f2 := frozen_of hz 2; have f3 := frozen_of hz 3; have f4 := frozen_of hz 4; have BL : Below w.heap.size w (lay5 w.heap.size w2 (.slice ka2 o.key.length kc2) (.int .i64 o.seq) (.bool o.gone) (.int .i64 o.till) (.slice va2 o.val.length vc2)) := Below.grown B2 (lay5_grown _ _ _ _ _ _ _) B2.size (fun k e => by simp only [Option.some.injEq] at e; omega); unfold lay5 at BL; refine ⟨_, rfl, ?_⟩))
  all_goals first
    | (have hs : w.heap.size < (w.alloc (.cells #[.slice none 0 0, .int .i64 0, .bool false, .int .i64 0, .slice none 0 0] 34)).drew.heap.size := by show _ < (w.alloc _).heap.size; simp
       have hk2 := k2.grown (lay5_grown w.heap.size w2 (.slice ka2 o.key.length kc2) (.int .i64 o.seq) (.bool o.gone) (.int .i64 o.till) (.slice va2 o.val.length vc2)) (fun b hb e => by simp only [Option.some.injEq] at e; subst e; exact absurd hb (Nat.not_le_of_lt hs))
       have hl5 := lay5_block hz (.slice ka2 o.key.length kc2) (.int .i64 o.seq) (.bool o.gone) (.int .i64 o.till) (.slice va2 o.val.length vc2)
       have BL2 : Below w.heap.size w (lay5 w.heap.size w2 (.slice ka2 o.key.length kc2) (.int .i64 o.seq) (.bool o.gone) (.int .i64 o.till) (.slice va2 o.val.length vc2)) := BL
       obtain ⟨WF, hWF⟩ : ∃ WF, WF = lay5 w.heap.size w2 (.slice ka2 o.key.length kc2) (.int .i64 o.seq) (.bool o.gone) (.int .i64 o.till) (.slice va2 o.val.length vc2) := ⟨_, rfl⟩
       rw [← hWF] at hk2 hl5 BL2
       unfold lay5 at hWF
       rw [← hWF]
       have x0 := (cell_of hl5 0).trans rfl
       have x1 := (cell_of hl5 1).trans rfl
       have x2 := (cell_of hl5 2).trans rfl
       have x3 := (cell_of hl5 3).trans rfl
       have x4 := (cell_of hl5 4).trans rfl
       obtain ⟨y0, y1, y2, y3⟩ := HC.out _ BL2
       have hk := HAK.out (va' := va2) (vc' := vc2) hk2.1 BL2
       clear z0 z1 z2 z3 z4 f0 f1 f2 f3 f4 hz BL hWF hl5 hk2 k2 bb2 B2 c0 c1 c2 c3
       go_wp2_with (go_at_call 60; refine hk.mono ?_; rintro e w5 ⟨rfl, b5⟩)
       exact bodyPost_ret (v := .bool (!A)) (by simp [results, Try.results108, go_sem]) rfl ⟨rfl, BL2.trans (b5.mono BL2.size)⟩)
    | (have BF := B2.alloc B2.size (.cells #[.slice ka2 o.key.length kc2, .int .i64 o.seq, .bool o.gone, .int .i64 o.till, .slice va2 o.val.length vc2] 34)
       obtain ⟨y0, y1, y2, y3⟩ := HC.out _ BF
       have hk := HAK.out (va' := va2) (vc' := vc2) (k2.later ((Below.refl _ w2).alloc (Nat.le_refl _) (.cells #[.slice ka2 o.key.length kc2, .int .i64 o.seq, .bool o.gone, .int .i64 o.till, .slice va2 o.val.length vc2] 34))).1 BF
       clear k2 bb2 B2 c0 c1 c2 c3
       go_wp2_with (go_at_call 60; refine hk.mono ?_; rintro e w5 ⟨rfl, b5⟩)
       exact bodyPost_ret (v := .bool (!A)) (by simp [results, Try.results108, go_sem]) rfl ⟨rfl, BF.trans (b5.mono BF.size)⟩)
end Go.Proofs.Ytimpaindbbjieaa

/- The landed block: where a search begins. -/
namespace Go.Proofs.Ytimpaindbbjieaa
open Go.RowKit
set_option linter.unusedVariables false
set_option linter.unusedSimpArgs false

theorem box4 (w : World) (x0 x1 x2 x3 : Value) (t0 t1 t2 t3 : TypeId) :
    ((((w.alloc (.cells #[x0] t0)).alloc (.cells #[x1] t1)).alloc (.cells #[x2] t2)).alloc (.cells #[x3] t3)).cell? ⟨w.heap.size, 0, none⟩ = some x0 ∧ ((((w.alloc (.cells #[x0] t0)).alloc (.cells #[x1] t1)).alloc (.cells #[x2] t2)).alloc (.cells #[x3] t3)).cell? ⟨w.heap.size + 1, 0, none⟩ = some x1 ∧
    ((((w.alloc (.cells #[x0] t0)).alloc (.cells #[x1] t1)).alloc (.cells #[x2] t2)).alloc (.cells #[x3] t3)).cell? ⟨w.heap.size + 2, 0, none⟩ = some x2 ∧ ((((w.alloc (.cells #[x0] t0)).alloc (.cells #[x1] t1)).alloc (.cells #[x2] t2)).alloc (.cells #[x3] t3)).cell? ⟨w.heap.size + 3, 0, none⟩ = some x3 ∧
    Below w.heap.size w ((((w.alloc (.cells #[x0] t0)).alloc (.cells #[x1] t1)).alloc (.cells #[x2] t2)).alloc (.cells #[x3] t3)) := by
  have hn : ∀ (u : World) (x : Value) (t : TypeId), (u.alloc (.cells #[x] t)).cell? ⟨u.heap.size, 0, none⟩ = some x := fun u x t => by rw [cell_of (heap_alloc_new u _)]; rfl
  have hl : ∀ (u : World) (x y : Value) (t : TypeId) (a : Addr), u.cell? a = some y → (u.alloc (.cells #[x] t)).cell? a = some y := fun u x y t a h => cell_later ((Below.refl _ u).alloc (Nat.le_refl _) _) h
  have hs : ∀ (u : World) (x : Value) (t : TypeId), (u.alloc (.cells #[x] t)).heap.size = u.heap.size + 1 := fun u x t => by simp
  refine ⟨hl _ _ _ _ _ (hl _ _ _ _ _ (hl _ _ _ _ _ (hn w x0 t0))), hl _ _ _ _ _ (hl _ _ _ _ _ ?_), hl _ _ _ _ _ ?_, ?_, (((((Below.refl _ w).alloc (Nat.le_refl _) _).alloc (by simp) _).alloc (by simp; omega) _).alloc (by simp; omega) _)⟩
  · have := hn (w.alloc (.cells #[x0] t0)) x1 t1
    rw [hs] at this
    exact this
  · have := hn ((w.alloc (.cells #[x0] t0)).alloc (.cells #[x1] t1)) x2 t2
    rw [hs, hs] at this
    exact this
  · have := hn (((w.alloc (.cells #[x0] t0)).alloc (.cells #[x1] t1)).alloc (.cells #[x2] t2)) x3 t3
    rw [hs, hs, hs] at this
    exact this
/-- Is the restart not ahead? -/
def notA (l : List EntV) (key : List Int) (s : Int) (i : Nat) : Bool := match l[8 * i]? with
  | some e => !ahK e key s
  | none => false

set_option maxHeartbeats 2000000 in
set_option maxRecDepth 100000 in
theorem rst_k {w : World} {ba pa ka : Option Addr} {bl bc pl pc kl kc : Nat} {s : Int} {key : List Int} {l : List EntV} (hB : Sl w ba bl bc (enEs 0 [] l)) (hP : Sl w pa pl pc (enTl 0 0 [] l)) (hK : Sl w ka kl kc key) (h1 : 1 ≤ l.length) (h4 : l.length ≤ 400) (hm : ∀ e ∈ l, mayE e = true) (ho : ∀ e ∈ l, OkE e) :
    Calls Try.prog 99 #[.slice ba bl bc, .slice pa pl pc, .slice ka kl kc, .int .i64 s] w fun e w' => ∃ m : Nat, 8 * m < l.length ∧ (m = 0 ∨ ∃ h : 8 * m < l.length, ahK l[8 * m] key s = true) ∧ e = .returned (.int .i64 (offK l m : Int)) ∧ Below w.heap.size w w' := by
  obtain ⟨n, hn⟩ : ∃ n, n = eig 0 l := ⟨_, rfl⟩
  have hpl : pl = 4 * n := by rw [← hP.1, enTl_len, hn]
  have hne : n = (l.length + 7) / 8 := by rw [hn, eig_eq]; omega
  have hbl : bl ≤ 2000000 := by
    have a1 := enEs_tlen (List.all_eq_true.2 hm) l.length (Nat.le_refl _)
    rw [List.take_length, hB.1] at a1
    omega
  have hoff : ∀ i, offK l i ≤ bl := fun i => by rw [← hB.1]; exact off_le
  have hfv : ∀ i, i < n → fv (xof ((enTl 0 0 [] l).drop (4 * i))) 4 = offK l i := fun i hi => by
    obtain ⟨t, ht, e⟩ := plc_at (l := l) (i := i) (by omega)
    rw [e]
    exact fv_four (by have := hoff i; omega) t ht
  have htE : ∀ i (h : 8 * i < l.length), tE [] ((enEs 0 [] l).drop (offK l i)) = (0, l[8 * i], enEs (8 * i + 1) l[8 * i].key (l.drop (8 * i + 1))) := fun i h => by
    rw [body_at (by omega), List.drop_eq_getElem_cons h]
    exact tE_next (.inl (by omega)) (by simp) (hm _ (List.getElem_mem h)) (ho _ (List.getElem_mem h)) (fun x hx => ho x (List.mem_of_mem_drop hx))
  obtain ⟨q0, q1, q2, q3, qb⟩ := box4 w (.slice ba bl bc) (.slice pa pl pc) (.slice ka kl kc) (.int .i64 s) 25 25 25 2
  obtain ⟨W, hW⟩ : ∃ W, W = (((w.alloc (.cells #[.slice ba bl bc] 25)).alloc (.cells #[.slice pa pl pc] 25)).alloc (.cells #[.slice ka kl kc] 25)).alloc (.cells #[.int .i64 s] 2) := ⟨_, rfl⟩
  rw [← hW] at q0 q1 q2 q3 qb
  have hsr := srch_k (w := W) (n := n) (p0 := .pointer (some ⟨w.heap.size, 0, none⟩)) (p1 := .pointer (some ⟨w.heap.size + 1, 0, none⟩)) (p2 := .pointer (some ⟨w.heap.size + 2, 0, none⟩)) (p3 := .pointer (some ⟨w.heap.size + 3, 0, none⟩)) (F := notA l key s) (by omega) (fun wx hb i hi => by
    have h8 : 8 * i < l.length := by omega
    have e : notA l key s i = !ahK l[8 * i] key s := by unfold notA; rw [List.getElem?_eq_getElem h8]
    rw [e]
    exact clo_k (cell_later hb q0) (cell_later hb q1) (cell_later hb q2) (cell_later hb q3) ((hB.later qb).later hb) ((hP.later qb).later hb) ((hK.later qb).later hb) (by omega) (by omega) hbl (hfv i hi) (hoff i) (htE i h8))
  have HPL : Hid (∀ wx, Below W.heap.size W wx → ∀ i, i < n → Calls Try.prog 109 #[.slice pa pl pc, .int .i64 (i : Int)] wx fun e w' => e = .returned (.int .i64 (offK l i : Int)) ∧ w' = wx) := fun wx hb i hi => plc_k ((hP.later qb).later hb) (by omega) (by omega) (hfv i hi) (by have := hoff i; omega)
  have HN : Hid (1 ≤ n ∧ n = (l.length + 7) / 8) := ⟨by omega, hne⟩
  have HQ := hid (And.intro q1 qb)
  have hpl62 : pl ≤ 2 ^ 61 := by omega
  have hz4 : (pl : Int) / 4 = (n : Int) := by omega
  have hz5 : Int.tdiv (pl : Int) 4 = (n : Int) := by rw [Int.tdiv_eq_ediv_of_nonneg (by omega)]; omega
  have hmf : ∀ (fn : Fn) (first cap : Array Value) (w : World), (Instr.makeFunc fn first cap).run Try.prog w = .ok (.func fn first cap) w := fun _ _ _ _ => rfl
  have HW := hid hW
  clear hB hP hK h1 h4 hm ho hn hne hbl hoff hfv htE q0 q1 q2 q3 qb hpl hW
  go_enter Try.func99, Try.ntmps99
  go_upto_region 1 with fail
  rw [← HW.out]
  have y1 := HQ.out.1
  go_upto_region 2 with (go_at_call 78; refine hsr.mono ?_; rintro e w1 ⟨r, hr, rfl, hF, b1⟩)
  clear y1
  have y1 := cell_later b1 HQ.out.1
  have hB1 := HQ.out.2.trans (b1.mono HQ.out.2.size)
  cases r with
  | zero =>
    have hp := HPL.out _ b1 0 HN.out.1
    go_wp2_with (go_at_call 109; refine hp.mono ?_; rintro e w2 ⟨rfl, hw⟩; obtain rfl := hw.symm)
    exact bodyPost_ret (v := .int .i64 (offK l 0 : Int)) (by simp [results, Try.results99, go_sem]) rfl ⟨0, by have := HN.out; omega, .inl rfl, rfl, hB1⟩
  | succ m =>
    have hp := HPL.out _ b1 m (by omega)
    have HM : Hid (8 * m < l.length) := by show _ < _; have := HN.out; omega
    have HA : Hid (ahK (l[8 * m]'HM.out) key s = true) := by
      have hf := hF.resolve_left (by omega)
      rw [Nat.add_sub_cancel] at hf
      unfold notA at hf
      rw [List.getElem?_eq_getElem HM.out] at hf
      show _ = true
      simpa using hf
    have hm62 : m ≤ 2 ^ 61 := by have := HM.out; omega
    have hmx : max (m : Int) 0 = (m : Int) := by omega
    have hwm : wrap64 ((m : Int) + 1 - 1) = (m : Int) := by unfold wrap64; omega
    have hwm2 : wrap64 (((m + 1 : Nat) : Int) - 1) = (m : Int) := by unfold wrap64; omega
    clear hr hF hwm2
    go_wp2_with (go_at_call 109; refine hp.mono ?_; rintro e w2 ⟨rfl, hw⟩; obtain rfl := hw.symm)
    exact bodyPost_ret (v := .int .i64 (offK l m : Int)) (by simp [results, Try.results99, go_sem]) rfl ⟨m, HM.out, .inr ⟨HM.out, HA.out⟩, rfl, hB1⟩
end Go.Proofs.Ytimpaindbbjieaa

/- The landed block keeps what is asked of Ordered and Encode. -/
namespace Go.Proofs.Ytimpaindbbjieaa
open Go.RowKit
set_option linter.unusedVariables false
set_option linter.unusedSimpArgs false

theorem encX_k {w : World} {ao : Option Addr} {len cap : Nat} {l : List EntV} (h : RS entE w ao len cap l) (hl : len ≤ 2 ^ 61) :
    Calls Try.prog 62 #[.slice ao len cap] w fun e w' => ∃ v, e = .returned (.tuple #[v, .int .i64 ((blkE l : Nat) : Int)]) ∧ SlV w' v (encX l) ∧ Below w.heap.size w w' :=
  (encR_k h hl).mono fun e w' ⟨v, he, hr, hb⟩ => ⟨v, he, SlV.ofRow hr (by unfold encX; split; exact okb_blkB h.okE; exact fun x hx => by cases hx), hb⟩
theorem theBk : PBk where
  ordered := fun h hl _ => ord_k h (by omega)
  encode := fun h hl _ => encX_k h (by omega)
end Go.Proofs.Ytimpaindbbjieaa
