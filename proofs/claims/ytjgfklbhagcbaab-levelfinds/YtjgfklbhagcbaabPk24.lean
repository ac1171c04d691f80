import Derived.Test.YtjgfklbhagcbaabPk19
import Derived.Test.YtjgfklbhagcbaabPk21
import Derived.Test.YtjgfklbhagcbaabPk22
import Derived.Test.YtjgfklbhagcbaabPk23
/- The document's Apply: its table, has, put. -/
namespace Go.Proofs.Ytjgfklbhagcbaab
open Go.RowKit
set_option linter.unusedVariables false
set_option linter.unusedSimpArgs false

theorem rhas_t {w : World} {ao : Option Addr} {n cap : Nat} {xs : List Int} (h : RS i64E w ao n cap xs) (x : Int) :
    Calls Try.prog 19 #[.slice ao n cap, .int .i64 x] w fun e w' => e = .returned (.bool (decide (x ∈ xs))) ∧ w' = w := by
  have hl : xs.length = n := by obtain ⟨us, h1, _⟩ := h; exact h1
  have hn63 : n ≤ 2 ^ 63 - 1 := by obtain ⟨us, _, _, h3, h4, _⟩ := h; unfold maxLen at h4; omega
  have HL := hidS hl
  have H0 := hidS h
  clear hl h
  go_enter Try.func19, Try.ntmps19
  go_wp2_with fail
  go_loopg [9] n (fun kx s9 wr => ∃ k : Nat, s9 = .int .i64 k ∧ k + kx = n ∧ wr = w ∧ Hid (x ∉ xs.take k))
  case atStart => exact ⟨0, rfl, by omega, rfl, (show x ∉ xs.take 0 by simp)⟩
  case round =>
    obtain ⟨k, rfl, hg, rfl, HK⟩ := hrel
    by_cases hk : k < n
    · have hk' : (k : Int) < (n : Int) := by omega
      obtain ⟨y, hy⟩ : ∃ y, xs[k]? = some y := ⟨_, List.getElem?_eq_getElem (by have := HL.out; omega)⟩
      obtain ⟨b, off, rfl, r0, i1⟩ := RS.i64 H0.out hy
      have HR := hidS (And.intro hg (And.intro hk hy))
      have hk62 : k ≤ 2 ^ 63 - 2 := by omega
      clear hg hy i1
      by_cases q : x = y
      · have q1 : (x == y) = true := by simpa using q
        have q2 : (y == x) = true := by simpa using q.symm
        have HM : Hid (x ∈ xs) := by rw [q]; exact List.mem_of_getElem? HR.out.2.2
        clear q
        go_wp2_with fail
        exact bodyPost_ret (v := .bool true) (by simp [results, Try.results19, go_sem]) rfl ⟨by rw [decide_eq_true HM.out], rfl⟩
      · have q1 : (x == y) = false := by simpa using q
        have q2 : (y == x) = false := by simpa using fun e => q e.symm
        have HQ := hidS q
        clear q
        go_wp2_with fail
        go_roundg (n - (k + 1))
        case measure => have := HR.out; omega
        case rel =>
          refine ⟨k + 1, by go_num, by have := HR.out; omega, rfl, (show Hid _ from ?_)⟩
          show x ∉ xs.take (k + 1)
          obtain ⟨hkl, he⟩ := List.getElem?_eq_some_iff.1 HR.out.2.2
          rw [List.take_add_one, List.getElem?_eq_getElem hkl, he]
          simp only [Option.toList, List.mem_append, List.mem_singleton, not_or]
          exact ⟨HK.out, HQ.out⟩
    · have hk' : ¬ (k : Int) < (n : Int) := by omega
      have HF : Hid (x ∉ xs) := by
        have := HK.out
        rwa [List.take_of_length_le (by have := HL.out; omega)] at this
      clear hg hk
      go_wp2_with fail
      exact bodyPost_ret (v := .bool false) (by simp [results, Try.results19, go_sem]) rfl ⟨by rw [decide_eq_false HF.out], rfl⟩
theorem below_set5 {B : Nat} {a w : World} {g : Nat} (h : Below B a w) (hB : B ≤ g) (hs : B ≤ a.heap.size) (v0 v1 v2 v3 v4 : Value) : Below B a (((((w.setCell ⟨g, 0, none⟩ v0).setCell ⟨g, 1, none⟩ v1).setCell ⟨g, 2, none⟩ v2).setCell ⟨g, 3, none⟩ v3).setCell ⟨g, 4, none⟩ v4) := by
  have q := Nat.le_trans hs h.size
  have one : ∀ (w : World) k (v : Value), Below B a w → Below B a (w.setCell ⟨g, k, none⟩ v) := fun w k v h => h.grown (grown_set w g k v) (Nat.le_trans hs h.size) fun z hz => by simp at hz; omega
  exact one _ _ _ (one _ _ _ (one _ _ _ (one _ _ _ (one _ _ _ h))))
theorem set5_cells {w : World} {g : Nat} {u0 u1 u2 u3 u4 : Value} (z0 : w.cell? ⟨g, 0, none⟩ = some u0) (z1 : w.cell? ⟨g, 1, none⟩ = some u1) (z2 : w.cell? ⟨g, 2, none⟩ = some u2) (z3 : w.cell? ⟨g, 3, none⟩ = some u3) (z4 : w.cell? ⟨g, 4, none⟩ = some u4) (v0 v1 v2 v3 v4 : Value) :
    (((((w.setCell ⟨g, 0, none⟩ v0).setCell ⟨g, 1, none⟩ v1).setCell ⟨g, 2, none⟩ v2).setCell ⟨g, 3, none⟩ v3).setCell ⟨g, 4, none⟩ v4).cell? ⟨g, 0, none⟩ = some v0 ∧ (((((w.setCell ⟨g, 0, none⟩ v0).setCell ⟨g, 1, none⟩ v1).setCell ⟨g, 2, none⟩ v2).setCell ⟨g, 3, none⟩ v3).setCell ⟨g, 4, none⟩ v4).cell? ⟨g, 1, none⟩ = some v1 ∧ (((((w.setCell ⟨g, 0, none⟩ v0).setCell ⟨g, 1, none⟩ v1).setCell ⟨g, 2, none⟩ v2).setCell ⟨g, 3, none⟩ v3).setCell ⟨g, 4, none⟩ v4).cell? ⟨g, 2, none⟩ = some v2 ∧ (((((w.setCell ⟨g, 0, none⟩ v0).setCell ⟨g, 1, none⟩ v1).setCell ⟨g, 2, none⟩ v2).setCell ⟨g, 3, none⟩ v3).setCell ⟨g, 4, none⟩ v4).cell? ⟨g, 3, none⟩ = some v3 ∧ (((((w.setCell ⟨g, 0, none⟩ v0).setCell ⟨g, 1, none⟩ v1).setCell ⟨g, 2, none⟩ v2).setCell ⟨g, 3, none⟩ v3).setCell ⟨g, 4, none⟩ v4).cell? ⟨g, 4, none⟩ = some v4 := by
  obtain ⟨a0, a1, a2, a3⟩ := set4_cells z0 z1 z2 z3 v0 v1 v2 v3
  refine ⟨?_, ?_, ?_, ?_, ?_⟩
  · rw [cso _ _ _ _ _ (by decide), a0]
  · rw [cso _ _ _ _ _ (by decide), a1]
  · rw [cso _ _ _ _ _ (by decide), a2]
  · rw [cso _ _ _ _ _ (by decide), a3]
  · rw [css _ _ _ _ ((cso _ _ _ _ _ (by decide)).trans ((cso _ _ _ _ _ (by decide)).trans ((cso _ _ _ _ _ (by decide)).trans ((cso _ _ _ _ _ (by decide)).trans z4))))]
set_option maxHeartbeats 1000000 in
set_option maxRecDepth 100000 in
theorem rtable_t {w : World} {ao : Option Addr} {n cap : Nat} {xs : List LnV} (h : RS lnE w ao n cap xs) (x : Int) :
    Calls Try.prog 18 #[.slice ao n cap, .int .i64 x] w fun e w' => (∃ u, e = .returned (.tuple #[u, .bool (decide (x ∈ nosL xs))])) ∧ Below w.heap.size w w' := by
  have hl : xs.length = n := by obtain ⟨us, h1, _⟩ := h; exact h1
  have hn63 : n ≤ 2 ^ 63 - 1 := by obtain ⟨us, _, _, h3, h4, _⟩ := h; unfold maxLen at h4; omega
  obtain ⟨W, hW⟩ : ∃ W, W = w.alloc (.cells #[.int .i64 0, .int .i64 0, .int .i64 0, .slice none 0 0, .slice none 0 0] 30) := ⟨_, rfl⟩
  have hWb : Below w.heap.size w W := by rw [hW]; exact (Below.refl _ w).alloc (Nat.le_refl _) _
  have hx : W.heap[w.heap.size]? = some (.cells #[.int .i64 0, .int .i64 0, .int .i64 0, .slice none 0 0, .slice none 0 0] 30 (0, 0)) := by rw [hW]; exact heap_alloc_new w _
  have HZ : Hid (∀ wx, Below W.heap.size W wx → (wx.cell? ⟨w.heap.size, 0, none⟩ = some (.int .i64 0) ∧ wx.cell? ⟨w.heap.size, 1, none⟩ = some (.int .i64 0) ∧ wx.cell? ⟨w.heap.size, 2, none⟩ = some (.int .i64 0) ∧ wx.cell? ⟨w.heap.size, 3, none⟩ = some (.slice none 0 0) ∧ wx.cell? ⟨w.heap.size, 4, none⟩ = some (.slice none 0 0)) ∧ wx.frozen? ⟨w.heap.size, 0, none⟩ = false ∧ wx.frozen? ⟨w.heap.size, 1, none⟩ = false ∧ wx.frozen? ⟨w.heap.size, 2, none⟩ = false ∧ wx.frozen? ⟨w.heap.size, 3, none⟩ = false ∧ wx.frozen? ⟨w.heap.size, 4, none⟩ = false) := fun wx hb => by
    have q := blk_cells hx (Array.getElem?_eq_some_iff.1 hx).1 hb
    exact ⟨⟨(q 0 _ rfl).1, (q 1 _ rfl).1, (q 2 _ rfl).1, (q 3 _ rfl).1, (q 4 _ rfl).1⟩, (q 0 _ rfl).2, (q 1 _ rfl).2, (q 2 _ rfl).2, (q 3 _ rfl).2, (q 4 _ rfl).2⟩
  have HE : Hid (∀ wx, Below W.heap.size W wx → ∀ v0 v1 v2 v3 v4, Below w.heap.size w (((((wx.setCell ⟨w.heap.size, 0, none⟩ v0).setCell ⟨w.heap.size, 1, none⟩ v1).setCell ⟨w.heap.size, 2, none⟩ v2).setCell ⟨w.heap.size, 3, none⟩ v3).setCell ⟨w.heap.size, 4, none⟩ v4)) := fun wx hb v0 v1 v2 v3 v4 =>
    below_set5 (hWb.trans (hb.mono hWb.size)) (Nat.le_refl _) (Nat.le_refl _) v0 v1 v2 v3 v4
  have HRW : Hid (∀ wx, Below W.heap.size W wx → RS lnE wx ao n cap xs) := fun wx hb => (h.later hWb).later hb
  have HL := hidS hl
  have HW := hidS hW
  have HW0 : Hid (Below W.heap.size W W) := Below.refl _ _
  have HAL : Hid (∀ wx, Below W.heap.size W wx → ∀ o, Below W.heap.size W (wx.alloc o)) := fun wx hb o => hb.alloc hb.size o
  clear hl h hW hWb hx
  go_enter Try.func18, Try.ntmps18
  go_wp2_with fail
  rw [← HW.out]
  go_loopg [7, 10] n (fun kx _ s10 wr => ∃ k : Nat, s10 = .int .i64 k ∧ k + kx = n ∧ Hid (x ∉ nosL (xs.take k) ∧ Below W.heap.size W wr))
  case atStart => exact ⟨0, rfl, by omega, (show x ∉ nosL (xs.take 0) by simp [nosL]), HW0.out⟩
  case round =>
    obtain ⟨k, rfl, hg, HK⟩ := hrel
    by_cases hk : k < n
    · have hk' : (k : Int) < (n : Int) := by omega
      obtain ⟨y, hy⟩ : ∃ y, xs[k]? = some y := ⟨_, List.getElem?_eq_getElem (by have := HL.out; omega)⟩
      obtain ⟨b, off, la, lc, ma, mc, rfl, r0, r1, r2, r3, r4, -, -, -, -, -⟩ := RS.ln (HRW.out _ HK.out.2) hy
      have HR := hidS (And.intro hg (And.intro hk hy))
      have hk62 : k ≤ 2 ^ 63 - 2 := by omega
      clear hg hy
      obtain ⟨num, hnum⟩ : ∃ z, z = y.num := ⟨_, rfl⟩
      have HN := hidS hnum
      rw [← hnum] at r0
      generalize y.lvl = lvl at r1
      generalize y.size = size at r2
      generalize y.least.length = L1 at r3
      generalize y.most.length = L2 at r4
      clear hnum
      have HB := HAL.out _ HK.out.2 (.cells #[.int .i64 num, .int .i64 lvl, .int .i64 size, .slice la L1 lc, .slice ma L2 mc] 30)
      obtain ⟨⟨z0, z1, z2, z3, z4⟩, f0, f1, f2, f3, f4⟩ := HZ.out _ HB
      have HBB := hidE HB
      clear HB
      by_cases q : num = x
      · have q1 : (num == x) = true := by simpa using q
        have q2 : (x == num) = true := by simpa using q.symm
        have HM : Hid (x ∈ nosL xs) := by rw [← q, HN.out]; exact List.mem_map.2 ⟨y, List.mem_of_getElem? HR.out.2.2, rfl⟩
        clear q
        go_wp2_with fail
        have S5 := set5_cells z0 z1 z2 z3 z4 (.int .i64 num) (.int .i64 lvl) (.int .i64 size) (.slice la L1 lc) (.slice ma L2 mc)
        exact bodyPost_ret (v := .tuple #[.agg #[.int .i64 num, .int .i64 lvl, .int .i64 size, .slice la L1 lc, .slice ma L2 mc], .bool true]) (by simp [results, Try.results18, go_sem, S5.1, S5.2.1, S5.2.2.1, S5.2.2.2.1, S5.2.2.2.2]) rfl ⟨⟨_, by rw [decide_eq_true HM.out]⟩, HE.out _ HBB.out _ _ _ _ _⟩
      · have q1 : (num == x) = false := by simpa using q
        have q2 : (x == num) = false := by simpa using fun e => q e.symm
        have HQ := hidS q
        clear q
        go_wp2_with fail
        go_roundg (n - (k + 1))
        case measure => have := HR.out; omega
        case rel =>
          refine ⟨k + 1, by go_num, by have := HR.out; omega, (show x ∉ nosL (xs.take (k + 1)) from ?_), HBB.out⟩
          obtain ⟨hkl, he⟩ := List.getElem?_eq_some_iff.1 HR.out.2.2
          rw [List.take_add_one, List.getElem?_eq_getElem hkl, he]
          unfold nosL
          simp only [Option.toList, List.map_append, List.map_cons, List.map_nil, List.mem_append, List.mem_singleton, not_or]
          exact ⟨HK.out.1, fun e => HQ.out (HN.out.trans e.symm)⟩
    · have hk' : ¬ (k : Int) < (n : Int) := by omega
      have HF : Hid (x ∉ nosL xs) := by
        have := HK.out.1
        rwa [List.take_of_length_le (by have := HL.out; omega)] at this
      obtain ⟨⟨z0, z1, z2, z3, z4⟩, f0, f1, f2, f3, f4⟩ := HZ.out _ HK.out.2
      clear hg hk
      go_wp2_with fail
      have S5 := set5_cells z0 z1 z2 z3 z4 (.int .i64 0) (.int .i64 0) (.int .i64 0) (.slice none 0 0) (.slice none 0 0)
      exact bodyPost_ret (v := .tuple #[.agg #[.int .i64 0, .int .i64 0, .int .i64 0, .slice none 0 0, .slice none 0 0], .bool false]) (by simp [results, Try.results18, go_sem, S5.1, S5.2.1, S5.2.2.1, S5.2.2.2.1, S5.2.2.2.2]) rfl ⟨⟨_, by rw [decide_eq_false HF.out]⟩, HE.out _ HK.out.2 _ _ _ _ _⟩
end Go.Proofs.Ytjgfklbhagcbaab

/- The document's put: a line into a row in order. -/
namespace Go.Proofs.Ytjgfklbhagcbaab
open Go.RowKit
set_option linter.unusedVariables false
set_option linter.unusedSimpArgs false

theorem elem24 : Try.prog.elem 24 = 30 := by kernel_rfl
theorem under24 : Try.prog.underlying 24 = some (.slice (Try.prog.elem 24)) := by rw [elem24]; exact Try.underlying24
theorem run_headLn (w : World) (ao : Option Addr) (len cap j : Nat) (h2 : j ≤ cap) : (Instr.slice 24 (.slice ao len cap) none (some (.int .i64 (j : Int))) none).run Try.prog w = .ok (.slice (cutS ao cap 0 5) j cap) w := by
  rw [run_slice_h (P := Try.prog) (w := w) 24 ao len cap under24 .i64 (j : Int) (by omega) (by omega), elem24, Try.sizeOf30]
  simp only [Result.andThen, Int.toNat_natCast]
  rw [sliced_cutS _ _ _ _ _ (by omega)]
  rfl
theorem run_fromLn (w : World) (ao : Option Addr) (len cap i : Nat) (h1 : i ≤ len) (h2 : len ≤ cap) : (Instr.slice 24 (.slice ao len cap) (some (.int .i64 (i : Int))) none none).run Try.prog w = .ok (.slice (cutS ao cap i 5) (len - i) (cap - i)) w := by
  rw [run_slice_l (P := Try.prog) (w := w) 24 ao len cap under24 .i64 (i : Int) (by omega) (by omega), elem24, Try.sizeOf30]
  simp only [Result.andThen, Int.toNat_natCast]
  rw [sliced_cutS _ _ _ _ _ (by omega)]
theorem putL_cut : ∀ (l : List LnV) (t : LnV), ∃ A, A ≤ l.length ∧ putL l t = l.take A ++ [t] ++ l.drop A ∧ (∀ k (hk : k < l.length), k < A → aheadL l[k] t = true) ∧ (∀ hk : A < l.length, aheadL l[A] t = false)
  | [], t => ⟨0, Nat.le_refl _, rfl, (fun k hk => by simp at hk), (fun hk => by simp at hk)⟩
  | x :: r, t => by
    by_cases q : aheadL x t = true
    · obtain ⟨A, h1, h2, h3, h4⟩ := putL_cut r t
      refine ⟨A + 1, by simp; omega, by rw [putL, if_pos q, h2]; simp, fun k hk hA => ?_, fun hk => by simpa using h4 (by simpa using hk)⟩
      cases k with
      | zero => simpa using q
      | succ k => simpa using h3 k (by simpa using hk) (by omega)
    · exact ⟨0, Nat.zero_le _, by rw [putL, if_neg q]; simp, (fun k hk hA => by omega), (fun hk => by simpa using q)⟩

set_option maxHeartbeats 4000000 in
set_option maxRecDepth 100000 in
/-- The row in which a line stands where it belongs; its elements lean on what they leant on. -/
theorem rput_t {w : World} {ao : Option Addr} {len cap : Nat} {l : List LnV} {G : Nat → Prop} {tb ub : Option Addr} {td ud : Nat} {t : LnV} (h : RSG lnE G w ao len cap l) (he : Sl w tb t.least.length td t.least ∧ Sl w ub t.most.length ud t.most ∧ In64 t.num ∧ In64 t.lvl ∧ In64 t.size) (hG : ∀ b, G b → b < w.heap.size) (heG : ∀ u ∈ [Value.int .i64 t.num, .int .i64 t.lvl, .int .i64 t.size, .slice tb t.least.length td, .slice ub t.most.length ud], ∀ b, Refs u b → G b) (hl : len ≤ 1000000) :
    Calls Try.prog 20 #[.slice ao len cap, .agg #[.int .i64 t.num, .int .i64 t.lvl, .int .i64 t.size, .slice tb t.least.length td, .slice ub t.most.length ud]] w fun r w' => Below w.heap.size w w' ∧ ∃ v, r = .returned v ∧ RowF lnE w.heap.size G w' v (putL l t) := by
  obtain ⟨W, hW⟩ : ∃ W, W = w.alloc (.cells #[.int .i64 t.num, .int .i64 t.lvl, .int .i64 t.size, .slice tb t.least.length td, .slice ub t.most.length ud] 30) := ⟨_, rfl⟩
  have b1 : Below w.heap.size w W := by rw [hW]; exact (Below.refl _ w).alloc (Nat.le_refl _) _
  have hWs : W.heap.size = w.heap.size + 1 := by rw [hW]; simp
  have hln : l.length = len := h.rs.len.1
  obtain ⟨sk, sv, i1, i2, i3⟩ := he
  have hbx := fun (wx : World) hb => box5 w (.int .i64 t.num) (.int .i64 t.lvl) (.int .i64 t.size) (.slice tb t.least.length td) (.slice ub t.most.length ud) 30 (wx := wx) hb
  rw [← hW] at hbx
  have HX : Hid (∀ wx, Below W.heap.size W wx → wx.cell? ⟨w.heap.size, 0, none⟩ = some (.int .i64 t.num) ∧ wx.cell? ⟨w.heap.size, 1, none⟩ = some (.int .i64 t.lvl) ∧ wx.cell? ⟨w.heap.size, 2, none⟩ = some (.int .i64 t.size) ∧ wx.cell? ⟨w.heap.size, 3, none⟩ = some (.slice tb t.least.length td) ∧ wx.cell? ⟨w.heap.size, 4, none⟩ = some (.slice ub t.most.length ud)) := hbx
  have HA : Hid (∀ (k : Nat) (hk : k < l.length) (ka va : Option Addr) (kc vc : Nat) wx, Below W.heap.size W wx → Sl wx ka l[k].least.length kc l[k].least → Sl wx va l[k].most.length vc l[k].most → In64 l[k].num → In64 l[k].lvl → In64 l[k].size → Calls Try.prog 34 #[.agg #[.int .i64 l[k].num, .int .i64 l[k].lvl, .int .i64 l[k].size, .slice ka l[k].least.length kc, .slice va l[k].most.length vc], .agg #[.int .i64 t.num, .int .i64 t.lvl, .int .i64 t.size, .slice tb t.least.length td, .slice ub t.most.length ud]] wx fun r w' => r = .returned (.bool (aheadL l[k] t)) ∧ Below wx.heap.size wx w') := fun k hk ka va kc vc wx hb s1 s2 j1 j2 j3 => rahd_t (us := [.int .i64 l[k].num, .int .i64 l[k].lvl, .int .i64 l[k].size, .slice ka l[k].least.length kc, .slice va l[k].most.length vc]) (vs := [.int .i64 t.num, .int .i64 t.lvl, .int .i64 t.size, .slice tb t.least.length td, .slice ub t.most.length ud]) ⟨ka, kc, va, vc, rfl, s1, s2, j1, j2, j3⟩ ⟨tb, td, ub, ud, rfl, (sk.later b1).later hb, (sv.later b1).later hb, i1, i2, i3⟩
  have HS : Hid (RSG lnE G W ao len cap l ∧ Below w.heap.size w W ∧ len ≤ 1000000 ∧ W.heap.size = w.heap.size + 1 ∧ (∀ b, G b → b < w.heap.size)) := ⟨h.later b1, b1, hl, hWs, hG⟩
  have HEM : Hid (∀ wx, Below W.heap.size W wx → LnM wx [.int .i64 t.num, .int .i64 t.lvl, .int .i64 t.size, .slice tb t.least.length td, .slice ub t.most.length ud] t) := fun wx hb => ⟨tb, td, ub, ud, rfl, (sk.later b1).later hb, (sv.later b1).later hb, i1, i2, i3⟩
  have HEG := hid heG
  have hcap : len ≤ cap := h.rs.len.2.1
  have HW := hid hW
  clear hW heG sk sv i1 i2 i3 hbx
  generalize t.least.length = kl2 at HX HA HEM HEG HW ⊢
  generalize t.most.length = ln2 at HX HA HEM HEG HW ⊢
  generalize t.num = num2 at HX HA HEM HEG HW ⊢
  generalize t.lvl = lvl2 at HX HA HEM HEG HW ⊢
  generalize t.size = size2 at HX HA HEM HEG HW ⊢
  obtain ⟨A, hAle, hput, hA1, hA2⟩ := putL_cut l t
  have HPUT := hid hput
  have HAB : Hid ((∀ k (hk : k < l.length), k < A → aheadL l[k] t = true) ∧ (∀ hk : A < l.length, aheadL l[A] t = false)) := ⟨hA1, hA2⟩
  have hl62 : len ≤ 2 ^ 62 := by omega
  have hAl : A ≤ len := by omega
  clear h b1 hG hl hWs hput hA1 hA2
  go_enter Try.func20, Try.ntmps20
  go_upto_block 0 with fail
  rw [← HW.out]
  go_cut [5] from 6 to 19 (fun s5 wx => s5 = .int .i64 (A : Int) ∧ Hid (Below W.heap.size W wx))
  case first =>
    go_wp2_with fail
    go_loopg [5] len (fun g i wr => ∃ k : Nat, k + g = len ∧ i = .int .i64 (k : Int) ∧ Hid (k ≤ A ∧ Below W.heap.size W wr))
    case atStart => exact ⟨0, by omega, rfl, Nat.zero_le _, Below.refl _ _⟩
    case round =>
      obtain ⟨k, hk, rfl, HK⟩ := hrel
      by_cases hkl : k < len
      · have hkl' : (k : Int) < (len : Int) := by omega
        have hdl : decide ((k : Int) < (len : Int)) = true := by simpa using hkl'
        have hkx : k < l.length := by omega
        have hox := List.getElem?_eq_getElem hkx
        obtain ⟨b, off, ka, kc, va, vc, rfl, d0, d1, d2, d3, d4, k1, k2, j1, j2, j3⟩ := RS.ln (HS.out.1.rs.later HK.out.2) hox
        obtain ⟨y0, y1, y2, y3, y4⟩ := HX.out _ HK.out.2
        have hAk := HA.out k hkx ka va kc vc wr.drew HK.out.2.drew (k1.drewN 1) (k2.drewN 1) j1 j2 j3
        have HKB : Hid (∀ wx, Below wr.drew.heap.size wr.drew wx → Below W.heap.size W wx) := fun wx hb => HK.out.2.drew.trans (hb.mono HK.out.2.drew.size)
        have hlt : k < A ↔ aheadL l[k] t = true := ⟨fun q => HAB.out.1 k hkx q, fun q => by
          rcases Nat.lt_or_ge k A with p | p
          · exact p
          · have : k = A := by have := HK.out.1; omega
            subst this
            have := HAB.out.2 hkx
            rw [this] at q
            cases q⟩
        generalize aheadL l[k] t = c at hAk hlt
        generalize l[k] = o at d0 d1 d2 d3 d4 k1 k2 j1 j2 j3 hAk
        obtain ⟨num, lvl, size, key, vl⟩ := o
        simp only at d0 d1 d2 d3 d4 k1 k2 j1 j2 j3 hAk
        generalize key.length = kl at d3 hAk k1
        generalize vl.length = ln at d4 hAk k2
        have hk62 : k ≤ 2 ^ 61 := by have := HS.out.2.2.1; omega
        clear k1 k2 j1 j2 j3 hox
        cases c with
        | true =>
          have HN : Hid (k + 1 ≤ A) := hlt.2 rfl
          obtain ⟨GK, HG⟩ : ∃ g, Hid (g < gk ∧ k + 1 + g = len) := ⟨gk - 1, by omega, by omega⟩
          clear hlt hk
          go_wp2_with fail
          go_region_held_law (fun w' => (w'.cell? ⟨b, off + k * 5, none⟩ = some (.int .i64 num) ∧ w'.cell? ⟨b, off + k * 5 + 1, none⟩ = some (.int .i64 lvl) ∧ w'.cell? ⟨b, off + k * 5 + 2, none⟩ = some (.int .i64 size) ∧ w'.cell? ⟨b, off + k * 5 + 3, none⟩ = some (.slice ka kl kc) ∧ w'.cell? ⟨b, off + k * 5 + 4, none⟩ = some (.slice va ln vc)) ∧ (w'.cell? ⟨w.heap.size, 0, none⟩ = some (.int .i64 num2) ∧ w'.cell? ⟨w.heap.size, 1, none⟩ = some (.int .i64 lvl2) ∧ w'.cell? ⟨w.heap.size, 2, none⟩ = some (.int .i64 size2) ∧ w'.cell? ⟨w.heap.size, 3, none⟩ = some (.slice tb kl2 td) ∧ w'.cell? ⟨w.heap.size, 4, none⟩ = some (.slice ub ln2 ud))) (first | exact ⟨⟨d0, d1, d2, d3, d4⟩, ⟨y0, y1, y2, y3, y4⟩⟩ | exact ⟨⟨cell_later hb5 d0, cell_later hb5 d1, cell_later hb5 d2, cell_later hb5 d3, cell_later hb5 d4⟩, ⟨cell_later hb5 y0, cell_later hb5 y1, cell_later hb5 y2, cell_later hb5 y3, cell_later hb5 y4⟩⟩) (first | (go_at_call 34; refine hAk.mono ?_; rintro e w5 ⟨rfl, hb5⟩))
          go_wp2_with fail
          go_roundg GK
          case measure => exact HG.out.1
          case rel => exact ⟨k + 1, HG.out.2, by go_num, HN.out, HKB.out _ hb5⟩
        | false =>
          have HN : Hid (k = A) := by have := HK.out.1; have : ¬ k < A := fun q => (by cases hlt.1 q); show k = A; omega
          clear hlt hk
          go_wp2_with fail
          go_region_held_law (fun w' => (w'.cell? ⟨b, off + k * 5, none⟩ = some (.int .i64 num) ∧ w'.cell? ⟨b, off + k * 5 + 1, none⟩ = some (.int .i64 lvl) ∧ w'.cell? ⟨b, off + k * 5 + 2, none⟩ = some (.int .i64 size) ∧ w'.cell? ⟨b, off + k * 5 + 3, none⟩ = some (.slice ka kl kc) ∧ w'.cell? ⟨b, off + k * 5 + 4, none⟩ = some (.slice va ln vc)) ∧ (w'.cell? ⟨w.heap.size, 0, none⟩ = some (.int .i64 num2) ∧ w'.cell? ⟨w.heap.size, 1, none⟩ = some (.int .i64 lvl2) ∧ w'.cell? ⟨w.heap.size, 2, none⟩ = some (.int .i64 size2) ∧ w'.cell? ⟨w.heap.size, 3, none⟩ = some (.slice tb kl2 td) ∧ w'.cell? ⟨w.heap.size, 4, none⟩ = some (.slice ub ln2 ud))) (first | exact ⟨⟨d0, d1, d2, d3, d4⟩, ⟨y0, y1, y2, y3, y4⟩⟩ | exact ⟨⟨cell_later hb5 d0, cell_later hb5 d1, cell_later hb5 d2, cell_later hb5 d3, cell_later hb5 d4⟩, ⟨cell_later hb5 y0, cell_later hb5 y1, cell_later hb5 y2, cell_later hb5 y3, cell_later hb5 y4⟩⟩) (first | (go_at_call 34; refine hAk.mono ?_; rintro e w5 ⟨rfl, hb5⟩))
          go_wp2_with fail
          go_meet
          exact ⟨by rw [HN.out], HKB.out _ hb5⟩
      · have hkl' : (len : Int) ≤ (k : Int) := by omega
        have hdl : decide ((k : Int) < (len : Int)) = false := by simp; omega
        have hdl2 : decide (k < len) = false := by simp; omega
        have HN : Hid (k = A) := by have := HK.out.1; show k = A; omega
        have HKB := hid HK.out.2
        clear hk hkl
        go_wp2_with fail
        go_quiet (fail)
        go_wp2_with fail
        go_meet
        exact ⟨by rw [HN.out], below_drewN HKB.out _⟩
  case rest =>
    obtain ⟨rfl, HK⟩ := hcut
    have HP : Hid (∀ wx, Below W.heap.size W wx → Below w.heap.size w wx) := fun wx hb => HS.out.2.1.trans (hb.mono HS.out.2.1.size)
    have hL1 : ∀ wx, Below W.heap.size W wx → RSG lnE G wx (cutS ao cap 0 5) A cap (l.take A) := fun wx hb => by
      have := (HS.out.1.later hb).cut (by decide) 0 A (Nat.zero_le _) hAl
      rw [Nat.sub_zero, Nat.sub_zero, List.drop_zero] at this
      exact this
    have hL2 : ∀ wx, Below W.heap.size W wx → RSG lnE G wx (cutS ao cap A 5) (len - A) (cap - A) (l.drop A) := fun wx hb => by
      have := (HS.out.1.later hb).cut (by decide) A len hAl (Nat.le_refl _)
      rw [List.take_of_length_le (by rw [List.length_drop]; omega)] at this
      exact this
    have hr1 := fun w => run_headLn w ao len cap A (by omega)
    have hr2 := fun w => run_fromLn w ao len cap A hAl hcap
    have HL1 := hid hL1
    have HL2 := hid hL2
    have HTL : Hid ((l.take A).length = A ∧ (l.drop A).length = len - A ∧ len ≤ 1000000 ∧ A ≤ len) := ⟨by rw [List.length_take]; omega, by rw [List.length_drop]; omega, HS.out.2.2.1, hAl⟩
    have HGB : Hid (∀ b, G b → b < W.heap.size) := fun b hb => by have := HS.out.2.2.2.2 b hb; have := HS.out.2.2.2.1; omega
    clear hL1 hL2 HAB hln hAle
    have HQ : Hid (Below W.heap.size W wc) := HK.out
    obtain ⟨wq, hwq⟩ : ∃ x, x = wc := ⟨_, rfl⟩
    rw [← hwq] at HQ ⊢
    clear hwq HK
    go_wp2_with fail
    go_region_held_law (fun w' => w'.cell? ⟨w.heap.size, 0, none⟩ = some (.int .i64 num2) ∧ w'.cell? ⟨w.heap.size, 1, none⟩ = some (.int .i64 lvl2) ∧ w'.cell? ⟨w.heap.size, 2, none⟩ = some (.int .i64 size2) ∧ w'.cell? ⟨w.heap.size, 3, none⟩ = some (.slice tb kl2 td) ∧ w'.cell? ⟨w.heap.size, 4, none⟩ = some (.slice ub ln2 ud)) (first | exact HX.out _ HQ.out.drew | exact HX.out _ (HQ.out.alloc HQ.out.size _).drew | exact HX.out _ (c2.trans b3) | exact HX.out _ c2 | exact HX.out _ c1 | exact HX.out _ (c1.alloc c1.size _)) (first | (refine step_appG lnE (t := 24) (z := .agg #[.int .i64 0, .int .i64 0, .int .i64 0, .slice none 0 0, .slice none 0 0]) (bytes := 72) (B := W.heap.size) Try.underlying24 lnE_info rfl (by decide) rfl (.const (.slice none 0 0)) (.tmp 22) rfl rfl (RowF.nil _ G _) rfl (HL1.out _ (by first | exact HQ.out.drew | exact (HQ.out.alloc HQ.out.size _).drew)) HGB.out (by have := HTL.out; simp; omega) (by have := HTL.out; simp; omega) (by first | exact HQ.out.drew.size | exact (HQ.out.alloc HQ.out.size _).drew.size) ?_; intro v1 w1 r1 g1 b0; have b1 := below_nil g1; have c1 : Below W.heap.size W w1 := (by first | exact HQ.out.drew.trans (b1.mono HQ.out.drew.size) | exact ((HQ.out.alloc HQ.out.size _).drew).trans (b1.mono ((HQ.out.alloc HQ.out.size _).drew).size))) | (refine step_appG lnE (t := 24) (z := .agg #[.int .i64 0, .int .i64 0, .int .i64 0, .slice none 0 0, .slice none 0 0]) (bytes := 72) (B := W.heap.size) Try.underlying24 lnE_info rfl (by decide) rfl (.tmp 23) (.tmp 25) rfl rfl (by first | exact r1 | exact r1.alloc _) rfl (by first | exact rsg_one (HEM.out _ c1) HEG.out | exact ((rsg_one (HEM.out _ HQ.out) HEG.out).later (Below.refl _ _).drew).later b1) HGB.out (by have := HTL.out; simp; omega) (by have := HTL.out; simp; omega) (by first | exact c1.size | exact (c1.alloc c1.size _).size) ?_; intro v2 w2 r2 g2 b2; have c2 : Below W.heap.size W w2 := (by first | exact c1.trans b2 | exact (c1.alloc c1.size _).trans b2)) | (refine step_appG lnE (t := 24) (z := .agg #[.int .i64 0, .int .i64 0, .int .i64 0, .slice none 0 0, .slice none 0 0]) (bytes := 72) (B := W.heap.size) Try.underlying24 lnE_info rfl (by decide) rfl (.tmp 26) (.tmp 29) rfl rfl r2 rfl (HL2.out _ c2) HGB.out (by have := HTL.out; simp; omega) (by have := HTL.out; simp; omega) c2.size ?_; intro v3 w3 r3 g3 b3))
    all_goals
      go_wp2_with fail
      refine bodyPost_ret (v := v3) (by simp [results, Try.results20, go_sem]) rfl ⟨HP.out _ (c2.trans b3), v3, rfl, ?_⟩
      rw [HPUT.out]
      exact r3.base HS.out.2.1.size
end Go.Proofs.Ytjgfklbhagcbaab

/- The document's SameVersion of what is the same. -/
namespace Go.Proofs.Ytjgfklbhagcbaab
open Go.RowKit
set_option linter.unusedVariables false
set_option linter.unusedSimpArgs false

end Go.Proofs.Ytjgfklbhagcbaab
