import Derived.Test.YtjgfklbhagcbaabPk19
import Derived.Test.YtjgfklbhagcbaabPk24
/- The document's table: which line it tells; its Apply. -/
namespace Go.Proofs.Ytjgfklbhagcbaab
open Go.RowKit
set_option linter.unusedVariables false
set_option linter.unusedSimpArgs false

def noLn : LnV := ⟨0, 0, 0, [], []⟩
def fndL (xs : List LnV) (x : Int) : LnV := (xs.find? fun t => decide (t.num = x)).getD noLn
theorem noLn_m (w : World) : LnM w [.int .i64 0, .int .i64 0, .int .i64 0, .slice none 0 0, .slice none 0 0] noLn := by
  refine ⟨none, 0, none, 0, rfl, ?_, ?_, by constructor <;> decide, by constructor <;> decide, by constructor <;> decide⟩
  · exact ⟨rfl, (fun y hy => by cases hy), (fun _ => ⟨rfl, rfl⟩), Nat.le_refl _, Nat.zero_le _, (fun k hk => by cases hk)⟩
  · exact ⟨rfl, (fun y hy => by cases hy), (fun _ => ⟨rfl, rfl⟩), Nat.le_refl _, Nat.zero_le _, (fun k hk => by cases hk)⟩
theorem fnd_none {xs : List LnV} {x : Int} (h : x ∉ nosL xs) : fndL xs x = noLn := by
  unfold fndL
  rw [List.find?_eq_none.2 (fun t ht => by simpa using fun e => h (mem_nosL.2 ⟨t, ht, e⟩))]
  rfl
theorem fnd_at : ∀ {xs : List LnV} {k : Nat} {y : LnV} {x : Int}, x ∉ nosL (xs.take k) → xs[k]? = some y → x = y.num → fndL xs x = y
  | [], k, y, x, _, hy, _ => by simp at hy
  | z :: r, 0, y, x, _, hy, e => by
    obtain rfl : z = y := by simpa using hy
    unfold fndL
    rw [List.find?_cons_of_pos (by simpa using e.symm)]
    rfl
  | z :: r, k + 1, y, x, h, hy, e => by
    have h2 : ¬ z.num = x := fun q => h (by simp [nosL, q])
    have h3 : x ∉ nosL (r.take k) := fun q => h (by simp only [nosL, List.take_succ_cons, List.map_cons, List.mem_cons]; exact .inr q)
    have := fnd_at (xs := r) h3 (by simpa using hy) e
    unfold fndL at this ⊢
    rw [List.find?_cons_of_neg (by simpa using h2)]
    exact this
set_option maxHeartbeats 1000000 in
set_option maxRecDepth 100000 in
theorem rtable2_t {w : World} {ao : Option Addr} {n cap : Nat} {xs : List LnV} (h : RS lnE w ao n cap xs) (x : Int) :
    Calls Try.prog 18 #[.slice ao n cap, .int .i64 x] w fun e w' => (∃ (num lvl size : Int) (la ma : Option Addr) (L1 lc L2 mc : Nat), e = .returned (.tuple #[.agg #[.int .i64 num, .int .i64 lvl, .int .i64 size, .slice la L1 lc, .slice ma L2 mc], .bool (decide (x ∈ nosL xs))]) ∧ LnM w' [.int .i64 num, .int .i64 lvl, .int .i64 size, .slice la L1 lc, .slice ma L2 mc] (fndL xs x)) ∧ Below w.heap.size w w' := by
  have hl : xs.length = n := by obtain ⟨us, h1, _⟩ := h; exact h1
  have hn63 : n ≤ 2 ^ 63 - 1 := by obtain ⟨us, _, _, h3, h4, _⟩ := h; unfold maxLen at h4; omega
  obtain ⟨W, hW⟩ : ∃ W, W = w.alloc (.cells #[.int .i64 0, .int .i64 0, .int .i64 0, .slice none 0 0, .slice none 0 0] 30) := ⟨_, rfl⟩
  have hWb : Below w.heap.size w W := by rw [hW]; exact (Below.refl _ w).alloc (Nat.le_refl _) _
  have hx : W.heap[w.heap.size]? = some (.cells #[.int .i64 0, .int .i64 0, .int .i64 0, .slice none 0 0, .slice none 0 0] 30 (0, 0)) := by rw [hW]; exact heap_alloc_new w _
  have HZ : Hid (∀ wx, Below W.heap.size W wx → (wx.cell? ⟨w.heap.size, 0, none⟩ = some (.int .i64 0) ∧ wx.cell? ⟨w.heap.size, 1, none⟩ = some (.int .i64 0) ∧ wx.cell? ⟨w.heap.size, 2, none⟩ = some (.int .i64 0) ∧ wx.cell? ⟨w.heap.size, 3, none⟩ = some (.slice none 0 0) ∧ wx.cell? ⟨w.heap.size, 4, none⟩ = some (.slice none 0 0)) ∧ wx.frozen? ⟨w.heap.size, 0, none⟩ = false ∧ wx.frozen? ⟨w.heap.size, 1, none⟩ = false ∧ wx.frozen? ⟨w.heap.size, 2, none⟩ = false ∧ wx.frozen? ⟨w.heap.size, 3, none⟩ = false ∧ wx.frozen? ⟨w.heap.size, 4, none⟩ = false) := fun wx hb => by
    have q := blk_cells hx (Array.getElem?_eq_some_iff.1 hx).1 hb
    exact ⟨⟨(q 0 _ rfl).1, (q 1 _ rfl).1, (q 2 _ rfl).1, (q 3 _ rfl).1, (q 4 _ rfl).1⟩, (q 0 _ rfl).2, (q 1 _ rfl).2, (q 2 _ rfl).2, (q 3 _ rfl).2, (q 4 _ rfl).2⟩
  have HE : Hid (∀ wx, Below W.heap.size W wx → ∀ v0 v1 v2 v3 v4, Below w.heap.size w (((((wx.setCell ⟨w.heap.size, 0, none⟩ v0).setCell ⟨w.heap.size, 1, none⟩ v1).setCell ⟨w.heap.size, 2, none⟩ v2).setCell ⟨w.heap.size, 3, none⟩ v3).setCell ⟨w.heap.size, 4, none⟩ v4)) := fun wx hb v0 v1 v2 v3 v4 =>
    below_set5 (hWb.trans (hb.mono hWb.size)) (Nat.le_refl _) (Nat.le_refl _) v0 v1 v2 v3 v4
  have HWR : Hid (∀ wx, Below W.heap.size W wx → Below w.heap.size w wx) := fun wx hb => hWb.trans (hb.mono hWb.size)
  have H0 := hidS h
  have HL := hidS hl
  have HW := hidS hW
  have HW0 : Hid (Below W.heap.size W W) := Below.refl _ _
  have HAL : Hid (∀ wx, Below W.heap.size W wx → ∀ o, Below W.heap.size W (wx.alloc o)) := fun wx hb o => hb.alloc hb.size o
  clear hl h hW hWb hx
  go_enter Try.func18, Try.ntmps18
  go_wp2_with fail
  rw [← HW.out]
  go_loopg [7, 10] n (fun kx _ s10 wr => ∃ k : Nat, s10 = .int .i64 k ∧ k + kx = n ∧ Hid (x ∉ nosL (xs.take k) ∧ Below W.heap.size W wr))
  case atStart => exact ⟨0, rfl, by omega, (show x ∉ nosL (xs.take 0) by simp [nosL]), HW0.out⟩
  case round =>
    obtain ⟨k, rfl, hg, HK⟩ := hrel
    by_cases hk : k < n
    · have hk' : (k : Int) < (n : Int) := by omega
      obtain ⟨y, hy⟩ : ∃ y, xs[k]? = some y := ⟨_, List.getElem?_eq_getElem (by have := HL.out; omega)⟩
      obtain ⟨b, off, la, lc, ma, mc, rfl, r0, r1, r2, r3, r4, p1, p2, p3, p4, p5⟩ := RS.ln H0.out hy
      have bw := HWR.out _ HK.out.2
      replace r0 := cell_later bw r0
      replace r1 := cell_later bw r1
      replace r2 := cell_later bw r2
      replace r3 := cell_later bw r3
      replace r4 := cell_later bw r4
      clear bw
      have HMM : Hid (LnM w [.int .i64 y.num, .int .i64 y.lvl, .int .i64 y.size, .slice la y.least.length lc, .slice ma y.most.length mc] y) := ⟨la, lc, ma, mc, rfl, p1, p2, p3, p4, p5⟩
      clear p1 p2 p3 p4 p5
      have HR := hidS (And.intro hg (And.intro hk hy))
      have hk62 : k ≤ 2 ^ 63 - 2 := by omega
      clear hg hy
      obtain ⟨num, hnum⟩ : ∃ z, z = y.num := ⟨_, rfl⟩
      have HN := hidS hnum
      rw [← hnum] at r0 HMM
      generalize y.lvl = lvl at r1 HMM
      generalize y.size = size at r2 HMM
      generalize y.least.length = L1 at r3 HMM
      generalize y.most.length = L2 at r4 HMM
      clear hnum
      have HB := HAL.out _ HK.out.2 (.cells #[.int .i64 num, .int .i64 lvl, .int .i64 size, .slice la L1 lc, .slice ma L2 mc] 30)
      obtain ⟨⟨z0, z1, z2, z3, z4⟩, f0, f1, f2, f3, f4⟩ := HZ.out _ HB
      have HBB := hidE HB
      clear HB
      by_cases q : num = x
      · have q1 : (num == x) = true := by simpa using q
        have q2 : (x == num) = true := by simpa using q.symm
        have HM : Hid (x ∈ nosL xs) := by rw [← q, HN.out]; exact List.mem_map.2 ⟨y, List.mem_of_getElem? HR.out.2.2, rfl⟩
        have HFY : Hid (fndL xs x = y) := fnd_at HK.out.1 HR.out.2.2 (by rw [← q, HN.out])
        clear q
        go_wp2_with fail
        have S5 := set5_cells z0 z1 z2 z3 z4 (.int .i64 num) (.int .i64 lvl) (.int .i64 size) (.slice la L1 lc) (.slice ma L2 mc)
        exact bodyPost_ret (v := .tuple #[.agg #[.int .i64 num, .int .i64 lvl, .int .i64 size, .slice la L1 lc, .slice ma L2 mc], .bool true]) (by simp [results, Try.results18, go_sem, S5.1, S5.2.1, S5.2.2.1, S5.2.2.2.1, S5.2.2.2.2]) rfl ⟨⟨num, lvl, size, la, ma, L1, lc, L2, mc, by rw [decide_eq_true HM.out], by rw [HFY.out]; exact El.later (E := lnE) HMM.out (HE.out _ HBB.out _ _ _ _ _)⟩, HE.out _ HBB.out _ _ _ _ _⟩
      · have q1 : (num == x) = false := by simpa using q
        have q2 : (x == num) = false := by simpa using fun e => q e.symm
        have HQ := hidS q
        clear q
        go_wp2_with fail
        go_roundg (n - (k + 1))
        case measure => have := HR.out; omega
        case rel =>
          refine ⟨k + 1, by go_num, by have := HR.out; omega, (show x ∉ nosL (xs.take (k + 1)) from ?_), HBB.out⟩
          obtain ⟨hkl, he⟩ := List.getElem?_eq_some_iff.1 HR.out.2.2
          rw [List.take_add_one, List.getElem?_eq_getElem hkl, he]
          unfold nosL
          simp only [Option.toList, List.map_append, List.map_cons, List.map_nil, List.mem_append, List.mem_singleton, not_or]
          exact ⟨HK.out.1, fun e => HQ.out (HN.out.trans e.symm)⟩
    · have hk' : ¬ (k : Int) < (n : Int) := by omega
      have HF : Hid (x ∉ nosL xs) := by
        have := HK.out.1
        rwa [List.take_of_length_le (by have := HL.out; omega)] at this
      obtain ⟨⟨z0, z1, z2, z3, z4⟩, f0, f1, f2, f3, f4⟩ := HZ.out _ HK.out.2
      clear hg hk
      go_wp2_with fail
      have S5 := set5_cells z0 z1 z2 z3 z4 (.int .i64 0) (.int .i64 0) (.int .i64 0) (.slice none 0 0) (.slice none 0 0)
      exact bodyPost_ret (v := .tuple #[.agg #[.int .i64 0, .int .i64 0, .int .i64 0, .slice none 0 0, .slice none 0 0], .bool false]) (by simp [results, Try.results18, go_sem, S5.1, S5.2.1, S5.2.2.1, S5.2.2.2.1, S5.2.2.2.2]) rfl ⟨⟨0, 0, 0, none, none, 0, 0, 0, 0, by rw [decide_eq_false HF.out], by rw [fnd_none HF.out]; exact noLn_m _⟩, HE.out _ HK.out.2 _ _ _ _ _⟩
end Go.Proofs.Ytjgfklbhagcbaab

/- The document's own List, Seen, Latest and Get. -/
namespace Go.Proofs.Ytjgfklbhagcbaab
open Go.RowKit
set_option linter.unusedVariables false
set_option linter.unusedSimpArgs false

theorem wpList_appG {α : Type} (E : El α) {t : TypeId} {z : Value} {bytes : Nat} (ht : Try.prog.underlying t = some (.slice E.ty)) (hinfo : (Try.prog.info? E.ty).map (fun i => (i.zero, i.size, i.bytes)) = some (some z, E.size, bytes)) (hz1 : z.cells.size = E.size) (hp : 0 < E.size)
    {w : World} {ops : Array Oper} {rest : List Oper} {o : Oper} {a : Act} {Q : Exit → Act → World → Prop} (hgd : o.guard = none) (s x : Operand)
    (ho : o.op = .call { callee := .builtin .append, args := #[s, x], argTypes := #[t, t] }) {B : Nat} {v : Value} {xs ys : List α} (hs : a.eval s = v) {G : Nat → Prop} (hrow : RowF E B G w v xs) {ao : Option Addr} {m c : Nat} (hx : a.eval x = .slice ao m c)
    (hr : RSG E G w ao m c ys) (hG : ∀ b, G b → b < B) (hb : (xs.length + m) * bytes ≤ 140737488355328) (h63 : xs.length + m ≤ 140737488355328) (hbase : B ≤ w.heap.size)
    (h : ∀ v' w', RowF E B G w' v' (xs ++ ys) → Below B w w' → wpList Try.prog ops Q rest (a.put o.dst v') w') : wpList Try.prog ops Q (o :: rest) a w := by
  obtain ⟨us, hru, hug⟩ := hr
  exact wpList_appF E ht hinfo hz1 hp hgd s x ho hs hrow hx hru (fun u hu b hrb e => by have := hG b (hug u hu b hrb); have := (hrow.own_lt e).1; omega) hug h63 hb hbase fun v' w' h2 h3 _ => h v' w' h2 (hrow.s.below h3 hbase)
theorem box_cells (w : World) (a b c d e : Value) (t : TypeId) {wx : World} (hb : Below (w.alloc (.cells #[a, b, c, d, e] t)).heap.size (w.alloc (.cells #[a, b, c, d, e] t)) wx) :
    wx.cell? ⟨w.heap.size, 0, none⟩ = some a ∧ wx.cell? ⟨w.heap.size, 1, none⟩ = some b ∧ wx.cell? ⟨w.heap.size, 2, none⟩ = some c ∧ wx.cell? ⟨w.heap.size, 3, none⟩ = some d ∧ wx.cell? ⟨w.heap.size, 4, none⟩ = some e := by
  refine ⟨cell_later hb ?_, cell_later hb ?_, cell_later hb ?_, cell_later hb ?_, cell_later hb ?_⟩ <;> rw [cell_of (heap_alloc_new w _)] <;> rfl

end Go.Proofs.Ytjgfklbhagcbaab

/- The document's At; what its lines lean on. -/
namespace Go.Proofs.Ytjgfklbhagcbaab
open Go.RowKit
set_option linter.unusedVariables false
set_option linter.unusedSimpArgs false

/-- A line of a row that leans on G: its cells, and what they lean on. -/
theorem RSG.ln {G : Nat → Prop} {w : World} {ao : Option Addr} {len cap : Nat} {os : List LnV} (h : RSG lnE G w ao len cap os) {i : Nat} {o : LnV} (hx : os[i]? = some o) :
    ∃ b off la lc ma mc, ao = some ⟨b, off, none⟩ ∧ w.cell? ⟨b, off + i * 5, none⟩ = some (.int .i64 o.num) ∧ w.cell? ⟨b, off + i * 5 + 1, none⟩ = some (.int .i64 o.lvl) ∧ w.cell? ⟨b, off + i * 5 + 2, none⟩ = some (.int .i64 o.size) ∧ w.cell? ⟨b, off + i * 5 + 3, none⟩ = some (.slice la o.least.length lc) ∧ w.cell? ⟨b, off + i * 5 + 4, none⟩ = some (.slice ma o.most.length mc) ∧
      LnM w [.int .i64 o.num, .int .i64 o.lvl, .int .i64 o.size, .slice la o.least.length lc, .slice ma o.most.length mc] o ∧ (Sl w la o.least.length lc o.least ∧ Sl w ma o.most.length mc o.most) ∧ ∀ u ∈ [Value.int .i64 o.num, .int .i64 o.lvl, .int .i64 o.size, .slice la o.least.length lc, .slice ma o.most.length mc], ∀ b, Refs u b → G b := by
  obtain ⟨us, ⟨h1, h2, h3, h4, h5, h6⟩, hg⟩ := h
  obtain ⟨vs, g1, gm, g2⟩ := h5.at hx
  have g1' := g1
  obtain ⟨la, lc, ma, mc, rfl, s1, s2, s3⟩ := g1'
  obtain ⟨b, off, e, _⟩ := h6 _ _ (g2 0 _ rfl)
  have hc : ∀ (j : Nat) (v : Value), [Value.int .i64 o.num, .int .i64 o.lvl, .int .i64 o.size, .slice la o.least.length lc, .slice ma o.most.length mc][j]? = some v → w.cell? ⟨b, off + (i * 5 + j), none⟩ = some v := fun j v hv => by
    obtain ⟨b', off', e', hc⟩ := h6 _ _ (g2 j v hv)
    rw [e] at e'
    simp only [Option.some.injEq, Addr.mk.injEq, and_true] at e'
    obtain ⟨rfl, rfl⟩ := e'
    exact hc
  exact ⟨b, off, la, lc, ma, mc, e, hc 0 _ rfl, hc 1 _ rfl, hc 2 _ rfl, hc 3 _ rfl, hc 4 _ rfl, ⟨la, lc, ma, mc, rfl, s1, s2, s3⟩, ⟨s1, s2⟩, fun u hu b hr => hg u (gm u hu) b hr⟩
end Go.Proofs.Ytjgfklbhagcbaab
