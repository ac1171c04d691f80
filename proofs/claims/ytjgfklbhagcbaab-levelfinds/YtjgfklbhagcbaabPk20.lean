import Derived.Test.YtjgfklbhagcbaabPk18
import Derived.Test.YtjgfklbhagcbaabPk19
/- The landed level: may a version be. -/
namespace Go.Proofs.Ytjgfklbhagcbaab
open Go.RowKit
set_option linter.unusedVariables false
set_option linter.unusedSimpArgs false

theorem run_fromL (w : World) (ao : Option Addr) (len cap i : Nat) (h1 : i ≤ len) (h2 : len ≤ cap) : (Instr.slice 24 (.slice ao len cap) (some (.int .i64 (i : Int))) none none).run Try.prog w = .ok (.slice (cutS ao cap i 5) (len - i) (cap - i)) w := by
  rw [run_slice_l (P := Try.prog) (w := w) 24 ao len cap underTs .i64 (i : Int) (by omega) (by omega), elemTs, Try.sizeOf30]
  simp only [Result.andThen, Int.toNat_natCast]
  rw [sliced_cutS _ _ _ _ _ (by omega)]
theorem RS.fromL {w : World} {ao : Option Addr} {len cap : Nat} {l : List LnV} (h : RS lnE w ao len cap l) (i : Nat) (hi : i ≤ len) : RS lnE w (cutS ao cap i 5) (len - i) (cap - i) (l.drop i) := by
  have hl : l.length = len := by obtain ⟨us, h1, _⟩ := h; exact h1
  have := (RSG.any h).cut (by decide) i len hi (Nat.le_refl _)
  have e : (l.drop i).take (len - i) = l.drop i := List.take_of_length_le (by rw [List.length_drop, hl]; exact Nat.le_refl _)
  rw [e] at this
  exact this.rs
theorem bel_take {xs : List LnV} {k : Nat} {x : LnV} (hx : xs[k]? = some x) (next : Int) : bel (xs.take (k + 1)) next = (bel (xs.take k) next && decide (x.num < next)) := by
  obtain ⟨hk, rfl⟩ := List.getElem?_eq_some_iff.1 hx
  unfold bel
  rw [List.take_add_one, List.getElem?_eq_getElem hk, List.all_append]
  simp
theorem bel_false {xs : List LnV} {k : Nat} {next : Int} (h : bel (xs.take k) next = false) : bel xs next = false := by
  cases e : bel xs next with
  | false => rfl
  | true =>
    unfold bel at h e
    rw [List.all_eq_true] at e
    rw [← h]
    exact (List.all_eq_true.2 fun t ht => e t (List.mem_of_mem_take ht)).symm
theorem chn_app (f : LnV → LnV → Bool) : ∀ (l : List LnV) (p t : LnV), chn f (l ++ [p] ++ [t]) = (chn f (l ++ [p]) && f p t)
  | [], p, t => by simp [chn]
  | [a], p, t => by simp [chn, Bool.and_assoc]
  | a :: b :: r, p, t => by
    have := chn_app f (b :: r) p t
    simp only [List.cons_append] at this ⊢
    rw [chn, chn, this, Bool.and_assoc]
theorem chn_take (f : LnV → LnV → Bool) {xs : List LnV} {k : Nat} {p t : LnV} (hp : xs[k]? = some p) (ht : xs[k + 1]? = some t) : chn f (xs.take (k + 2)) = (chn f (xs.take (k + 1)) && f p t) := by
  obtain ⟨h1, rfl⟩ := List.getElem?_eq_some_iff.1 hp
  obtain ⟨h2, rfl⟩ := List.getElem?_eq_some_iff.1 ht
  rw [List.take_add_one (i := k + 1), List.getElem?_eq_getElem h2, List.take_add_one (i := k), List.getElem?_eq_getElem h1]
  exact chn_app f _ _ _
theorem chn_head (f : LnV → LnV → Bool) : ∀ (l m : List LnV), chn f (l ++ m) = true → chn f l = true
  | [], _, _ => rfl
  | [_], _, _ => rfl
  | a :: b :: r, m, h => by
    simp only [List.cons_append] at h
    rw [chn, Bool.and_eq_true] at h ⊢
    exact ⟨h.1, chn_head f (b :: r) m h.2⟩
theorem chn_false (f : LnV → LnV → Bool) {xs : List LnV} {k : Nat} (h : chn f (xs.take k) = false) : chn f xs = false := by
  cases e : chn f xs with
  | false => rfl
  | true =>
    rw [← List.take_append_drop k xs] at e
    rw [chn_head f _ _ e] at h
    cases h
set_option maxHeartbeats 4000000 in
set_option maxRecDepth 100000 in
theorem below_t {w : World} {ao : Option Addr} {n cap : Nat} {xs : List LnV} (h : RS lnE w ao n cap xs) (hn : n ≤ 2 ^ 50) (next : Int) :
    Calls Try.prog 39 #[.slice ao n cap, .int .i64 next] w fun e w' => e = .returned (.bool (bel xs next)) ∧ Below w.heap.size w w' := by
  have hl : xs.length = n := by obtain ⟨us, h1, _⟩ := h; exact h1
  have HL := hidS hl
  have H0 := hidS h
  clear hl h
  go_enter Try.func39, Try.ntmps39
  go_wp2_with fail
  go_loopg [6, 9] n (fun kx _ s9 wr => ∃ k : Nat, s9 = .int .i64 k ∧ k + kx = n ∧ Hid (bel (xs.take k) next = true ∧ Below w.heap.size w wr))
  case atStart => exact ⟨0, rfl, by omega, rfl, Below.refl _ _⟩
  case round =>
    obtain ⟨k, rfl, hg, HK⟩ := hrel
    by_cases hk : k < n
    · have hk' : (k : Int) < (n : Int) := by omega
      obtain ⟨x, hx⟩ : ∃ x, xs[k]? = some x := ⟨_, List.getElem?_eq_getElem (by have := HL.out; omega)⟩
      obtain ⟨b, off, la, lc, ma, mc, rfl, r0, r1, r2, r3, r4, -, -, -, -, -⟩ := RS.ln (H0.out.later HK.out.2) hx
      have HT : Hid (bel (xs.take (k + 1)) next = (bel (xs.take k) next && decide (x.num < next))) := bel_take hx next
      have HF : Hid (bel (xs.take (k + 1)) next = false → bel xs next = false) := bel_false
      have HB : Hid (∀ o, Below w.heap.size w (wr.alloc o)) := fun o => HK.out.2.alloc HK.out.2.size o
      have HR := hidS (And.intro hg hk)
      have hk62 : k ≤ 2 ^ 60 := by omega
      clear hg hx
      generalize x.least.length = L1 at r3
      generalize x.most.length = L2 at r4
      generalize x.num = num at r0 HT
      generalize x.lvl = lvl at r1
      generalize x.size = size at r2
      by_cases q : num < next
      · have q2 : ¬ next ≤ num := by omega
        go_wp2_with fail
        go_roundg (n - (k + 1))
        case measure => have := HR.out; omega
        case rel => exact ⟨k + 1, by go_num, by have := HR.out; omega, by rw [HT.out, HK.out.1, decide_eq_true q]; rfl, HB.out _⟩
      · have q2 : next ≤ num := by omega
        go_wp2_with fail
        exact bodyPost_ret (v := .bool false) (by simp [results, Try.results39, go_sem]) rfl ⟨by rw [HF.out (by rw [HT.out, decide_eq_false (by omega)]; simp)], HB.out _⟩
    · have hk' : ¬ (k : Int) < (n : Int) := by omega
      have HF : Hid (bel xs next = true) := by
        have := HK.out.1
        rwa [List.take_of_length_le (by have := HL.out; omega)] at this
      clear hg hk
      go_wp2_with fail
      exact bodyPost_ret (v := .bool true) (by simp [results, Try.results39, go_sem]) rfl ⟨by rw [HF.out], HK.out.2⟩
set_option maxHeartbeats 4000000 in
set_option maxRecDepth 100000 in
theorem beside_t {w : World} {us vs : List Value} {p t : LnV} (hp : LnM w us p) (ht : LnM w vs t) :
    Calls Try.prog 49 #[.agg us.toArray, .agg vs.toArray] w fun e w' => e = .returned (.bool (if t.lvl = 0 then decide (t.num < p.num) else decide (0 < cmp t.least p.most))) ∧ Below w.heap.size w w' := by
  obtain ⟨la, lc, qa, qc, rfl, hs, i1, i2, i3⟩ := lnM_parts hp
  obtain ⟨la2, lc2, qa2, qc2, rfl, hs2, j1, j2, j3⟩ := lnM_parts ht
  have hb : ∀ o o2, Below w.heap.size w ((w.alloc o).alloc o2) := fun o o2 => ((Below.refl _ w).alloc (Nat.le_refl _) o).alloc (by simp) _
  have HB := hidS hb
  have c1 := fun o o2 => compare_l (hs2 _ (hb o o2)).1 (hs _ (hb o o2)).2
  clear hp ht hs hs2 hb i1 i2 i3 j1 j2 j3
  generalize cmp t.least p.most = C at c1 ⊢
  generalize t.least.length = L1 at c1 ⊢
  generalize p.most.length = L2 at c1 ⊢
  generalize t.most.length = L3
  generalize p.least.length = L4
  generalize t.num = num
  generalize t.lvl = lvl
  generalize t.size = size
  generalize p.num = num2
  generalize p.lvl = lvl2
  generalize p.size = size2
  by_cases q : lvl = 0
  · rw [if_pos q]
    subst q
    go_enter Try.func49, Try.ntmps49
    go_wp2_with fail
    exact bodyPost_ret (v := .bool (decide (num < num2))) (by simp [results, Try.results49, go_sem]) rfl ⟨rfl, HB.out _ _⟩
  · rw [if_neg q]
    have q1 : (lvl == 0) = false := by simpa using q
    go_enter Try.func49, Try.ntmps49
    go_wp2_with (go_at_call 26; refine (c1 _ _).mono ?_; rintro e w' ⟨rfl, rfl⟩)
    exact bodyPost_ret (v := .bool (decide (0 < C))) (by simp [results, Try.results49, go_sem]) rfl ⟨rfl, HB.out _ _⟩
def sllen : Value → Nat
  | .slice _ l _ => l
  | _ => 0
set_option maxHeartbeats 8000000 in
set_option maxRecDepth 100000 in
theorem inOrder_t {w : World} {ao : Option Addr} {n cap : Nat} {xs : List LnV} (h : RS lnE w ao n cap xs) (hn : n ≤ 2 ^ 50) (hc : n ≤ cap) :
    Calls Try.prog 40 #[.slice ao n cap] w fun e w' => e = .returned (.bool (chn nxP xs)) ∧ Below w.heap.size w w' := by
  have hl : xs.length = n := by obtain ⟨us, h1, _⟩ := h; exact h1
  have HL := hidS hl
  have H0 := hidS h
  have HCN := hidS hc
  clear hl h hc
  go_enter Try.func40, Try.ntmps40
  go_wp2_with fail
  refine wp_scope_jumps 0 (fun a' w' => ∃ (j : Nat) (ra : Option Addr) (rc : Nat) (u1 u4 u5 u6 u7 u8 u9 u10 u11 u12 u13 u14 u15 u16 u17 u18 u19 u20 u21 u22 u23 u24 u25 u26 u27 u28 u29 u30 u31 u32 u33 u34 u35 u36 u37 u38 u39 u40 u41 u42 : Value), Hid (True ∧ RS lnE w ra (n - j) rc (xs.drop j) ∧ chn nxP (xs.take (j + 1)) = true ∧ Below w.heap.size w w') ∧ a' = { tmps := #[.slice ao n cap, u1, .bool false, .slice ra (n - j) rc, u4, u5, u6, u7, u8, u9, u10, u11, u12, u13, u14, u15, u16, u17, u18, u19, u20, u21, u22, u23, u24, u25, u26, u27, u28, u29, u30, u31, u32, u33, u34, u35, u36, u37, u38, u39, u40, u41, u42], defers := [] }) (fun a _ => sllen (a.eval (.tmp 3))) rfl ?_ ?_
  · have h1t : chn nxP (xs.take 1) = true := by cases xs <;> rfl
    obtain ⟨j, hj⟩ : ∃ j : Nat, j = 0 := ⟨0, rfl⟩
    have HX : Hid (True ∧ RS lnE w ao (n - j) cap (xs.drop j) ∧ chn nxP (xs.take (j + 1)) = true ∧ Below w.heap.size w w) := by subst hj; exact ⟨trivial, H0.out, h1t, Below.refl _ _⟩
    have HM : Hid (n = n - j ∧ True ∧ RS lnE w ao n cap (xs.drop j)) := ⟨by omega, trivial, by subst hj; exact H0.out⟩
    have HM2 : Hid (n ≤ cap ∧ True) := ⟨HCN.out, trivial⟩
    clear hj h1t
    go_wp2_with fail
    refine wp_label ?_
    go_wp2_with fail

    go_loopg [2, 3, 4] n (fun kx s2 s3 s4 wr => ∃ i : Nat, s2 = .bool false ∧ s3 = .slice ao n cap ∧ s4 = .int .i64 i ∧ Hid (1 ≤ i ∧ i + kx = n + 1 ∧ (i ≤ n → chn nxP (xs.take (j + i)) = true) ∧ (n < i → n ≤ j + 1) ∧ Below w.heap.size w wr))
    case atStart => exact ⟨1, rfl, rfl, rfl, (⟨Nat.le_refl _, by omega, (fun _ => HX.out.2.2.1), (fun hh => by have := HM.out; omega), HX.out.2.2.2⟩)⟩
    case round =>
      obtain ⟨i, rfl, rfl, rfl, HK⟩ := hrel
      by_cases hk : i < n
      · have hk' : (i : Int) < (n : Int) := by omega
        obtain ⟨q, hiq⟩ : ∃ q, i = q + 1 := ⟨i - 1, by have := HK.out.1; omega⟩
        have HIQ := hidS hiq
        have hM := HM.out.1
        obtain ⟨x, hx⟩ : ∃ x, xs[j + q]? = some x := ⟨_, List.getElem?_eq_getElem (by have := HL.out; omega)⟩
        obtain ⟨y, hy⟩ : ∃ y, xs[j + i]? = some y := ⟨_, List.getElem?_eq_getElem (by have := HL.out; omega)⟩
        have hx1 : (xs.drop j)[q]? = some x := by rw [List.getElem?_drop]; exact hx
        have hy1 : (xs.drop j)[i]? = some y := by rw [List.getElem?_drop]; exact hy
        obtain ⟨b, off, la, lc, ma, mc, hra, r0, r1, r2, r3, r4, p1, p2, i1, i2, i3⟩ := RS.ln (HM.out.2.2.later HK.out.2.2.2.2) hx1
        obtain ⟨b', off', la2, lc2, ma2, mc2, hra2, t0, t1, t2, t3, t4, p3, p4, j1, j2, j3⟩ := RS.ln (HM.out.2.2.later HK.out.2.2.2.2) hy1
        rw [hra] at hra2
        simp only [Option.some.injEq, Addr.mk.injEq, and_true] at hra2
        obtain ⟨rfl, rfl⟩ := hra2
        have HT : Hid (chn nxP (xs.take (j + (i + 1))) = (chn nxP (xs.take (j + i)) && nxP x y)) := by
          have := chn_take nxP (k := j + q) hx (by rw [show j + q + 1 = j + i by omega]; exact hy)
          rwa [show j + q + 2 = j + (i + 1) by omega, show j + q + 1 = j + i by omega] at this
        have HF : Hid (chn nxP (xs.take (j + (i + 1))) = false → chn nxP xs = false) := chn_false nxP
        have HC0 : Hid (chn nxP (xs.take (j + i)) = true) := HK.out.2.2.1 (by omega)
        have HB : Hid (∀ o o2, Below w.heap.size w ((wr.alloc o).alloc o2).drew) := fun o o2 => ((HK.out.2.2.2.2.alloc HK.out.2.2.2.2.size o).alloc (by have := HK.out.2.2.2.2.size; simp; omega) _).drew
        have HM1 : Hid (∀ wx, Below wr.heap.size wr wx → LnM wx [.int .i64 x.num, .int .i64 x.lvl, .int .i64 x.size, .slice la x.least.length lc, .slice ma x.most.length mc] x ∧ LnM wx [.int .i64 y.num, .int .i64 y.lvl, .int .i64 y.size, .slice la2 y.least.length lc2, .slice ma2 y.most.length mc2] y) := fun wx hb => ⟨⟨la, lc, ma, mc, rfl, p1.later hb, p2.later hb, i1, i2, i3⟩, ⟨la2, lc2, ma2, mc2, rfl, p3.later hb, p4.later hb, j1, j2, j3⟩⟩
        have hbs : ∀ o o2, Calls Try.prog 49 #[.agg #[.int .i64 x.num, .int .i64 x.lvl, .int .i64 x.size, .slice la x.least.length lc, .slice ma x.most.length mc], .agg #[.int .i64 y.num, .int .i64 y.lvl, .int .i64 y.size, .slice la2 y.least.length lc2, .slice ma2 y.most.length mc2]] ((wr.alloc o).alloc o2).drew fun e w' => e = .returned (.bool (if y.lvl = 0 then decide (y.num < x.num) else decide (0 < cmp y.least x.most))) ∧ Below ((wr.alloc o).alloc o2).drew.heap.size ((wr.alloc o).alloc o2).drew w' := fun o o2 => by
          have hb := (((Below.refl _ wr).alloc (Nat.le_refl _) o).alloc (by simp) o2).drew
          exact beside_t (HM1.out _ hb).1 (HM1.out _ hb).2
        obtain ⟨R, hR⟩ : ∃ R, R = (if y.lvl = 0 then decide (y.num < x.num) else decide (0 < cmp y.least x.most)) := ⟨_, rfl⟩
        have HN : Hid (nxP x y = if x.lvl < y.lvl then true else if y.lvl < x.lvl then false else R) := by rw [hR]; rfl
        rw [← hR] at hbs
        have hra3 : ao = some ⟨b, off, none⟩ := hra
        have hqM : i < n := hk
        have hq62 : q ≤ 2 ^ 60 := by omega
        have hi62 : i ≤ 2 ^ 60 := by omega
        have hwm : wrap64 ((i : Int) - 1) = (q : Int) := by unfold wrap64; omega
        have hwk : IntKind.i64.wrap ((i : Int) - 1) = (q : Int) := by rw [IntKind.wrap_i64]; omega
        have hwn : (i : Int) - 1 = (q : Int) := by omega
        have HQ : Hid (n - i < gk ∧ i < n) := ⟨by have := HK.out.2.1; omega, hk⟩
        have hcut := fun w => run_fromL w ao n cap i (by omega) HM2.out.1
        have HRS : Hid (j + i < n ∧ n - (j + i) = n - i ∧ n - (j + i) < n ∧ RS lnE w (cutS ao cap i 5) (n - (j + i)) (cap - i) (xs.drop (j + i))) := by
          refine ⟨by omega, by omega, by omega, ?_⟩
          have := HM.out.2.2.fromL i (by omega)
          rw [List.drop_drop] at this
          rwa [show n - (j + i) = n - i by omega]
        have hqM2 : q < n := by omega
        clear hiq hM hx hy hx1 hy1 hra p1 p2 p3 p4 i1 i2 i3 j1 j2 j3 hR hk
        subst hra3
        generalize x.least.length = L1 at r3 hbs
        generalize x.most.length = L2 at r4 hbs
        generalize y.least.length = L3 at t3 hbs
        generalize y.most.length = L4 at t4 hbs
        generalize x.num = n1 at r0 hbs
        generalize x.size = s1 at r2 hbs
        generalize y.num = n2 at t0 hbs
        generalize y.size = s2 at t2 hbs
        generalize hl1 : x.lvl = l1 at r1 hbs HN
        generalize hl2 : y.lvl = l2 at t1 hbs HN
        generalize cutS (some ⟨b, off, none⟩) cap i 5 = ca at hcut HRS
        clear hl1 hl2
        have hbd : ∀ o o2 : Obj, Below wr.heap.size wr ((wr.alloc o).alloc o2).drew := fun o o2 => (((Below.refl _ wr).alloc (Nat.le_refl _) o).alloc (by simp) o2).drew
        have hbe : ∀ o : Obj, Below wr.heap.size wr (wr.alloc o).drew := fun o => ((Below.refl _ wr).alloc (Nat.le_refl _) o).drew
        have hbf : Below wr.heap.size wr wr.drew := (Below.refl _ wr).drew
        have rr0 := fun o o2 => cell_later (hbd o o2) r0
        have ra0 := fun o => cell_later (hbe o) r0
        have rb0 := cell_later hbf r0
        have rr1 := fun o o2 => cell_later (hbd o o2) r1
        have ra1 := fun o => cell_later (hbe o) r1
        have rb1 := cell_later hbf r1
        have rr2 := fun o o2 => cell_later (hbd o o2) r2
        have ra2 := fun o => cell_later (hbe o) r2
        have rb2 := cell_later hbf r2
        have rr3 := fun o o2 => cell_later (hbd o o2) r3
        have ra3 := fun o => cell_later (hbe o) r3
        have rb3 := cell_later hbf r3
        have rr4 := fun o o2 => cell_later (hbd o o2) r4
        have ra4 := fun o => cell_later (hbe o) r4
        have rb4 := cell_later hbf r4
        have tt0 := fun o o2 => cell_later (hbd o o2) t0
        have ta0 := fun o => cell_later (hbe o) t0
        have tb0 := cell_later hbf t0
        have tt1 := fun o o2 => cell_later (hbd o o2) t1
        have ta1 := fun o => cell_later (hbe o) t1
        have tb1 := cell_later hbf t1
        have tt2 := fun o o2 => cell_later (hbd o o2) t2
        have ta2 := fun o => cell_later (hbe o) t2
        have tb2 := cell_later hbf t2
        have tt3 := fun o o2 => cell_later (hbd o o2) t3
        have ta3 := fun o => cell_later (hbe o) t3
        have tb3 := cell_later hbf t3
        have tt4 := fun o o2 => cell_later (hbd o o2) t4
        have ta4 := fun o => cell_later (hbe o) t4
        have tb4 := cell_later hbf t4
        clear hbd hbe hbf
        go_wp2_with fail
        go_big_region
        all_goals clear rb0 rb1 rb2 rb3 rb4 tb0 tb1 tb2 tb3 tb4 ra0 ra1 ra2 ra3 ra4 ta0 ta1 ta2 ta3 ta4 rr0 rr1 rr2 rr3 rr4 tt0 tt1 tt2 tt3 tt4 r0 r1 r2 r3 r4 t0 t1 t2 t3 t4
        all_goals
          rcases Int.lt_trichotomy l1 l2 with hlt | hlt | hlt
          · have HN2 : Hid (chn nxP (xs.take (j + (i + 1))) = true) := by
              have := HN.out
              rw [if_pos hlt] at this
              rw [HT.out, HC0.out, this]; rfl
            go_wp2_with fail
            go_step3
            rw [← HRS.out.2.1]
            exact ⟨rfl, j + i, ca, cap - i, _, _, _, _, _, _, _, _, _, _, _, _, _, _, _, _, _, _, _, _, _, _, _, _, _, _, _, _, _, _, _, _, _, _, _, _, _, _, _, _, ⟨trivial, HRS.out.2.2.2, HN2.out, HB.out _ _⟩, rfl⟩
          · have HN2 : Hid (chn nxP (xs.take (j + (i + 1))) = R) := by
              have := HN.out
              rw [if_neg (by omega), if_neg (by omega)] at this
              rw [HT.out, HC0.out, this]; rfl
            subst hlt
            have h1 : ¬ l1 < l1 := by omega
            cases R with
            | false =>
              go_wp2_with (go_at_call 49; refine (hbs _ _).mono ?_; rintro e w2 ⟨rfl, b2⟩)
              simp only [Exit.jump]
              exact bodyPost_ret (v := .bool false) (by simp [results, Try.results40, go_sem]) rfl ⟨by rw [HF.out HN2.out], (HB.out _ _).trans (b2.mono (HB.out _ _).size)⟩
            | true =>
              go_wp2_with (go_at_call 49; refine (hbs _ _).mono ?_; rintro e w2 ⟨rfl, b2⟩)
              go_roundg (n - i)
              case measure => exact HQ.out.1
              case rel => exact ⟨i + 1, rfl, rfl, by go_num, by omega, by have := HQ.out.2; omega, (fun _ => HN2.out), (fun hh => by have := HQ.out.2; omega), (HB.out _ _).trans (b2.mono (HB.out _ _).size)⟩
          · have HN2 : Hid (chn nxP (xs.take (j + (i + 1))) = false) := by
              have := HN.out
              rw [if_neg (by omega), if_pos hlt] at this
              exact (by rw [HT.out, this]; exact Bool.and_false _ : chn nxP (xs.take (j + (i + 1))) = false)
            have h1 : ¬ l1 < l2 := by omega
            go_wp2_with fail
            simp only [Exit.jump]
            exact bodyPost_ret (v := .bool false) (by simp [results, Try.results40, go_sem]) rfl ⟨by rw [HF.out HN2.out], HB.out _ _⟩
      · have hk' : ¬ (i : Int) < (n : Int) := by omega
        have HE : Hid (chn nxP xs = true) := by
          have h0 := HM.out.1
          have h2 := HK.out.1
          by_cases z : i ≤ n
          · have := HK.out.2.2.1 z
            rwa [List.take_of_length_le (by have := HL.out; omega)] at this
          · have h3 := HK.out.2.2.2.1 (by omega)
            have := HX.out.2.2.1
            rwa [List.take_of_length_le (by have := HL.out; omega)] at this
        clear hk
        go_wp2_with fail
        simp only [Exit.jump]
        exact bodyPost_ret (v := .bool true) (by simp [results, Try.results40, go_sem]) rfl ⟨by rw [HE.out], HK.out.2.2.2.2⟩
  · rintro a' w' ⟨j, ra, rc, u1, u4, u5, u6, u7, u8, u9, u10, u11, u12, u13, u14, u15, u16, u17, u18, u19, u20, u21, u22, u23, u24, u25, u26, u27, u28, u29, u30, u31, u32, u33, u34, u35, u36, u37, u38, u39, u40, u41, u42, HX, rfl⟩
    obtain ⟨MM, hMM⟩ : ∃ M, M = n - j := ⟨_, rfl⟩
    rw [← hMM]
    have HM : Hid (MM = n - j ∧ True ∧ RS lnE w ra MM rc (xs.drop j)) := ⟨hMM, HX.out.1, by rw [hMM]; exact HX.out.2.1⟩
    have HM2 : Hid (MM ≤ rc ∧ True) := ⟨by obtain ⟨us, _, _, h3, _⟩ := HM.out.2.2; exact h3, trivial⟩
    have hM50 : MM ≤ 2 ^ 50 := by omega
    clear hMM
    go_wp2_with fail

    go_loopg [2, 3, 4] MM (fun kx s2 s3 s4 wr => ∃ i : Nat, s2 = .bool false ∧ s3 = .slice ra MM rc ∧ s4 = .int .i64 i ∧ Hid (1 ≤ i ∧ i + kx = MM + 1 ∧ (i ≤ MM → chn nxP (xs.take (j + i)) = true) ∧ (MM < i → n ≤ j + 1) ∧ Below w.heap.size w wr))
    case atStart => exact ⟨1, rfl, rfl, rfl, (⟨Nat.le_refl _, by omega, (fun _ => HX.out.2.2.1), (fun hh => by have := HM.out; omega), HX.out.2.2.2⟩)⟩
    case round =>
      obtain ⟨i, rfl, rfl, rfl, HK⟩ := hrel
      by_cases hk : i < MM
      · have hk' : (i : Int) < (MM : Int) := by omega
        obtain ⟨q, hiq⟩ : ∃ q, i = q + 1 := ⟨i - 1, by have := HK.out.1; omega⟩
        have HIQ := hidS hiq
        have hM := HM.out.1
        obtain ⟨x, hx⟩ : ∃ x, xs[j + q]? = some x := ⟨_, List.getElem?_eq_getElem (by have := HL.out; omega)⟩
        obtain ⟨y, hy⟩ : ∃ y, xs[j + i]? = some y := ⟨_, List.getElem?_eq_getElem (by have := HL.out; omega)⟩
        have hx1 : (xs.drop j)[q]? = some x := by rw [List.getElem?_drop]; exact hx
        have hy1 : (xs.drop j)[i]? = some y := by rw [List.getElem?_drop]; exact hy
        obtain ⟨b, off, la, lc, ma, mc, hra, r0, r1, r2, r3, r4, p1, p2, i1, i2, i3⟩ := RS.ln (HM.out.2.2.later HK.out.2.2.2.2) hx1
        obtain ⟨b', off', la2, lc2, ma2, mc2, hra2, t0, t1, t2, t3, t4, p3, p4, j1, j2, j3⟩ := RS.ln (HM.out.2.2.later HK.out.2.2.2.2) hy1
        rw [hra] at hra2
        simp only [Option.some.injEq, Addr.mk.injEq, and_true] at hra2
        obtain ⟨rfl, rfl⟩ := hra2
        have HT : Hid (chn nxP (xs.take (j + (i + 1))) = (chn nxP (xs.take (j + i)) && nxP x y)) := by
          have := chn_take nxP (k := j + q) hx (by rw [show j + q + 1 = j + i by omega]; exact hy)
          rwa [show j + q + 2 = j + (i + 1) by omega, show j + q + 1 = j + i by omega] at this
        have HF : Hid (chn nxP (xs.take (j + (i + 1))) = false → chn nxP xs = false) := chn_false nxP
        have HC0 : Hid (chn nxP (xs.take (j + i)) = true) := HK.out.2.2.1 (by omega)
        have HB : Hid (∀ o o2, Below w.heap.size w ((wr.alloc o).alloc o2).drew) := fun o o2 => ((HK.out.2.2.2.2.alloc HK.out.2.2.2.2.size o).alloc (by have := HK.out.2.2.2.2.size; simp; omega) _).drew
        have HM1 : Hid (∀ wx, Below wr.heap.size wr wx → LnM wx [.int .i64 x.num, .int .i64 x.lvl, .int .i64 x.size, .slice la x.least.length lc, .slice ma x.most.length mc] x ∧ LnM wx [.int .i64 y.num, .int .i64 y.lvl, .int .i64 y.size, .slice la2 y.least.length lc2, .slice ma2 y.most.length mc2] y) := fun wx hb => ⟨⟨la, lc, ma, mc, rfl, p1.later hb, p2.later hb, i1, i2, i3⟩, ⟨la2, lc2, ma2, mc2, rfl, p3.later hb, p4.later hb, j1, j2, j3⟩⟩
        have hbs : ∀ o o2, Calls Try.prog 49 #[.agg #[.int .i64 x.num, .int .i64 x.lvl, .int .i64 x.size, .slice la x.least.length lc, .slice ma x.most.length mc], .agg #[.int .i64 y.num, .int .i64 y.lvl, .int .i64 y.size, .slice la2 y.least.length lc2, .slice ma2 y.most.length mc2]] ((wr.alloc o).alloc o2).drew fun e w' => e = .returned (.bool (if y.lvl = 0 then decide (y.num < x.num) else decide (0 < cmp y.least x.most))) ∧ Below ((wr.alloc o).alloc o2).drew.heap.size ((wr.alloc o).alloc o2).drew w' := fun o o2 => by
          have hb := (((Below.refl _ wr).alloc (Nat.le_refl _) o).alloc (by simp) o2).drew
          exact beside_t (HM1.out _ hb).1 (HM1.out _ hb).2
        obtain ⟨R, hR⟩ : ∃ R, R = (if y.lvl = 0 then decide (y.num < x.num) else decide (0 < cmp y.least x.most)) := ⟨_, rfl⟩
        have HN : Hid (nxP x y = if x.lvl < y.lvl then true else if y.lvl < x.lvl then false else R) := by rw [hR]; rfl
        rw [← hR] at hbs
        have hra3 : ra = some ⟨b, off, none⟩ := hra
        have hqM : i < MM := hk
        have hq62 : q ≤ 2 ^ 60 := by omega
        have hi62 : i ≤ 2 ^ 60 := by omega
        have hwm : wrap64 ((i : Int) - 1) = (q : Int) := by unfold wrap64; omega
        have hwk : IntKind.i64.wrap ((i : Int) - 1) = (q : Int) := by rw [IntKind.wrap_i64]; omega
        have hwn : (i : Int) - 1 = (q : Int) := by omega
        have HQ : Hid (MM - i < gk ∧ i < MM) := ⟨by have := HK.out.2.1; omega, hk⟩
        have hcut := fun w => run_fromL w ra MM rc i (by omega) HM2.out.1
        have HRS : Hid (j + i < n ∧ n - (j + i) = MM - i ∧ n - (j + i) < MM ∧ RS lnE w (cutS ra rc i 5) (n - (j + i)) (rc - i) (xs.drop (j + i))) := by
          refine ⟨by omega, by omega, by omega, ?_⟩
          have := HM.out.2.2.fromL i (by omega)
          rw [List.drop_drop] at this
          rwa [show n - (j + i) = MM - i by omega]
        have hqM2 : q < MM := by omega
        clear hiq hM hx hy hx1 hy1 hra p1 p2 p3 p4 i1 i2 i3 j1 j2 j3 hR hk
        subst hra3
        generalize x.least.length = L1 at r3 hbs
        generalize x.most.length = L2 at r4 hbs
        generalize y.least.length = L3 at t3 hbs
        generalize y.most.length = L4 at t4 hbs
        generalize x.num = n1 at r0 hbs
        generalize x.size = s1 at r2 hbs
        generalize y.num = n2 at t0 hbs
        generalize y.size = s2 at t2 hbs
        generalize hl1 : x.lvl = l1 at r1 hbs HN
        generalize hl2 : y.lvl = l2 at t1 hbs HN
        generalize cutS (some ⟨b, off, none⟩) rc i 5 = ca at hcut HRS
        clear hl1 hl2
        have hbd : ∀ o o2 : Obj, Below wr.heap.size wr ((wr.alloc o).alloc o2).drew := fun o o2 => (((Below.refl _ wr).alloc (Nat.le_refl _) o).alloc (by simp) o2).drew
        have hbe : ∀ o : Obj, Below wr.heap.size wr (wr.alloc o).drew := fun o => ((Below.refl _ wr).alloc (Nat.le_refl _) o).drew
        have hbf : Below wr.heap.size wr wr.drew := (Below.refl _ wr).drew
        have rr0 := fun o o2 => cell_later (hbd o o2) r0
        have ra0 := fun o => cell_later (hbe o) r0
        have rb0 := cell_later hbf r0
        have rr1 := fun o o2 => cell_later (hbd o o2) r1
        have ra1 := fun o => cell_later (hbe o) r1
        have rb1 := cell_later hbf r1
        have rr2 := fun o o2 => cell_later (hbd o o2) r2
        have ra2 := fun o => cell_later (hbe o) r2
        have rb2 := cell_later hbf r2
        have rr3 := fun o o2 => cell_later (hbd o o2) r3
        have ra3 := fun o => cell_later (hbe o) r3
        have rb3 := cell_later hbf r3
        have rr4 := fun o o2 => cell_later (hbd o o2) r4
        have ra4 := fun o => cell_later (hbe o) r4
        have rb4 := cell_later hbf r4
        have tt0 := fun o o2 => cell_later (hbd o o2) t0
        have ta0 := fun o => cell_later (hbe o) t0
        have tb0 := cell_later hbf t0
        have tt1 := fun o o2 => cell_later (hbd o o2) t1
        have ta1 := fun o => cell_later (hbe o) t1
        have tb1 := cell_later hbf t1
        have tt2 := fun o o2 => cell_later (hbd o o2) t2
        have ta2 := fun o => cell_later (hbe o) t2
        have tb2 := cell_later hbf t2
        have tt3 := fun o o2 => cell_later (hbd o o2) t3
        have ta3 := fun o => cell_later (hbe o) t3
        have tb3 := cell_later hbf t3
        have tt4 := fun o o2 => cell_later (hbd o o2) t4
        have ta4 := fun o => cell_later (hbe o) t4
        have tb4 := cell_later hbf t4
        clear hbd hbe hbf
        go_wp2_with fail
        go_big_region
        all_goals clear rb0 rb1 rb2 rb3 rb4 tb0 tb1 tb2 tb3 tb4 ra0 ra1 ra2 ra3 ra4 ta0 ta1 ta2 ta3 ta4 rr0 rr1 rr2 rr3 rr4 tt0 tt1 tt2 tt3 tt4 r0 r1 r2 r3 r4 t0 t1 t2 t3 t4
        all_goals
          rcases Int.lt_trichotomy l1 l2 with hlt | hlt | hlt
          · have HN2 : Hid (chn nxP (xs.take (j + (i + 1))) = true) := by
              have := HN.out
              rw [if_pos hlt] at this
              rw [HT.out, HC0.out, this]; rfl
            go_wp2_with fail
            go_step3
            rw [← HRS.out.2.1]
            exact ⟨rfl, ⟨j + i, ca, rc - i, _, _, _, _, _, _, _, _, _, _, _, _, _, _, _, _, _, _, _, _, _, _, _, _, _, _, _, _, _, _, _, _, _, _, _, _, _, _, _, _, ⟨trivial, HRS.out.2.2.2, HN2.out, HB.out _ _⟩, rfl⟩, HRS.out.2.2.1⟩
          · have HN2 : Hid (chn nxP (xs.take (j + (i + 1))) = R) := by
              have := HN.out
              rw [if_neg (by omega), if_neg (by omega)] at this
              rw [HT.out, HC0.out, this]; rfl
            subst hlt
            have h1 : ¬ l1 < l1 := by omega
            cases R with
            | false =>
              go_wp2_with (go_at_call 49; refine (hbs _ _).mono ?_; rintro e w2 ⟨rfl, b2⟩)
              simp only [Exit.jump]
              exact bodyPost_ret (v := .bool false) (by simp [results, Try.results40, go_sem]) rfl ⟨by rw [HF.out HN2.out], (HB.out _ _).trans (b2.mono (HB.out _ _).size)⟩
            | true =>
              go_wp2_with (go_at_call 49; refine (hbs _ _).mono ?_; rintro e w2 ⟨rfl, b2⟩)
              go_roundg (MM - i)
              case measure => exact HQ.out.1
              case rel => exact ⟨i + 1, rfl, rfl, by go_num, by omega, by have := HQ.out.2; omega, (fun _ => HN2.out), (fun hh => by have := HQ.out.2; omega), (HB.out _ _).trans (b2.mono (HB.out _ _).size)⟩
          · have HN2 : Hid (chn nxP (xs.take (j + (i + 1))) = false) := by
              have := HN.out
              rw [if_neg (by omega), if_pos hlt] at this
              exact (by rw [HT.out, this]; exact Bool.and_false _ : chn nxP (xs.take (j + (i + 1))) = false)
            have h1 : ¬ l1 < l2 := by omega
            go_wp2_with fail
            simp only [Exit.jump]
            exact bodyPost_ret (v := .bool false) (by simp [results, Try.results40, go_sem]) rfl ⟨by rw [HF.out HN2.out], HB.out _ _⟩
      · have hk' : ¬ (i : Int) < (MM : Int) := by omega
        have HE : Hid (chn nxP xs = true) := by
          have h0 := HM.out.1
          have h2 := HK.out.1
          by_cases z : i ≤ MM
          · have := HK.out.2.2.1 z
            rwa [List.take_of_length_le (by have := HL.out; omega)] at this
          · have h3 := HK.out.2.2.2.1 (by omega)
            have := HX.out.2.2.1
            rwa [List.take_of_length_le (by have := HL.out; omega)] at this
        clear hk
        go_wp2_with fail
        simp only [Exit.jump]
        exact bodyPost_ret (v := .bool true) (by simp [results, Try.results40, go_sem]) rfl ⟨by rw [HE.out], HK.out.2.2.2.2⟩
end Go.Proofs.Ytjgfklbhagcbaab

/- The landed level: May; how great a level is. -/
namespace Go.Proofs.Ytjgfklbhagcbaab
open Go.RowKit
set_option linter.unusedVariables false
set_option linter.unusedSimpArgs false

theorem box4 (w : World) (c0 c1 c2 c3 : Value) (t : TypeId) {wx : World} (hb : Below (w.alloc (.cells #[c0, c1, c2, c3] t)).heap.size (w.alloc (.cells #[c0, c1, c2, c3] t)) wx) :
    wx.cell? ⟨w.heap.size, 0, none⟩ = some c0 ∧ wx.cell? ⟨w.heap.size, 1, none⟩ = some c1 ∧ wx.cell? ⟨w.heap.size, 2, none⟩ = some c2 ∧ wx.cell? ⟨w.heap.size, 3, none⟩ = some c3 := by
  have h := heap_alloc_new w (.cells #[c0, c1, c2, c3] t)
  exact ⟨cell_later hb (by rw [cell_of h]; rfl), cell_later hb (by rw [cell_of h]; rfl), cell_later hb (by rw [cell_of h]; rfl), cell_later hb (by rw [cell_of h]; rfl)⟩
theorem RS.len_le {α : Type} {E : El α} {w : World} {ao : Option Addr} {n c : Nat} {xs : List α} (h : RS E w ao n c xs) : n ≤ c := by
  obtain ⟨us, _, _, h3, _⟩ := h
  exact h3
set_option maxHeartbeats 4000000 in
set_option maxRecDepth 100000 in
theorem may_t {w : World} {v : VrV} {a : Option Addr} {c : Nat} (h : VrM w v a c) (hn : v.tabs.length ≤ 2 ^ 50) :
    Calls Try.prog 27 #[vrV v a c] w fun e w' => e = .returned (.bool (mayVr v)) ∧ Below w.heap.size w w' := by
  have hp := mayVr_p v
  unfold vrV
  have hbx := fun (wx : World) hb => box4 w (.int .i64 v.log) (.int .i64 v.next) (.int .i64 v.seq) (.slice a v.tabs.length c) 26 (wx := wx) hb
  obtain ⟨W, hW⟩ : ∃ W, W = w.alloc (.cells #[.int .i64 v.log, .int .i64 v.next, .int .i64 v.seq, .slice a v.tabs.length c] 26) := ⟨_, rfl⟩
  have hWb : Below w.heap.size w W := by rw [hW]; exact (Below.refl _ w).alloc (Nat.le_refl _) _
  rw [← hW] at hbx
  have hall : ∀ wx, Below W.heap.size W wx → VrM wx v a c := fun wx hb => h.later (hWb.trans (hb.mono hWb.size))
  have hem : ∀ wx, Below W.heap.size W wx → Calls Try.prog 28 #[edV ⟨v.log, v.next, v.seq, v.tabs, []⟩ a c none 0] wx fun e w' => e = .returned (.bool (mayEd ⟨v.log, v.next, v.seq, v.tabs, []⟩)) ∧ Below wx.heap.size wx w' := fun wx hb => emay_any ⟨(hall wx hb).log, (hall wx hb).next, (hall wx hb).seq, (hall wx hb).tabs, RS.nil _⟩
  have hbl : ∀ wx, Below W.heap.size W wx → Calls Try.prog 39 #[.slice a v.tabs.length c, .int .i64 v.next] wx fun e w' => e = .returned (.bool (bel v.tabs v.next)) ∧ Below wx.heap.size wx w' := fun wx hb => below_t (hall wx hb).tabs hn _
  have hin : ∀ wx, Below W.heap.size W wx → Calls Try.prog 40 #[.slice a v.tabs.length c] wx fun e w' => e = .returned (.bool (chn nxP v.tabs)) ∧ Below wx.heap.size wx w' := fun wx hb => inOrder_t (hall wx hb).tabs hn (hall wx hb).tabs.len_le
  obtain ⟨b1, h1⟩ : ∃ b, b = mayEd ⟨v.log, v.next, v.seq, v.tabs, []⟩ := ⟨_, rfl⟩
  obtain ⟨b2, h2⟩ : ∃ b, b = bel v.tabs v.next := ⟨_, rfl⟩
  obtain ⟨b3, h3⟩ : ∃ b, b = chn nxP v.tabs := ⟨_, rfl⟩
  rw [← h1] at hem hp
  rw [← h2] at hbl hp
  rw [← h3] at hin hp
  rw [← hp]
  unfold edV at hem
  simp only at hem
  have HEM := hidS hem
  have HBL := hidS hbl
  have HIN := hidS hin
  have HBX := hidS hbx
  have HWB := hidS hWb
  have HW := hidS hW
  clear hem hbl hin hbx hWb h1 h2 h3 hp hall h hn
  generalize v.tabs.length = n at HEM HBL HIN HBX HW hW ⊢
  generalize v.log = log at HEM HBX HW hW ⊢
  generalize v.next = next at HEM HBL HBX HW hW ⊢
  generalize v.seq = seq at HEM HBX HW hW ⊢
  clear hW
  have HAL : Hid (∀ o wx, Below (W.alloc o).heap.size (W.alloc o) wx → Below W.heap.size W wx) := fun o wx hb => ((Below.refl _ W).alloc (Nat.le_refl _) o).trans (hb.mono (by simp))
  have HTR : Hid (∀ wx wy, Below W.heap.size W wx → Below wx.heap.size wx wy → Below W.heap.size W wy) := fun wx wy h1 h2 => h1.trans (h2.mono h1.size)
  have HEND : Hid (∀ wx, Below W.heap.size W wx → Below w.heap.size w wx) := fun wx hb => HWB.out.trans (hb.mono HWB.out.size)
  cases b1 with
  | false =>
    go_enter Try.func27, Try.ntmps27
    go_wp2_with (first | (go_at_call 28; rw [← HW.out]; refine (HEM.out _ ((Below.refl _ _).alloc (Nat.le_refl _) _)).mono ?_; rintro e w2 ⟨rfl, b2⟩; replace b2 := HAL.out _ _ b2; obtain ⟨x0, x1, x2, x3⟩ := HBX.out _ b2))
    exact bodyPost_ret (v := .bool false) (by simp [results, Try.results27, go_sem]) rfl ⟨by simp, HEND.out _ b2⟩
  | true =>
    cases b2 with
    | false =>
      go_enter Try.func27, Try.ntmps27
      go_wp2_with (first | (go_at_call 28; rw [← HW.out]; refine (HEM.out _ ((Below.refl _ _).alloc (Nat.le_refl _) _)).mono ?_; rintro e w2 ⟨rfl, b2⟩; replace b2 := HAL.out _ _ b2; obtain ⟨x0, x1, x2, x3⟩ := HBX.out _ b2) | (go_at_call 39; refine (HBL.out _ b2).mono ?_; rintro e w3 ⟨rfl, b3'⟩; replace b3' := HTR.out _ _ b2 b3'; obtain ⟨y0, y1, y2, y3⟩ := HBX.out _ b3'))
      exact bodyPost_ret (v := .bool false) (by simp [results, Try.results27, go_sem]) rfl ⟨by simp, HEND.out _ b3'⟩
    | true =>
      go_enter Try.func27, Try.ntmps27
      go_wp2_with (first | (go_at_call 28; rw [← HW.out]; refine (HEM.out _ ((Below.refl _ _).alloc (Nat.le_refl _) _)).mono ?_; rintro e w2 ⟨rfl, b2⟩; replace b2 := HAL.out _ _ b2; obtain ⟨x0, x1, x2, x3⟩ := HBX.out _ b2) | (go_at_call 39; refine (HBL.out _ b2).mono ?_; rintro e w3 ⟨rfl, b3'⟩; replace b3' := HTR.out _ _ b2 b3'; obtain ⟨y0, y1, y2, y3⟩ := HBX.out _ b3') | (go_at_call 40; refine (HIN.out _ b3').mono ?_; rintro e w4 ⟨rfl, b4⟩; replace b4 := HTR.out _ _ b3' b4))
      exact bodyPost_ret (v := .bool b3) (by simp [results, Try.results27, go_sem]) rfl ⟨by simp, HEND.out _ b4⟩
end Go.Proofs.Ytjgfklbhagcbaab

/- The landed level: what Apply asks of numbers. -/
namespace Go.Proofs.Ytjgfklbhagcbaab
open Go.RowKit
set_option linter.unusedVariables false
set_option linter.unusedSimpArgs false

theorem index_t {w : World} {ao : Option Addr} {n cap : Nat} {xs : List Int} (h : RS i64E w ao n cap xs) (hn : n ≤ 2 ^ 50) (x : Int) :
    Calls Try.prog 44 #[.slice ao n cap, .int .i64 x] w fun e w' => ∃ r : Int, e = .returned (.int .i64 r) ∧ (decide (0 ≤ r) = decide (x ∈ xs)) ∧ w' = w := by
  have hl : xs.length = n := by obtain ⟨us, h1, _⟩ := h; exact h1
  have HL := hidS hl
  have H0 := hidS h
  clear hl h
  go_enter Try.func44, Try.ntmps44
  go_wp2_with fail
  go_loopg [8] n (fun kx s7 wr => ∃ k : Nat, s7 = .int .i64 k ∧ k + kx = n ∧ wr = w ∧ Hid (x ∉ xs.take k))
  case atStart => exact ⟨0, rfl, by omega, rfl, (show x ∉ xs.take 0 by simp)⟩
  case round =>
    obtain ⟨k, rfl, hg, rfl, HK⟩ := hrel
    by_cases hk : k < n
    · have hk' : (k : Int) < (n : Int) := by omega
      obtain ⟨y, hy⟩ : ∃ y, xs[k]? = some y := ⟨_, List.getElem?_eq_getElem (by have := HL.out; omega)⟩
      obtain ⟨b, off, rfl, r0, i1⟩ := RS.i64 H0.out hy
      have HR := hidS (And.intro hg (And.intro hk hy))
      have hk62 : k ≤ 2 ^ 60 := by omega
      clear hg hy i1
      by_cases q : x = y
      · have q1 : (x == y) = true := by simpa using q
        have q2 : (y == x) = true := by simpa using q.symm
        have HM : Hid (x ∈ xs) := by rw [q]; exact List.mem_of_getElem? HR.out.2.2
        clear q
        go_wp2_with fail
        exact bodyPost_ret (v := .int .i64 (k : Int)) (by simp [results, Try.results44, go_sem]) rfl ⟨k, rfl, by rw [decide_eq_true HM.out, decide_eq_true (Int.natCast_nonneg k)], rfl⟩
      · have q1 : (x == y) = false := by simpa using q
        have q2 : (y == x) = false := by simpa using fun e => q e.symm
        have HQ := hidS q
        clear q
        go_wp2_with fail
        go_roundg (n - (k + 1))
        case measure => have := HR.out; omega
        case rel =>
          refine ⟨k + 1, by go_num, by have := HR.out; omega, rfl, (show Hid _ from ?_)⟩
          show x ∉ xs.take (k + 1)
          obtain ⟨hkl, he⟩ := List.getElem?_eq_some_iff.1 HR.out.2.2
          rw [List.take_add_one, List.getElem?_eq_getElem hkl, he]
          simp only [Option.toList, List.mem_append, List.mem_singleton, not_or]
          exact ⟨HK.out, HQ.out⟩
    · have hk' : ¬ (k : Int) < (n : Int) := by omega
      have HF : Hid (x ∉ xs) := by
        have := HK.out
        rwa [List.take_of_length_le (by have := HL.out; omega)] at this
      clear hg hk
      go_wp2_with fail
      exact bodyPost_ret (v := .int .i64 (-1)) (by simp [results, Try.results44, go_sem]) rfl ⟨-1, rfl, by first | exact ⟨fun z => by omega, fun z => absurd z HF.out⟩ | (rw [decide_eq_false HF.out]; rfl), rfl⟩
theorem contains_t {w : World} {ao : Option Addr} {n cap : Nat} {xs : List Int} (h : RS i64E w ao n cap xs) (hn : n ≤ 2 ^ 50) (x : Int) :
    Calls Try.prog 30 #[.slice ao n cap, .int .i64 x] w fun e w' => e = .returned (.bool (decide (x ∈ xs))) ∧ w' = w := by
  have hc := index_t h hn x
  generalize decide (x ∈ xs) = R at hc ⊢
  clear h
  go_enter Try.func30, Try.ntmps30
  go_wp2_with (go_at_call 44; refine hc.mono ?_; rintro e w' ⟨r, rfl, hr, rfl⟩)
  exact bodyPost_ret (v := .bool R) (by simp [results, Try.results30, go_sem]) rfl ⟨rfl, rfl⟩
set_option maxHeartbeats 4000000 in
set_option maxRecDepth 100000 in
theorem apply1_t {wx : World} {b : Nat} {ra : Option Addr} {rc : Nat} {rem : List Int} (hc : wx.cell? ⟨b, 4, none⟩ = some (.slice ra rem.length rc)) (hr : RS i64E wx ra rem.length rc rem) (hn : rem.length ≤ 2 ^ 50) {vs : List Value} {t : LnV} (hM : LnM wx vs t) :
    Calls Try.prog 29 (#[.agg vs.toArray] ++ #[.pointer (some ⟨b, 0, none⟩)]) wx fun e w' => e = .returned (.bool (!decide (t.num ∈ rem))) ∧ Below wx.heap.size wx w' := by
  obtain ⟨la, lc, qa, qc, rfl, hs, i1, i2, i3⟩ := lnM_parts hM
  have hb : ∀ o, Below wx.heap.size wx (wx.alloc o) := fun o => (Below.refl _ wx).alloc (Nat.le_refl _) o
  have HB := hidS hb
  have hc2 := fun o => cell_later (hb o) hc
  have hcn := fun o => contains_t (hr.later (hb o)) hn t.num
  generalize decide (t.num ∈ rem) = R at hcn ⊢
  clear hM hs hb i1 i2 i3 hc hr hn
  generalize t.num = num at hcn ⊢
  generalize t.lvl = lvl
  generalize t.size = size
  generalize t.least.length = L1
  generalize t.most.length = L2
  generalize rem.length = L3 at hcn hc2 ⊢
  go_enter Try.func29, Try.ntmps29
  go_wp2_with (go_at_call 30; refine (hcn _).mono ?_; rintro e w' ⟨rfl, rfl⟩)
  exact bodyPost_ret (v := .bool (!R)) (by simp [results, Try.results29, go_sem]) rfl ⟨rfl, HB.out _⟩
set_option maxHeartbeats 4000000 in
set_option maxRecDepth 100000 in
theorem idxf_t {w : World} {ao : Option Addr} {n cap : Nat} {xs : List LnV} (h : RS lnE w ao n cap xs) (hn : n ≤ 2 ^ 50) {f : FuncId} {cb : Array Value} {p : LnV → Bool} (eg : ∀ args w, (callFunc f args).run Try.prog w = .ok (.enter f args) w) (hp : Wish f cb p w) :
    Calls Try.prog 53 #[.slice ao n cap, .func (.func f) #[] cb] w fun e w' => ∃ r : Int, e = .returned (.int .i64 r) ∧ (decide (0 ≤ r) = xs.any p) ∧ Below w.heap.size w w' := by
  have hl : xs.length = n := by obtain ⟨us, h1, _⟩ := h; exact h1
  have HL := hidS hl
  have H0 := hidS h
  have HP := hidS hp
  clear hl h hp
  go_enter Try.func53, Try.ntmps53
  go_wp2_with fail
  go_loopg [8] n (fun kx s7 wr => ∃ k : Nat, s7 = .int .i64 k ∧ k + kx = n ∧ Hid ((xs.take k).any p = false ∧ Below w.heap.size w wr))
  case atStart => exact ⟨0, rfl, by omega, rfl, Below.refl _ _⟩
  case round =>
    obtain ⟨k, rfl, hg, HK⟩ := hrel
    by_cases hk : k < n
    · have hk' : (k : Int) < (n : Int) := by omega
      obtain ⟨x, hx⟩ : ∃ x, xs[k]? = some x := ⟨_, List.getElem?_eq_getElem (by have := HL.out; omega)⟩
      obtain ⟨b, off, la, lc, ma, mc, rfl, r0, r1, r2, r3, r4, q1, q2, i1, i2, i3⟩ := RS.ln (H0.out.later HK.out.2) hx
      have hc := HP.out wr HK.out.2 _ x ⟨la, lc, ma, mc, rfl, q1, q2, i1, i2, i3⟩
      have HR := hidS (And.intro hg (And.intro hk hx))
      have hk62 : k ≤ 2 ^ 60 := by omega
      obtain ⟨P, hP⟩ : ∃ P, P = p x := ⟨_, rfl⟩
      rw [← hP] at hc
      have HPX := hidS hP
      clear hg hx q1 q2 i1 i2 i3 hP
      generalize x.num = num at r0 hc
      generalize x.lvl = lvl at r1 hc
      generalize x.size = size at r2 hc
      generalize x.least.length = L1 at r3 hc
      generalize x.most.length = L2 at r4 hc
      cases P with
      | true =>
        have HM : Hid (xs.any p = true) := List.any_eq_true.2 ⟨x, List.mem_of_getElem? HR.out.2.2, HPX.out.symm⟩
        go_wp2_with (go_at_fn f; refine hc.mono ?_; rintro e w2 ⟨rfl, b2⟩)
        exact bodyPost_ret (v := .int .i64 (k : Int)) (by simp [results, Try.results53, go_sem]) rfl ⟨k, rfl, by rw [HM.out, decide_eq_true (Int.natCast_nonneg k)], HK.out.2.trans (b2.mono HK.out.2.size)⟩
      | false =>
        go_wp2_with (go_at_fn f; refine hc.mono ?_; rintro e w2 ⟨rfl, b2⟩)
        go_roundg (n - (k + 1))
        case measure => have := HR.out; omega
        case rel =>
          refine ⟨k + 1, by go_num, by have := HR.out; omega, ?_, HK.out.2.trans (b2.mono HK.out.2.size)⟩
          obtain ⟨hkl, he⟩ := List.getElem?_eq_some_iff.1 HR.out.2.2
          rw [List.take_add_one, List.getElem?_eq_getElem hkl, he, List.any_append, HK.out.1]
          simp [← HPX.out]
    · have hk' : ¬ (k : Int) < (n : Int) := by omega
      have HF : Hid (xs.any p = false) := by
        have := HK.out.1
        rwa [List.take_of_length_le (by have := HL.out; omega)] at this
      clear hg hk
      go_wp2_with fail
      exact bodyPost_ret (v := .int .i64 (-1)) (by simp [results, Try.results53, go_sem]) rfl ⟨-1, rfl, by rw [HF.out]; rfl, HK.out.2⟩
theorem contf_t {w : World} {ao : Option Addr} {n cap : Nat} {xs : List LnV} (h : RS lnE w ao n cap xs) (hn : n ≤ 2 ^ 50) {f : FuncId} {cb : Array Value} {p : LnV → Bool} (eg : ∀ args w, (callFunc f args).run Try.prog w = .ok (.enter f args) w) (hp : Wish f cb p w) :
    Calls Try.prog 45 #[.slice ao n cap, .func (.func f) #[] cb] w fun e w' => e = .returned (.bool (xs.any p)) ∧ Below w.heap.size w w' := by
  have hc := idxf_t h hn eg hp
  generalize xs.any p = R at hc ⊢
  clear h hp
  go_enter Try.func45, Try.ntmps45
  go_wp2_with (go_at_call 53; refine hc.mono ?_; rintro e w' ⟨r, rfl, hr, b2⟩)
  exact bodyPost_ret (v := .bool R) (by simp [results, Try.results45, go_sem]) rfl ⟨rfl, b2⟩
set_option maxHeartbeats 4000000 in
set_option maxRecDepth 100000 in
theorem share1_t {wx : World} {b : Nat} {m : Int} (hc : wx.cell? ⟨b, 0, none⟩ = some (.int .i64 m)) {vs : List Value} {t : LnV} (hM : LnM wx vs t) :
    Calls Try.prog 46 (#[.agg vs.toArray] ++ #[.pointer (some ⟨b, 0, none⟩)]) wx fun e w' => e = .returned (.bool (decide (t.num = m))) ∧ Below wx.heap.size wx w' := by
  obtain ⟨la, lc, qa, qc, rfl, hs, i1, i2, i3⟩ := lnM_parts hM
  have hb : ∀ o, Below wx.heap.size wx (wx.alloc o) := fun o => (Below.refl _ wx).alloc (Nat.le_refl _) o
  have HB := hidS hb
  have hc2 := fun o => cell_later (hb o) hc
  clear hM hs hb i1 i2 i3
  generalize t.num = num
  generalize t.lvl = lvl
  generalize t.size = size
  generalize t.least.length = L1
  generalize t.most.length = L2
  by_cases q : num = m
  · rw [decide_eq_true q]
    subst q
    go_enter Try.func46, Try.ntmps46
    go_wp2_with fail
    exact bodyPost_ret (v := .bool true) (by simp [results, Try.results46, go_sem]) rfl ⟨rfl, HB.out _⟩
  · rw [decide_eq_false q]
    have q2 : (num == m) = false := by simpa using q
    go_enter Try.func46, Try.ntmps46
    go_wp2_with fail
    exact bodyPost_ret (v := .bool false) (by simp [results, Try.results46, go_sem]) rfl ⟨rfl, HB.out _⟩
set_option maxHeartbeats 4000000 in
set_option maxRecDepth 100000 in
theorem share_t {w : World} {ao bo : Option Addr} {n cap m c2 : Nat} {xs ys : List LnV} (h : RS lnE w ao n cap xs) (h2 : RS lnE w bo m c2 ys) (hn : n ≤ 2 ^ 50) (hm : m ≤ 2 ^ 50) :
    Calls Try.prog 31 #[.slice ao n cap, .slice bo m c2] w fun e w' => e = .returned (.bool (xs.any fun t => ys.any fun u => decide (u.num = t.num))) ∧ Below w.heap.size w w' := by
  have hl : xs.length = n := by obtain ⟨us, h1, _⟩ := h; exact h1
  have eg : ∀ args w, (callFunc 46 args).run Try.prog w = .ok (.enter 46 args) w := enters_of Try.func46 (by kernel_rfl) rfl
  have HL := hidS hl
  have H0 := hidS h
  have H2 := hidS (And.intro h2 hm)
  clear hl h h2
  go_enter Try.func31, Try.ntmps31
  go_wp2_with fail
  go_loopg [6, 9] n (fun kx _ s7 wr => ∃ k : Nat, s7 = .int .i64 k ∧ k + kx = n ∧ Hid ((xs.take k).any (fun t => ys.any fun u => decide (u.num = t.num)) = false ∧ Below w.heap.size w wr))
  case atStart => exact ⟨0, rfl, by omega, rfl, Below.refl _ _⟩
  case round =>
    obtain ⟨k, rfl, hg, HK⟩ := hrel
    by_cases hk : k < n
    · have hk' : (k : Int) < (n : Int) := by omega
      obtain ⟨x, hx⟩ : ∃ x, xs[k]? = some x := ⟨_, List.getElem?_eq_getElem (by have := HL.out; omega)⟩
      obtain ⟨b, off, la, lc, ma, mc, rfl, r0, r1, r2, r3, r4, q1, q2, i1, i2, i3⟩ := RS.ln (H0.out.later HK.out.2) hx
      have hcf : ∀ t v1 v2 v3 v4, Calls Try.prog 45 #[.slice bo m c2, .func (.func 46) #[] #[.pointer (some ⟨wr.heap.size, 0, none⟩)]] (wr.alloc (.cells #[.int .i64 x.num, v1, v2, v3, v4] t)) fun e w' => e = .returned (.bool (ys.any fun u => decide (u.num = x.num))) ∧ Below (wr.alloc (.cells #[.int .i64 x.num, v1, v2, v3, v4] t)).heap.size (wr.alloc (.cells #[.int .i64 x.num, v1, v2, v3, v4] t)) w' := fun t v1 v2 v3 v4 => by
        have hb := (Below.refl wr.heap.size wr).alloc (Nat.le_refl _) (.cells #[.int .i64 x.num, v1, v2, v3, v4] t)
        refine contf_t (H2.out.1.later (HK.out.2.trans (hb.mono HK.out.2.size))) H2.out.2 eg ?_
        intro wx hbx vs u hM
        exact share1_t (cell_later hbx (by simp)) hM
      have HB : Hid (∀ o wx, Below (wr.alloc o).heap.size (wr.alloc o) wx → Below w.heap.size w wx) := fun o wx hb => (HK.out.2.alloc HK.out.2.size o).trans (hb.mono (by have := HK.out.2.size; simp; omega))
      have HR := hidS (And.intro hg (And.intro hk hx))
      have hk62 : k ≤ 2 ^ 60 := by omega
      obtain ⟨P, hP⟩ : ∃ P, P = (ys.any fun u => decide (u.num = x.num)) := ⟨_, rfl⟩
      rw [← hP] at hcf
      have HPX := hidS hP
      clear hg hx q1 q2 i1 i2 i3 hP
      generalize x.lvl = lvl at r1
      generalize x.size = size at r2
      generalize x.least.length = L1 at r3
      generalize x.most.length = L2 at r4
      generalize hnum : x.num = num at r0 hcf
      clear hnum
      cases P with
      | true =>
        have HM : Hid ((xs.any fun t => ys.any fun u => decide (u.num = t.num)) = true) := List.any_eq_true.2 ⟨x, List.mem_of_getElem? HR.out.2.2, HPX.out.symm⟩
        go_wp2_with (go_at_call 45; refine (hcf _ _ _ _ _).mono ?_; rintro e w2 ⟨rfl, b2⟩)
        exact bodyPost_ret (v := .bool true) (by simp [results, Try.results31, go_sem]) rfl ⟨by rw [HM.out], HB.out _ _ b2⟩
      | false =>
        go_wp2_with (go_at_call 45; refine (hcf _ _ _ _ _).mono ?_; rintro e w2 ⟨rfl, b2⟩)
        go_roundg (n - (k + 1))
        case measure => have := HR.out; omega
        case rel =>
          refine ⟨k + 1, by go_num, by have := HR.out; omega, ?_, HB.out _ _ b2⟩
          obtain ⟨hkl, he⟩ := List.getElem?_eq_some_iff.1 HR.out.2.2
          rw [List.take_add_one, List.getElem?_eq_getElem hkl, he, List.any_append, HK.out.1]
          simp only [Option.toList, List.any_cons, List.any_nil, Bool.or_false, Bool.false_or]
          exact HPX.out.symm
    · have hk' : ¬ (k : Int) < (n : Int) := by omega
      have HF : Hid ((xs.any fun t => ys.any fun u => decide (u.num = t.num)) = false) := by
        have := HK.out.1
        rwa [List.take_of_length_le (by have := HL.out; omega)] at this
      clear hg hk
      go_wp2_with fail
      exact bodyPost_ret (v := .bool false) (by simp [results, Try.results31, go_sem]) rfl ⟨by rw [HF.out], HK.out.2⟩
theorem falls_t {w : World} {c0 c1 c2 d0 d1 d2 : Int} {v1 v2 : Value} : Calls Try.prog 32 #[.agg #[.int .i64 c0, .int .i64 c1, .int .i64 c2, v1], .agg #[.int .i64 d0, .int .i64 d1, .int .i64 d2, v2]] w fun e w' => e = .returned (.bool (decide (d0 < c0 ∨ d1 < c1 ∨ d2 < c2))) ∧ Below w.heap.size w w' := by
  have hb : ∀ o o2, Below w.heap.size w ((w.alloc o).alloc o2) := fun o o2 => ((Below.refl _ w).alloc (Nat.le_refl _) o).alloc (by simp) _
  have HB := hidS hb
  clear hb
  by_cases q0 : d0 < c0
  · rw [decide_eq_true (Or.inl q0)]
    go_enter Try.func32, Try.ntmps32
    go_wp2_with fail
    exact bodyPost_ret (v := .bool true) (by simp [results, Try.results32, go_sem]; try omega) rfl ⟨rfl, HB.out _ _⟩
  · by_cases q1 : d1 < c1
    · rw [decide_eq_true (Or.inr (Or.inl q1))]
      go_enter Try.func32, Try.ntmps32
      go_wp2_with fail
      exact bodyPost_ret (v := .bool true) (by simp [results, Try.results32, go_sem]; try omega) rfl ⟨rfl, HB.out _ _⟩
    · have e : decide (d0 < c0 ∨ d1 < c1 ∨ d2 < c2) = decide (d2 < c2) := by
        rw [decide_eq_decide]; omega
      rw [e]
      clear e
      go_enter Try.func32, Try.ntmps32
      go_wp2_with fail
      exact bodyPost_ret (v := .bool (decide (d2 < c2))) (by simp [results, Try.results32, go_sem]; try omega) rfl ⟨rfl, HB.out _ _⟩
end Go.Proofs.Ytjgfklbhagcbaab
