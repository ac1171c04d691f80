import Derived.Test.YtjgfklbhagcbaabPk11
import Derived.Test.YtjgfklbhagcbaabPk12
import Derived.Test.YtjgfklbhagcbaabPk17
/- The landed level: which lines lie where. -/
namespace Go.Proofs.Ytjgfklbhagcbaab
open Go.RowKit
set_option linter.unusedVariables false
set_option linter.unusedSimpArgs false

/-- A version as a value. -/
def vrV (v : VrV) (a : Option Addr) (c : Nat) : Value := .agg #[.int .i64 v.log, .int .i64 v.next, .int .i64 v.seq, .slice a v.tabs.length c]
structure VrM (w : World) (v : VrV) (a : Option Addr) (c : Nat) : Prop where
  log : In64 v.log
  next : In64 v.next
  seq : In64 v.seq
  tabs : RS lnE w a v.tabs.length c v.tabs
theorem VrM.later {w w' : World} {v : VrV} {a : Option Addr} {c : Nat} (h : VrM w v a c) (hb : Below w.heap.size w w') : VrM w' v a c := ⟨h.log, h.next, h.seq, h.tabs.later hb⟩
/-- The cells of a line in a box, and its keys. -/
theorem lnM_parts {w : World} {vs : List Value} {t : LnV} (h : LnM w vs t) : ∃ la lc ma mc, vs = [.int .i64 t.num, .int .i64 t.lvl, .int .i64 t.size, .slice la t.least.length lc, .slice ma t.most.length mc] ∧ (∀ wx, Below w.heap.size w wx → Sl wx la t.least.length lc t.least ∧ Sl wx ma t.most.length mc t.most) ∧ In64 t.num ∧ In64 t.lvl ∧ In64 t.size := by
  obtain ⟨la, lc, ma, mc, e, h1, h2, h3⟩ := h
  exact ⟨la, lc, ma, mc, e, fun wx hb => ⟨h1.later hb, h2.later hb⟩, h3⟩
theorem cell_newL (w : World) (v : Value) (t : TypeId) : (w.alloc (.cells #[v] t)).cell? ⟨w.heap.size, 0, none⟩ = some v := by simp
set_option maxHeartbeats 4000000 in
set_option maxRecDepth 100000 in
theorem meets_any {wx : World} {ka ma : Option Addr} {kc mc : Nat} {K M : List Int} (h1 : Sl wx ka K.length kc K) (h2 : Sl wx ma M.length mc M) {vs : List Value} {t : LnV} (hM : LnM wx vs t) :
    Calls Try.prog 13 #[.agg vs.toArray, .slice ka K.length kc, .slice ma M.length mc] wx fun e w' => e = .returned (.bool (decide (0 ≤ cmp t.most K ∧ cmp t.least M ≤ 0))) ∧ Below wx.heap.size wx w' := by
  obtain ⟨la, lc, qa, qc, rfl, hs, i1, i2, i3⟩ := lnM_parts hM
  have hb : ∀ o, Below wx.heap.size wx (wx.alloc o) := fun o => (Below.refl _ wx).alloc (Nat.le_refl _) o
  have HB := hidS hb
  have c1 := fun o => compare_l (hs _ (hb o)).2 (h1.later (hb o))
  have c2 := fun o => compare_l (hs _ (hb o)).1 (h2.later (hb o))
  clear hM hs hb i1 i2 i3 h1 h2
  generalize t.num = num
  generalize t.lvl = lvl
  generalize t.size = size
  generalize cmp t.most K = p1 at c1 ⊢
  generalize cmp t.least M = p2 at c2 ⊢
  generalize t.least.length = L1 at c2 ⊢
  generalize t.most.length = L2 at c1 ⊢
  generalize K.length = L3 at c1 ⊢
  generalize M.length = L4 at c2 ⊢
  by_cases q : 0 ≤ p1
  · by_cases q2 : p2 ≤ 0
    · have qq : decide (0 ≤ p1 ∧ p2 ≤ 0) = true := decide_eq_true (And.intro q q2)
      rw [qq]
      clear qq
      go_enter Try.func13, Try.ntmps13
      go_wp2_with (first | (go_at_call_of 26 (Value.slice qa L2 qc); refine (c1 _).mono ?_; rintro e w' ⟨rfl, rfl⟩; clear c1) | (go_at_call_of 26 (Value.slice la L1 lc); refine (c2 _).mono ?_; rintro e w' ⟨rfl, rfl⟩; clear c2))
      exact bodyPost_ret (v := .bool true) (by simp [results, Try.results13, go_sem]) rfl ⟨rfl, HB.out _⟩
    · have qq : decide (0 ≤ p1 ∧ p2 ≤ 0) = false := decide_eq_false fun z => q2 z.2
      rw [qq]
      clear qq
      go_enter Try.func13, Try.ntmps13
      go_wp2_with (first | (go_at_call_of 26 (Value.slice qa L2 qc); refine (c1 _).mono ?_; rintro e w' ⟨rfl, rfl⟩; clear c1) | (go_at_call_of 26 (Value.slice la L1 lc); refine (c2 _).mono ?_; rintro e w' ⟨rfl, rfl⟩; clear c2))
      exact bodyPost_ret (v := .bool false) (by simp [results, Try.results13, go_sem]; omega) rfl ⟨rfl, HB.out _⟩
  · have qq : decide (0 ≤ p1 ∧ p2 ≤ 0) = false := decide_eq_false fun z => q z.1
    rw [qq]
    clear qq
    go_enter Try.func13, Try.ntmps13
    go_wp2_with (first | (go_at_call_of 26 (Value.slice qa L2 qc); refine (c1 _).mono ?_; rintro e w' ⟨rfl, rfl⟩; clear c1) | (go_at_call_of 26 (Value.slice la L1 lc); refine (c2 _).mono ?_; rintro e w' ⟨rfl, rfl⟩; clear c2))
    exact bodyPost_ret (v := .bool false) (by simp [results, Try.results13, go_sem]) rfl ⟨rfl, HB.out _⟩
set_option maxHeartbeats 4000000 in
set_option maxRecDepth 100000 in
theorem find1_any {wx : World} {b : Nat} {ka : Option Addr} {kc : Nat} {K : List Int} (hc : wx.cell? ⟨b, 0, none⟩ = some (.slice ka K.length kc)) (h1 : Sl wx ka K.length kc K) {vs : List Value} {t : LnV} (hM : LnM wx vs t) :
    Calls Try.prog 12 (#[.agg vs.toArray] ++ #[.pointer (some ⟨b, 0, none⟩)]) wx fun e w' => e = .returned (.bool (decide (0 ≤ cmp t.most K ∧ cmp t.least K ≤ 0))) ∧ Below wx.heap.size wx w' := by
  have hcm := fun o => meets_any (h1.later ((Below.refl _ wx).alloc (Nat.le_refl _) o)) (h1.later ((Below.refl _ wx).alloc (Nat.le_refl _) o)) (El.later (E := lnE) hM ((Below.refl _ wx).alloc (Nat.le_refl _) o))
  obtain ⟨la, lc, qa, qc, rfl, hs, i1, i2, i3⟩ := lnM_parts hM
  have hb : ∀ o, Below wx.heap.size wx (wx.alloc o) := fun o => (Below.refl _ wx).alloc (Nat.le_refl _) o
  have HB := hidS hb
  have hc2 := fun o => cell_later (hb o) hc
  clear hM hs hb i1 i2 i3 h1 hc
  generalize decide (0 ≤ cmp t.most K ∧ cmp t.least K ≤ 0) = R at hcm ⊢
  generalize t.num = num at hcm ⊢
  generalize t.lvl = lvl at hcm ⊢
  generalize t.size = size at hcm ⊢
  generalize t.least.length = L1 at hcm ⊢
  generalize t.most.length = L2 at hcm ⊢
  generalize K.length = L3 at hcm hc2 ⊢
  go_enter Try.func12, Try.ntmps12
  go_wp2_with (go_at_call 13; refine (hcm _).mono ?_; rintro e w' ⟨rfl, b2⟩)
  exact bodyPost_ret (v := .bool R) (by simp [results, Try.results12, go_sem]) rfl ⟨rfl, (HB.out _).trans (b2.mono (HB.out _).size)⟩
set_option maxHeartbeats 4000000 in
set_option maxRecDepth 100000 in
theorem find_any {w : World} {v : VrV} {a : Option Addr} {c : Nat} (h : VrM w v a c) {ka : Option Addr} {kc : Nat} {K : List Int} (hk : Sl w ka K.length kc K) (hn : v.tabs.length ≤ 1000000) (hkl : ∀ t ∈ v.tabs, t.least.length ≤ 1000000 ∧ t.most.length ≤ 1000000) :
    Calls Try.prog 5 #[vrV v a c, .slice ka K.length kc] w fun e w' => ∃ a' c' ys, e = .returned (.slice a' ys.length c') ∧ Below w.heap.size w w' ∧ RS lnE w' a' ys.length c' ys ∧ ys.Perm (v.tabs.filter (fun t => decide (0 ≤ cmp t.most K ∧ cmp t.least K ≤ 0))) ∧ Wk ys := by
  unfold vrV
  obtain ⟨W, hW⟩ : ∃ W, W = (w.alloc (.cells #[.int .i64 v.log, .int .i64 v.next, .int .i64 v.seq, .slice a v.tabs.length c] 26)).alloc (.cells #[.slice ka K.length kc] 23) := ⟨_, rfl⟩
  have hWb : Below w.heap.size w W := by
    rw [hW]
    repeat (first | exact Below.refl _ _ | refine Below.alloc ?_ (by simp <;> omega) _)
  have eg : ∀ args w, (callFunc 12 args).run Try.prog w = .ok (.enter 12 args) w := enters_of Try.func12 (by kernel_rfl) rfl
  have hch := chosen_any (h.tabs.later hWb) hn eg (show Wish 12 #[.pointer (some ⟨w.heap.size + 1, 0, none⟩)] (fun t => decide (0 ≤ cmp t.most K ∧ cmp t.least K ≤ 0)) W from fun wx hb vs t hM => find1_any (cell_later hb (by rw [hW]; simp)) (hk.later (hWb.trans (hb.mono hWb.size))) hM)
  have HF : Hid ((v.tabs.filter (fun t => decide (0 ≤ cmp t.most K ∧ cmp t.least K ≤ 0))).length ≤ 1000000 ∧ ∀ t ∈ v.tabs.filter (fun t => decide (0 ≤ cmp t.most K ∧ cmp t.least K ≤ 0)), t.least.length ≤ 1000000 ∧ t.most.length ≤ 1000000) := ⟨Nat.le_trans (List.length_filter_le _ _) hn, fun t ht => hkl t (List.mem_filter.1 ht).1⟩
  have HWB := hidS hWb
  have HW := hidS hW
  generalize v.tabs.filter (fun t => decide (0 ≤ cmp t.most K ∧ cmp t.least K ≤ 0)) = F at hch HF ⊢
  rw [HW.out] at hch
  clear hWb hW hn hkl h hk
  go_enter Try.func5, Try.ntmps5
  go_wp2_with (first | (go_at_call 11; refine hch.mono ?_; rintro e w1 ⟨v1, rfl, r1, b1⟩; rw [← HW.out] at r1 b1) | (go_at_call 10; refine (ordered_any r1 b1.size HF.out.1 HF.out.2).mono ?_; rintro e w2 ⟨a', c', ys, rfl, b2, q1, q2, q3, -⟩))
  exact bodyPost_ret (v := .slice a' ys.length c') (by simp [results, Try.results5, go_sem]) rfl ⟨a', c', ys, rfl, HWB.out.trans ((b1.trans b2).mono HWB.out.size), q1, q2, q3⟩
end Go.Proofs.Ytjgfklbhagcbaab

/- Rows of structs that lean on some blocks alone; pieces of them. -/
namespace Go.Proofs.Ytjgfklbhagcbaab
open Go.RowKit
set_option linter.unusedVariables false
set_option linter.unusedSimpArgs false

/-- A row that is read; its elements lean on blocks of G alone. -/
def RSG {α : Type} (E : El α) (G : Nat → Prop) (w : World) (ao : Option Addr) (len cap : Nat) (xs : List α) : Prop := ∃ us, RSu E w ao len cap us xs ∧ ∀ u ∈ us, ∀ b, Refs u b → G b
theorem RSG.rs {α : Type} {E : El α} {G : Nat → Prop} {w : World} {ao : Option Addr} {len cap : Nat} {xs : List α} (h : RSG E G w ao len cap xs) : RS E w ao len cap xs := by
  obtain ⟨us, h, _⟩ := h
  exact ⟨us, h⟩
theorem RSG.later {α : Type} {E : El α} {G : Nat → Prop} {w w' : World} {ao : Option Addr} {len cap : Nat} {xs : List α} (h : RSG E G w ao len cap xs) (hb : Below w.heap.size w w') : RSG E G w' ao len cap xs := by
  obtain ⟨us, h, hg⟩ := h
  exact ⟨us, h.later hb, hg⟩
theorem RSG.any {α : Type} {E : El α} {w : World} {ao : Option Addr} {len cap : Nat} {xs : List α} (h : RS E w ao len cap xs) : RSG E (fun b => b < w.heap.size) w ao len cap xs := by
  obtain ⟨us, h⟩ := h
  exact ⟨us, h, fun u hu b hr => h.2.2.2.2.1.lt u hu b hr⟩
theorem RowF.rsg {α : Type} {E : El α} {B : Nat} {F : Nat → Prop} {w : World} {v : Value} {xs : List α} (h : RowF E B F w v xs) : ∃ ao cap, v = .slice ao xs.length cap ∧ RSG E F w ao xs.length cap xs := by
  obtain ⟨us, hown, h2, h3, h4⟩ := h
  have hcells : ∀ g, v.ownBlock = some g → _ := fun g hg => World.ownsRow.cells hown (g := g) hg
  rcases hown.2 with ⟨rfl, h0⟩ | ⟨g, cap, cur, rfl, hbg, hg, hnc, hcm, hcs, htake⟩
  · have hx : xs = [] := List.eq_nil_of_length_eq_zero h0
    subst hx
    have hu : us = [] := h2
    subst hu
    exact ⟨none, 0, rfl, [], ⟨rfl, fun _ => ⟨rfl, rfl⟩, Nat.le_refl _, Nat.zero_le _, rfl, fun j u hu => by simp at hu⟩, fun u hu => by cases hu⟩
  · refine ⟨some ⟨g, 0, none⟩, cap, rfl, us, ⟨rfl, (fun q => by cases q), hnc, hcm, h2, fun j u hu => ⟨g, 0, rfl, ?_⟩⟩, h4⟩
    have := hcells g rfl j u hu
    rw [Addr.add_lit] at this
    exact this
theorem Lay.split' {α : Type} {E : El α} {w : World} : ∀ {us : List Value} {xs ys : List α}, Lay E w us (xs ++ ys) → ∃ u1 u2, us = u1 ++ u2 ∧ Lay E w u1 xs ∧ Lay E w u2 ys
  | us, [], ys, h => ⟨[], us, rfl, rfl, h⟩
  | us, x :: xs, ys, h => by
    obtain ⟨vs, us', rfl, h1, h2⟩ := h
    obtain ⟨u1, u2, rfl, g1, g2⟩ := Lay.split' h2
    exact ⟨vs ++ u1, u2, by rw [List.append_assoc], ⟨vs, u1, rfl, h1, g1⟩, g2⟩
/-- A piece of a row that is read. -/
theorem RSG.cut {α : Type} {E : El α} {G : Nat → Prop} {w : World} {ao : Option Addr} {len cap : Nat} {xs : List α} (h : RSG E G w ao len cap xs) (hp : 0 < E.size) (i j : Nat) (h1 : i ≤ j) (h2 : j ≤ len) :
    RSG E G w (if cap - i = 0 then ao else ao.map (fun a => a.add (i * E.size))) (j - i) (cap - i) ((xs.drop i).take (j - i)) := by
  obtain ⟨us, ⟨e1, e2, e3, e4, e5, e6⟩, hg⟩ := h
  have hus : us = (us.take (i * E.size)) ++ ((us.drop (i * E.size)).take ((j - i) * E.size) ++ (us.drop (i * E.size)).drop ((j - i) * E.size)) := by rw [List.take_append_drop, List.take_append_drop]
  have hxs : xs = xs.take i ++ ((xs.drop i).take (j - i) ++ (xs.drop i).drop (j - i)) := by rw [List.take_append_drop, List.take_append_drop]
  have hl := e5
  rw [hxs] at hl
  obtain ⟨u1, u2, q1, l1, l2⟩ := Lay.split' hl
  obtain ⟨u3, u4, q2, l3, l4⟩ := Lay.split' l2
  have n1 := l1.len
  have n3 := l3.len
  have x1 : (xs.take i).length = i := by rw [List.length_take]; omega
  have x3 : ((xs.drop i).take (j - i)).length = j - i := by rw [List.length_take, List.length_drop]; omega
  rw [x1] at n1
  rw [x3] at n3
  refine ⟨u3, ⟨x3, fun hn => ?_, by omega, by omega, l3, fun k u hk => ?_⟩, fun u hu b hr => hg u (by rw [q1, q2]; exact List.mem_append.2 (.inr (List.mem_append.2 (.inl hu)))) b hr⟩
  · by_cases q : cap - i = 0
    · rw [if_pos q] at hn
      have := e2 hn
      omega
    · rw [if_neg q] at hn
      have := e2 (by simpa using hn)
      omega
  · have hkl : k < u3.length := (List.getElem?_eq_some_iff.1 hk).1
    have hku : us[i * E.size + k]? = some u := by
      rw [q1, q2, List.getElem?_append_right (by omega), n1, Nat.add_sub_cancel_left, List.getElem?_append_left hkl]
      exact hk
    obtain ⟨b, off, rfl, hc⟩ := e6 _ _ hku
    have hji : 0 < j - i := by
      rcases Nat.eq_zero_or_pos (j - i) with q | q
      · rw [q, Nat.zero_mul] at n3
        omega
      · exact q
    refine ⟨b, off + i * E.size, ?_, by rw [Nat.add_assoc]; exact hc⟩
    rw [if_neg (by omega)]
    show some ((⟨b, off, none⟩ : Addr).add (i * E.size)) = _
    rw [Addr.add_lit]
end Go.Proofs.Ytjgfklbhagcbaab

/- What is asked of a program's mem: how it lies in memory is its own. -/
namespace Go.Proofs.Ytjgfklbhagcbaab
open Go.RowKit
set_option linter.unusedVariables false
set_option linter.unusedSimpArgs false

/-- All that is not of F stands. -/
structure Kept (F : Nat → Prop) (w w' : World) : Prop where
  os : w'.os = w.os
  tape : w'.tape = w.tape
  output : w'.output = w.output
  size : w.heap.size ≤ w'.heap.size
  block : ∀ k, k < w.heap.size → ¬ F k → w'.heap[k]? = w.heap[k]?
theorem Kept.below {F : Nat → Prop} {w w' : World} {B : Nat} (h : Kept F w w') (hB : B ≤ w.heap.size) (hF : ∀ k, F k → B ≤ k) : Below B w w' :=
  ⟨h.os, h.tape, h.output, h.size, fun k hk => h.block k (by omega) (fun q => by have := hF k q; omega)⟩
theorem Kept.refl (F : Nat → Prop) (w : World) : Kept F w w := ⟨rfl, rfl, rfl, Nat.le_refl _, fun _ _ _ => rfl⟩
/-- An entry as a value. -/
def entA (ka : Option Addr) (kc : Nat) (va : Option Addr) (vc : Nat) (e : EntV) : Value := .agg #[.slice ka e.key.length kc, .int .i64 e.seq, .bool e.gone, .int .i64 e.till, .slice va e.val.length vc]
def entL (ka : Option Addr) (kc : Nat) (va : Option Addr) (vc : Nat) (e : EntV) : List Value := [.slice ka e.key.length kc, .int .i64 e.seq, .bool e.gone, .int .i64 e.till, .slice va e.val.length vc]
/-- No entry. -/
def ent0 : Value := .agg #[.slice none 0 0, .int .i64 0, .bool false, .int .i64 0, .slice none 0 0]
/-- What a call that tells an entry tells: memory of the caller's own. -/
def GotE (B : Nat) (g : Option EntV) (r : Ending) (w' : World) : Prop :=
  (g = none ∧ r = .returned (.tuple #[ent0, .bool false])) ∨ ∃ x ka kc va vc, g = some x ∧ r = .returned (.tuple #[entA ka kc va vc x, .bool true]) ∧ EntM w' (entL ka kc va vc x) x ∧ ∀ u ∈ entL ka kc va vc x, ∀ b, Refs u b → B ≤ b
/-- The mem's pointer. -/
def pm (p : Nat) : Value := .pointer (some ⟨p, 0, none⟩)
/-- -/
structure PM where
  R : World → Nat → List EntV → (Nat → Prop) → Prop
  G : World → Prop
  N : Nat
  gk : ∀ {w w'}, G w → Below w.heap.size w w' → G w'
  gn : ∀ {w}, G w → N ≤ w.heap.size
  rn : ∀ {w p l F}, R w p l F → N ≤ w.heap.size
  lt : ∀ {w p l F}, R w p l F → ∀ k, F k → k < w.heap.size
  same : ∀ {w w' p l F}, R w p l F → (∀ k, F k → w'.heap[k]? = w.heap[k]?) → (∀ k, k < N → w'.heap[k]? = w.heap[k]?) → R w' p l F
/-- What List and All tell. -/
structure PML (D : PM) : Prop where
theorem PM.later {D : PM} {w w' : World} {p : Nat} {l : List EntV} {F : Nat → Prop} (h : D.R w p l F) (hb : Below w.heap.size w w') : D.R w' p l F := D.same h (fun k hk => hb.block k (D.lt h k hk)) (fun k hk => hb.block k (by have := D.rn h; omega))
end Go.Proofs.Ytjgfklbhagcbaab
