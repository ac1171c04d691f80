import Derived.Test.YtjgfklbhagcbaabPk17
import Derived.Test.YtjgfklbhagcbaabPk18
import Derived.Test.YtjgfklbhagcbaabPk20
/- A row of edits: how one lies in memory, how one that came in is opened. -/
namespace Go.Proofs.Ytjgfklbhagcbaab
open Go.RowKit
set_option linter.unusedVariables false
set_option linter.unusedSimpArgs false

/-- A row of edits that is read. -/
structure EdRow (w : World) (ao : Option Addr) (n cap : Nat) (es : List EdV) : Prop where
  len : es.length = n ∧ n ≤ cap ∧ cap ≤ maxLen
  nil : ao = none → n = 0 ∧ cap = 0
  at' : ∀ (k : Nat) (e : EdV), es[k]? = some e → ∃ b off aa ac ra rc, ao = some ⟨b, off, none⟩ ∧ (w.cell? ⟨b, off + k * 5, none⟩ = some (.int .i64 e.log) ∧ w.cell? ⟨b, off + k * 5 + 1, none⟩ = some (.int .i64 e.next) ∧ w.cell? ⟨b, off + k * 5 + 2, none⟩ = some (.int .i64 e.seq) ∧ w.cell? ⟨b, off + k * 5 + 3, none⟩ = some (.slice aa e.add.length ac) ∧ w.cell? ⟨b, off + k * 5 + 4, none⟩ = some (.slice ra e.rem.length rc)) ∧ EdM w e aa ac ra rc
theorem EdRow.later {w w' : World} {ao : Option Addr} {n cap : Nat} {es : List EdV} (h : EdRow w ao n cap es) (hb : Below w.heap.size w w') : EdRow w' ao n cap es := by
  refine ⟨h.len, h.nil, fun k e he => ?_⟩
  obtain ⟨b, off, aa, ac, ra, rc, e1, ⟨c0, c1, c2, c3, c4⟩, hm⟩ := h.at' k e he
  exact ⟨b, off, aa, ac, ra, rc, e1, ⟨cell_later hb c0, cell_later hb c1, cell_later hb c2, cell_later hb c3, cell_later hb c4⟩, hm.later hb⟩
end Go.Proofs.Ytjgfklbhagcbaab

/- The landed level: how great a level is; what the laws call light. -/
namespace Go.Proofs.Ytjgfklbhagcbaab
open Go.RowKit
set_option linter.unusedVariables false
set_option linter.unusedSimpArgs false

def szP (l s : Int) (t : LnV) : Int := if t.lvl = l then s + min (max t.size 0) (4611686018427387904 - s) else s
theorem szP_in {l s : Int} (t : LnV) (h : 0 ≤ s ∧ s ≤ 4611686018427387904) : 0 ≤ szP l s t ∧ szP l s t ≤ 4611686018427387904 := by
  unfold szP; split <;> omega
def szL (tabs : List LnV) (l : Int) : Int := tabs.foldl (szP l) 0
theorem szL_in (l : Int) : ∀ (tabs : List LnV) (s : Int), (0 ≤ s ∧ s ≤ 4611686018427387904) → (0 ≤ tabs.foldl (szP l) s ∧ tabs.foldl (szP l) s ≤ 4611686018427387904)
  | [], s, h => h
  | t :: r, s, h => szL_in l r _ (szP_in t h)
theorem szL_take {tabs : List LnV} {k : Nat} {x : LnV} (h : tabs[k]? = some x) (l : Int) : (tabs.take (k + 1)).foldl (szP l) 0 = szP l ((tabs.take k).foldl (szP l) 0) x := by
  obtain ⟨hk, rfl⟩ := List.getElem?_eq_some_iff.1 h
  rw [List.take_add_one, List.getElem?_eq_getElem hk, List.foldl_append]
  rfl
set_option maxHeartbeats 4000000 in
set_option maxRecDepth 100000 in
theorem size_t {w : World} {v : VrV} {a : Option Addr} {c : Nat} (h : VrM w v a c) (hn : v.tabs.length ≤ 2 ^ 50) (l : Int) :
    Calls Try.prog 15 #[vrV v a c, .int .i64 l] w fun e w' => e = .returned (.int .i64 (szL v.tabs l)) ∧ Below w.heap.size w w' := by
  obtain ⟨log, next, seq, tabs⟩ := v
  obtain ⟨-, -, -, ha⟩ := h
  unfold vrV
  simp only at ha hn ⊢
  have hbx := fun (wx : World) hb => box4 w (.int .i64 log) (.int .i64 next) (.int .i64 seq) (.slice a tabs.length c) 26 (wx := wx) hb
  obtain ⟨W, hW⟩ : ∃ W, W = w.alloc (.cells #[.int .i64 log, .int .i64 next, .int .i64 seq, .slice a tabs.length c] 26) := ⟨_, rfl⟩
  have hWb : Below w.heap.size w W := by rw [hW]; exact (Below.refl _ w).alloc (Nat.le_refl _) _
  rw [← hW] at hbx
  have HAD := hidS (ha.later hWb)
  have HWB := hidS hWb
  obtain ⟨x0, x1, x2, x3⟩ := hbx _ (Below.refl _ _)
  obtain ⟨n, hnE⟩ : ∃ na, na = tabs.length := ⟨_, rfl⟩
  have HNL := hidS hnE
  rw [← hnE] at x3 hn ⊢
  have HW := hidS hW
  rw [hnE.symm] at hW
  clear ha hWb hbx hnE
  rw [hW] at x0 x1 x2 x3
  go_enter Try.func15, Try.ntmps15
  go_wp2_with fail
  rw [← hW]
  clear hW x0 x1 x2 x3
  go_loopg [5, 7, 11] n (fun kx s5 _ s11 wr => ∃ k : Nat, s5 = .int .i64 ((tabs.take k).foldl (szP l) 0) ∧ s11 = .int .i64 k ∧ k + kx = n ∧ Hid (Below W.heap.size W wr))
  case atStart => exact ⟨0, rfl, rfl, by omega, Below.refl _ _⟩
  case round =>
    obtain ⟨k, rfl, rfl, hg, HK⟩ := hrel
    by_cases hk : k < n
    · have hk' : (k : Int) < (n : Int) := by omega
      obtain ⟨x, hx⟩ : ∃ x, tabs[k]? = some x := ⟨_, List.getElem?_eq_getElem (by have := HNL.out; omega)⟩
      obtain ⟨b, off, la, lc, ma, mc, rfl, r0, r1, r2, r3, r4, -, -, -, -, -⟩ := RS.ln (HAD.out.later HK.out) hx
      have HT : Hid ((tabs.take (k + 1)).foldl (szP l) 0 = szP l ((tabs.take k).foldl (szP l) 0) x) := szL_take hx l
      obtain ⟨s, hs⟩ : ∃ s, s = (tabs.take k).foldl (szP l) 0 := ⟨_, rfl⟩
      have hsb : 0 ≤ s ∧ s ≤ 4611686018427387904 := by rw [hs]; exact szL_in l _ 0 (by omega)
      rw [← hs] at HT ⊢
      have HB : Hid (∀ o, Below W.heap.size W (wr.alloc o)) := fun o => HK.out.alloc HK.out.size o
      have HR := hidS (And.intro hg hk)
      have hk62 : k ≤ 2 ^ 60 := by omega
      have HS : Hid (szP l s x = if x.lvl = l then s + min (max x.size 0) (4611686018427387904 - s) else s) := rfl
      clear hg hx hs
      generalize x.least.length = L1 at r3
      generalize x.most.length = L2 at r4
      generalize x.num = num at r0
      generalize x.lvl = lvl at r1 HS
      generalize x.size = size at r2 HS
      by_cases q : lvl = l
      · subst q
        have q1 : (lvl == lvl) = true := by simp
        obtain ⟨m, hm⟩ : ∃ m, m = max size 0 := ⟨_, rfl⟩
        obtain ⟨d, hd⟩ : ∃ d, d = min m (4611686018427387904 - s) := ⟨_, rfl⟩
        have HV : Hid (szP lvl s x = s + d) := by show _ = _; rw [HS.out, if_pos rfl, hd, hm]
        have hdb : 0 ≤ d ∧ s + d ≤ 4611686018427387904 := by omega
        go_wp2_with fail
        rw [← hm, ← hd]
        go_roundg (n - (k + 1))
        case measure => have := HR.out; omega
        case rel => exact ⟨k + 1, by rw [HT.out, HV.out], by go_num, by have := HR.out; omega, HB.out _⟩
      · have q1 : (lvl == l) = false := by simpa using q
        go_wp2_with fail
        go_roundg (n - (k + 1))
        case measure => have := HR.out; omega
        case rel => exact ⟨k + 1, by rw [HT.out, HS.out, if_neg q], by go_num, by have := HR.out; omega, HB.out _⟩
    · have hk' : ¬ (k : Int) < (n : Int) := by omega
      have HE : Hid ((tabs.take k).foldl (szP l) 0 = szL tabs l) := by rw [List.take_of_length_le (by have := HNL.out; omega)]; rfl
      clear hg hk
      go_wp2_with fail
      exact bodyPost_ret (v := .int .i64 ((tabs.take k).foldl (szP l) 0)) (by simp [results, Try.results15, go_sem]) rfl ⟨by rw [HE.out], HWB.out.trans (HK.out.mono HWB.out.size)⟩
def litL (l : List LnV) : Bool := decide (l.length ≤ 210) && l.all fun t => decide (t.least.length ≤ 600 ∧ t.most.length ≤ 600)
theorem litL_ok {l : List LnV} (h : litL l = true) : l.length ≤ 210 ∧ ∀ t ∈ l, t.least.length ≤ 600 ∧ t.most.length ≤ 600 := by
  unfold litL at h
  simp only [Bool.and_eq_true, decide_eq_true_eq, List.all_eq_true] at h
  exact h
theorem litL_bad {l : List LnV} {k : Nat} {x : LnV} (h : l[k]? = some x) (hb : 210 ≤ k ∨ ¬ (x.least.length ≤ 600 ∧ x.most.length ≤ 600)) : litL l = false := by
  cases e : litL l with
  | false => rfl
  | true =>
    have := litL_ok e
    obtain ⟨hk, hx⟩ := List.getElem?_eq_some_iff.1 h
    rcases hb with hb | hb
    · omega
    · exact absurd (this.2 x (List.mem_of_getElem? h)) hb
set_option maxHeartbeats 4000000 in
set_option maxRecDepth 100000 in
theorem light15_t {w : World} {ao : Option Addr} {n cap : Nat} {xs : List LnV} (h : RS lnE w ao n cap xs) :
    Calls Try.prog 8 #[.slice ao n cap] w fun e w' => e = .returned (.bool (litL xs)) ∧ Below w.heap.size w w' := by
  have hl : xs.length = n := by obtain ⟨us, h1, _⟩ := h; exact h1
  have hn63 : n ≤ 2 ^ 63 - 1 := by obtain ⟨us, _, _, h3, h4, _⟩ := h; unfold maxLen at h4; omega
  have HL := hidS hl
  have H0 := hidS h
  clear hl h
  go_enter Try.func8, Try.ntmps8
  go_wp2_with fail
  go_loopg [3, 4, 7] n (fun kx _ _ s7 wr => ∃ k : Nat, s7 = .int .i64 k ∧ k + kx = n ∧ Hid ((∀ j x, j < k → xs[j]? = some x → j < 210 ∧ x.least.length ≤ 600 ∧ x.most.length ≤ 600) ∧ Below w.heap.size w wr))
  case atStart => exact ⟨0, rfl, by omega, (fun j x hj => by omega), Below.refl _ _⟩
  case round =>
    obtain ⟨k, rfl, hg, HK⟩ := hrel
    by_cases hk : k < n
    · have hk' : (k : Int) < (n : Int) := by omega
      obtain ⟨x, hx⟩ : ∃ x, xs[k]? = some x := ⟨_, List.getElem?_eq_getElem (by have := HL.out; omega)⟩
      obtain ⟨b, off, la, lc, ma, mc, rfl, r0, r1, r2, r3, r4, -, -, -, -, -⟩ := RS.ln (H0.out.later HK.out.2) hx
      have HB : Hid (∀ o, Below w.heap.size w (wr.alloc o)) := fun o => HK.out.2.alloc HK.out.2.size o
      have HR := hidS (And.intro hg hk)
      have HX : Hid (210 ≤ k ∨ ¬ (x.least.length ≤ 600 ∧ x.most.length ≤ 600) → litL xs = false) := litL_bad hx
      have HXX := hidS hx
      obtain ⟨L1, hL1⟩ : ∃ L, L = x.least.length := ⟨_, rfl⟩
      obtain ⟨L2, hL2⟩ : ∃ L, L = x.most.length := ⟨_, rfl⟩
      rw [← hL1] at r3 HX
      rw [← hL2] at r4 HX
      have HLL := hidS (And.intro hL1 hL2)
      clear hg hx hL1 hL2
      generalize x.num = num at r0
      generalize x.lvl = lvl at r1
      generalize x.size = size at r2
      by_cases q0 : 210 ≤ k
      · have q0' : (210 : Int) ≤ (k : Int) := by omega
        have HF := hidS (HX.out (.inl q0))
        go_wp2_with fail
        exact bodyPost_ret (v := .bool false) (by simp [results, Try.results8, go_sem]) rfl ⟨by rw [HF.out], HB.out _⟩
      · have q0' : ¬ (210 : Int) ≤ (k : Int) := by omega
        by_cases q1 : 600 < L1
        · have q1' : (600 : Int) < (L1 : Int) := by omega
          have HF := hidS (HX.out (.inr (by omega)))
          go_wp2_with fail
          exact bodyPost_ret (v := .bool false) (by simp [results, Try.results8, go_sem]) rfl ⟨by rw [HF.out], HB.out _⟩
        · have q1' : ¬ (600 : Int) < (L1 : Int) := by omega
          by_cases q2 : 600 < L2
          · have q2' : (600 : Int) < (L2 : Int) := by omega
            have HF := hidS (HX.out (.inr (by omega)))
            go_wp2_with fail
            exact bodyPost_ret (v := .bool false) (by simp [results, Try.results8, go_sem]) rfl ⟨by rw [HF.out], HB.out _⟩
          · have q2' : ¬ (600 : Int) < (L2 : Int) := by omega
            go_wp2_with fail
            go_roundg (n - (k + 1))
            case measure => have := HR.out; omega
            case rel =>
              refine ⟨k + 1, by go_num, by have := HR.out; omega, fun j y hj hy => ?_, HB.out _⟩
              by_cases z : j < k
              · exact HK.out.1 j y z hy
              · obtain rfl : j = k := by omega
                have hxy := HXX.out
                rw [hy] at hxy
                obtain rfl : y = x := by simpa using hxy
                have := HLL.out
                omega
    · have hk' : ¬ (k : Int) < (n : Int) := by omega
      have HE : Hid (litL xs = true) := by
        show _ = _
        have hlen := HL.out
        unfold litL
        rw [Bool.and_eq_true]
        refine ⟨decide_eq_true ?_, List.all_eq_true.2 fun t ht => ?_⟩
        · apply Classical.byContradiction
          intro hc
          have := HK.out.1 210 (xs[210]'(by omega)) (by omega) (List.getElem?_eq_getElem _)
          omega
        · obtain ⟨i, hi, rfl⟩ := List.getElem_of_mem ht
          exact decide_eq_true (HK.out.1 i _ (by omega) (List.getElem?_eq_getElem hi)).2
      clear hg hk
      go_wp2_with fail
      exact bodyPost_ret (v := .bool true) (by simp [results, Try.results8, go_sem]) rfl ⟨by rw [HE.out], HK.out.2⟩
end Go.Proofs.Ytjgfklbhagcbaab

/- The document's own SameNumbers, SameTables, SameEdit, of what is the same. -/
namespace Go.Proofs.Ytjgfklbhagcbaab
open Go.RowKit
set_option linter.unusedVariables false
set_option linter.unusedSimpArgs false

end Go.Proofs.Ytjgfklbhagcbaab
