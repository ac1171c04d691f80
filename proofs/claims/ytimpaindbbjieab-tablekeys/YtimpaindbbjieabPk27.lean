import Derived.Deep.RegionHeldLaw
import Derived.Test.YtimpaindbbjieabPk06
import Derived.Test.YtimpaindbbjieabPk08
import Derived.Test.YtimpaindbbjieabPk13
import Derived.Test.YtimpaindbbjieabPk26
/- What the landed mem's small functions answer. -/
namespace Go.Proofs.Ytimpaindbbjieab
open Go.RowKit
set_option linter.unusedVariables false
set_option linter.unusedSimpArgs false

set_option maxHeartbeats 2000000 in
set_option maxRecDepth 100000 in
theorem may_m {w : World} {ka va : Option Addr} {kc vc : Nat} {e : EntV} : Calls Try.prog 42 #[entA ka kc va vc e] w fun r w' => r = .returned (.bool (mayE e)) ∧ Below w.heap.size w w' := by
  obtain ⟨key, seq, gone, till, vl⟩ := e
  unfold entA
  simp only
  unfold mayE
  simp only
  generalize key.length = kl
  generalize vl.length = ln
  cases gone
  · go_enter Try.func42, Try.ntmps42
    go_wp2_with fail
    all_goals
      go_ret
      refine ⟨congrArg (fun b => Ending.returned (.bool b)) ?_, (Below.refl _ w).alloc (Nat.le_refl _) _⟩
      rw [Bool.eq_iff_iff]
      simp
      try omega
  · go_enter Try.func42, Try.ntmps42
    go_wp2_with fail
    all_goals
      go_ret
      refine ⟨congrArg (fun b => Ending.returned (.bool b)) ?_, (Below.refl _ w).alloc (Nat.le_refl _) _⟩
      rw [Bool.eq_iff_iff]
      simp
      try omega
theorem eql_m {w : World} {ao bo : Option Addr} {la ca lb cb : Nat} {xs ys : List Int} (ha : Sl w ao la ca xs) (hb : Sl w bo lb cb ys) : Calls Try.prog 34 #[.slice ao la ca, .slice bo lb cb] w fun e w' => e = .returned (.bool (decide (xs = ys))) ∧ w' = w := by
  have h1 := str_l ha
  have h2 := str_l hb
  have HE := hid (str_eq ha.2.1 hb.2.1)
  clear ha hb
  go_enter Try.func34, Try.ntmps34
  go_wp2_with fail
  go_ret
  refine ⟨?_, rfl⟩
  rw [← HE.out]
  simp
/-- As cmp.Compare of whole numbers. -/
def cmpI (a b : Int) : Int := if a < b then -1 else if b < a then 1 else 0
end Go.Proofs.Ytimpaindbbjieab

/- The landed block: which entry stands ahead; Ordered. -/
namespace Go.Proofs.Ytimpaindbbjieab
open Go.RowKit
set_option linter.unusedVariables false
set_option linter.unusedSimpArgs false

/-- Is the entry ahead of that key and number? -/
def ahK (e : EntV) (key : List Int) (s : Int) : Bool := decide (cmp e.key key < 0 ∨ cmp e.key key = 0 ∧ s < e.seq)
theorem ahK_ahead (a b : EntV) : ahK a b.key b.seq = true ↔ ahead a b < 0 := by
  unfold ahK ahead
  simp only [decide_eq_true_eq]
  have := cmp_vals a.key b.key
  by_cases h : cmp a.key b.key = 0
  · rw [if_neg (not_not_intro h)]
    by_cases q : b.seq < a.seq
    · simp [h, q]
    · rw [if_neg q]
      have : ¬ ((if a.seq < b.seq then (1 : Int) else 0) < 0) := by split <;> decide
      simp [h, q, this]
  · rw [if_pos h]
    simp [h]

set_option maxHeartbeats 2000000 in
set_option maxRecDepth 100000 in
theorem ahd_k {w : World} {ka va ba : Option Addr} {kc vc lb cb : Nat} {e : EntV} {key : List Int} {s : Int} (hk : Sl w ka e.key.length kc e.key) (hb : Sl w ba lb cb key) :
    Calls Try.prog 43 #[entA ka kc va vc e, .slice ba lb cb, .int .i64 s] w fun r w' => r = .returned (.bool (ahK e key s)) ∧ Below w.heap.size w w' := by
  obtain ⟨k0, seq, gone, till, vl⟩ := e
  unfold entA ahK
  simp only at hk ⊢
  obtain ⟨W, hW⟩ : ∃ W, W = w.alloc (.cells #[.slice ka k0.length kc, .int .i64 seq, .bool gone, .int .i64 till, .slice va vl.length vc] 36) := ⟨_, rfl⟩
  have b1 : Below w.heap.size w W := by rw [hW]; exact (Below.refl _ _).alloc (Nat.le_refl _) _
  have hc := compare_l (hk.later b1) (hb.later b1)
  have y1 : W.cell? ⟨w.heap.size, 1, none⟩ = some (.int .i64 seq) := by rw [hW, cell_of (heap_alloc_new w _)]; rfl
  have HB := hid b1
  have hv := cmp_vals k0 key
  generalize cmp k0 key = c at hc hv ⊢
  generalize k0.length = kl at hc hW
  generalize vl.length = ln at hW
  rw [hW] at hc y1 HB
  clear hk hb b1 hW
  go_enter Try.func43, Try.ntmps43
  rcases hv with rfl | rfl | rfl
  · go_wp2_with (go_at_call 58; refine hc.mono ?_; rintro e w' ⟨rfl, hw⟩; obtain rfl := hw.symm)
    exact bodyPost_ret (v := .bool true) (by simp [results, Try.results43, go_sem]) rfl ⟨by simp, HB.out⟩
  · by_cases q : s < seq
    · go_wp2_with (go_at_call 58; refine hc.mono ?_; rintro e w' ⟨rfl, hw⟩; obtain rfl := hw.symm)
      exact bodyPost_ret (v := .bool true) (by simp [results, Try.results43, go_sem, q]) rfl ⟨by simp [q], HB.out⟩
    · go_wp2_with (go_at_call 58; refine hc.mono ?_; rintro e w' ⟨rfl, hw⟩; obtain rfl := hw.symm)
      exact bodyPost_ret (v := .bool false) (by simp [results, Try.results43, go_sem, q]) rfl ⟨by simp [q], HB.out⟩
  · go_wp2_with (go_at_call 58; refine hc.mono ?_; rintro e w' ⟨rfl, hw⟩; obtain rfl := hw.symm)
    exact bodyPost_ret (v := .bool false) (by simp [results, Try.results43, go_sem]) rfl ⟨by simp, HB.out⟩

set_option maxHeartbeats 4000000 in
set_option maxRecDepth 100000 in
theorem ord_k {w : World} {ao : Option Addr} {len cap : Nat} {l : List EntV} (h : RS entE w ao len cap l) (hl : len ≤ 1000000) :
    Calls Try.prog 21 #[.slice ao len cap] w fun r w' => r = .returned (.bool (ordB l)) ∧ Below w.heap.size w w' := by
  have HS : Hid (RS entE w ao len cap l ∧ True ∧ len ≤ 1000000) := ⟨h, trivial, hl⟩
  have hln : l.length = len := h.len.1
  have hl62 : len ≤ 2 ^ 61 := by omega
  clear h hl
  go_enter Try.func21, Try.ntmps21
  go_wp2_with fail
  go_loopg [3] len (fun g i wr => ∃ k : Nat, (k + g = len ∨ (k = 0 ∧ g = len)) ∧ i = .int .i64 ((k + 1 : Nat) : Int) ∧ Hid (Below w.heap.size w wr) ∧ Hid (∀ j (h : j + 1 < l.length), j < k → ahead l[j] l[j + 1] < 0))
  case atStart => exact ⟨0, .inr ⟨rfl, rfl⟩, rfl, Below.refl _ _, fun j _ h => absurd h (by omega)⟩
  case round =>
    obtain ⟨k, hk, rfl, HK, HC⟩ := hrel
    by_cases hkl : k + 1 < len
    · have hkl' : (k : Int) + 1 < (len : Int) := by omega
      have hdl : decide ((k : Int) + 1 < (len : Int)) = true := by simpa using hkl'
      have hx1 : k < l.length := by omega
      have hx2 : k + 1 < l.length := by omega
      obtain ⟨b, off, ka, kc, va, vc, hab, d0, d1, d2, d3, d4, s1, s2, i1, i2⟩ := RS.ent (HS.out.1.later HK.out) (List.getElem?_eq_getElem hx1)
      obtain ⟨b', off', kb, kd, vb, vd, hab', e0, e1, e2, e3, e4, t1, t2, j1, j2⟩ := RS.ent (HS.out.1.later HK.out) (List.getElem?_eq_getElem hx2)
      rw [hab] at hab'
      simp only [Option.some.injEq, Addr.mk.injEq, and_true] at hab'
      obtain ⟨rfl, rfl⟩ := hab'
      subst hab
      have hah := ahK_ahead l[k] l[k + 1]
      have HN : Hid (ahK l[k] l[k + 1].key l[k + 1].seq = false → ordB l = false) := fun q => ordB_not hx2 (fun q2 => by rw [hah.2 q2] at q; cases q)
      have HP : Hid (ahK l[k] l[k + 1].key l[k + 1].seq = true → ∀ j (h : j + 1 < l.length), j < k + 1 → ahead l[j] l[j + 1] < 0) := fun q j hj hjk => if e : j = k then by subst e; exact hah.1 q else HC.out j hj (by omega)
      have hA := ahd_k (va := va) (vc := vc) (s := l[k + 1].seq) (s1.drewN 1) (t1.drewN 1)
      unfold entA at hA
      clear hah
      generalize ahK l[k] l[k + 1].key l[k + 1].seq = c at hA HN HP
      generalize l[k] = o at d0 d1 d2 d3 d4 hA
      generalize l[k + 1] = o' at e0 e1 e2 e3 e4 hA
      generalize o.key.length = kl at d0 hA
      generalize o.val.length = ln at d4 hA
      generalize o.seq = seq at d1 hA
      generalize o.gone = gone at d2 hA
      generalize o.till = till at d3 hA
      generalize o'.key.length = kl2 at e0 hA
      generalize o'.seq = seq2 at e1 hA
      have hk62 : k ≤ 2 ^ 60 := by have := HS.out.2.2; omega
      have hwa : IntKind.i64.wrap ((k : Int) + 1 - 1) = (k : Int) := by rw [IntKind.wrap_i64]; omega
      have hwb : wrap64 ((k : Int) + 1 - 1) = (k : Int) := by unfold wrap64; omega
      have hwc : IntKind.i64.wrap (k : Int) = (k : Int) := by rw [IntKind.wrap_i64]; omega
      have hwd : wrap64 (k : Int) = (k : Int) := by unfold wrap64; omega
      have hkl0 : (k : Int) < (len : Int) := by omega
      have hkl3 : k < len := by omega
      obtain ⟨GK, HG⟩ : ∃ g, Hid (g < gk ∧ k + 1 + g = len) := ⟨len - (k + 1), by omega, by omega⟩
      have HKB : Hid (∀ wx, Below wr.drew.heap.size wr.drew wx → Below w.heap.size w wx) := fun wx hb => HK.out.drew.trans (hb.mono HK.out.drew.size)
      clear s1 s2 i1 i2 t1 t2 j1 j2 hk e2 e3 e4
      go_wp2_with fail
      go_region_held_law (fun w' => (w'.cell? ⟨b, off + k * 5, none⟩ = some (.slice ka kl kc) ∧ w'.cell? ⟨b, off + k * 5 + 1, none⟩ = some (.int .i64 seq) ∧ w'.cell? ⟨b, off + k * 5 + 2, none⟩ = some (.bool gone) ∧ w'.cell? ⟨b, off + k * 5 + 3, none⟩ = some (.int .i64 till) ∧ w'.cell? ⟨b, off + k * 5 + 4, none⟩ = some (.slice va ln vc)) ∧ (w'.cell? ⟨b, off + (k + 1) * 5, none⟩ = some (.slice kb kl2 kd) ∧ w'.cell? ⟨b, off + (k + 1) * 5 + 1, none⟩ = some (.int .i64 seq2))) (first | exact ⟨⟨d0, d1, d2, d3, d4⟩, ⟨e0, e1⟩⟩ | exact ⟨⟨cell_later hb5 d0, cell_later hb5 d1, cell_later hb5 d2, cell_later hb5 d3, cell_later hb5 d4⟩, ⟨cell_later hb5 e0, cell_later hb5 e1⟩⟩) (first | (go_at_call 43; refine hA.mono ?_; rintro e w5 ⟨rfl, hb5⟩))
      all_goals
        cases c with
        | true =>
          go_wp2_with fail
          go_roundg GK
          case measure => exact HG.out.1
          case rel => exact ⟨k + 1, .inl HG.out.2, by go_num, HKB.out _ hb5, HP.out (by first | exact trivial | rfl)⟩
        | false =>
          go_wp2_with fail
          exact bodyPost_ret (v := .bool false) (by simp [results, Try.results21, go_sem]) rfl ⟨by rw [HN.out (by first | exact trivial | rfl)], HKB.out _ hb5⟩
    · have hkl' : (len : Int) ≤ (k : Int) + 1 := by omega
      have HT : Hid (ordB l = true) := ordB_chain fun j hj => HC.out j hj (by omega)
      clear hk hkl
      go_wp2_with fail
      exact bodyPost_ret (v := .bool true) (by simp [results, Try.results21, go_sem]) rfl ⟨by rw [HT.out], HK.out⟩
end Go.Proofs.Ytimpaindbbjieab

/- What the landed batch's May answers. -/
namespace Go.Proofs.Ytimpaindbbjieab
open Go.RowKit
set_option linter.unusedVariables false
set_option linter.unusedSimpArgs false

/-- What is wrong with a batch's numbers: 0: nothing. -/
def mayN (s : Int) (n : Nat) : Nat := if n < 1 ∨ 400 < n then 13 else if s < 1 ∨ 4611686018427387904 - ((n : Int) - 1) < s then 1 else 0
theorem mayB_n (s : Int) (os : List OpV) : mayB s os = if mayN s os.length ≠ 0 then mayN s os.length else mayO os := by
  unfold mayB mayN
  split
  · simp
  · split <;> simp

end Go.Proofs.Ytimpaindbbjieab
