/- The document's own Ordered, of any row. -/
import Derived.Test.YtifgojkmdicdmaaMget
import Derived.Test.YtifgojkmdicdmaaBlk
namespace Go.Proofs.Ytifgojkmdicdmaa
open Go.RowKit
set_option linter.unusedVariables false
set_option linter.unusedSimpArgs false

theorem ord_chain : ∀ {l : List EntV}, (∀ j (h : j + 1 < l.length), ahead l[j] l[j + 1] < 0) → l.Pairwise fun a b => ahead a b < 0
  | [], _ => List.Pairwise.nil
  | [x], _ => by simp
  | x :: y :: r, h => by
    have hr : (y :: r).Pairwise fun a b => ahead a b < 0 := ord_chain fun j hj => by
      have := h (j + 1) (by simp at hj ⊢; omega)
      simpa using this
    have hxy : ahead x y < 0 := by simpa using h 0 (by simp)
    refine List.pairwise_cons.2 ⟨fun z hz => ?_, hr⟩
    rcases List.mem_cons.1 hz with rfl | q
    · exact hxy
    · exact ahead_trans hxy ((List.pairwise_cons.1 hr).1 z q)
theorem ordB_chain {l : List EntV} (h : ∀ j (h : j + 1 < l.length), ahead l[j] l[j + 1] < 0) : ordB l = true := by
  unfold ordB; exact decide_eq_true (ord_chain h)
theorem ordB_not {l : List EntV} {k : Nat} (hk : k + 1 < l.length) (h : ¬ ahead l[k] l[k + 1] < 0) : ordB l = false := by
  unfold ordB
  exact decide_eq_false fun q => h (List.pairwise_iff_getElem.1 q k (k + 1) (by omega) hk (by omega))

set_option maxHeartbeats 4000000 in
set_option maxRecDepth 100000 in
theorem rord_any {w : World} {ao : Option Addr} {len cap : Nat} {l : List EntV} (h : RS entE w ao len cap l) (hl : len ≤ 1000000) :
    Calls Try.prog 13 #[.slice ao len cap] w fun r w' => r = .returned (.bool (ordB l)) ∧ Below w.heap.size w w' := by
  have HS : Hid (RS entE w ao len cap l ∧ True ∧ len ≤ 1000000) := ⟨h, trivial, hl⟩
  have hln : l.length = len := h.len.1
  have hl62 : len ≤ 2 ^ 61 := by omega
  clear h hl
  go_enter Try.func13, Try.ntmps13
  go_wp2_with fail
  go_loopg [3] len (fun g i wr => ∃ k : Nat, (k + g = len ∨ (k = 0 ∧ g = len)) ∧ i = .int .i64 ((k + 1 : Nat) : Int) ∧ Hid (Below w.heap.size w wr) ∧ Hid (∀ j (h : j + 1 < l.length), j < k → ahead l[j] l[j + 1] < 0))
  case atStart => exact ⟨0, .inr ⟨rfl, rfl⟩, rfl, Below.refl _ _, fun j _ h => absurd h (by omega)⟩
  case round =>
    obtain ⟨k, hk, rfl, HK, HC⟩ := hrel
    by_cases hkl : k + 1 < len
    · have hkl' : (k : Int) + 1 < (len : Int) := by omega
      have hdl : decide ((k : Int) + 1 < (len : Int)) = true := by simpa using hkl'
      have hx1 : k < l.length := by omega
      have hx2 : k + 1 < l.length := by omega
      obtain ⟨b, off, ka, kc, va, vc, hab, d0, d1, d2, d3, d4, s1, s2, i1, i2⟩ := RS.ent (HS.out.1.later HK.out) (List.getElem?_eq_getElem hx1)
      obtain ⟨b', off', kb, kd, vb, vd, hab', e0, e1, e2, e3, e4, t1, t2, j1, j2⟩ := RS.ent (HS.out.1.later HK.out) (List.getElem?_eq_getElem hx2)
      rw [hab] at hab'
      simp only [Option.some.injEq, Addr.mk.injEq, and_true] at hab'
      obtain ⟨rfl, rfl⟩ := hab'
      subst hab
      have HN : Hid (¬ ahead l[k] l[k + 1] < 0 → ordB l = false) := ordB_not hx2
      have HP : Hid (ahead l[k] l[k + 1] < 0 → ∀ j (h : j + 1 < l.length), j < k + 1 → ahead l[j] l[j + 1] < 0) := fun q j hj hjk => if e : j = k then by subst e; exact q else HC.out j hj (by omega)
      have hA := rahead_any (va := va) (vc := vc) (vb := vb) (vd := vd) (s1.drewN 1) (t1.drewN 1)
      unfold entA at hA
      generalize ahead l[k] l[k + 1] = c at hA HN HP
      generalize l[k] = o at d0 d1 d2 d3 d4 hA
      generalize l[k + 1] = o' at e0 e1 e2 e3 e4 hA
      generalize o.key.length = kl at d0 hA
      generalize o.val.length = ln at d4 hA
      generalize o.seq = seq at d1 hA
      generalize o.gone = gone at d2 hA
      generalize o.till = till at d3 hA
      generalize o'.key.length = kl2 at e0 hA
      generalize o'.val.length = ln2 at e4 hA
      generalize o'.seq = seq2 at e1 hA
      generalize o'.gone = gone2 at e2 hA
      generalize o'.till = till2 at e3 hA
      have hk62 : k ≤ 2 ^ 60 := by have := HS.out.2.2; omega
      have hwa : IntKind.i64.wrap ((k : Int) + 1 - 1) = (k : Int) := by rw [IntKind.wrap_i64]; omega
      have hwb : wrap64 ((k : Int) + 1 - 1) = (k : Int) := by unfold wrap64; omega
      have hwc : IntKind.i64.wrap (k : Int) = (k : Int) := by rw [IntKind.wrap_i64]; omega
      have hwd : wrap64 (k : Int) = (k : Int) := by unfold wrap64; omega
      have hkl0 : (k : Int) < (len : Int) := by omega
      have hkl3 : k < len := by omega
      obtain ⟨GK, HG⟩ : ∃ g, Hid (g < gk ∧ k + 1 + g = len) := ⟨len - (k + 1), by omega, by omega⟩
      have HKB : Hid (∀ wx, Below wr.drew.heap.size wr.drew wx → Below w.heap.size w wx) := fun wx hb => HK.out.drew.trans (hb.mono HK.out.drew.size)
      clear s1 s2 i1 i2 t1 t2 j1 j2 hk
      go_wp2_with fail
      go_region_held_law (fun w' => (w'.cell? ⟨b, off + k * 5, none⟩ = some (.slice ka kl kc) ∧ w'.cell? ⟨b, off + k * 5 + 1, none⟩ = some (.int .i64 seq) ∧ w'.cell? ⟨b, off + k * 5 + 2, none⟩ = some (.bool gone) ∧ w'.cell? ⟨b, off + k * 5 + 3, none⟩ = some (.int .i64 till) ∧ w'.cell? ⟨b, off + k * 5 + 4, none⟩ = some (.slice va ln vc)) ∧ (w'.cell? ⟨b, off + (k + 1) * 5, none⟩ = some (.slice kb kl2 kd) ∧ w'.cell? ⟨b, off + (k + 1) * 5 + 1, none⟩ = some (.int .i64 seq2) ∧ w'.cell? ⟨b, off + (k + 1) * 5 + 2, none⟩ = some (.bool gone2) ∧ w'.cell? ⟨b, off + (k + 1) * 5 + 3, none⟩ = some (.int .i64 till2) ∧ w'.cell? ⟨b, off + (k + 1) * 5 + 4, none⟩ = some (.slice vb ln2 vd))) (first | exact ⟨⟨d0, d1, d2, d3, d4⟩, ⟨e0, e1, e2, e3, e4⟩⟩ | exact ⟨⟨cell_later hb5 d0, cell_later hb5 d1, cell_later hb5 d2, cell_later hb5 d3, cell_later hb5 d4⟩, ⟨cell_later hb5 e0, cell_later hb5 e1, cell_later hb5 e2, cell_later hb5 e3, cell_later hb5 e4⟩⟩) (first | (go_at_call 31; refine hA.mono ?_; rintro e w5 ⟨rfl, hb5⟩))
      by_cases hc : c < 0
      · have hge : decide (c ≥ 0) = false := by simp; omega
        have hge2 : decide (0 ≤ c) = false := by simp; omega
        go_wp2_with fail
        go_roundg GK
        case measure => exact HG.out.1
        case rel => exact ⟨k + 1, .inl HG.out.2, by go_num, HKB.out _ hb5, HP.out hc⟩
      · have hge : decide (c ≥ 0) = true := by simp; omega
        have hge2 : decide (0 ≤ c) = true := by simp; omega
        go_wp2_with fail
        exact bodyPost_ret (v := .bool false) (by simp [results, Try.results13, go_sem]) rfl ⟨by rw [HN.out hc], HKB.out _ hb5⟩
    · have hkl' : (len : Int) ≤ (k : Int) + 1 := by omega
      have HT : Hid (ordB l = true) := ordB_chain fun j hj => HC.out j hj (by omega)
      clear hk hkl
      go_wp2_with fail
      exact bodyPost_ret (v := .bool true) (by simp [results, Try.results13, go_sem]) rfl ⟨by rw [HT.out], HK.out⟩
end Go.Proofs.Ytifgojkmdicdmaa
