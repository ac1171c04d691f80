import Derived.Test.YtimpaindbbjieaaPk12
import Derived.Test.YtimpaindbbjieaaPk17
/- The document's own Ordered, of rows in order. -/
namespace Go.Proofs.Ytimpaindbbjieaa
open Go.RowKit
set_option linter.unusedVariables false
set_option linter.unusedSimpArgs false

set_option maxHeartbeats 4000000 in
set_option maxRecDepth 100000 in
theorem rordE_any {w : World} {ao : Option Addr} {len cap : Nat} {l : List EntV} (h : RS entE w ao len cap l) (hl : len ≤ 1000000) (ho : ordE l) :
    Calls Try.prog 36 #[.slice ao len cap] w fun r w' => r = .returned (.bool true) ∧ Below w.heap.size w w' := by
  have HS : Hid (RS entE w ao len cap l ∧ ordE l ∧ len ≤ 1000000) := ⟨h, ho, hl⟩
  have hln : l.length = len := h.len.1
  have hl62 : len ≤ 2 ^ 61 := by omega
  clear h hl ho
  go_enter Try.func36, Try.ntmps36
  go_wp2_with fail
  go_loopg [3] len (fun g i wr => ∃ k : Nat, (k + g = len ∨ (k = 0 ∧ g = len)) ∧ i = .int .i64 ((k + 1 : Nat) : Int) ∧ Hid (Below w.heap.size w wr))
  case atStart => exact ⟨0, .inr ⟨rfl, rfl⟩, rfl, Below.refl _ _⟩
  case round =>
    obtain ⟨k, hk, rfl, HK⟩ := hrel
    by_cases hkl : k + 1 < len
    · have hkl' : (k : Int) + 1 < (len : Int) := by omega
      have hdl : decide ((k : Int) + 1 < (len : Int)) = true := by simpa using hkl'
      have hx1 : k < l.length := by omega
      have hx2 : k + 1 < l.length := by omega
      obtain ⟨b, off, ka, kc, va, vc, hab, d0, d1, d2, d3, d4, s1, s2, i1, i2⟩ := RS.ent (HS.out.1.later HK.out) (List.getElem?_eq_getElem hx1)
      obtain ⟨b', off', kb, kd, vb, vd, hab', e0, e1, e2, e3, e4, t1, t2, j1, j2⟩ := RS.ent (HS.out.1.later HK.out) (List.getElem?_eq_getElem hx2)
      rw [hab] at hab'
      simp only [Option.some.injEq, Addr.mk.injEq, and_true] at hab'
      obtain ⟨rfl, rfl⟩ := hab'
      subst hab
      have hah : ahead l[k] l[k + 1] < 0 := List.pairwise_iff_getElem.1 HS.out.2.1 _ _ hx1 hx2 (by omega)
      have hA := rahead_any (va := va) (vc := vc) (vb := vb) (vd := vd) (s1.drewN 1) (t1.drewN 1)
      unfold entA at hA
      generalize ahead l[k] l[k + 1] = c at hA hah
      generalize l[k] = o at d0 d1 d2 d3 d4 hA
      generalize l[k + 1] = o' at e0 e1 e2 e3 e4 hA
      generalize o.key.length = kl at d0 hA
      generalize o.val.length = ln at d4 hA
      generalize o.seq = seq at d1 hA
      generalize o.gone = gone at d2 hA
      generalize o.till = till at d3 hA
      generalize o'.key.length = kl2 at e0 hA
      generalize o'.val.length = ln2 at e4 hA
      generalize o'.seq = seq2 at e1 hA
      generalize o'.gone = gone2 at e2 hA
      generalize o'.till = till2 at e3 hA
      have hk62 : k ≤ 2 ^ 60 := by have := HS.out.2.2; omega
      have hwa : IntKind.i64.wrap ((k : Int) + 1 - 1) = (k : Int) := by rw [IntKind.wrap_i64]; omega
      have hwb : wrap64 ((k : Int) + 1 - 1) = (k : Int) := by unfold wrap64; omega
      have hwc : IntKind.i64.wrap (k : Int) = (k : Int) := by rw [IntKind.wrap_i64]; omega
      have hwd : wrap64 (k : Int) = (k : Int) := by unfold wrap64; omega
      have hkl0 : (k : Int) < (len : Int) := by omega
      have hkl3 : k < len := by omega
      have hge : decide (c ≥ 0) = false := by simp; omega
      have hge2 : decide (0 ≤ c) = false := by simp; omega
      obtain ⟨GK, HG⟩ : ∃ g, Hid (g < gk ∧ k + 1 + g = len) := ⟨len - (k + 1), by omega, by omega⟩
      have HKB : Hid (∀ wx, Below wr.drew.heap.size wr.drew wx → Below w.heap.size w wx) := fun wx hb => HK.out.drew.trans (hb.mono HK.out.drew.size)
      clear s1 s2 i1 i2 t1 t2 j1 j2 hk
      go_wp2_with fail
      go_region_held_law (fun w' => (w'.cell? ⟨b, off + k * 5, none⟩ = some (.slice ka kl kc) ∧ w'.cell? ⟨b, off + k * 5 + 1, none⟩ = some (.int .i64 seq) ∧ w'.cell? ⟨b, off + k * 5 + 2, none⟩ = some (.bool gone) ∧ w'.cell? ⟨b, off + k * 5 + 3, none⟩ = some (.int .i64 till) ∧ w'.cell? ⟨b, off + k * 5 + 4, none⟩ = some (.slice va ln vc)) ∧ (w'.cell? ⟨b, off + (k + 1) * 5, none⟩ = some (.slice kb kl2 kd) ∧ w'.cell? ⟨b, off + (k + 1) * 5 + 1, none⟩ = some (.int .i64 seq2) ∧ w'.cell? ⟨b, off + (k + 1) * 5 + 2, none⟩ = some (.bool gone2) ∧ w'.cell? ⟨b, off + (k + 1) * 5 + 3, none⟩ = some (.int .i64 till2) ∧ w'.cell? ⟨b, off + (k + 1) * 5 + 4, none⟩ = some (.slice vb ln2 vd))) (first | exact ⟨⟨d0, d1, d2, d3, d4⟩, ⟨e0, e1, e2, e3, e4⟩⟩ | exact ⟨⟨cell_later hb5 d0, cell_later hb5 d1, cell_later hb5 d2, cell_later hb5 d3, cell_later hb5 d4⟩, ⟨cell_later hb5 e0, cell_later hb5 e1, cell_later hb5 e2, cell_later hb5 e3, cell_later hb5 e4⟩⟩) (first | (go_at_call 69; refine hA.mono ?_; rintro e w5 ⟨rfl, hb5⟩))
      go_wp2_with fail
      go_roundg GK
      case measure => exact HG.out.1
      case rel => exact ⟨k + 1, .inl HG.out.2, by go_num, HKB.out _ hb5⟩
    · have hkl' : (len : Int) ≤ (k : Int) + 1 := by omega
      clear hk hkl
      go_wp2_with fail
      exact bodyPost_ret (v := .bool true) (by simp [results, Try.results36, go_sem]) rfl ⟨rfl, HK.out⟩
end Go.Proofs.Ytimpaindbbjieaa

/- The law's own filling of a mem, of any mem. -/
namespace Go.Proofs.Ytimpaindbbjieaa
open Go.RowKit
set_option linter.unusedVariables false
set_option linter.unusedSimpArgs false

theorem RowF.kept {α : Type} {E : El α} {B : Nat} {G F : Nat → Prop} {w w' : World} {v : Value} {xs : List α} (h : RowF E B G w v xs) (hk : Kept F w w') (h1 : ∀ g, v.ownBlock = some g → ¬ F g) (h2 : ∀ b, G b → ¬ F b) : RowF E B G w' v xs := by
  obtain ⟨us, hown, g2, g3, g4⟩ := h
  refine ⟨us, ⟨hown.1, ?_⟩, g2.keep fun u hu b hr => hk.block b (g2.lt u hu b hr) (h2 b (g4 u hu b hr)), g3, g4⟩
  rcases hown.2 with q | ⟨g, cap, cur, q1, q2, q3, q4⟩
  · exact .inl q
  · exact .inr ⟨g, cap, cur, q1, q2, by rw [hk.block g (Array.getElem?_eq_some_iff.1 q3).1 (h1 g (by rw [q1]; rfl))]; exact q3, q4⟩
/-- A mem and the document's own row, side by side. -/
def FillS (D : PM) (w : World) (p : Nat) (n : Nat) (wx : World) (v : Value) : Prop :=
  ∃ F L, D.R wx p L F ∧ ordE L ∧ okE L ∧ L.length ≤ n ∧ RowF entE w.heap.size (fun b => b < w.heap.size) wx v L ∧ (∀ g, v.ownBlock = some g → ¬ F g) ∧ (∀ k, F k → w.heap.size ≤ k) ∧ Below w.heap.size w wx

theorem FillS.later {D : PM} {w : World} {p n : Nat} {wx wy : World} {v : Value} (h : FillS D w p n wx v) (hb : Below wx.heap.size wx wy) : FillS D w p n wy v := by
  obtain ⟨F, L, a1, a2, a3, a4, a5, a6, a7, a8⟩ := h
  exact ⟨F, L, PM.later a1 hb, a2, a3, a4, a5.later hb, a6, a7, a8.trans (hb.mono a8.size)⟩
theorem addE_bad {l : List EntV} {e : EntV} (h : mayE e = false) : addE l e = (1, l) := by unfold addE; rw [if_pos h]
theorem addE_has {l : List EntV} {e : EntV} (h : mayE e = true) (h2 : hasE l e = true) : addE l e = (6, l) := by unfold addE; rw [if_neg (by rw [h]; decide), if_pos h2]
theorem addE_put {l : List EntV} {e : EntV} (h : mayE e = true) (h2 : hasE l e = false) : addE l e = (0, putE l e) := by unfold addE; rw [if_neg (by rw [h]; decide), if_neg (by rw [h2]; decide)]

end Go.Proofs.Ytimpaindbbjieaa

/- The laws on a mem beside the document's own row, of any mem. -/
namespace Go.Proofs.Ytimpaindbbjieaa
open Go.RowKit
set_option linter.unusedVariables false
set_option linter.unusedSimpArgs false

theorem wts_take {l : List EntV} {k : Nat} (h : k < l.length) : wts (l.take (k + 1)) = wts (l.take k) + wtE l[k] := by
  rw [List.take_add_one, List.getElem?_eq_getElem h, wts_app]
  simp [wts]
theorem wts_le : ∀ {l : List EntV}, okE l → wts l ≤ 3000 * l.length
  | [], _ => Nat.le_refl _
  | e :: r, h => by
    have h1 := wts_le (l := r) fun x hx => h x (List.mem_cons_of_mem _ hx)
    have h2 := h e (List.mem_cons_self ..)
    unfold mayE at h2
    simp at h2
    rw [wts, List.length_cons]
    unfold wtE
    omega
theorem ok_take {l : List EntV} (h : okE l) (k : Nat) : okE (l.take k) := fun e he => h e (List.mem_of_mem_take he)
theorem mayE_len {e : EntV} (h : mayE e = true) : e.key.length ≤ 512 ∧ e.val.length ≤ 2048 := by
  unfold mayE at h
  simp at h
  omega

end Go.Proofs.Ytimpaindbbjieaa
