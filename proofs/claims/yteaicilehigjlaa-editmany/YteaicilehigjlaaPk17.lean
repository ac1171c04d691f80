import Derived.Deep.RegionHeldLaw
import Derived.SizedLaws
import Derived.ChangeSlices
import Derived.Carry
import Derived.Test.YteaicilehigjlaaPk01
import Derived.Test.YteaicilehigjlaaPk11
import Derived.Test.YteaicilehigjlaaPk13
import Derived.Test.YteaicilehigjlaaPk14
import Derived.Test.YteaicilehigjlaaPk15
import Derived.Test.YteaicilehigjlaaPk16
/- What the laws on edits lean on: an edit that every program knows; what is light; the law on a line. -/
namespace Go.Proofs.Yteaicilehigjlaa
open Go.RowKit
set_option linter.unusedVariables false
set_option linter.unusedSimpArgs false

theorem uv_small14 {n : Nat} (h : n < 128) : uv n = [(n : Int)] := uv_lt h
theorem may_aw : mayEd ⟨3, 4, 9, [], [2]⟩ = true := by decide
theorem en_aw : enEdV ⟨3, 4, 9, [], [2]⟩ = [3, 4, 9, 0, 1, 2] := by
  unfold enEdV
  rw [if_pos may_aw]
  simp [enEd, enLns, enNs, uv_small14]
theorem er_aw : edErr ⟨3, 4, 9, [], [2]⟩ = 0 := by unfold edErr; rw [if_pos may_aw]
theorem okb_aw : Okb [3, 4, 9, 0, 1, 2] := by rw [← en_aw]; unfold enEdV; rw [if_pos may_aw]; exact okb_enEd (fun t ht => by cases ht)
theorem okb_enEdV {e : EdV} (h : ∀ t ∈ e.add, OkL t) : Okb (enEdV e) := by
  unfold enEdV
  split
  · exact okb_enEd h
  · exact fun x hx => by cases hx
set_option maxHeartbeats 1000000 in
set_option maxRecDepth 100000 in
theorem awake14_any (w : World) : Calls Try.prog 10 #[] w fun e w' => e = .returned (.bool true) ∧ Below w.heap.size w w' := by
  have hb1 : Below w.heap.size w (w.alloc (.cells #[.int .i64 2] 2)) := (Below.refl _ _).alloc (Nat.le_refl _) _
  have hone := rs_one (E := i64E) (w := w) (vs := [.int .i64 2]) (x := 2) ⟨rfl, by constructor <;> decide⟩
  have hM : EdM (w.alloc (.cells #[.int .i64 2] 2)) ⟨3, 4, 9, [], [2]⟩ none 0 (some ⟨w.heap.size, 0, none⟩) 1 := ⟨⟨by decide, by decide⟩, ⟨by decide, by decide⟩, ⟨by decide, by decide⟩, RS.nil _, ⟨_, hone⟩⟩
  have hp := eenc_any hM
  rw [en_aw, er_aw] at hp
  have HB : Hid (Below w.heap.size w (w.alloc (.cells #[.int .i64 2] 2))) := hb1
  unfold edV at hp
  clear hb1 hone hM
  go_enter Try.func10, Try.ntmps10
  go_wp2_with (go_at_call 12; refine hp.mono ?_; rintro e w1 ⟨v1, rfl, hr1, hb1⟩; obtain ⟨a1, c1, rfl, hs1⟩ := Sl.ofRow hr1 okb_aw; have hst := str_l hs1; rw [show strOfNums [3, 4, 9, 0, 1, 2] = ⟨#[3, 4, 9, 0, 1, 2]⟩ from rfl, show ([3, 4, 9, 0, 1, 2] : List Int).length = 6 from rfl] at hst)
  exact bodyPost_ret (v := .bool true) (by simp [results, Try.results10, go_sem]) rfl ⟨rfl, HB.out.trans (hb1.mono HB.out.size)⟩

set_option maxHeartbeats 2000000 in
set_option maxRecDepth 100000 in
theorem light_any {w : World} {e : EdV} {aa ra : Option Addr} {ac rc : Nat} (h : EdM w e aa ac ra rc) :
    Calls Try.prog 11 #[edV e aa ac ra rc] w fun x w' => ∃ b, x = .returned (.bool b) ∧ Below w.heap.size w w' := by
  unfold edV
  obtain ⟨lg, nx, sq, ad, rm⟩ := e
  have hadd := h.add
  have hrem := h.rem
  simp only at hadd hrem ⊢
  obtain ⟨len, hlen⟩ : ∃ len, ad.length = len := ⟨_, rfl⟩
  obtain ⟨rl, hrl⟩ : ∃ rl, rm.length = rl := ⟨_, rfl⟩
  rw [hlen] at hadd ⊢
  rw [hrl] at hrem ⊢
  obtain ⟨W, hW⟩ : ∃ W, W = w.alloc (.cells #[.int .i64 lg, .int .i64 nx, .int .i64 sq, .slice aa len ac, .slice ra rl rc] 30) := ⟨_, rfl⟩
  have hWb : Below w.heap.size w W := by rw [hW]; exact (Below.refl _ w).alloc (Nat.le_refl _) _
  have hx : W.heap[w.heap.size]? = some (.cells #[.int .i64 lg, .int .i64 nx, .int .i64 sq, .slice aa len ac, .slice ra rl rc] 30 (0, 0)) := by rw [hW]; exact heap_alloc_new w _
  have x3 : W.cell? ⟨w.heap.size, 3, none⟩ = some (.slice aa len ac) := by rw [cell_of hx]; rfl
  have HR : Hid (∀ wx, Below W.heap.size W wx → wx.cell? ⟨w.heap.size, 4, none⟩ = some (.slice ra rl rc)) := fun wx hb => by rw [cell_of ((hb.block _ (Array.getElem?_eq_some_iff.1 hx).1).trans hx)]; rfl
  have hl := hadd.len
  have hl63 : len ≤ 2 ^ 63 - 1 := by have := hl.2; unfold maxLen at this; omega
  have hl2 := hrem.len
  have hr63 : rl ≤ 2 ^ 63 - 1 := by have := hl2.2; unfold maxLen at this; omega
  have HS : Hid (RS lnE W aa len ac ad) := hadd.later hWb
  have HB : Hid (Below w.heap.size w W ∧ W = w.alloc (.cells #[.int .i64 lg, .int .i64 nx, .int .i64 sq, .slice aa len ac, .slice ra rl rc] 30)) := ⟨hWb, hW⟩
  clear h hadd hrem hl hl2 hWb hW hx hrl
  go_enter Try.func11, Try.ntmps11
  go_upto_region 1 with fail
  rw [← HB.out.2]
  go_wp2_with fail
  go_loopg [3, 4, 8] len (fun g _ _ i wr => ∃ k : Nat, k + g = len ∧ i = .int .i64 (k : Int) ∧ Hid (Below W.heap.size W wr))
  case atStart => exact ⟨0, by omega, rfl, Below.refl _ _⟩
  case round =>
    obtain ⟨k, hk, rfl, HK⟩ := hrel
    by_cases hkl : k < len
    · have hkl' : (k : Int) < (len : Int) := by omega
      have hko : k < ad.length := by omega
      have hox := List.getElem?_eq_getElem hko
      obtain ⟨b, off, ka, kc, va, vc, rfl, d0, d1, d2, d3, d4, k1, k2, k3⟩ := RS.ln (HS.out.later HK.out) hox
      generalize ad[k] = o at d0 d1 d2 d3 d4 k1 k2 k3
      have hkey63 : o.least.length ≤ 2 ^ 63 - 1 := by have := k1.2.2.2; unfold maxLen at this; omega
      have hval63 : o.most.length ≤ 2 ^ 63 - 1 := by have := k2.2.2.2; unfold maxLen at this; omega
      obtain ⟨num, lvl, size, key, vl⟩ := o
      simp only at d0 d1 d2 d3 d4 hkey63 hval63
      have HW : Hid (Below W.heap.size W (wr.alloc (.cells #[.int .i64 num, .int .i64 lvl, .int .i64 size, .slice ka key.length kc, .slice va vl.length vc] 24))) := HK.out.alloc HK.out.size _
      have hk62 : k ≤ 2 ^ 63 - 2 := by omega
      obtain ⟨GK, HG⟩ : ∃ g, Hid (g < gk ∧ k + 1 + g = len) := ⟨gk - 1, by omega, by omega⟩
      generalize key.length = kl at d3 hkey63 HW
      generalize vl.length = ln at d4 hval63 HW
      clear k1 k2 k3 hk HK hox
      have HZ := HB.out.1.trans (HW.out.mono HB.out.1.size)
      have HZZ := hidE HZ
      clear HZ
      by_cases qA : (210 : Int) ≤ (k : Int)
      · go_wp2_with fail
        exact bodyPost_ret (v := .bool false) (by simp [results, Try.results11, go_sem]) rfl (by first | exact ⟨_, rfl, HZZ.out⟩ | exact ⟨.inr rfl, HZZ.out⟩ | exact HZZ.out | exact ⟨_, HZZ.out⟩ | exact ⟨.inl rfl, HZZ.out⟩)
      have qA' : (k : Int) < 210 := by omega
      by_cases qB : (600 : Int) < (kl : Int)
      · go_wp2_with fail
        exact bodyPost_ret (v := .bool false) (by simp [results, Try.results11, go_sem]) rfl (by first | exact ⟨_, rfl, HZZ.out⟩ | exact ⟨.inr rfl, HZZ.out⟩ | exact HZZ.out | exact ⟨_, HZZ.out⟩ | exact ⟨.inl rfl, HZZ.out⟩)
      have qB' : (kl : Int) ≤ 600 := by omega
      by_cases qC : (600 : Int) < (ln : Int)
      · go_wp2_with fail
        exact bodyPost_ret (v := .bool false) (by simp [results, Try.results11, go_sem]) rfl (by first | exact ⟨_, rfl, HZZ.out⟩ | exact ⟨.inr rfl, HZZ.out⟩ | exact HZZ.out | exact ⟨_, HZZ.out⟩ | exact ⟨.inl rfl, HZZ.out⟩)
      have qC' : (ln : Int) ≤ 600 := by omega
      go_wp2_with fail
      go_roundg GK
      case measure => exact HG.out.1
      case rel => exact ⟨k + 1, HG.out.2, by go_num, HW⟩
    · have hkl' : (len : Int) ≤ (k : Int) := by omega
      have HW : Hid (Below w.heap.size w wr) := HB.out.1.trans (HK.out.mono HB.out.1.size)
      have x4 := HR.out _ HK.out
      clear hk HK
      go_wp2_with fail
      exact bodyPost_ret (v := .bool (decide ((rl : Int) ≤ 300))) (by simp [results, Try.results11, go_sem]) rfl ⟨_, rfl, HW.out⟩

set_option maxHeartbeats 2000000 in
set_option maxRecDepth 100000 in
theorem lines_any {w : World} {la ma : Option Addr} {lc mc : Nat} {t : LnV} (hl : Sl w la t.least.length lc t.least) (hm : Sl w ma t.most.length mc t.most) :
    Calls Try.prog 3 #[.agg #[.int .i64 t.num, .int .i64 t.lvl, .int .i64 t.size, .slice la t.least.length lc, .slice ma t.most.length mc]] w fun e w' => e = .returned (.bool true) ∧ Below w.heap.size w w' := by
  obtain ⟨W, hW⟩ : ∃ W, W = w.alloc (.cells #[.int .i64 t.num, .int .i64 t.lvl, .int .i64 t.size, .slice la t.least.length lc, .slice ma t.most.length mc] 24) := ⟨_, rfl⟩
  have hWb : Below w.heap.size w W := by rw [hW]; exact (Below.refl _ w).alloc (Nat.le_refl _) _
  have hx : W.heap[w.heap.size]? = some (.cells #[.int .i64 t.num, .int .i64 t.lvl, .int .i64 t.size, .slice la t.least.length lc, .slice ma t.most.length mc] 24 (0, 0)) := by rw [hW]; exact heap_alloc_new w _
  obtain ⟨m, hm'⟩ : ∃ m, m = mayLn t := ⟨_, rfl⟩
  have H1 : Hid (∀ wx, Below W.heap.size W wx → Calls Try.prog 8 #[.agg #[.int .i64 t.num, .int .i64 t.lvl, .int .i64 t.size, .slice la t.least.length lc, .slice ma t.most.length mc]] wx fun e w' => e = .returned (.bool m) ∧ Below W.heap.size W w') := fun wx hb => (emtab_any ((hl.later hWb).later hb) ((hm.later hWb).later hb)).mono fun e w' ⟨he, hb'⟩ => ⟨by rw [he, hm'], hb.trans (hb'.mono hb.size)⟩
  have H2 : Hid (∀ wx, Below W.heap.size W wx → Calls Try.prog 9 #[.agg #[.int .i64 t.num, .int .i64 t.lvl, .int .i64 t.size, .slice la t.least.length lc, .slice ma t.most.length mc]] wx fun e w' => e = .returned (.bool m) ∧ Below W.heap.size W w') := fun wx hb => (rmtab_any ((hl.later hWb).later hb) ((hm.later hWb).later hb)).mono fun e w' ⟨he, hb'⟩ => ⟨by rw [he, hm'], hb.trans (hb'.mono hb.size)⟩
  have H3 : Hid (∀ wx, Below W.heap.size W wx → Calls Try.prog 10 #[] wx fun e w' => e = .returned (.bool true) ∧ Below W.heap.size W w') := fun wx hb => (awake14_any wx).mono fun e w' ⟨he, hb'⟩ => ⟨he, hb.trans (hb'.mono hb.size)⟩
  have HK : Hid (∀ wx, Below W.heap.size W wx → wx.cell? ⟨w.heap.size, 0, none⟩ = some (.int .i64 t.num) ∧ wx.cell? ⟨w.heap.size, 1, none⟩ = some (.int .i64 t.lvl) ∧ wx.cell? ⟨w.heap.size, 2, none⟩ = some (.int .i64 t.size) ∧ wx.cell? ⟨w.heap.size, 3, none⟩ = some (.slice la t.least.length lc) ∧ wx.cell? ⟨w.heap.size, 4, none⟩ = some (.slice ma t.most.length mc)) := fun wx hb => by
    have e := (hb.block _ (Array.getElem?_eq_some_iff.1 hx).1).trans hx
    exact ⟨by rw [cell_of e]; rfl, by rw [cell_of e]; rfl, by rw [cell_of e]; rfl, by rw [cell_of e]; rfl, by rw [cell_of e]; rfl⟩
  have hmm : (m == m) = true := by simp
  have HB : Hid (Below w.heap.size w W ∧ W = w.alloc (.cells #[.int .i64 t.num, .int .i64 t.lvl, .int .i64 t.size, .slice la t.least.length lc, .slice ma t.most.length mc] 24)) := ⟨hWb, hW⟩
  clear hl hm hWb hW hx hm'
  go_enter Try.func3, Try.ntmps3
  go_upto_region 1 with fail
  rw [← HB.out.2]
  go_region_held_law (fun w' => w'.cell? ⟨w.heap.size, 0, none⟩ = some (.int .i64 t.num) ∧ w'.cell? ⟨w.heap.size, 1, none⟩ = some (.int .i64 t.lvl) ∧ w'.cell? ⟨w.heap.size, 2, none⟩ = some (.int .i64 t.size) ∧ w'.cell? ⟨w.heap.size, 3, none⟩ = some (.slice la t.least.length lc) ∧ w'.cell? ⟨w.heap.size, 4, none⟩ = some (.slice ma t.most.length mc)) (first | exact HK.out _ b9 | exact HK.out _ b8 | exact HK.out _ b7 | exact HK.out _ (Below.refl _ _) | exact HK.out _ (Below.refl _ _).drew) (first | (go_at_call 10; refine (H3.out _ b8).mono ?_; rintro e w9 ⟨rfl, b9⟩) | (go_at_call 9; refine (H2.out _ b7).mono ?_; rintro e w8 ⟨rfl, b8⟩) | (go_at_call 8; refine (H1.out _ (Below.refl _ _).drew).mono ?_; rintro e w7 ⟨rfl, b7⟩))
  all_goals
    go_wp2_with fail
    exact bodyPost_ret (v := .bool true) (by simp [results, Try.results3, go_sem]) rfl ⟨rfl, HB.out.1.trans (b9.mono HB.out.1.size)⟩
end Go.Proofs.Yteaicilehigjlaa

/- The law that an edit comes back, whole or not at all. -/
namespace Go.Proofs.Yteaicilehigjlaa
open Go.RowKit
set_option linter.unusedVariables false
set_option linter.unusedSimpArgs false

theorem Sl.ofRowE {B : Nat} {w : World} {v : Value} {xs : List Int} (h : Row B w v xs) (hok : Okb xs) : ∃ ao n cap, v = .slice ao n cap ∧ Sl w ao n cap xs := by
  obtain ⟨a, c, e, hs⟩ := Sl.ofRow h hok
  exact ⟨a, _, c, e, hs⟩

set_option maxHeartbeats 4000000 in
set_option maxRecDepth 100000 in
theorem eback_any {w : World} {e : EdV} {aa ra mo : Option Addr} {ac rc ml mc : Nat} {cut : Int} {ms : List Int} (h : EdM w e aa ac ra rc) (hm : Sl w mo ml mc ms) (hml : ml ≤ 140737488351232) :
    Calls Try.prog 7 #[edV e aa ac ra rc, .int .i64 cut, .slice mo ml mc] w fun x w' => x = .returned (.bool true) ∧ Below w.heap.size w w' := by
  obtain ⟨lg, nx, sq, ad, rm⟩ := e
  obtain ⟨E, hE0⟩ : ∃ E : EdV, E = ⟨lg, nx, sq, ad, rm⟩ := ⟨_, rfl⟩
  obtain ⟨W, hW⟩ : ∃ W, W = w.alloc (.cells #[.int .i64 lg, .int .i64 nx, .int .i64 sq, .slice aa ad.length ac, .slice ra rm.length rc] 30) := ⟨_, rfl⟩
  have hWb : Below w.heap.size w W := by rw [hW]; exact (Below.refl _ w).alloc (Nat.le_refl _) _
  have hx : W.heap[w.heap.size]? = some (.cells #[.int .i64 lg, .int .i64 nx, .int .i64 sq, .slice aa ad.length ac, .slice ra rm.length rc] 30 (0, 0)) := by rw [hW]; exact heap_alloc_new w _
  have hH := light_any (h.later hWb)
  have HX : Hid (∀ wx, Below W.heap.size W wx → wx.cell? ⟨w.heap.size, 0, none⟩ = some (.int .i64 lg) ∧ wx.cell? ⟨w.heap.size, 1, none⟩ = some (.int .i64 nx) ∧ wx.cell? ⟨w.heap.size, 2, none⟩ = some (.int .i64 sq) ∧ wx.cell? ⟨w.heap.size, 3, none⟩ = some (.slice aa ad.length ac) ∧ wx.cell? ⟨w.heap.size, 4, none⟩ = some (.slice ra rm.length rc)) := fun wx hb => by
    have e := (hb.block _ (Array.getElem?_eq_some_iff.1 hx).1).trans hx
    exact ⟨by rw [cell_of e]; rfl, by rw [cell_of e]; rfl, by rw [cell_of e]; rfl, by rw [cell_of e]; rfl, by rw [cell_of e]; rfl⟩
  have HM : Hid (∀ wx, Below W.heap.size W wx → Calls Try.prog 14 #[edV ⟨lg, nx, sq, ad, rm⟩ aa ac ra rc] wx fun e w' => e = .returned (.bool (mayEd E)) ∧ Below W.heap.size W w') := fun wx hb => (emay_any ((h.later hWb).later hb)).mono fun e w' ⟨he, hb'⟩ => ⟨by rw [he, hE0], hb.trans (hb'.mono hb.size)⟩
  have hok := okb_enEdV (e := ⟨lg, nx, sq, ad, rm⟩) h.add.okl
  have HE : Hid (∀ wx, Below W.heap.size W wx → Calls Try.prog 12 #[edV ⟨lg, nx, sq, ad, rm⟩ aa ac ra rc] wx fun e w' => ∃ a c, e = .returned (.tuple #[.slice a (enEdV E).length c, .int .i64 (edErr E)]) ∧ Sl w' a (enEdV E).length c (enEdV E) ∧ Below W.heap.size W w') := fun wx hb => (eenc_any ((h.later hWb).later hb)).mono fun e w' ⟨v, he, hr, hb'⟩ => by
    rw [hE0]
    obtain ⟨a, c, hv, hsl⟩ := Sl.ofRow hr hok
    exact ⟨a, c, by rw [he, hv], hsl, hb.trans (hb'.mono hb.size)⟩
  have HA : Hid (∀ wx, Below W.heap.size W wx → Calls Try.prog 10 #[] wx fun e w' => e = .returned (.bool true) ∧ Below W.heap.size W w') := fun wx hb => (awake14_any wx).mono fun e w' ⟨he, hb'⟩ => ⟨he, hb.trans (hb'.mono hb.size)⟩
  have HF : Hid (∀ wx, Below W.heap.size W wx → Below w.heap.size w wx) := fun wx hb => hWb.trans (hb.mono hWb.size)
  have HW : Hid (W = w.alloc (.cells #[.int .i64 lg, .int .i64 nx, .int .i64 sq, .slice aa ad.length ac, .slice ra rm.length rc] 30)) := hW
  have HSB : Hid (∀ {wx : World} {a r : Option Addr} {c k : Nat}, EdM wx ⟨lg, nx, sq, ad, rm⟩ a c r k → Below W.heap.size W wx → Calls Try.prog 18 #[edV ⟨lg, nx, sq, ad, rm⟩ a c r k, edV ⟨lg, nx, sq, ad, rm⟩ aa ac ra rc] wx fun e w' => e = .returned (.bool true) ∧ Below wx.heap.size wx w') := fun {wx a r c k} hr hb => rsameD_eq hr ((h.later hWb).later hb)
  unfold edV at hH HM HE HSB ⊢
  simp only at hH HM HE HSB ⊢
  by_cases q : mayEd E = true
  · have her : edErr E = 0 := by unfold edErr; rw [if_pos q]
    rw [her] at HE
    rw [q] at HM
    have hev : enEdV E = enEd E := by unfold enEdV; rw [if_pos q]
    rw [hev] at HE
    have hoko : ∀ o ∈ E.add, OkL o := by rw [hE0]; exact h.add.okl
    have hokb := okb_enEd (e := E) hoko
    have hback := deEd_enEd (t := []) q hoko (fun x hx => by cases hx)
    rw [List.append_nil] at hback
    have hback1 := hback.1 rfl
    have hmore := deEd_enEd (t := ms) q hoko hm.2.1
    have hcutE := fun k => deEd_cut (k := k) q hoko
    have hlen0 : 0 < (enEd E).length := by unfold enEd; have := uv_pos E.log.toNat; simp; omega
    have hlenb : (enEd E).length ≤ 250000 := enEd_len q
    have hds0 : (deEd (enEd E ++ ms)).2 = 0 ↔ ms = [] := ⟨fun e => by
      rcases List.eq_nil_or_concat ms with q | ⟨_, _, q⟩
      · exact q
      · exact absurd e (hmore.2 (by rw [q]; simp)), fun e => by rw [hmore.1 e]⟩
    obtain ⟨X, hX⟩ : ∃ X, X = enEd E := ⟨_, rfl⟩
    rw [← hX] at HE hokb hback1 hcutE hlen0 hlenb hds0
    obtain ⟨L, hL⟩ : ∃ L, L = X.length := ⟨_, rfl⟩
    rw [← hL] at HE hcutE hlen0 hlenb
    have a1 : -(L : Int) < cut.tmod (L : Int) ∧ cut.tmod (L : Int) < (L : Int) := ⟨Int.lt_tmod_of_pos cut (by omega), Int.tmod_lt_of_pos cut (by omega)⟩
    obtain ⟨T, hT⟩ : ∃ T, cut.tmod (L : Int) = T := ⟨_, rfl⟩
    rw [hT] at a1
    obtain ⟨p, hp⟩ := Int.eq_ofNat_of_zero_le (show 0 ≤ (T + (L : Int)).tmod (L : Int) from Int.tmod_nonneg _ (by omega))
    have hpl : p < L := by have := Int.tmod_lt_of_pos (T + (L : Int)) (b := (L : Int)) (by omega); omega
    have hce := hcutE p hpl
    have hTL : wrap64 (T + (L : Int)) = T + (L : Int) := by unfold wrap64; omega
    rw [hW] at hH
    have HD1 : Hid (∀ {wx : World} {a : Option Addr} {c : Nat}, Sl wx a L c X → Calls Try.prog 16 #[.slice a L c] wx fun e w' => ∃ a' c' r' k', e = .returned (.tuple #[.agg #[.int .i64 lg, .int .i64 nx, .int .i64 sq, .slice a' ad.length c', .slice r' rm.length k'], .int .i64 0]) ∧ EdM w' ⟨lg, nx, sq, ad, rm⟩ a' c' r' k' ∧ Below wx.heap.size wx w') := fun {wx a c} hx => (edec_any hx (by omega)).mono fun e w' ⟨a', c', r', k', he, hr, hb⟩ => by
      rw [hback1, hE0] at he hr
      exact ⟨a', c', r', k', by rw [he]; rfl, hr, hb⟩
    have HD2 : Hid (∀ {wx : World} {a : Option Addr} {c : Nat}, Sl wx a p c (X.take p) → Calls Try.prog 16 #[.slice a p c] wx fun e w' => ∃ (l' n' s' : Int) (a' : Option Addr) (an c' : Nat) (r' : Option Addr) (rn k' : Nat) (er : Nat), e = .returned (.tuple #[.agg #[.int .i64 l', .int .i64 n', .int .i64 s', .slice a' an c', .slice r' rn k'], .int .i64 (er : Nat)]) ∧ ((er : Int) == 0) = false ∧ Below wx.heap.size wx w') := fun {wx a c} hx => (edec_any hx (by omega)).mono fun e w' ⟨a', c', r', k', he, hr, hb⟩ => ⟨_, _, _, a', _, c', r', _, k', (deEd (X.take p)).2, he, by simp; omega, hb⟩
    have HD3 : Hid (∀ {wx : World} {a : Option Addr} {n c : Nat}, Sl wx a n c (X ++ ms) → n ≤ 175921860444160 → Calls Try.prog 16 #[.slice a n c] wx fun e w' => ∃ (l' n' s' : Int) (a' : Option Addr) (an c' : Nat) (r' : Option Addr) (rn k' : Nat) (er : Nat), e = .returned (.tuple #[.agg #[.int .i64 l', .int .i64 n', .int .i64 s', .slice a' an c', .slice r' rn k'], .int .i64 (er : Nat)]) ∧ ((er : Int) == 0) = ((ml : Int) == 0) ∧ Below wx.heap.size wx w') := fun {wx a n c} hx hn => (edec_any hx hn).mono fun e w' ⟨a', c', r', k', he, hr, hb⟩ => ⟨_, _, _, a', _, c', r', _, k', (deEd (X ++ ms)).2, he, by
      have e1 : ms.length = ml := hm.1
      by_cases qq : ms = []
      · rw [hds0.2 qq]
        rw [qq] at e1
        have : ml = 0 := by simpa using e1.symm
        simp [this]
      · have h1 : (deEd (X ++ ms)).2 ≠ 0 := fun e => qq (hds0.1 e)
        have h2 : ml ≠ 0 := fun e => qq (List.eq_nil_of_length_eq_zero (by omega))
        have h3 : (((deEd (X ++ ms)).2 : Int) == 0) = false := by simp; omega
        have h4 : ((ml : Int) == 0) = false := by simp; omega
        rw [h3, h4], hb⟩
    have HMS : Hid (∀ {wx : World}, Below W.heap.size W wx → Sl wx mo ml mc ms) := fun {wx} hb => (hm.later hWb).later hb
    have hleq : ((L : Int) == 0) = false := by simp; omega
    have hL1 : ¬ (L : Int) = 0 := by omega
    have hL62 : L ≤ 2 ^ 62 := by omega
    have hml62 : ml ≤ 2 ^ 62 := by omega
    have hcc : ((ml : Int) == 0) = ((ml : Int) == 0) := rfl
    have HLL : Hid (L = X.length ∧ Okb X ∧ p < L ∧ L ≤ 250000 ∧ ml ≤ 140737488351232) := ⟨hL, hokb, hpl, hlenb, hml⟩
    clear h hm hml hWb hx hW q hev hoko hback hmore hcutE hokb hX hL hds0 hback1 hce hok her hE0 hlen0 hlenb a1 hpl
    go_enter Try.func7, Try.ntmps7
    go_upto_region 4 with (first | (go_at_call 11; refine hH.mono ?_; rintro e w1 ⟨b, rfl, b1⟩; rw [← HW.out] at b1; obtain ⟨y0, y1, y2, y3, y4⟩ := HX.out _ b1; cases b) | (go_at_call 14; refine (HM.out _ b1).mono ?_; rintro e w2 ⟨rfl, b2⟩; obtain ⟨z0, z1, z2, z3, z4⟩ := HX.out _ b2) | (go_at_call 12; refine (HE.out _ b2).mono ?_; rintro e w3 ⟨a3, c3, rfl, s3, b3⟩) | (go_at_call 10; refine (HA.out _ b1).mono ?_; rintro e w6 ⟨rfl, b6⟩))
    · exact bodyPost_ret (v := .bool true) (by simp [results, Try.results7, go_sem]) rfl ⟨rfl, HF.out _ b6⟩
    · have hd1 := HD1.out s3
      have HS3 : Hid (Sl w3 a3 L c3 X ∧ Below W.heap.size W w3) := ⟨s3, b3⟩
      clear hH HE HM b1 b2 s3 b3 y0 y1 y2 y3 y4 z0 z1 z2 z3 z4
      go_upto_region 5 with (go_at_call 16; refine hd1.mono ?_; rintro e w4 ⟨a4, c4, r4, k4, rfl, m4, b4⟩)
      have g4 : Below w4.heap.size w4 (w4.alloc (.cells #[.int .i64 lg, .int .i64 nx, .int .i64 sq, .slice a4 ad.length c4, .slice r4 rm.length k4] 30)) := (Below.refl _ _).alloc (Nat.le_refl _) _
      have b34 : Below w3.heap.size w3 (w4.alloc (.cells #[.int .i64 lg, .int .i64 nx, .int .i64 sq, .slice a4 ad.length c4, .slice r4 rm.length k4] 30)) := b4.trans (g4.mono b4.size)
      have bW4 : Below W.heap.size W (w4.alloc (.cells #[.int .i64 lg, .int .i64 nx, .int .i64 sq, .slice a4 ad.length c4, .slice r4 rm.length k4] 30)) := HS3.out.2.trans (b34.mono HS3.out.2.size)
      have hsb := HSB.out (m4.later g4) bW4
      obtain ⟨y0, y1, y2, y3, y4⟩ := HX.out _ bW4
      have zb := heap_alloc_new w4 (.cells #[.int .i64 lg, .int .i64 nx, .int .i64 sq, .slice a4 ad.length c4, .slice r4 rm.length k4] 30)
      obtain ⟨W4, hW4⟩ : ∃ W4, W4 = w4.alloc (.cells #[.int .i64 lg, .int .i64 nx, .int .i64 sq, .slice a4 ad.length c4, .slice r4 rm.length k4] 30) := ⟨_, rfl⟩
      rw [← hW4] at b34 bW4 hsb y0 y1 y2 y3 y4 zb ⊢
      have z0 : W4.cell? ⟨w4.heap.size, 0, none⟩ = some (.int .i64 lg) := by rw [cell_of zb]; rfl
      have z1 : W4.cell? ⟨w4.heap.size, 1, none⟩ = some (.int .i64 nx) := by rw [cell_of zb]; rfl
      have z2 : W4.cell? ⟨w4.heap.size, 2, none⟩ = some (.int .i64 sq) := by rw [cell_of zb]; rfl
      have z3 : W4.cell? ⟨w4.heap.size, 3, none⟩ = some (.slice a4 ad.length c4) := by rw [cell_of zb]; rfl
      have z4 : W4.cell? ⟨w4.heap.size, 4, none⟩ = some (.slice r4 rm.length k4) := by rw [cell_of zb]; rfl
      have HB4 : Hid (Below w3.heap.size w3 W4 ∧ Below W.heap.size W W4) := ⟨b34, bW4⟩
      clear hd1 m4 b4 g4 b34 bW4 hW4 zb
      go_upto_region 8 with (go_at_call 18; refine hsb.mono ?_; rintro e w5 ⟨rfl, b5⟩)
      have b35 : Below w3.heap.size w3 w5 := HB4.out.1.trans (b5.mono HB4.out.1.size)
      have s5 := HS3.out.1.later b35
      have hhd := fun wx => run_head22 wx a3 L c3 p (by have := HS3.out.1.2.2.2.1; have := HLL.out; omega)
      have hd2 := HD2.out (s5.head p (by have := HLL.out; omega))
      have HB5 : Hid (Below w3.heap.size w3 w5 ∧ Below W.heap.size W w5) := ⟨b35, HB4.out.2.trans (b5.mono HB4.out.2.size)⟩
      generalize cutA a3 c3 0 = a5 at hhd hd2
      clear hsb b5 b35 s5 y0 y1 y2 y3 y4 z0 z1 z2 z3 z4
      go_upto_region 11 with (go_at_call 16; refine hd2.mono ?_; rintro e w6 ⟨l6, n6, s6, a6, an6, c6, r6, rn6, k6, er6, rfl, hne6, b6⟩)
      have g6 : Below w6.heap.size w6 (w6.alloc (.cells #[.int .i64 l6, .int .i64 n6, .int .i64 s6, .slice a6 an6 c6, .slice r6 rn6 k6] 30)) := (Below.refl _ _).alloc (Nat.le_refl _) _
      have b56 : Below w5.heap.size w5 (w6.alloc (.cells #[.int .i64 l6, .int .i64 n6, .int .i64 s6, .slice a6 an6 c6, .slice r6 rn6 k6] 30)) := b6.trans (g6.mono b6.size)
      obtain ⟨W6, hW6⟩ : ∃ W6, W6 = w6.alloc (.cells #[.int .i64 l6, .int .i64 n6, .int .i64 s6, .slice a6 an6 c6, .slice r6 rn6 k6] 30) := ⟨_, rfl⟩
      rw [← hW6] at b56 ⊢
      have HB6 : Hid (Below w3.heap.size w3 W6 ∧ Below W.heap.size W W6) := ⟨HB5.out.1.trans (b56.mono HB5.out.1.size), HB5.out.2.trans (b56.mono HB5.out.2.size)⟩
      have hB1 : Below W6.heap.size W6 (W6.alloc (.cells #[] 5)) := (Below.refl _ _).alloc (Nat.le_refl _) _
      have HX6 : Hid (Sl (W6.alloc (.cells #[] 5)) a3 L c3 X ∧ Below W6.heap.size W6 (W6.alloc (.cells #[] 5))) := ⟨(HS3.out.1.later HB6.out.1).later hB1, hB1⟩
      have HM6 : Hid (∀ {wx : World}, Below W6.heap.size W6 wx → Sl wx mo ml mc ms) := fun {wx} hb => HMS.out (HB6.out.2.trans (hb.mono HB6.out.2.size))
      clear hd2 b6 g6 b56 hW6 hB1 hne6 hhd
      go_upto_region 12 with (first | (go_at_call 16; refine (HD3.out s9 HN9.out).mono ?_; rintro e w10 ⟨l10, m10, s10, a10, an10, c10, r10, rn10, k10, er10, rfl, heq10, b10⟩) | (at_builtin; (refine wpList_appW rfl _ _ rfl W6.heap.size v8 X (by simp [Act.eval]) R8.out.1 mo ml mc (xof ms) (by simp [Act.eval]) (HM6.out R8.out.2).2.2.1 (HM6.out R8.out.2).2.2.2.2.2 (by have := HLL.out; omega) R8.out.2.size ?_); (intro v9 w9 r9 g9 m9); (have R9 : Hid (Row W6.heap.size w9 v9 (X ++ ms) ∧ Below W6.heap.size W6 w9) := by (refine ⟨?_, R8.out.2.trans (grown_below R8.out.1 g9 R8.out.2.size)⟩; rw [← (HM6.out R8.out.2).1, bs_xof (HM6.out R8.out.2).2.1] at r9; exact r9)); (obtain ⟨a9, n9, c9, hv9, s9⟩ := Sl.ofRowE R9.out.1 (HLL.out.2.1.app (HM6.out R8.out.2).2.1)); subst hv9; have HN9 : Hid (n9 ≤ 175921860444160) := by (show _ ≤ _; have h1 := s9.1; rw [List.length_append, (HM6.out R8.out.2).1] at h1; have := HLL.out; omega)) | (at_builtin; refine wpList_app rfl _ _ rfl W6.heap.size _ [] (by simp [Act.eval]) (row_empty W6) a3 L c3 (xof X) (by simp [Act.eval]) HX6.out.1.2.2.1 HX6.out.1.2.2.2.2.2 (by have := HLL.out; simp; omega) HX6.out.2.size ?_; intro v8 w8 r8 g8 m8; have R8 : Hid (Row W6.heap.size w8 v8 X ∧ Below W6.heap.size W6 w8) := by (refine ⟨?_, HX6.out.2.trans (grown_below (row_empty W6) g8 HX6.out.2.size)⟩; rw [List.nil_append, HLL.out.1, bs_xof HLL.out.2.1] at r8; exact r8)))
      have g10 : Below w10.heap.size w10 (w10.alloc (.cells #[.int .i64 l10, .int .i64 m10, .int .i64 s10, .slice a10 an10 c10, .slice r10 rn10 k10] 30)) := (Below.refl _ _).alloc (Nat.le_refl _) _
      have b610 : Below W6.heap.size W6 (w10.alloc (.cells #[.int .i64 l10, .int .i64 m10, .int .i64 s10, .slice a10 an10 c10, .slice r10 rn10 k10] 30)) := (R9.out.2.trans (b10.mono R9.out.2.size)).trans (g10.mono (Nat.le_trans R9.out.2.size b10.size))
      have bW : Below W.heap.size W (w10.alloc (.cells #[.int .i64 l10, .int .i64 m10, .int .i64 s10, .slice a10 an10 c10, .slice r10 rn10 k10] 30)) := HB6.out.2.trans (b610.mono HB6.out.2.size)
      have ha := HA.out _ bW
      clear g10 b610 R9 R8 r8 g8 m8 r9 g9 m9 s9 b10
      have hbb : (((er10 : Int) == 0) == ((ml : Int) == 0)) = true := by rw [heq10]; simp
      go_wp2_with (go_at_call 10; refine ha.mono ?_; rintro e w12 ⟨rfl, b12⟩)
      all_goals exact bodyPost_ret (v := .bool true) (by simp [results, Try.results7, go_sem]) rfl ⟨rfl, HF.out _ b12⟩
  · have q' : mayEd E = false := by simpa using q
    rw [q'] at HM
    rw [hW] at hH
    clear h hm hml hWb hx hW q q' HE hE0 hok HSB
    go_enter Try.func7, Try.ntmps7
    go_wp2_with (first | (go_at_call 11; refine hH.mono ?_; rintro e w1 ⟨b, rfl, b1⟩; rw [← HW.out] at b1; obtain ⟨y0, y1, y2, y3, y4⟩ := HX.out _ b1; cases b) | (go_at_call 14; refine (HM.out _ b1).mono ?_; rintro e w2 ⟨rfl, b2⟩) | (go_at_call 10; refine (HA.out _ (by first | exact b2 | exact b1)).mono ?_; rintro e w6 ⟨rfl, b6⟩))
    all_goals exact bodyPost_ret (v := .bool true) (by simp [results, Try.results7, go_sem]) rfl ⟨rfl, HF.out _ b6⟩
end Go.Proofs.Yteaicilehigjlaa

/- How a slice of bytes that came in is opened. -/
namespace Go.Proofs.Yteaicilehigjlaa
open Go.ChangeShapes Go.WideShapes Go.ChangeAt Go.RowKit

theorem cells5 : Try.prog.cellsOf 5 = 1 := by kernel_rfl
theorem bytes5 : Try.prog.bytesOf 5 = 1 := by kernel_rfl

theorem wf_u8 {n : Int} (h : (Lit.int .u8 n).wf = true) : 0 ≤ n ∧ n < 256 := by
  simp [Lit.wf, IntKind.min, IntKind.max, IntKind.bits, IntKind.signed] at h
  omega
theorem wf_u64 {n : Int} (h : (Lit.int .u64 n).wf = true) : 0 ≤ n ∧ n < 18446744073709551616 := by
  simp [Lit.wf, IntKind.min, IntKind.max, IntKind.bits, IntKind.signed] at h
  omega
theorem wf_i64 {n : Int} (h : (Lit.int .i64 n).wf = true) : -9223372036854775808 ≤ n ∧ n ≤ 9223372036854775807 := by
  simp [Lit.wf, IntKind.min, IntKind.max, IntKind.bits, IntKind.signed] at h
  omega

set_option maxRecDepth 100000 in
theorem open22 {H : Type} {enc : TypeId × Value → H} {W : World} {base : Nat} {v : Value} {d : DataW H} {ps : List MemPlace} (hv : Value.okWide Try.prog W .any base 22 v) (h : DataW.Trod enc Try.prog W 0 (fun _ => true) true 22 v d ps) :
    ∃ (ao : Option Addr) (len cap : Nat) (X : Nat → Nat), v = .slice ao len cap ∧ (ao = none → len = 0 ∧ cap = 0) ∧ len ≤ cap ∧ cap ≤ maxLen ∧ Byt W ao len X ∧ (cap = 0 ∨ ∃ e s, d = .slice e s ∧ e.length + s.length = cap) := by
  obtain ⟨a, len, cap, rfl⟩ := okWide_slice Try.underlying22 hv
  obtain ⟨fuel, hf⟩ := h
  rcases open_ints Try.underlying22 Try.underlying5 cells5 hf with ⟨hcs, _⟩ | ⟨x, l, cp, zs, hcs, _, hl, hm, hz, hd, hc, hwf⟩
  · simp [Value.cells] at hcs
    obtain ⟨rfl, rfl, rfl⟩ := hcs
    exact ⟨none, 0, 0, fun _ => 0, rfl, fun _ => ⟨rfl, rfl⟩, Nat.le_refl _, Nat.zero_le _, fun k hk => absurd hk (by omega), .inl rfl⟩
  · simp [Value.cells] at hcs
    obtain ⟨rfl, rfl, rfl⟩ := hcs
    simp only [if_true] at hz
    refine ⟨some x, len, cap, fun k => (zs.getD k 0).toNat, rfl, (fun e => by cases e), hl, hm, fun k hk => ?_, .inr ⟨_, _, (Prod.mk.inj hd).1, ?_⟩⟩
    · have hk' : k < zs.length := by omega
      have w1 := hwf _ (List.getElem_mem hk')
      have e : zs.getD k 0 = zs[k] := by simp [List.getElem?_eq_getElem hk']
      have hr : 0 ≤ zs[k] ∧ zs[k] < 256 := by
        exact wf_u8 w1
      have hcell := hc k hk'
      obtain ⟨b, off, spot⟩ := x
      have hspot : spot = none := by
        have h0 := hc 0 (by omega)
        simpa [Addr.add] using World.cell?_spot h0
      subst hspot
      rw [Addr.add_lit, e] at hcell
      show (zs.getD k 0).toNat < 256 ∧ ∃ b' off', some (⟨b, off, none⟩ : Addr) = some ⟨b', off', none⟩ ∧ W.cell? ⟨b', off' + k, none⟩ = some (.int .u8 ((zs.getD k 0).toNat : Int))
      rw [e]
      refine ⟨by omega, b, off, rfl, ?_⟩
      rw [hcell]
      congr 2
      omega
    · simp [lits]
      omega
end Go.Proofs.Yteaicilehigjlaa
