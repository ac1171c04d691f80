/- The document's own Block: what it refuses. -/
import Derived.Test.YtifgojkmdicdmaaMord2
import Derived.Test.YtifgojkmdicdmaaBput
namespace Go.Proofs.Ytifgojkmdicdmaa
open Go.RowKit
set_option linter.unusedVariables false
set_option linter.unusedSimpArgs false

set_option maxHeartbeats 4000000 in
set_option maxRecDepth 100000 in
theorem rblk_many {w : World} {ao : Option Addr} {len cap : Nat} (h : len = 0 ∨ 400 < len) (hl : len ≤ 2 ^ 61) :
    Calls Try.prog 11 #[.slice ao len cap] w fun e w' => e = .returned (.tuple #[.slice none 0 0, .int .i64 13]) ∧ Below w.heap.size w w' := by
  rcases h with h | h
  · subst h
    go_enter Try.func11, Try.ntmps11
    go_wp2_with fail
    exact bodyPost_ret (v := .tuple #[.slice none 0 0, .int .i64 13]) (by simp [results, Try.results11, go_sem]) rfl ⟨rfl, Below.refl _ _⟩
  · have h0 : ¬ ((len : Int) = 0) := by omega
    have h1 : (400 : Int) < (len : Int) := by omega
    go_enter Try.func11, Try.ntmps11
    go_wp2_with fail
    exact bodyPost_ret (v := .tuple #[.slice none 0 0, .int .i64 13]) (by simp [results, Try.results11, go_sem]) rfl ⟨rfl, Below.refl _ _⟩
theorem all_takeM {l : List EntV} {k : Nat} (h : ∀ j (hj : j < l.length), j < k → mayE l[j] = true) (hk : l.length ≤ k) : l.all mayE = true := by
  rw [List.all_eq_true]
  intro x hx
  obtain ⟨j, hj, rfl⟩ := List.getElem_of_mem hx
  exact h j hj (by omega)
set_option maxHeartbeats 4000000 in
set_option maxRecDepth 100000 in
theorem rblk_bad {w : World} {ao : Option Addr} {len cap : Nat} {l : List EntV} (h : RS entE w ao len cap l) (h1 : 1 ≤ len) (h4 : len ≤ 400) (hm : l.all mayE = false ∨ ordB l = false) {c : Int} (hc : c = if l.all mayE = false then 1 else 11) :
    Calls Try.prog 11 #[.slice ao len cap] w fun e w' => e = .returned (.tuple #[.slice none 0 0, .int .i64 c]) ∧ Below w.heap.size w w' := by
  have hl0 : ¬ ((len : Int) = 0) := by omega
  have hl4 : ¬ ((400 : Int) < (len : Int)) := by omega
  have hl62 : len ≤ 2 ^ 61 := by omega
  have hln : l.length = len := h.len.1
  have HS : Hid (RS entE w ao len cap l ∧ (l.all mayE = false ∨ ordB l = false) ∧ len ≤ 1000000) := ⟨h, hm, by omega⟩
  have HC := hid hc
  clear h hm h1 h4 hc
  go_enter Try.func11, Try.ntmps11
  go_wp2_with fail
  go_loopg [5, 21] len (fun g _ i wr => ∃ k : Nat, k + g = len ∧ i = .int .i64 (k : Int) ∧ Hid ((∀ j (hj : j < l.length), j < k → mayE l[j] = true) ∧ Below w.heap.size w wr))
  case atStart => exact ⟨0, by omega, rfl, fun j _ h => absurd h (by omega), Below.refl _ _⟩
  case round =>
    obtain ⟨k, hk, rfl, HK⟩ := hrel
    by_cases hkl : k < len
    · have hkl' : (k : Int) < (len : Int) := by omega
      have hkx : k < l.length := by omega
      have bel := HK.out.2
      obtain ⟨b, off, ka, kc, va, vc, rfl, d0, d1, d2, d3, d4, sk, sv, i1, i2⟩ := RS.ent (HS.out.1.later bel) (List.getElem?_eq_getElem hkx)
      have HN : Hid (mayE l[k] = false → l.all mayE = false) := fun q => List.all_eq_false.2 ⟨l[k], List.getElem_mem hkx, by rw [q]; decide⟩
      have HP : Hid (mayE l[k] = true → ∀ j (hj : j < l.length), j < k + 1 → mayE l[j] = true) := fun q j hj hjk => if e : j = k then by subst e; exact q else HK.out.1 j hj (by omega)
      generalize l[k] = o at d0 d1 d2 d3 d4 HN HP
      have hk62 : k ≤ 2 ^ 61 := by omega
      obtain ⟨GK, HG⟩ : ∃ g, Hid (g < gk ∧ k + 1 + g = len) := ⟨gk - 1, by omega, by omega⟩
      obtain ⟨W1, hW1⟩ : ∃ W1, W1 = wr.alloc (.cells #[.slice ka o.key.length kc, .int .i64 o.seq, .bool o.gone, .int .i64 o.till, .slice va o.val.length vc] 35) := ⟨_, rfl⟩
      have b1 : Below wr.heap.size wr W1 := by rw [hW1]; exact (Below.refl _ _).alloc (Nat.le_refl _) _
      have hbx : ∀ wx, Below W1.heap.size W1 wx → _ := fun wx hb => box_cells wr (.slice ka o.key.length kc) (.int .i64 o.seq) (.bool o.gone) (.int .i64 o.till) (.slice va o.val.length vc) 35 (wx := wx) (by rw [← hW1]; exact hb)
      have HBX := hid hbx
      have HBw : Hid (∀ wx, Below W1.heap.size W1 wx → Below w.heap.size w wx) := fun wx hb => bel.trans ((b1.trans (hb.mono b1.size)).mono bel.size)
      have HM1 : Hid (∀ wx, Calls Try.prog 26 #[entA ka kc va vc o] wx fun r w' => r = .returned (.bool (mayE o)) ∧ Below wx.heap.size wx w') := fun wx => rmayE_any
      have HW1 := hid hW1
      unfold entA at HM1
      clear sk sv i1 i2 hbx hW1 hk bel b1
      go_upto_region 6 with fail
      rw [← HW1.out]
      obtain ⟨y0, y1, y2, y3, y4⟩ := HBX.out _ (Below.refl _ _)
      clear d0 d1 d2 d3 d4
      cases hmo : mayE o with
      | true =>
        rw [hmo] at HM1
        go_wp2_with (go_at_call 26; refine (HM1.out _).mono ?_; rintro e w2 ⟨rfl, b2⟩)
        go_roundg GK
        case measure => exact HG.out.1
        case rel => exact ⟨k + 1, HG.out.2, by go_num, HP.out hmo, HBw.out _ b2⟩
      | false =>
        rw [hmo] at HM1
        go_wp2_with (go_at_call 26; refine (HM1.out _).mono ?_; rintro e w2 ⟨rfl, b2⟩)
        exact bodyPost_ret (v := .tuple #[.slice none 0 0, .int .i64 1]) (by simp [results, Try.results11, go_sem]) rfl ⟨by rw [HC.out, if_pos (HN.out hmo)], HBw.out _ b2⟩
    · have hkl' : (len : Int) ≤ (k : Int) := by omega
      have hall : l.all mayE = true := all_takeM HK.out.1 (by omega)
      have ho : ordB l = false := HS.out.2.1.resolve_left (by rw [hall]; decide)
      have hO := rord_any (HS.out.1.later HK.out.2) HS.out.2.2
      rw [ho] at hO
      have HA := hid hall
      clear hk hkl hall ho
      go_wp2_with (go_at_call 13; refine hO.mono ?_; rintro e w2 ⟨rfl, b2⟩)
      exact bodyPost_ret (v := .tuple #[.slice none 0 0, .int .i64 11]) (by simp [results, Try.results11, go_sem]) rfl ⟨by rw [HC.out, HA.out]; rfl, HK.out.2.trans (b2.mono HK.out.2.size)⟩
end Go.Proofs.Ytifgojkmdicdmaa
