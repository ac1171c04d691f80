/- The landed block: which entries may not be; numbers of four bytes; what two keys share. -/
import Derived.Test.YtifgojkmdicdmaaNsml
import Derived.Test.YtifgojkmdicdmaaLk1
import Derived.Test.YtifgojkmdicdmaaBlk4
import Derived.Test.YtifgojkmdicdmaaLbenc
import Derived.BigQuiet
import Derived.Shelf.Abstract
namespace Go.Proofs.Ytifgojkmdicdmaa
open Go.RowKit
set_option linter.unusedVariables false
set_option linter.unusedSimpArgs false

set_option maxHeartbeats 2000000 in
set_option maxRecDepth 100000 in
theorem mayN_k {w : World} {ka va : Option Addr} {kc vc : Nat} {e : EntV} : Calls Try.prog 22 #[entA ka kc va vc e] w fun r w' => r = .returned (.bool (!mayE e)) ∧ Below w.heap.size w w' := by
  have HM : Hid (∀ wx, Calls Try.prog 43 #[entA ka kc va vc e] wx fun r w' => r = .returned (.bool (mayE e)) ∧ Below wx.heap.size wx w') := fun wx => may_m
  unfold entA at HM ⊢
  generalize mayE e = m at HM ⊢
  generalize e.key.length = kl at HM ⊢
  generalize e.val.length = vl at HM ⊢
  generalize e.seq = sq at HM ⊢
  generalize e.gone = gn at HM ⊢
  generalize e.till = tl at HM ⊢
  have HB : Hid (Below w.heap.size w (w.alloc (.cells #[.slice ka kl kc, .int .i64 sq, .bool gn, .int .i64 tl, .slice va vl vc] 35))) := (Below.refl _ _).alloc (Nat.le_refl _) _
  go_enter Try.func22, Try.ntmps22
  go_wp2_with (go_at_call 43; refine (HM.out _).mono ?_; rintro e w' ⟨rfl, hb⟩)
  exact bodyPost_ret (v := .bool (!m)) (by simp [results, Try.results22, go_sem]) rfl ⟨rfl, HB.out.trans (hb.mono HB.out.size)⟩

set_option maxHeartbeats 4000000 in
set_option maxRecDepth 100000 in
theorem ixf_k {w : World} {ao : Option Addr} {len cap : Nat} {l : List EntV} (h : RS entE w ao len cap l) (hl : len ≤ 1000000) :
    Calls Try.prog 42 #[.slice ao len cap, .func (.func 22) #[] #[]] w fun r w' => (∃ i : Int, r = .returned (.int .i64 i) ∧ (0 ≤ i ↔ l.all mayE = false)) ∧ Below w.heap.size w w' := by
  have HS : Hid (RS entE w ao len cap l ∧ True ∧ len ≤ 1000000) := ⟨h, trivial, hl⟩
  have hln : l.length = len := h.len.1
  have hl62 : len ≤ 2 ^ 61 := by omega
  clear h hl
  go_enter Try.func42, Try.ntmps42
  go_wp2_with fail
  go_loopg [5, 8] len (fun g _ i wr => ∃ k : Nat, k + g = len ∧ i = .int .i64 (k : Int) ∧ Hid ((∀ j (hj : j < l.length), j < k → mayE l[j] = true) ∧ Below w.heap.size w wr))
  case atStart => exact ⟨0, by omega, rfl, fun j _ h => absurd h (by omega), Below.refl _ _⟩
  case round =>
    obtain ⟨k, hk, rfl, HK⟩ := hrel
    by_cases hkl : k < len
    · have hkl' : (k : Int) < (len : Int) := by omega
      have hkx : k < l.length := by omega
      have bel := HK.out.2
      obtain ⟨b, off, ka, kc, va, vc, rfl, d0, d1, d2, d3, d4, sk, sv, i1, i2⟩ := RS.ent (HS.out.1.later bel) (List.getElem?_eq_getElem hkx)
      have HN : Hid (mayE l[k] = false → l.all mayE = false) := fun q => List.all_eq_false.2 ⟨l[k], List.getElem_mem hkx, by rw [q]; decide⟩
      have HP : Hid (mayE l[k] = true → ∀ j (hj : j < l.length), j < k + 1 → mayE l[j] = true) := fun q j hj hjk => if e : j = k then by subst e; exact q else HK.out.1 j hj (by omega)
      generalize l[k] = o at d0 d1 d2 d3 d4 HN HP
      have hk62 : k ≤ 2 ^ 61 := by omega
      obtain ⟨GK, HG⟩ : ∃ g, Hid (g < gk ∧ k + 1 + g = len) := ⟨gk - 1, by omega, by omega⟩
      have HM1 : Hid (∀ wx, Calls Try.prog 22 #[entA ka kc va vc o] wx fun r w' => r = .returned (.bool (!mayE o)) ∧ Below wx.heap.size wx w') := fun wx => mayN_k
      have HBw : Hid (∀ wx, Below wr.heap.size wr wx → Below w.heap.size w wx) := fun wx hb => bel.trans (hb.mono bel.size)
      unfold entA at HM1
      clear sk sv i1 i2 hk bel
      cases hmo : mayE o with
      | true =>
        rw [hmo] at HM1
        go_wp2_with (go_at_call 22; refine (HM1.out _).mono ?_; rintro e w2 ⟨rfl, b2⟩)
        go_roundg GK
        case measure => exact HG.out.1
        case rel => exact ⟨k + 1, HG.out.2, by go_num, HP.out hmo, HBw.out _ b2⟩
      | false =>
        rw [hmo] at HM1
        go_wp2_with (go_at_call 22; refine (HM1.out _).mono ?_; rintro e w2 ⟨rfl, b2⟩)
        exact bodyPost_ret (v := .int .i64 (k : Int)) (by simp [results, Try.results42, go_sem]) rfl ⟨⟨(k : Int), rfl, fun _ => HN.out hmo, fun _ => by omega⟩, HBw.out _ b2⟩
    · have hkl' : (len : Int) ≤ (k : Int) := by omega
      have HA : Hid (l.all mayE = true) := all_takeM HK.out.1 (by omega)
      have HB := hid HK.out.2
      clear hk hkl HK
      go_wp2_with fail
      exact bodyPost_ret (v := .int .i64 (-1)) (by simp [results, Try.results42, go_sem]) rfl ⟨⟨-1, rfl, fun q => absurd q (by decide), fun q => by rw [HA.out] at q; cases q⟩, HB.out⟩
set_option maxHeartbeats 1000000 in
set_option maxRecDepth 100000 in
theorem cnf_k {w : World} {ao : Option Addr} {len cap : Nat} {l : List EntV} (h : RS entE w ao len cap l) (hl : len ≤ 1000000) :
    Calls Try.prog 21 #[.slice ao len cap, .func (.func 22) #[] #[]] w fun r w' => r = .returned (.bool (!l.all mayE)) ∧ Below w.heap.size w w' := by
  have hx := ixf_k h hl
  generalize l.all mayE = A at hx ⊢
  clear h hl
  cases A with
  | true =>
    go_enter Try.func21, Try.ntmps21
    go_wp2_with fail
    refine hx.mono ?_
    rintro e w2 ⟨⟨i, rfl, hi⟩, b2⟩
    have hi' : ¬ (0 ≤ i) := fun q => by have := hi.1 q; cases this
    clear hi hx
    go_wp2_with fail
    exact bodyPost_ret (v := .bool false) (by simp [results, Try.results21, go_sem]; omega) rfl ⟨rfl, b2⟩
  | false =>
    go_enter Try.func21, Try.ntmps21
    go_wp2_with fail
    refine hx.mono ?_
    rintro e w2 ⟨⟨i, rfl, hi⟩, b2⟩
    have hi' : 0 ≤ i := hi.2 (by first | exact trivial | rfl)
    clear hi hx
    go_wp2_with fail
    exact bodyPost_ret (v := .bool true) (by simp [results, Try.results21, go_sem]) rfl ⟨rfl, b2⟩

/-- A number of four bytes. -/
theorem fix_k {w : World} {n : Nat} (hn : n ≤ 2 ^ 61) : Calls Try.prog 23 #[.int .i64 (n : Int)] w fun e w' => ∃ a c, e = .returned (.slice a 4 c) ∧ Sl w' a 4 c (fx n 4) ∧ Below w.heap.size w w' := by
  have hf := fixed_any none 0 0 n (xof []) 4 w (fun k hk => by cases hk) (fun _ => ⟨rfl, rfl⟩) (by omega)
  rw [fxs4b] at hf
  have HO := hid (okb_fx n 4)
  go_enter Try.func23, Try.ntmps23
  go_wp2_with (go_at_call 44; refine hf.mono ?_; rintro e w' ⟨v, rfl, r1, b1⟩)
  have r2 : Row w.heap.size w' v (fx n 4) := r1
  obtain ⟨a, c, hv, hs⟩ := Sl.ofRow r2 HO.out
  rw [fx_length] at hv hs
  subst hv
  exact bodyPost_ret (v := .slice a 4 c) (by simp [results, Try.results23, go_sem]) rfl ⟨a, c, rfl, hs, b1⟩

set_option maxHeartbeats 4000000 in
set_option maxRecDepth 100000 in
theorem shd_k {w : World} {ao bo : Option Addr} {la ca lb cb : Nat} {xs ys : List Int} (ha : Sl w ao la ca xs) (hb : Sl w bo lb cb ys) (ha63 : la ≤ 2 ^ 61) :
    Calls Try.prog 45 #[.slice ao la ca, .slice bo lb cb] w fun e w' => e = .returned (.int .i64 ((shr xs ys : Nat) : Int)) ∧ Below w.heap.size w w' := by
  have HS : Hid (Sl w ao la ca xs ∧ Sl w bo lb cb ys) := ⟨ha, hb⟩
  have hla : xs.length = la := ha.1
  have hlb : ys.length = lb := hb.1
  have hle := shr_le xs ys
  obtain ⟨S, hS⟩ : ∃ S, S = shr xs ys := ⟨_, rfl⟩
  rw [← hS] at hle ⊢
  have HSS := hid hS
  clear ha hb hS
  go_enter Try.func45, Try.ntmps45
  go_wp2_with fail
  go_loopg [5] (S + 1) (fun g i wx => ∃ j : Nat, j + g = S + 1 ∧ j ≤ S ∧ i = .int .i64 (j : Int) ∧ Hid (Below w.heap.size w wx))
  case atStart => exact ⟨0, by omega, by omega, rfl, Below.refl _ _⟩
  case round =>
    obtain ⟨j, hj, hjS, rfl, HJB⟩ := hrel
    have hmr := shr_more xs ys j (by have := HSS.out; omega)
    have hj62 : j ≤ 2 ^ 62 := by omega
    have HEND : Hid (¬ j < S → j = S ∧ ∀ n, Below w.heap.size w (wr.drewN n)) := fun hn => ⟨by omega, fun n => below_drewN HJB.out n⟩
    rw [← HSS.out] at hmr
    by_cases hjk : j < la
    · have hjk' : decide ((j : Int) < (la : Int)) = true := by simpa using hjk
      by_cases hjp : j < lb
      · have hjp' : decide ((j : Int) < (lb : Int)) = true := by simpa using hjp
        obtain ⟨x1, kb, ko, rfl, x2⟩ := (HS.out.1.later HJB.out).2.2.2.2.2 j hjk
        obtain ⟨y1, pb, po, rfl, y2⟩ := (HS.out.2.later HJB.out).2.2.2.2.2 j hjp
        have hjk2 : j < xs.length := by omega
        have hjp2 : j < ys.length := by omega
        have hcx : ((xof xs j : Nat) : Int) = xs[j]'(hjk2) := (xof_at HS.out.1.2.1 hjk2).symm
        have hcy : ((xof ys j : Nat) : Int) = ys[j]'(hjp2) := (xof_at HS.out.2.2.1 hjp2).symm
        have HQ : Hid (j < S ↔ xof xs j = xof ys j) := by
          refine ⟨fun h => ?_, fun h => hmr.2 ⟨hjk2, hjp2, by rw [← hcx, ← hcy, h]⟩⟩
          obtain ⟨_, _, e⟩ := hmr.1 h
          have : ((xof xs j : Nat) : Int) = (xof ys j : Nat) := by rw [hcx, hcy]; exact e
          omega
        generalize xof xs j = X at x1 x2 HQ
        generalize xof ys j = Y at y1 y2 HQ
        clear hmr hcx hcy hjp2 hjk2
        have hjk3 : (j : Int) < (la : Int) := by omega
        have hjp3 : (j : Int) < (lb : Int) := by omega
        by_cases hXY : X = Y
        · subst hXY
          have hlS : j < S := HQ.out.2 rfl
          obtain ⟨GJ, HGJ⟩ : ∃ g, Hid (g < gk ∧ j + 1 + g = S + 1 ∧ j + 1 ≤ S) := ⟨gk - 1, by omega, by omega, by omega⟩
          clear hj
          go_wp2_with fail
          go_quiet (fail)
          go_wp2_with fail
          go_roundg GJ
          case measure => exact HGJ.out.1
          case rel => exact ⟨j + 1, HGJ.out.2.1, HGJ.out.2.2, by go_num, below_drewN HJB.out _⟩
        · have hlS : ¬ j < S := fun h => hXY (HQ.out.1 h)
          have hXY' : ((X : Int) == (Y : Int)) = false := by simp; omega
          obtain ⟨hjs, HT⟩ := HEND.out hlS
          have HJ := hid hjs
          clear hj hjs hlS
          go_wp2_with fail
          go_quiet (fail)
          go_wp2_with fail
          exact bodyPost_ret (v := .int .i64 (j : Int)) (by simp [results, Try.results45, go_sem]) rfl ⟨by rw [HJ.out], HT _⟩
      · have hjp' : decide ((j : Int) < (lb : Int)) = false := by simpa using hjp
        have hlS : ¬ j < S := fun h => by obtain ⟨_, h2, _⟩ := hmr.1 h; omega
        obtain ⟨hjs, HT⟩ := HEND.out hlS
        have HJ := hid hjs
        clear hj hjs hlS hmr
        go_wp2_with fail
        go_quiet (fail)
        go_wp2_with fail
        exact bodyPost_ret (v := .int .i64 (j : Int)) (by simp [results, Try.results45, go_sem]) rfl ⟨by rw [HJ.out], HT _⟩
    · have hjk' : decide ((j : Int) < (la : Int)) = false := by simpa using hjk
      have hlS : ¬ j < S := fun h => by obtain ⟨h1, _⟩ := hmr.1 h; omega
      obtain ⟨hjs, HT⟩ := HEND.out hlS
      have HJ := hid hjs
      clear hj hjs hlS hmr
      go_wp2_with fail
      go_quiet (fail)
      go_wp2_with fail
      exact bodyPost_ret (v := .int .i64 (j : Int)) (by simp [results, Try.results45, go_sem]) rfl ⟨by rw [HJ.out], HT _⟩
end Go.Proofs.Ytifgojkmdicdmaa
