/- The laws on blocks: the law's own sorted row. -/
import Derived.Test.YtifgojkmdicdmaaBklaw2
import Derived.Test.YtifgojkmdicdmaaMfill
namespace Go.Proofs.Ytifgojkmdicdmaa
open Go.RowKit
set_option linter.unusedVariables false
set_option linter.unusedSimpArgs false

/-- Entries in order that may be, at most so many. -/
def SrS (w : World) (n : Nat) (wx : World) (v : Value) (L : List EntV) : Prop :=
  RowF entE w.heap.size (fun b => b < w.heap.size) wx v L ∧ ordE L ∧ (∀ e ∈ L, mayE e = true) ∧ L.length ≤ n ∧ Below w.heap.size w wx
theorem SrS.later {w : World} {n : Nat} {wx wy : World} {v : Value} {L : List EntV} (h : SrS w n wx v L) (hb : Below wx.heap.size wx wy) : SrS w n wy v L :=
  ⟨h.1.later hb, h.2.1, h.2.2.1, h.2.2.2.1, h.2.2.2.2.trans (hb.mono h.2.2.2.2.size)⟩

set_option maxHeartbeats 2000000 in
set_option maxRecDepth 100000 in
theorem sorted11_any {w : World} {ao : Option Addr} {len cap : Nat} {l : List EntV} (h : RS entE w ao len cap l) :
    Calls Try.prog 17 #[.slice ao len cap] w fun r w' => ∃ v, r = .returned v ∧ ∃ L, SrS w 60 w' v L := by
  have HS : Hid (RSG entE (fun b => b < w.heap.size) w ao len cap l) := RSG.any h
  have hln : l.length = len := h.len.1
  have hl63 : len ≤ 2 ^ 63 - 1 := by have := h.len.2; unfold maxLen at this; omega
  have H0 : Hid (SrS w 60 w (.slice none 0 0) [] ∧ ([] : List EntV).length ≤ 0) := ⟨⟨RowF.nil _ _ _, ord_nil, (fun e he => by cases he), Nat.zero_le _, Below.refl _ _⟩, Nat.le_refl _⟩
  clear h
  go_enter Try.func17, Try.ntmps17
  go_wp2_with fail
  go_loopg [3, 4, 5, 8] len (fun g v _ _ i wr => ∃ (k : Nat) (L : List EntV), k + g = len ∧ i = .int .i64 (k : Int) ∧ Hid (SrS w 60 wr v L ∧ L.length ≤ k))
  case atStart => exact ⟨0, [], by omega, rfl, H0⟩
  case round =>
    obtain ⟨k, L, hk, rfl, HK⟩ := hrel
    by_cases hkl : k < len
    · have hkl' : (k : Int) < (len : Int) := by omega
      have hkx : k < l.length := by omega
      obtain ⟨row1, o1, m1, n1, bel⟩ := HK.out.1
      obtain ⟨b, off, ka, kc, va, vc, rfl, e0, e1, e2, e3, e4, hem, sk, heg⟩ := RSG.ent HS.out (List.getElem?_eq_getElem hkx)
      have d0 := cell_later bel e0
      have d1 := cell_later bel e1
      have d2 := cell_later bel e2
      have d3 := cell_later bel e3
      have d4 := cell_later bel e4
      clear e0 e1 e2 e3 e4
      generalize l[k] = o at d0 d1 d2 d3 d4 hem sk heg
      obtain ⟨ra, rc, hv6, hrsg⟩ := row1.rsg
      subst hv6
      have hk63 : k ≤ 2 ^ 63 - 2 := by omega
      obtain ⟨GK, HG⟩ : ∃ g, Hid (g < gk ∧ k + 1 + g = len) := ⟨gk - 1, by omega, by omega⟩
      obtain ⟨W1, hW1⟩ : ∃ W1, W1 = wr.alloc (.cells #[.slice ka o.key.length kc, .int .i64 o.seq, .bool o.gone, .int .i64 o.till, .slice va o.val.length vc] 35) := ⟨_, rfl⟩
      have b1 : Below wr.heap.size wr W1 := by rw [hW1]; exact (Below.refl _ _).alloc (Nat.le_refl _) _
      have hbx : ∀ wx, Below W1.heap.size W1 wx → _ := fun wx hb => box_cells wr (.slice ka o.key.length kc) (.int .i64 o.seq) (.bool o.gone) (.int .i64 o.till) (.slice va o.val.length vc) 35 (wx := wx) (by rw [← hW1]; exact hb)
      have HBX := hid hbx
      have HBr : Hid (∀ wx, Below W1.heap.size W1 wx → Below wr.heap.size wr wx) := fun wx hb => b1.trans (hb.mono b1.size)
      have HRW : Hid (∀ wx, Below wr.heap.size wr wx → Below w.heap.size w wx) := fun wx hb => bel.trans (hb.mono bel.size)
      have HM1 : Hid (∀ wx, Calls Try.prog 26 #[entA ka kc va vc o] wx fun r w' => r = .returned (.bool (mayE o)) ∧ Below wx.heap.size wx w') := fun wx => rmayE_any
      have HPUT : Hid (∀ wx, Below wr.heap.size wr wx → Calls Try.prog 39 #[.slice ra L.length rc, entA ka kc va vc o] wx fun r w' => Below wx.heap.size wx w' ∧ ((hasE L o = true ∧ r = .returned (.tuple #[.slice ra L.length rc, .bool false])) ∨ (hasE L o = false ∧ ∃ v, r = .returned (.tuple #[v, .bool true]) ∧ RowF entE wx.heap.size (fun b => b < w.heap.size) w' v (putE L o)))) := fun wx hb => rputE_any (hrsg.later hb) (El.later (E := entE) hem (HRW.out _ hb)) (fun b hb' => Nat.lt_of_lt_of_le hb' (HRW.out _ hb).size) heg (by omega) o1
      have HFS : Hid (∀ wx, Below wr.heap.size wr wx → SrS w 60 wx (.slice ra L.length rc) L) := fun wx hb => HK.out.1.later hb
      have HPP : Hid (mayE o = true → hasE L o = false → k < 60 → ∀ wx v, Below wr.heap.size wr wx → RowF entE w.heap.size (fun b => b < w.heap.size) wx v (putE L o) → SrS w 60 wx v (putE L o) ∧ (putE L o).length ≤ k + 1) := fun q1 q2 q3 wx v hb hr => by
        have ea := addE_put q1 q2
        have ho := addE_ord o1 o
        rw [ea] at ho
        have hlen : (putE L o).length = L.length + 1 := putE_len L o
        refine ⟨⟨hr, ho, fun e he => ?_, by have := HK.out.2; omega, HRW.out _ hb⟩, by have := HK.out.2; omega⟩
        rcases List.mem_cons.1 ((putE_perm L o).mem_iff.1 he) with q | q
        · rw [q]; exact q1
        · exact m1 e q
      have HKL : Hid (L.length ≤ k) := HK.out.2
      have HW1 := hid hW1
      unfold entA at HM1 HPUT
      clear row1 o1 m1 n1 hrsg hem sk heg hbx hW1 hk HK bel b1
      go_upto_region 5 with fail
      rw [← HW1.out]
      clear d0 d1 d2 d3 d4
      obtain ⟨y0, y1, y2, y3, y4⟩ := HBX.out _ (Below.refl _ _)
      by_cases q6 : k < 60
      · have q6' : (k : Int) < 60 := by omega
        go_wp2_with fail
        refine (HM1.out _).mono ?_
        rintro e w2 ⟨rfl, b2⟩
        clear y0 y1 y2 y3 y4
        cases hmy : mayE o with
        | false =>
          have B2 := hid (HBr.out _ b2)
          go_wp2_with fail
          go_roundg GK
          case measure => exact HG.out.1
          case rel => exact ⟨k + 1, L, HG.out.2, by go_num, HFS.out _ B2.out, by have := HKL.out; omega⟩
        | true =>
          obtain ⟨x0, x1, x2, x3, x4⟩ := HBX.out _ b2
          have B2 := hid (HBr.out _ b2)
          have HQ6 := hid q6
          have HMY := hid hmy
          clear q6 hmy
          go_wp2_with fail
          refine (HPUT.out _ B2.out).mono ?_
          rintro e w3 ⟨b3, ⟨hh, rfl⟩ | ⟨hh, v3, rfl, r3⟩⟩
          · have B3 := hid (B2.out.trans (b3.mono B2.out.size))
            go_wp2_with fail
            go_roundg GK
            case measure => exact HG.out.1
            case rel => exact ⟨k + 1, L, HG.out.2, by go_num, HFS.out _ B3.out, by have := HKL.out; omega⟩
          · have B3 := hid (B2.out.trans (b3.mono B2.out.size))
            have HN := hid (HPP.out HMY.out hh HQ6.out w3 v3 B3.out (r3.base (HRW.out _ B2.out).size))
            clear r3
            go_wp2_with fail
            go_roundg GK
            case measure => exact HG.out.1
            case rel => exact ⟨k + 1, putE L o, HG.out.2, by go_num, HN.out⟩
      · have q6' : ¬ ((k : Int) < 60) := by omega
        have B2 := hid (HBr.out _ (Below.refl _ W1))
        clear q6
        go_wp2_with fail
        go_roundg GK
        case measure => exact HG.out.1
        case rel => exact ⟨k + 1, L, HG.out.2, by go_num, HFS.out _ B2.out, by have := HKL.out; omega⟩
    · have hkl' : ¬ ((k : Int) < (len : Int)) := by omega
      have HF := hid HK.out.1
      clear hk hkl HK
      go_wp2_with fail
      exact bodyPost_ret (v := u3) (by simp [results, Try.results17, go_sem]) rfl ⟨u3, rfl, L, HF.out⟩
end Go.Proofs.Ytifgojkmdicdmaa
