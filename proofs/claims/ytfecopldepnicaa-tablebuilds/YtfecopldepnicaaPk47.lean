import Derived.SizedLaws
import Derived.ChangeSlices
import Derived.Carry
import Derived.Deep.Matrix
import Derived.Test.YtfecopldepnicaaPk01
import Derived.Test.YtfecopldepnicaaPk03
import Derived.Test.YtfecopldepnicaaPk16
import Derived.Test.YtfecopldepnicaaPk17
import Derived.Test.YtfecopldepnicaaPk18
import Derived.Test.YtfecopldepnicaaPk36
import Derived.Test.YtfecopldepnicaaPk46
/- The law that a table's bytes are the document's. -/
namespace Go.Proofs.Ytfecopldepnicaa
open Go.RowKit
set_option linter.unusedVariables false
set_option linter.unusedSimpArgs false

/-- The document's own Table, of any row. -/
theorem rtable_any {w : World} {ao : Option Addr} {len cap : Nat} {l : List EntV} (h : RS entE w ao len cap l) (hl : len ≤ 1000000) :
    Calls Try.prog 10 #[.slice ao len cap] w fun e w' => ∃ v, e = .returned (.tuple #[v, .int .i64 ((tblE l : Nat) : Int)]) ∧ SlV w' v (tblX l) ∧ Below w.heap.size w w' := by
  have hln : l.length = len := h.len.1
  unfold tblX
  by_cases q : len = 0 ∨ 4000 < len
  · have e : tblE l = 13 := by unfold tblE; rw [if_pos (by rw [hln]; exact q)]
    rw [e]
    exact (rtbl_many q (by omega)).mono fun r w' ⟨h1, h2⟩ => ⟨_, h1, slv_nil _, h2⟩
  · by_cases q2 : l.all mayE = false ∨ ordB l = false
    · obtain ⟨c, hc⟩ : ∃ c : Int, c = if l.all mayE = false then 1 else 11 := ⟨_, rfl⟩
      have e : ((tblE l : Nat) : Int) = c ∧ tblE l ≠ 0 := by
        unfold tblE
        rw [if_neg (by rw [hln]; exact q)]
        by_cases q3 : l.all mayE = false
        · rw [if_pos q3]; rw [if_pos q3] at hc; exact ⟨hc.symm, by omega⟩
        · rw [if_neg q3, if_pos (by rcases q2 with z | z; exact absurd z q3; exact z)]; rw [if_neg q3] at hc; exact ⟨hc.symm, by omega⟩
      rw [e.1, if_neg e.2]
      exact (rtbl_bad h (by omega) (by omega) q2 hc).mono fun r w' ⟨h1, h2⟩ => ⟨_, h1, slv_nil _, h2⟩
    · simp only [not_or, Bool.not_eq_false] at q2
      have e : tblE l = if 4194304 < (tblB l).length then 8 else 0 := by
        unfold tblE
        rw [if_neg (by rw [hln]; exact q), if_neg (by rw [q2.1]; decide), if_neg (by rw [q2.2]; decide)]
      refine (rtbl_good h (by omega) (by omega) ⟨q2.1, q2.2⟩ rfl rfl).mono ?_
      rintro r w' ⟨v, h1, h2, h3⟩
      rw [e]
      by_cases q3 : 4194304 < (tblB l).length
      · rw [if_pos q3] at h1 h2 ⊢
        exact ⟨v, h1, h2, h3⟩
      · rw [if_neg q3] at h1 h2 ⊢
        exact ⟨v, h1, h2, h3⟩
set_option maxHeartbeats 2000000 in
set_option maxRecDepth 100000 in
theorem light12_any {w : World} {ao : Option Addr} {len cap : Nat} {l : List EntV} (h : RS entE w ao len cap l) :
    Calls Try.prog 7 #[.slice ao len cap] w fun e w' => ∃ b : Bool, e = .returned (.bool b) ∧ (b = true → len ≤ 200 ∧ ∀ e ∈ l, e.key.length ≤ 3000 ∧ e.val.length ≤ 3000) ∧ Below w.heap.size w w' := by
  have hl := h.len
  have hl63 : len ≤ 2 ^ 63 - 1 := by have := hl.2; unfold maxLen at this; omega
  have HS : Hid (RS entE w ao len cap l ∧ l.length = len) := ⟨h, hl.1⟩
  clear h hl
  go_enter Try.func7, Try.ntmps7
  go_wp2_with fail
  go_loopg [7] len (fun g i wr => ∃ k : Nat, k + g = len ∧ i = .int .i64 (k : Int) ∧ Hid (Below w.heap.size w wr ∧ k ≤ 200 ∧ ∀ j, j < k → ∀ x, l[j]? = some x → x.key.length ≤ 3000 ∧ x.val.length ≤ 3000))
  case atStart => exact ⟨0, by omega, rfl, Below.refl _ _, by omega, fun j hj => by omega⟩
  case round =>
    obtain ⟨k, hk, rfl, HK⟩ := hrel
    by_cases hkl : k < len
    · have hkl' : (k : Int) < (len : Int) := by omega
      have hkx : k < l.length := by have := HS.out.2; omega
      have hox := List.getElem?_eq_getElem hkx
      obtain ⟨b, off, ka, kc, va, vc, rfl, d0, d1, d2, d3, d4, k1, k2, k3⟩ := RS.ent (HS.out.1.later HK.out.1) hox
      have HOX := hidE3 hox
      generalize l[k] = o at d0 d1 d2 d3 d4 k1 k2 HOX
      have hkey63 : o.key.length ≤ 2 ^ 63 - 1 := by have := k1.2.2.2; unfold maxLen at this; omega
      have hval63 : o.val.length ≤ 2 ^ 63 - 1 := by have := k2.2.2.2; unfold maxLen at this; omega
      obtain ⟨key, seq, gone, till, vl⟩ := o
      simp only at d0 d1 d2 d3 d4 hkey63 hval63
      have HW : Hid (Below w.heap.size w (wr.alloc (.cells #[.slice ka key.length kc, .int .i64 seq, .bool gone, .int .i64 till, .slice va vl.length vc] 34))) := HK.out.1.alloc HK.out.1.size _
      have hk62 : k ≤ 2 ^ 63 - 2 := by omega
      obtain ⟨GK, HG⟩ : ∃ g, Hid (g < gk ∧ k + 1 + g = len) := ⟨gk - 1, by omega, by omega⟩
      have HALL := hidE3 HK.out.2
      obtain ⟨kl, hkl9⟩ : ∃ n, n = key.length := ⟨_, rfl⟩
      obtain ⟨ln, hln9⟩ : ∃ n, n = vl.length := ⟨_, rfl⟩
      have HKV := hidE3 (And.intro hkl9 hln9)
      rw [← hkl9] at d0 hkey63 HW
      rw [← hln9] at d4 hval63 HW
      clear k1 k2 k3 hk HK hox hkl9 hln9
      by_cases qA : (200 : Int) ≤ (k : Int)
      · go_wp2_with fail
        exact bodyPost_ret (v := .bool false) (by simp [results, Try.results7, go_sem]) rfl (by first | exact ⟨false, rfl, fun z => (by cases z), HW.out⟩ | exact .inl ⟨rfl, HW.out⟩)
      have qA' : (k : Int) < 200 := by omega
      by_cases qB : (3000 : Int) < (kl : Int)
      · go_wp2_with fail
        exact bodyPost_ret (v := .bool false) (by simp [results, Try.results7, go_sem]) rfl (by first | exact ⟨false, rfl, fun z => (by cases z), HW.out⟩ | exact .inl ⟨rfl, HW.out⟩)
      have qB' : (kl : Int) ≤ 3000 := by omega
      by_cases qC : (3000 : Int) < (ln : Int)
      · go_wp2_with fail
        exact bodyPost_ret (v := .bool false) (by simp [results, Try.results7, go_sem]) rfl (by first | exact ⟨false, rfl, fun z => (by cases z), HW.out⟩ | exact .inl ⟨rfl, HW.out⟩)
      have qC' : (ln : Int) ≤ 3000 := by omega
      have HN : Hid (k + 1 ≤ 200 ∧ ∀ j, j < k + 1 → ∀ x, l[j]? = some x → x.key.length ≤ 3000 ∧ x.val.length ≤ 3000) := by
        refine ⟨by omega, fun j hj x hx => ?_⟩
        by_cases e : j = k
        · subst e
          rw [HOX.out] at hx
          cases hx
          have := HKV.out
          simp only
          omega
        · exact HALL.out.2 j (by omega) x hx
      go_wp2_with fail
      go_roundg GK
      case measure => exact HG.out.1
      case rel => exact ⟨k + 1, HG.out.2, by go_num, HW.out, HN.out.1, HN.out.2⟩
    · have hkl' : (len : Int) ≤ (k : Int) := by omega
      have HW : Hid (Below w.heap.size w wr ∧ len ≤ 200 ∧ ∀ e ∈ l, e.key.length ≤ 3000 ∧ e.val.length ≤ 3000) := by
        refine ⟨HK.out.1, by have := HK.out.2.1; omega, fun e he => ?_⟩
        obtain ⟨j, hj, rfl⟩ := List.getElem_of_mem he
        exact HK.out.2.2 j (by have := HS.out.2; omega) _ (List.getElem?_eq_getElem hj)
      clear hk HK
      go_wp2_with fail
      exact bodyPost_ret (v := .bool true) (by simp [results, Try.results7, go_sem]) rfl (by first | exact ⟨true, rfl, fun _ => HW.out.2, HW.out.1⟩ | exact .inr ⟨rfl, HW.out.2, HW.out.1⟩)
set_option maxHeartbeats 2000000 in
set_option maxRecDepth 100000 in
theorem builds12_any (D : PTA) {w : World} {ao : Option Addr} {len cap : Nat} {l : List EntV} (h : RS entE w ao len cap l) :
    Calls Try.prog 3 #[.slice ao len cap] w fun e w' => e = .returned (.bool true) ∧ Below w.heap.size w w' := by
  have hL := light12_any h
  have HB : Hid (∀ wx, Below w.heap.size w wx → (len ≤ 200 ∧ ∀ e ∈ l, e.key.length ≤ 3000 ∧ e.val.length ≤ 3000) → Calls Try.prog 9 #[.slice ao len cap] wx fun e w' => ∃ a c, e = .returned (.tuple #[.slice a (tblX l).length c, .int .i64 ((tblE l : Nat) : Int)]) ∧ Sl w' a (tblX l).length c (tblX l) ∧ Below wx.heap.size wx w') := fun wx hb hq => (D.build (h.later hb) (by omega) hq.2).mono fun e w' ⟨v, he, ⟨a, c, hv, hs⟩, hb'⟩ => ⟨a, c, by rw [he, hv], hs, hb'⟩
  have HR : Hid (∀ wx, Below w.heap.size w wx → (len ≤ 200 ∧ ∀ e ∈ l, e.key.length ≤ 3000 ∧ e.val.length ≤ 3000) → Calls Try.prog 10 #[.slice ao len cap] wx fun e w' => ∃ a c, e = .returned (.tuple #[.slice a (tblX l).length c, .int .i64 ((tblE l : Nat) : Int)]) ∧ Sl w' a (tblX l).length c (tblX l) ∧ Below wx.heap.size wx w') := fun wx hb hq => (rtable_any (h.later hb) (by omega)).mono fun e w' ⟨v, he, ⟨a, c, hv, hs⟩, hb'⟩ => ⟨a, c, by rw [he, hv], hs, hb'⟩
  have HA : Hid (∀ wx, Calls Try.prog 8 #[] wx fun e w' => e = .returned (.bool true) ∧ Below wx.heap.size wx w') := fun wx => awake12_a D wx
  generalize tblX l = X at HB HR
  generalize tblE l = E at HB HR
  have hEE : ((E : Int) == (E : Int)) = true := by simp
  have hTT : ((strOfNums X).toList == (strOfNums X).toList) = true := by simp
  generalize hN : X.length = N at HB HR
  clear h hN
  go_enter Try.func3, Try.ntmps3
  go_upto_region 3 with (first | (go_at_call 7; refine hL.mono ?_; rintro e w1 ⟨b, rfl, hq, b1⟩; cases b) | (go_at_call 8; refine (HA.out _).mono ?_; rintro e w6 ⟨rfl, b6⟩))
  · exact bodyPost_ret (v := .bool true) (by simp [results, Try.results3, go_sem]) rfl ⟨rfl, b1.trans (b6.mono b1.size)⟩
  · have hQ := hidE3 (hq (by trivial))
    have B1 := hidE3 b1
    have hb := HB.out _ B1.out hQ.out
    clear hq b1 hL
    go_upto_region 4 with (go_at_call 9; refine hb.mono ?_; rintro e w2 ⟨a2, c2, rfl, s2, b2⟩)
    have B2 := hidE3 (B1.out.trans (b2.mono B1.out.size))
    have hr := HR.out _ B2.out hQ.out
    have S2 := hidE3 s2
    clear hb s2 b2
    go_upto_region 5 with (go_at_call 10; refine hr.mono ?_; rintro e w3 ⟨a3, c3, rfl, s3, b3⟩)
    have B3 := hidE3 (B2.out.trans (b3.mono B2.out.size))
    have g2 := str_l (S2.out.later b3)
    have g3 := str_l s3
    have ha := HA.out w3
    clear hr s3 b3
    generalize strOfNums X = T at g2 g3 hTT
    go_wp2_with (go_at_call 8; refine ha.mono ?_; rintro e w4 ⟨rfl, b4⟩)
    exact bodyPost_ret (v := .bool true) (by simp [results, Try.results3, go_sem]) rfl ⟨rfl, B3.out.trans (b4.mono B3.out.size)⟩
end Go.Proofs.Ytfecopldepnicaa

/- How a slice of bytes that came in is opened. -/
namespace Go.Proofs.Ytfecopldepnicaa
open Go.ChangeShapes Go.WideShapes Go.ChangeAt Go.RowKit

theorem cells5 : Try.prog.cellsOf 5 = 1 := by kernel_rfl
theorem bytes5 : Try.prog.bytesOf 5 = 1 := by kernel_rfl

theorem wf_u8 {n : Int} (h : (Lit.int .u8 n).wf = true) : 0 ≤ n ∧ n < 256 := by
  simp [Lit.wf, IntKind.min, IntKind.max, IntKind.bits, IntKind.signed] at h
  omega
theorem wf_u64 {n : Int} (h : (Lit.int .u64 n).wf = true) : 0 ≤ n ∧ n < 18446744073709551616 := by
  simp [Lit.wf, IntKind.min, IntKind.max, IntKind.bits, IntKind.signed] at h
  omega
theorem wf_i64 {n : Int} (h : (Lit.int .i64 n).wf = true) : -9223372036854775808 ≤ n ∧ n ≤ 9223372036854775807 := by
  simp [Lit.wf, IntKind.min, IntKind.max, IntKind.bits, IntKind.signed] at h
  omega

set_option maxRecDepth 100000 in
theorem open25 {H : Type} {enc : TypeId × Value → H} {W : World} {base : Nat} {v : Value} {d : DataW H} {ps : List MemPlace} (hv : Value.okWide Try.prog W .any base 25 v) (h : DataW.Trod enc Try.prog W 0 (fun _ => true) true 25 v d ps) :
    ∃ (ao : Option Addr) (len cap : Nat) (X : Nat → Nat), v = .slice ao len cap ∧ (ao = none → len = 0 ∧ cap = 0) ∧ len ≤ cap ∧ cap ≤ maxLen ∧ Byt W ao len X ∧ (cap = 0 ∨ ∃ e s, d = .slice e s ∧ e.length + s.length = cap) := by
  obtain ⟨a, len, cap, rfl⟩ := okWide_slice Try.underlying25 hv
  obtain ⟨fuel, hf⟩ := h
  rcases open_ints Try.underlying25 Try.underlying5 cells5 hf with ⟨hcs, _⟩ | ⟨x, l, cp, zs, hcs, _, hl, hm, hz, hd, hc, hwf⟩
  · simp [Value.cells] at hcs
    obtain ⟨rfl, rfl, rfl⟩ := hcs
    exact ⟨none, 0, 0, fun _ => 0, rfl, fun _ => ⟨rfl, rfl⟩, Nat.le_refl _, Nat.zero_le _, fun k hk => absurd hk (by omega), .inl rfl⟩
  · simp [Value.cells] at hcs
    obtain ⟨rfl, rfl, rfl⟩ := hcs
    simp only [if_true] at hz
    refine ⟨some x, len, cap, fun k => (zs.getD k 0).toNat, rfl, (fun e => by cases e), hl, hm, fun k hk => ?_, .inr ⟨_, _, (Prod.mk.inj hd).1, ?_⟩⟩
    · have hk' : k < zs.length := by omega
      have w1 := hwf _ (List.getElem_mem hk')
      have e : zs.getD k 0 = zs[k] := by simp [List.getElem?_eq_getElem hk']
      have hr : 0 ≤ zs[k] ∧ zs[k] < 256 := by
        exact wf_u8 w1
      have hcell := hc k hk'
      obtain ⟨b, off, spot⟩ := x
      have hspot : spot = none := by
        have h0 := hc 0 (by omega)
        simpa [Addr.add] using World.cell?_spot h0
      subst hspot
      rw [Addr.add_lit, e] at hcell
      show (zs.getD k 0).toNat < 256 ∧ ∃ b' off', some (⟨b, off, none⟩ : Addr) = some ⟨b', off', none⟩ ∧ W.cell? ⟨b', off' + k, none⟩ = some (.int .u8 ((zs.getD k 0).toNat : Int))
      rw [e]
      refine ⟨by omega, b, off, rfl, ?_⟩
      rw [hcell]
      congr 2
      omega
    · simp [lits]
      omega
end Go.Proofs.Ytfecopldepnicaa

/- How slices of bytes, and slices of slices of bytes, that came in are opened: as lists. -/
namespace Go.Proofs.Ytfecopldepnicaa
open Go.ChangeShapes Go.WideShapes Go.ChangeAt Go.RowKit Go.Deep
set_option linter.unusedVariables false

theorem cells25 : Try.prog.cellsOf 25 = 1 := by kernel_rfl
theorem sl_bs {w : World} {ao : Option Addr} {len cap : Nat} {X : Nat → Nat} (h1 : ao = none → len = 0 ∧ cap = 0) (h2 : len ≤ cap) (h3 : cap ≤ maxLen) (h4 : Byt w ao len X) : Sl w ao len cap (bs X len) := by
  refine ⟨bs_length X len, okb_bs h4, h1, h2, h3, fun k hk => ?_⟩
  have e : xof (bs X len) k = X k := by
    unfold xof
    rw [bs_getD X len k hk]
    exact Int.toNat_natCast _
  rw [e]
  exact h4 k hk
set_option maxRecDepth 100000 in
theorem open38 {H : Type} {enc : TypeId × Value → H} {W : World} {base : Nat} {v : Value} {d : DataW H} {ps : List MemPlace} (hv : Value.okWide Try.prog W .any base 38 v) (h : DataW.Trod enc Try.prog W 0 (fun _ => true) true 38 v d ps) :
    ∃ (ao : Option Addr) (len cap : Nat) (rs : List (List Int)), v = .slice ao len cap ∧ RB W ao len cap rs := by
  obtain ⟨a, len, cap, rfl⟩ := okWide_slice Try.underlying38 hv
  obtain ⟨fuel, hf⟩ := h
  rcases open_int_rows Try.underlying38 Try.underlying25 Try.underlying5 cells25 cells5 hf with ⟨hcs, _⟩ | ⟨x, l, cp, A, LN, C, Z, hcs, _, hl, hm, hd, hc⟩
  · simp [Value.cells] at hcs
    obtain ⟨rfl, rfl, rfl⟩ := hcs
    exact ⟨none, 0, 0, [], rfl, rfl, fun _ => ⟨rfl, rfl⟩, Nat.le_refl _, Nat.zero_le _, fun i r hr => by simp at hr⟩
  · simp [Value.cells] at hcs
    obtain ⟨rfl, rfl, rfl⟩ := hcs
    refine ⟨some x, len, cap, (List.range len).map fun r => (Z r).take (LN r), rfl, by simp, (fun e => by cases e), hl, hm, fun i r hr => ?_⟩
    have hi : i < len := by
      have := (List.getElem?_eq_some_iff.1 hr).1
      simpa using this
    rw [List.getElem?_map, List.getElem?_range hi, Option.map_some, Option.some.injEq] at hr
    subst hr
    obtain ⟨h0, h1, h2, h3, h4, h5, h6⟩ := hc i (by omega)
    obtain ⟨b, off, spot⟩ := x
    have hspot : spot = none := by
      have h0 := (hc 0 (by omega)).1
      simpa [Addr.add] using World.cell?_spot h0
    subst hspot
    rw [Addr.add_lit] at h0
    have hlen : ((Z i).take (LN i)).length = LN i := by rw [List.length_take]; omega
    rw [hlen]
    refine ⟨b, off, A i, C i, rfl, h0, hlen, fun y hy => wf_u8 (h4 y (List.mem_of_mem_take hy)), fun e => ?_, h1, h2, fun k hk => ?_⟩
    · have := h5 e
      omega
    · have hk' : k < (Z i).length := by omega
      have e : xof ((Z i).take (LN i)) k = ((Z i)[k]).toNat := by
        unfold xof
        rw [List.getD_eq_getElem?_getD, List.getElem?_take_of_lt hk, List.getElem?_eq_getElem hk']
        rfl
      have hr := wf_u8 (h4 _ (List.getElem_mem hk'))
      rw [e]
      cases hA : A i with
      | none => have := h5 hA; omega
      | some a' =>
        obtain ⟨_, hcc⟩ := h6 a' hA
        have hcell := hcc k (by omega)
        obtain ⟨b', off', spot⟩ := a'
        have hspot : spot = none := by
          have h0 := hcc 0 (by omega)
          simpa [Addr.add] using World.cell?_spot h0
        subst hspot
        have e2 : (Z i).getD k 0 = (Z i)[k] := by simp [List.getElem?_eq_getElem hk']
        rw [Addr.add_lit, e2] at hcell
        refine ⟨by omega, b', off', rfl, ?_⟩
        rw [hcell]
        congr 2
        omega
end Go.Proofs.Ytfecopldepnicaa
