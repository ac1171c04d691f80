import Derived.SizedLaws
import Derived.ChangeSlices
import Derived.Carry
import Derived.Deep.Matrix
import Derived.Test.YtifgojkmdicdmaaPk01
import Derived.Test.YtifgojkmdicdmaaPk03
import Derived.Test.YtifgojkmdicdmaaPk21
/- The laws on blocks: BlockEncodes. -/
namespace Go.Proofs.Ytifgojkmdicdmaa
open Go.RowKit
set_option linter.unusedVariables false
set_option linter.unusedSimpArgs false

theorem rblkX_any {w : World} {ao : Option Addr} {len cap : Nat} {l : List EntV} (h : RS entE w ao len cap l) (hl : len ≤ 2 ^ 61) :
    Calls Try.prog 11 #[.slice ao len cap] w fun e w' => ∃ v, e = .returned (.tuple #[v, .int .i64 ((blkE l : Nat) : Int)]) ∧ SlV w' v (encX l) ∧ Below w.heap.size w w' :=
  (rblk_any h hl).mono fun e w' ⟨v, he, hr, hb⟩ => ⟨v, he, SlV.ofRow hr (by unfold encX; split; exact okb_blkB h.okE; exact fun x hx => by cases hx), hb⟩

set_option maxHeartbeats 2000000 in
set_option maxRecDepth 100000 in
theorem encodes11_any (D : PBk) {w : World} {ao : Option Addr} {len cap : Nat} {l : List EntV} (h : RS entE w ao len cap l) :
    Calls Try.prog 3 #[.slice ao len cap] w fun e w' => e = .returned (.bool true) ∧ Below w.heap.size w w' := by
  have HS := hid h
  have hli := light11_any h
  have HAW : Hid (∀ wx, Calls Try.prog 9 #[] wx fun e w' => e = .returned (.bool true) ∧ Below wx.heap.size wx w') := fun wx => awake11_any D wx
  clear h
  go_enter Try.func3, Try.ntmps3
  go_wp2_with fail
  refine hli.mono ?_
  rintro e w1 ⟨rfl | ⟨rfl, hl, hg⟩, b1⟩
  · clear hli
    go_wp2_with (go_at_call 9; refine (HAW.out _).mono ?_; rintro e w2 ⟨rfl, b2⟩)
    exact bodyPost_ret (v := .bool true) (by simp [results, Try.results3, go_sem]) rfl ⟨rfl, b1.trans (b2.mono b1.size)⟩
  · have hE := D.encode (HS.out.later b1) hl hg
    have HB : Hid (∀ wx, Below w.heap.size w wx → Calls Try.prog 11 #[.slice ao len cap] wx fun e w' => ∃ v, e = .returned (.tuple #[v, .int .i64 ((blkE l : Nat) : Int)]) ∧ SlV w' v (encX l) ∧ Below wx.heap.size wx w') := fun wx hb => rblkX_any (HS.out.later hb) (by omega)
    have HO1 : Hid (∀ wx, Below w.heap.size w wx → Calls Try.prog 12 #[.slice ao len cap] wx fun e w' => e = .returned (.bool (ordB l)) ∧ Below wx.heap.size wx w') := fun wx hb => D.ordered (HS.out.later hb) hl hg
    have HO2 : Hid (∀ wx, Below w.heap.size w wx → Calls Try.prog 13 #[.slice ao len cap] wx fun e w' => e = .returned (.bool (ordB l)) ∧ Below wx.heap.size wx w') := fun wx hb => rord_any (HS.out.later hb) (by omega)
    have heq : ((blkE l : Int) == (blkE l : Int)) = true := by simp
    have hoq : (ordB l == ordB l) = true := by simp
    generalize blkE l = E at hE HB heq
    generalize encX l = X at hE HB
    generalize ordB l = O at HO1 HO2 hoq
    clear hli hg hl
    go_wp2_with fail
    refine hE.mono ?_
    rintro e w2 ⟨v2, rfl, ⟨a2, c2, rfl, s2⟩, b2⟩
    have B2 := b1.trans (b2.mono b1.size)
    clear hE
    go_wp2_with fail
    refine (HB.out _ B2).mono ?_
    rintro e w3 ⟨v3, rfl, ⟨a3, c3, rfl, s3⟩, b3⟩
    have B3 := B2.trans (b3.mono B2.size)
    go_wp2_with fail
    refine (HO1.out _ B3).mono ?_
    rintro e w4 ⟨rfl, b4⟩
    have B4 := B3.trans (b4.mono B3.size)
    go_wp2_with fail
    refine (HO2.out _ B4).mono ?_
    rintro e w5 ⟨rfl, b5⟩
    have B5 := hid (B4.trans (b5.mono B4.size))
    have t2 := str_l (((s2.later b3).later b4).later b5)
    have t3 := str_l ((s3.later b4).later b5)
    generalize X.length = xl at t2 t3
    generalize strOfNums X = sX at t2 t3
    clear s2 s3 b1 b2 b3 b4 b5 B2 B3 B4 HB HO1 HO2 HS
    go_wp2_with (go_at_call 9; refine (HAW.out _).mono ?_; rintro e w6 ⟨rfl, b6⟩)
    exact bodyPost_ret (v := .bool true) (by simp [results, Try.results3, go_sem]) rfl ⟨rfl, B5.out.trans (b6.mono B5.out.size)⟩

end Go.Proofs.Ytifgojkmdicdmaa

/- How a slice of bytes that came in is opened. -/
namespace Go.Proofs.Ytifgojkmdicdmaa
open Go.ChangeShapes Go.WideShapes Go.ChangeAt Go.RowKit

theorem cells5 : Try.prog.cellsOf 5 = 1 := by kernel_rfl
theorem bytes5 : Try.prog.bytesOf 5 = 1 := by kernel_rfl

theorem wf_u8 {n : Int} (h : (Lit.int .u8 n).wf = true) : 0 ≤ n ∧ n < 256 := by
  simp [Lit.wf, IntKind.min, IntKind.max, IntKind.bits, IntKind.signed] at h
  omega
theorem wf_u64 {n : Int} (h : (Lit.int .u64 n).wf = true) : 0 ≤ n ∧ n < 18446744073709551616 := by
  simp [Lit.wf, IntKind.min, IntKind.max, IntKind.bits, IntKind.signed] at h
  omega
theorem wf_i64 {n : Int} (h : (Lit.int .i64 n).wf = true) : -9223372036854775808 ≤ n ∧ n ≤ 9223372036854775807 := by
  simp [Lit.wf, IntKind.min, IntKind.max, IntKind.bits, IntKind.signed] at h
  omega

theorem open25 {H : Type} {enc : TypeId × Value → H} {W : World} {base : Nat} {v : Value} {d : DataW H} {ps : List MemPlace} (hv : Value.okWide Try.prog W .any base 25 v) (h : DataW.Trod enc Try.prog W 0 (fun _ => true) true 25 v d ps) :
    ∃ (ao : Option Addr) (len cap : Nat) (X : Nat → Nat), v = .slice ao len cap ∧ (ao = none → len = 0 ∧ cap = 0) ∧ len ≤ cap ∧ cap ≤ maxLen ∧ Byt W ao len X ∧ (cap = 0 ∨ ∃ e s, d = .slice e s ∧ e.length + s.length = cap) := by
  obtain ⟨a, len, cap, rfl⟩ := okWide_slice Try.underlying25 hv
  obtain ⟨fuel, hf⟩ := h
  rcases open_ints Try.underlying25 Try.underlying5 cells5 hf with ⟨hcs, _⟩ | ⟨x, l, cp, zs, hcs, _, hl, hm, hz, hd, hc, hwf⟩
  · simp [Value.cells] at hcs
    obtain ⟨rfl, rfl, rfl⟩ := hcs
    exact ⟨none, 0, 0, fun _ => 0, rfl, fun _ => ⟨rfl, rfl⟩, Nat.le_refl _, Nat.zero_le _, fun k hk => absurd hk (by omega), .inl rfl⟩
  · simp [Value.cells] at hcs
    obtain ⟨rfl, rfl, rfl⟩ := hcs
    simp only [if_true] at hz
    refine ⟨some x, len, cap, fun k => (zs.getD k 0).toNat, rfl, (fun e => by cases e), hl, hm, fun k hk => ?_, .inr ⟨_, _, (Prod.mk.inj hd).1, ?_⟩⟩
    · have hk' : k < zs.length := by omega
      have w1 := hwf _ (List.getElem_mem hk')
      have e : zs.getD k 0 = zs[k] := by simp [List.getElem?_eq_getElem hk']
      have hr : 0 ≤ zs[k] ∧ zs[k] < 256 := by
        exact wf_u8 w1
      have hcell := hc k hk'
      obtain ⟨b, off, spot⟩ := x
      have hspot : spot = none := by
        have h0 := hc 0 (by omega)
        simpa [Addr.add] using World.cell?_spot h0
      subst hspot
      rw [Addr.add_lit, e] at hcell
      show (zs.getD k 0).toNat < 256 ∧ ∃ b' off', some (⟨b, off, none⟩ : Addr) = some ⟨b', off', none⟩ ∧ W.cell? ⟨b', off' + k, none⟩ = some (.int .u8 ((zs.getD k 0).toNat : Int))
      rw [e]
      refine ⟨by omega, b, off, rfl, ?_⟩
      rw [hcell]
      congr 2
      omega
    · simp [lits]
      omega
end Go.Proofs.Ytifgojkmdicdmaa

/- How slices of bytes, and slices of slices of bytes, that came in are opened: as lists. -/
namespace Go.Proofs.Ytifgojkmdicdmaa
open Go.ChangeShapes Go.WideShapes Go.ChangeAt Go.RowKit Go.Deep
set_option linter.unusedVariables false

theorem cells25 : Try.prog.cellsOf 25 = 1 := by kernel_rfl
theorem sl_bs {w : World} {ao : Option Addr} {len cap : Nat} {X : Nat → Nat} (h1 : ao = none → len = 0 ∧ cap = 0) (h2 : len ≤ cap) (h3 : cap ≤ maxLen) (h4 : Byt w ao len X) : Sl w ao len cap (bs X len) := by
  refine ⟨bs_length X len, okb_bs h4, h1, h2, h3, fun k hk => ?_⟩
  have e : xof (bs X len) k = X k := by
    unfold xof
    rw [bs_getD X len k hk]
    exact Int.toNat_natCast _
  rw [e]
  exact h4 k hk
theorem open70 {H : Type} {enc : TypeId × Value → H} {W : World} {base : Nat} {v : Value} {d : DataW H} {ps : List MemPlace} (hv : Value.okWide Try.prog W .any base 70 v) (h : DataW.Trod enc Try.prog W 0 (fun _ => true) true 70 v d ps) :
    ∃ (ao : Option Addr) (len cap : Nat) (rs : List (List Int)), v = .slice ao len cap ∧ RB W ao len cap rs := by
  obtain ⟨a, len, cap, rfl⟩ := okWide_slice Try.underlying70 hv
  obtain ⟨fuel, hf⟩ := h
  rcases open_int_rows Try.underlying70 Try.underlying25 Try.underlying5 cells25 cells5 hf with ⟨hcs, _⟩ | ⟨x, l, cp, A, LN, C, Z, hcs, _, hl, hm, hd, hc⟩
  · simp [Value.cells] at hcs
    obtain ⟨rfl, rfl, rfl⟩ := hcs
    exact ⟨none, 0, 0, [], rfl, rfl, fun _ => ⟨rfl, rfl⟩, Nat.le_refl _, Nat.zero_le _, fun i r hr => by simp at hr⟩
  · simp [Value.cells] at hcs
    obtain ⟨rfl, rfl, rfl⟩ := hcs
    refine ⟨some x, len, cap, (List.range len).map fun r => (Z r).take (LN r), rfl, by simp, (fun e => by cases e), hl, hm, fun i r hr => ?_⟩
    have hi : i < len := by
      have := (List.getElem?_eq_some_iff.1 hr).1
      simpa using this
    rw [List.getElem?_map, List.getElem?_range hi, Option.map_some, Option.some.injEq] at hr
    subst hr
    obtain ⟨h0, h1, h2, h3, h4, h5, h6⟩ := hc i (by omega)
    obtain ⟨b, off, spot⟩ := x
    have hspot : spot = none := by
      have h0 := (hc 0 (by omega)).1
      simpa [Addr.add] using World.cell?_spot h0
    subst hspot
    rw [Addr.add_lit] at h0
    have hlen : ((Z i).take (LN i)).length = LN i := by rw [List.length_take]; omega
    rw [hlen]
    refine ⟨b, off, A i, C i, rfl, h0, hlen, fun y hy => wf_u8 (h4 y (List.mem_of_mem_take hy)), fun e => ?_, h1, h2, fun k hk => ?_⟩
    · have := h5 e
      omega
    · have hk' : k < (Z i).length := by omega
      have e : xof ((Z i).take (LN i)) k = ((Z i)[k]).toNat := by
        unfold xof
        rw [List.getD_eq_getElem?_getD, List.getElem?_take_of_lt hk, List.getElem?_eq_getElem hk']
        rfl
      have hr := wf_u8 (h4 _ (List.getElem_mem hk'))
      rw [e]
      cases hA : A i with
      | none => have := h5 hA; omega
      | some a' =>
        obtain ⟨_, hcc⟩ := h6 a' hA
        have hcell := hcc k (by omega)
        obtain ⟨b', off', spot⟩ := a'
        have hspot : spot = none := by
          have h0 := hcc 0 (by omega)
          simpa [Addr.add] using World.cell?_spot h0
        subst hspot
        have e2 : (Z i).getD k 0 = (Z i)[k] := by simp [List.getElem?_eq_getElem hk']
        rw [Addr.add_lit, e2] at hcell
        refine ⟨by omega, b', off', rfl, ?_⟩
        rw [hcell]
        congr 2
        omega
end Go.Proofs.Ytifgojkmdicdmaa
