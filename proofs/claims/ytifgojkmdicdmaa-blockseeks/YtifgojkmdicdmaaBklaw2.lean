/- The laws on blocks: BlockEncodes. -/
import Derived.Test.YtifgojkmdicdmaaBklaw
namespace Go.Proofs.Ytifgojkmdicdmaa
open Go.RowKit
set_option linter.unusedVariables false
set_option linter.unusedSimpArgs false

theorem rblkX_any {w : World} {ao : Option Addr} {len cap : Nat} {l : List EntV} (h : RS entE w ao len cap l) (hl : len ≤ 2 ^ 61) :
    Calls Try.prog 11 #[.slice ao len cap] w fun e w' => ∃ v, e = .returned (.tuple #[v, .int .i64 ((blkE l : Nat) : Int)]) ∧ SlV w' v (encX l) ∧ Below w.heap.size w w' :=
  (rblk_any h hl).mono fun e w' ⟨v, he, hr, hb⟩ => ⟨v, he, SlV.ofRow hr (by unfold encX; split; exact okb_blkB h.okE; exact fun x hx => by cases hx), hb⟩

set_option maxHeartbeats 2000000 in
set_option maxRecDepth 100000 in
theorem encodes11_any (D : PBk) {w : World} {ao : Option Addr} {len cap : Nat} {l : List EntV} (h : RS entE w ao len cap l) :
    Calls Try.prog 3 #[.slice ao len cap] w fun e w' => e = .returned (.bool true) ∧ Below w.heap.size w w' := by
  have HS := hid h
  have hli := light11_any h
  have HAW : Hid (∀ wx, Calls Try.prog 9 #[] wx fun e w' => e = .returned (.bool true) ∧ Below wx.heap.size wx w') := fun wx => awake11_any D wx
  clear h
  go_enter Try.func3, Try.ntmps3
  go_wp2_with fail
  refine hli.mono ?_
  rintro e w1 ⟨rfl | ⟨rfl, hl, hg⟩, b1⟩
  · clear hli
    go_wp2_with (go_at_call 9; refine (HAW.out _).mono ?_; rintro e w2 ⟨rfl, b2⟩)
    exact bodyPost_ret (v := .bool true) (by simp [results, Try.results3, go_sem]) rfl ⟨rfl, b1.trans (b2.mono b1.size)⟩
  · have hE := D.encode (HS.out.later b1) hl hg
    have HB : Hid (∀ wx, Below w.heap.size w wx → Calls Try.prog 11 #[.slice ao len cap] wx fun e w' => ∃ v, e = .returned (.tuple #[v, .int .i64 ((blkE l : Nat) : Int)]) ∧ SlV w' v (encX l) ∧ Below wx.heap.size wx w') := fun wx hb => rblkX_any (HS.out.later hb) (by omega)
    have HO1 : Hid (∀ wx, Below w.heap.size w wx → Calls Try.prog 12 #[.slice ao len cap] wx fun e w' => e = .returned (.bool (ordB l)) ∧ Below wx.heap.size wx w') := fun wx hb => D.ordered (HS.out.later hb) hl hg
    have HO2 : Hid (∀ wx, Below w.heap.size w wx → Calls Try.prog 13 #[.slice ao len cap] wx fun e w' => e = .returned (.bool (ordB l)) ∧ Below wx.heap.size wx w') := fun wx hb => rord_any (HS.out.later hb) (by omega)
    have heq : ((blkE l : Int) == (blkE l : Int)) = true := by simp
    have hoq : (ordB l == ordB l) = true := by simp
    generalize blkE l = E at hE HB heq
    generalize encX l = X at hE HB
    generalize ordB l = O at HO1 HO2 hoq
    clear hli hg hl
    go_wp2_with fail
    refine hE.mono ?_
    rintro e w2 ⟨v2, rfl, ⟨a2, c2, rfl, s2⟩, b2⟩
    have B2 := b1.trans (b2.mono b1.size)
    clear hE
    go_wp2_with fail
    refine (HB.out _ B2).mono ?_
    rintro e w3 ⟨v3, rfl, ⟨a3, c3, rfl, s3⟩, b3⟩
    have B3 := B2.trans (b3.mono B2.size)
    go_wp2_with fail
    refine (HO1.out _ B3).mono ?_
    rintro e w4 ⟨rfl, b4⟩
    have B4 := B3.trans (b4.mono B3.size)
    go_wp2_with fail
    refine (HO2.out _ B4).mono ?_
    rintro e w5 ⟨rfl, b5⟩
    have B5 := hid (B4.trans (b5.mono B4.size))
    have t2 := str_l (((s2.later b3).later b4).later b5)
    have t3 := str_l ((s3.later b4).later b5)
    generalize X.length = xl at t2 t3
    generalize strOfNums X = sX at t2 t3
    clear s2 s3 b1 b2 b3 b4 b5 B2 B3 B4 HB HO1 HO2 HS
    go_wp2_with (go_at_call 9; refine (HAW.out _).mono ?_; rintro e w6 ⟨rfl, b6⟩)
    exact bodyPost_ret (v := .bool true) (by simp [results, Try.results3, go_sem]) rfl ⟨rfl, B5.out.trans (b6.mono B5.out.size)⟩

end Go.Proofs.Ytifgojkmdicdmaa
