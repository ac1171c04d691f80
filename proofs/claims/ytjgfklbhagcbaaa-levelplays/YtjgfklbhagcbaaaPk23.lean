import Derived.Lib.SlBytesConst
import Derived.SizedLaws
import Derived.ChangeSlices
import Derived.Carry
import Derived.Deep.Matrix
import Derived.Test.YtjgfklbhagcbaaaPk01
import Derived.Test.YtjgfklbhagcbaaaPk04
import Derived.Test.YtjgfklbhagcbaaaPk21
import Derived.Test.YtjgfklbhagcbaaaPk22
/- The laws on versions: a version that every program knows; what is asked of any version. -/
namespace Go.Proofs.Ytjgfklbhagcbaaa
open Go.RowKit
set_option linter.unusedVariables false
set_option linter.unusedSimpArgs false
theorem none_beq_some15 (b : Bool) : ((none : Option Bool) == some b) = false := rfl
attribute [local go_sem] undef none_beq_some15

theorem sl_byte {w : World} {b : Nat} {x : Int} (hx : 0 ≤ x ∧ x < 256) (h : w.cell? ⟨b, 0, none⟩ = some (.int .u8 x)) : Sl w (some ⟨b, 0, none⟩) 1 1 [x] := by
  refine ⟨rfl, fun y hy => ?_, (fun q => by cases q), Nat.le_refl _, by unfold maxLen; omega, fun k hk => ?_⟩
  · rw [List.mem_singleton.1 hy]; exact hx
  · obtain rfl : k = 0 := by omega
    have e : ((xof [x] 0 : Nat) : Int) = x := by rw [xof_zero]; omega
    refine ⟨by rw [xof_zero]; omega, b, 0, rfl, ?_⟩
    rw [e]; exact h
def tA : LnV := ⟨1, 0, 9, [97], [99]⟩
def eA : EdV := ⟨0, 2, 0, [tA], []⟩
theorem apE_A : apE noVr eA = 0 := by decide
theorem apV_A : apV noVr eA = ⟨0, 2, 0, [tA]⟩ := by unfold apV; rw [apE_A]; rfl
theorem szL_A : szL [tA] 0 = 9 := by decide
set_option maxHeartbeats 4000000 in
set_option maxRecDepth 100000 in
theorem awake15_t (w : World) : Calls Try.prog 10 #[] w fun e w' => e = .returned (.bool true) ∧ Below w.heap.size w w' := by
  obtain ⟨W, hW⟩ : ∃ W, W = ((w.alloc (.cells #[.int .u8 97] 5 (1, 2))).alloc (.cells #[.int .u8 99] 5 (1, 2))).alloc (.cells #[.int .i64 1, .int .i64 0, .int .i64 9, .slice (some ⟨w.heap.size, 0, none⟩) 1 1, .slice (some ⟨w.heap.size + 1, 0, none⟩) 1 1] 54) := ⟨_, rfl⟩
  have hWb : Below w.heap.size w W := by rw [hW]; exact (((Below.refl _ w).alloc (Nat.le_refl _) _).alloc (by simp) _).alloc (by simp <;> omega) _
  have h1 : ((w.alloc (.cells #[.int .u8 97] 5 (1, 2))).alloc (.cells #[.int .u8 99] 5 (1, 2))).cell? ⟨w.heap.size, 0, none⟩ = some (.int .u8 97) := cell_later ((Below.refl _ _).alloc (Nat.le_refl _) _) (by rw [cell_of (heap_alloc_new w _)]; rfl)
  have h2 : ((w.alloc (.cells #[.int .u8 97] 5 (1, 2))).alloc (.cells #[.int .u8 99] 5 (1, 2))).cell? ⟨w.heap.size + 1, 0, none⟩ = some (.int .u8 99) := by
    have e : w.heap.size + 1 = (w.alloc (.cells #[.int .u8 97] 5 (1, 2))).heap.size := by simp
    rw [e, cell_of (heap_alloc_new _ _)]; rfl
  have hone := rs_one (E := lnE) (w := (w.alloc (.cells #[.int .u8 97] 5 (1, 2))).alloc (.cells #[.int .u8 99] 5 (1, 2))) (vs := [.int .i64 1, .int .i64 0, .int .i64 9, .slice (some ⟨w.heap.size, 0, none⟩) 1 1, .slice (some ⟨w.heap.size + 1, 0, none⟩) 1 1]) (x := tA)
    ⟨some ⟨w.heap.size, 0, none⟩, 1, some ⟨w.heap.size + 1, 0, none⟩, 1, rfl, sl_byte (by omega) h1, sl_byte (by omega) h2, by constructor <;> decide, by constructor <;> decide, by constructor <;> decide⟩
  have e2 : ((w.alloc (.cells #[.int .u8 97] 5 (1, 2))).alloc (.cells #[.int .u8 99] 5 (1, 2))).heap.size = w.heap.size + 1 + 1 := by simp
  rw [e2] at hone
  have hv : VrM W noVr none 0 := ⟨by constructor <;> decide, by constructor <;> decide, by constructor <;> decide, RS.nil _⟩
  have he : EdM W eA (some ⟨w.heap.size + 1 + 1, 0, none⟩) 1 none 0 := ⟨by constructor <;> decide, by constructor <;> decide, by constructor <;> decide, by rw [hW]; exact ⟨_, hone⟩, RS.nil _⟩
  have hc := apply_t hv he (by decide) (by decide) (by decide)
  rw [apE_A, apV_A] at hc
  unfold vrV edV at hc
  have HWB := hidS hWb
  have HW := hidS hW
  rw [hW] at hc
  have HSZ : Hid (∀ wx a c, VrM wx ⟨0, 2, 0, [tA]⟩ a c → Calls Try.prog 20 #[.agg #[.int .i64 0, .int .i64 2, .int .i64 0, .slice a 1 c], .int .i64 0] wx fun e w' => e = .returned (.int .i64 9) ∧ Below wx.heap.size wx w') := fun wx a c h => by
    have := size_t h (by decide) 0
    rw [show szL (VrV.tabs ⟨0, 2, 0, [tA]⟩) 0 = 9 from szL_A] at this
    exact this
  clear h1 h2 hone hv he hWb hW e2
  have hcv := fun (w : World) a l c => Lib.run_convert_bytes_const (P := Try.prog) w 38 5 a l c Try.underlying38 Try.underlying5
  have hcv2 : ∀ (w : World) X, (convert 38 38 (.slice (some ⟨w.heap.size + 1, 0, none⟩) 1 1)).run Try.prog ((w.alloc X).alloc (.cells #[.int .u8 99] 5)) = .ok (.slice (some ⟨w.heap.size + 1, 0, none⟩) 1 1) ((w.alloc X).alloc (.cells #[.int .u8 99] 5 (1, 2))) := fun w X => by
    have := Lib.run_convert_bytes_const (P := Try.prog) (w.alloc X) 38 5 #[.int .u8 99] 1 1 Try.underlying38 Try.underlying5
    simpa using this
  go_enter Try.func10, Try.ntmps10
  go_wp2_with (first | (go_at_call 13; refine hc.mono ?_; rintro e w1 ⟨a', c', rfl, hvm, b1⟩; rw [← HW.out] at b1) | (go_at_call 20; refine (HSZ.out _ _ _ (hvm.later ((Below.refl _ _).alloc (Nat.le_refl _) _))).mono ?_; rintro e w2 ⟨rfl, b2⟩))
  exact bodyPost_ret (v := .bool true) (by simp [results, Try.results10, go_sem]) rfl ⟨rfl, (HWB.out.trans (b1.mono HWB.out.size)).trans (((Below.refl _ w1).alloc (Nat.le_refl _) _).trans (b2.mono (by simp)) |>.mono (Nat.le_trans HWB.out.size b1.size))⟩
set_option maxHeartbeats 8000000 in
set_option maxRecDepth 100000 in
theorem levmay_any {w : World} {v : VrV} {a : Option Addr} {c : Nat} (h : VrM w v a c) : Calls Try.prog 3 #[vrV v a c] w fun e w' => e = .returned (.bool true) ∧ Below w.heap.size w w' := by
  have hbx := fun (wx : World) hb => box4 w (.int .i64 v.log) (.int .i64 v.next) (.int .i64 v.seq) (.slice a v.tabs.length c) 24 (wx := wx) hb
  obtain ⟨W, hW⟩ : ∃ W, W = w.alloc (.cells #[.int .i64 v.log, .int .i64 v.next, .int .i64 v.seq, .slice a v.tabs.length c] 24) := ⟨_, rfl⟩
  have hWb : Below w.heap.size w W := by rw [hW]; exact (Below.refl _ w).alloc (Nat.le_refl _) _
  rw [← hW] at hbx
  have HTR : Hid (∀ wx wy, Below W.heap.size W wx → Below wx.heap.size wx wy → Below W.heap.size W wy) := fun wx wy h1 h2 => h1.trans (h2.mono h1.size)
  have HVV : Hid (∀ wx, Below W.heap.size W wx → VrM wx v a c) := fun wx hb => h.later (hWb.trans (hb.mono hWb.size))
  obtain ⟨L, hL⟩ : ∃ L, L = litL v.tabs := ⟨_, rfl⟩
  obtain ⟨M, hM⟩ : ∃ M, M = mayVr v := ⟨_, rfl⟩
  have HLL := hidS hL
  have HLI : Hid (∀ wx, Below W.heap.size W wx → Calls Try.prog 9 #[.slice a v.tabs.length c] wx fun e w' => e = .returned (.bool L) ∧ Below W.heap.size W w') := fun wx hb => by
    rw [hL]; exact (light15_t (HVV.out wx hb).tabs).mono fun e w' hh => ⟨hh.1, HTR.out _ _ hb hh.2⟩
  have HMA : Hid (L = true → ∀ wx, Below W.heap.size W wx → Calls Try.prog 11 #[vrV v a c] wx fun e w' => e = .returned (.bool M) ∧ Below W.heap.size W w') := fun hl wx hb => by
    have h210 := (litL_ok (HLL.out.symm.trans hl)).1
    rw [hM]; exact (may_t (HVV.out wx hb) (by omega)).mono fun e w' hh => ⟨hh.1, HTR.out _ _ hb hh.2⟩
  have HRM : Hid (∀ wx, Below W.heap.size W wx → Calls Try.prog 12 #[vrV v a c] wx fun e w' => e = .returned (.bool M) ∧ Below W.heap.size W w') := fun wx hb => by
    rw [hM]; exact (rmay_vr (HVV.out wx hb)).mono fun e w' hh => ⟨hh.1, HTR.out _ _ hb hh.2⟩
  have HAW : Hid (∀ wx, Below W.heap.size W wx → Calls Try.prog 10 #[] wx fun e w' => e = .returned (.bool true) ∧ Below W.heap.size W w') := fun wx hb => (awake15_t wx).mono fun e w' hh => ⟨hh.1, HTR.out _ _ hb hh.2⟩
  have HEN : Hid (∀ wx, Below W.heap.size W wx → Below w.heap.size w wx) := fun wx hb => hWb.trans (hb.mono hWb.size)
  unfold vrV at HMA HRM ⊢
  have HBX := hidS hbx
  have HWD := hidE (Below.refl W.heap.size W).drew
  have HW := hidS hW
  have HWB := hidE hWb
  clear hbx hWb hW hL hM h
  have hMM : (M == M) = true := by simp
  cases L with
  | false =>
    clear HMA HRM
    go_enter Try.func3, Try.ntmps3
    go_upto_region 1 with fail
    rw [← HW.out]
    obtain ⟨x0, x1, x2, x3⟩ := HBX.out _ HWD.out
    first
    | go_region_with (first | (go_at_call 10; refine (HAW.out _ b1).mono ?_; rintro e w2 ⟨rfl, b2⟩) | (go_at_call 9; refine (HLI.out _ (Below.refl _ _).drew).mono ?_; rintro e w1 ⟨rfl, b1⟩))
    | fail
    all_goals
      go_wp2_with fail
      exact bodyPost_ret (v := .bool true) (by simp [results, Try.results3, go_sem]) rfl ⟨rfl, HEN.out _ b2⟩
  | true =>
    have HMB := hidS (HMA.out rfl)
    clear HMA
    go_enter Try.func3, Try.ntmps3
    go_upto_region 1 with fail
    rw [← HW.out]
    go_region_held_law (fun w' => w'.cell? ⟨w.heap.size, 0, none⟩ = some (.int .i64 v.log) ∧ w'.cell? ⟨w.heap.size, 1, none⟩ = some (.int .i64 v.next) ∧ w'.cell? ⟨w.heap.size, 2, none⟩ = some (.int .i64 v.seq) ∧ w'.cell? ⟨w.heap.size, 3, none⟩ = some (.slice a v.tabs.length c)) (first | exact HBX.out _ b5 | exact HBX.out _ b4 | exact HBX.out _ b3 | exact HBX.out _ b2 | exact HBX.out _ b1 | exact HBX.out _ (Below.refl _ _) | exact HBX.out _ (Below.refl _ _).drew) (first | (go_at_call 10; refine (HAW.out _ b4).mono ?_; rintro e w5 ⟨rfl, b5⟩) | (go_at_call 12; refine (HRM.out _ b3).mono ?_; rintro e w4 ⟨rfl, b4⟩) | (go_at_call 11; refine (HMB.out _ b2).mono ?_; rintro e w3 ⟨rfl, b3⟩) | (go_at_call 9; refine (HLI.out _ b1).mono ?_; rintro e w2 ⟨rfl, b2⟩) | (go_at_call 9; refine (HLI.out _ (Below.refl _ _).drew).mono ?_; rintro e w1 ⟨rfl, b1⟩))
    all_goals
      go_wp2_with fail
      exact bodyPost_ret (v := .bool true) (by simp [results, Try.results3, go_sem]) rfl ⟨rfl, HEN.out _ b5⟩
end Go.Proofs.Ytjgfklbhagcbaaa

/- How a slice of bytes that came in is opened. -/
namespace Go.Proofs.Ytjgfklbhagcbaaa
open Go.ChangeShapes Go.WideShapes Go.ChangeAt Go.RowKit

theorem cells5 : Try.prog.cellsOf 5 = 1 := by kernel_rfl
theorem bytes5 : Try.prog.bytesOf 5 = 1 := by kernel_rfl

theorem wf_u8 {n : Int} (h : (Lit.int .u8 n).wf = true) : 0 ≤ n ∧ n < 256 := by
  simp [Lit.wf, IntKind.min, IntKind.max, IntKind.bits, IntKind.signed] at h
  omega
theorem wf_u64 {n : Int} (h : (Lit.int .u64 n).wf = true) : 0 ≤ n ∧ n < 18446744073709551616 := by
  simp [Lit.wf, IntKind.min, IntKind.max, IntKind.bits, IntKind.signed] at h
  omega
theorem wf_i64 {n : Int} (h : (Lit.int .i64 n).wf = true) : -9223372036854775808 ≤ n ∧ n ≤ 9223372036854775807 := by
  simp [Lit.wf, IntKind.min, IntKind.max, IntKind.bits, IntKind.signed] at h
  omega

set_option maxRecDepth 100000 in
theorem open38 {H : Type} {enc : TypeId × Value → H} {W : World} {base : Nat} {v : Value} {d : DataW H} {ps : List MemPlace} (hv : Value.okWide Try.prog W .any base 38 v) (h : DataW.Trod enc Try.prog W 0 (fun _ => true) true 38 v d ps) :
    ∃ (ao : Option Addr) (len cap : Nat) (X : Nat → Nat), v = .slice ao len cap ∧ (ao = none → len = 0 ∧ cap = 0) ∧ len ≤ cap ∧ cap ≤ maxLen ∧ Byt W ao len X ∧ (cap = 0 ∨ ∃ e s, d = .slice e s ∧ e.length + s.length = cap) := by
  obtain ⟨a, len, cap, rfl⟩ := okWide_slice Try.underlying38 hv
  obtain ⟨fuel, hf⟩ := h
  rcases open_ints Try.underlying38 Try.underlying5 cells5 hf with ⟨hcs, _⟩ | ⟨x, l, cp, zs, hcs, _, hl, hm, hz, hd, hc, hwf⟩
  · simp [Value.cells] at hcs
    obtain ⟨rfl, rfl, rfl⟩ := hcs
    exact ⟨none, 0, 0, fun _ => 0, rfl, fun _ => ⟨rfl, rfl⟩, Nat.le_refl _, Nat.zero_le _, fun k hk => absurd hk (by omega), .inl rfl⟩
  · simp [Value.cells] at hcs
    obtain ⟨rfl, rfl, rfl⟩ := hcs
    simp only [if_true] at hz
    refine ⟨some x, len, cap, fun k => (zs.getD k 0).toNat, rfl, (fun e => by cases e), hl, hm, fun k hk => ?_, .inr ⟨_, _, (Prod.mk.inj hd).1, ?_⟩⟩
    · have hk' : k < zs.length := by omega
      have w1 := hwf _ (List.getElem_mem hk')
      have e : zs.getD k 0 = zs[k] := by simp [List.getElem?_eq_getElem hk']
      have hr : 0 ≤ zs[k] ∧ zs[k] < 256 := by
        exact wf_u8 w1
      have hcell := hc k hk'
      obtain ⟨b, off, spot⟩ := x
      have hspot : spot = none := by
        have h0 := hc 0 (by omega)
        simpa [Addr.add] using World.cell?_spot h0
      subst hspot
      rw [Addr.add_lit, e] at hcell
      show (zs.getD k 0).toNat < 256 ∧ ∃ b' off', some (⟨b, off, none⟩ : Addr) = some ⟨b', off', none⟩ ∧ W.cell? ⟨b', off' + k, none⟩ = some (.int .u8 ((zs.getD k 0).toNat : Int))
      rw [e]
      refine ⟨by omega, b, off, rfl, ?_⟩
      rw [hcell]
      congr 2
      omega
    · simp [lits]
      omega
end Go.Proofs.Ytjgfklbhagcbaaa

/- How slices of bytes, and slices of slices of bytes, that came in are opened: as lists. -/
namespace Go.Proofs.Ytjgfklbhagcbaaa
open Go.ChangeShapes Go.WideShapes Go.ChangeAt Go.RowKit Go.Deep
set_option linter.unusedVariables false

theorem cells38 : Try.prog.cellsOf 38 = 1 := by kernel_rfl
theorem sl_bs {w : World} {ao : Option Addr} {len cap : Nat} {X : Nat → Nat} (h1 : ao = none → len = 0 ∧ cap = 0) (h2 : len ≤ cap) (h3 : cap ≤ maxLen) (h4 : Byt w ao len X) : Sl w ao len cap (bs X len) := by
  refine ⟨bs_length X len, okb_bs h4, h1, h2, h3, fun k hk => ?_⟩
  have e : xof (bs X len) k = X k := by
    unfold xof
    rw [bs_getD X len k hk]
    exact Int.toNat_natCast _
  rw [e]
  exact h4 k hk
end Go.Proofs.Ytjgfklbhagcbaaa
