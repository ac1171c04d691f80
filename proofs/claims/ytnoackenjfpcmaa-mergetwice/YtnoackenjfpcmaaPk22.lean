import Derived.SizedLaws
import Derived.ChangeSlices
import Derived.Carry
import Derived.Deep.Matrix
import Derived.Test.YtnoackenjfpcmaaPk01
import Derived.Test.YtnoackenjfpcmaaPk03
import Derived.Test.YtnoackenjfpcmaaPk21
/- The landed merge: the iterator. -/
namespace Go.Proofs.Ytnoackenjfpcmaa
open Go.RowKit
set_option linter.unusedVariables false
set_option linter.unusedSimpArgs false

def ptI (p : Nat) : Value := .pointer (some ⟨p, 0, none⟩)
def ItM (w : World) (p : Nat) (a : Option Addr) (n c k : Nat) : Prop := w.heap[p]? = some (.cells #[.slice a n c, .int .i64 (k : Int)] 61 (0, 0))
theorem ItM.lt {w : World} {p : Nat} {a : Option Addr} {n c k : Nat} (h : ItM w p a n c k) : p < w.heap.size := (Array.getElem?_eq_some_iff.1 h).1
theorem ItM.later {w w' : World} {p : Nat} {a : Option Addr} {n c k : Nat} (h : ItM w p a n c k) (hb : Below w.heap.size w w') : ItM w' p a n c k := by
  unfold ItM
  rw [hb.block p h.lt]; exact h
theorem ItM.cells {w : World} {p : Nat} {a : Option Addr} {n c k : Nat} (h : ItM w p a n c k) : w.cell? ⟨p, 0, none⟩ = some (.slice a n c) ∧ w.cell? ⟨p, 1, none⟩ = some (.int .i64 (k : Int)) ∧ w.frozen? ⟨p, 1, none⟩ = false := by
  unfold ItM at h
  refine ⟨by rw [cell_of h]; rfl, by rw [cell_of h]; rfl, by simp [World.frozen?, h]⟩
theorem ItM.set {w : World} {p : Nat} {a : Option Addr} {n c k : Nat} (h : ItM w p a n c k) (j : Nat) : ItM (w.setCell ⟨p, 1, none⟩ (.int .i64 (j : Int))) p a n c j := by
  unfold ItM at h ⊢
  simp only [World.setCell, Array.getElem?_modify, if_true, h]
  rfl
theorem leftN_t (w : World) : Calls Try.prog 21 #[.pointer none] w fun e w' => e = .returned (.int .i64 0) ∧ w' = w := by
  go_enter Try.func21, Try.ntmps21
  go_wp2
  go_ret
  simp
set_option maxHeartbeats 1000000 in
theorem left_t {w : World} {p : Nat} {a : Option Addr} {n c k : Nat} (h : ItM w p a n c k) (hk : k ≤ n) (hn : n ≤ 2 ^ 60) :
    Calls Try.prog 21 #[ptI p] w fun e w' => e = .returned (.int .i64 ((n - k : Nat) : Int)) ∧ Below w.heap.size w w' := by
  obtain ⟨c0, c1, -⟩ := h.cells
  have hnk : ((n - k : Nat) : Int) = (n : Int) - (k : Int) := by omega
  rw [hnk]
  clear h
  unfold ptI
  go_enter Try.func21, Try.ntmps21
  go_wp2_with fail
  go_quiet (fail)
  go_wp2_with fail
  exact bodyPost_ret (v := .int .i64 ((n : Int) - (k : Int))) (by simp [results, Try.results21, go_sem]) rfl ⟨rfl, ⟨rfl, rfl, rfl, Nat.le_refl _, fun _ _ => rfl⟩⟩
theorem seekN_t (w : World) (a : Option Addr) (n c : Nat) : Calls Try.prog 17 #[.pointer none, .slice a n c] w fun e w' => e = .returned (.tuple #[]) ∧ Below w.heap.size w w' := by
  go_enter Try.func17, Try.ntmps17
  go_wp2_with fail
  exact bodyPost_ret (v := .tuple #[]) (by simp [results, Try.results17, go_sem]) rfl ⟨rfl, ((Below.refl _ _).alloc (Nat.le_refl _) _).alloc (by simp) _⟩
theorem nextN_t (w : World) : Calls Try.prog 19 #[.pointer none] w fun e w' => e = .returned (.tuple #[.agg #[.slice none 0 0, .int .i64 0, .bool false, .int .i64 0, .slice none 0 0], .bool false]) ∧ Below w.heap.size w w' := by
  go_enter Try.func19, Try.ntmps19
  go_wp2_with (go_at_call 21; refine (leftN_t _).mono ?_; rintro e w5 ⟨rfl, rfl⟩)
  exact bodyPost_ret (v := .tuple #[.agg #[.slice none 0 0, .int .i64 0, .bool false, .int .i64 0, .slice none 0 0], .bool false]) (by simp [results, Try.results19, go_sem]) rfl ⟨rfl, (Below.refl _ _).alloc (Nat.le_refl _) _⟩
set_option maxHeartbeats 1000000 in
/-- The law MergeNil. -/
theorem mgnil_any {w : World} {a : Option Addr} {n c : Nat} : Calls Try.prog 6 #[.slice a n c] w fun e w' => e = .returned (.bool true) ∧ Below w.heap.size w w' := by
  go_enter Try.func6, Try.ntmps6
  go_wp2_with (first | (go_at_call 17; refine (seekN_t _ _ _ _).mono ?_; rintro e w5 ⟨rfl, hb5⟩) | (go_at_call 19; refine (nextN_t _).mono ?_; rintro e w6 ⟨rfl, hb6⟩) | (go_at_call 21; refine (leftN_t _).mono ?_; rintro e w7 ⟨rfl, rfl⟩) | (go_at_call 10; refine (awake16_t _).mono ?_; rintro e w8 ⟨rfl, hb8⟩))
  have h6 := hb5.trans (hb6.mono hb5.size)
  have h7 := h6.alloc h6.size (.cells #[.slice none 0 0, .int .i64 0, .bool false, .int .i64 0, .slice none 0 0] 35)
  exact bodyPost_ret (v := .bool true) (by simp [results, Try.results6, go_sem]) rfl ⟨rfl, h7.trans (hb8.mono h7.size)⟩
end Go.Proofs.Ytnoackenjfpcmaa

/- How a slice of bytes that came in is opened. -/
namespace Go.Proofs.Ytnoackenjfpcmaa
open Go.ChangeShapes Go.WideShapes Go.ChangeAt Go.RowKit

theorem cells5 : Try.prog.cellsOf 5 = 1 := by kernel_rfl
theorem bytes5 : Try.prog.bytesOf 5 = 1 := by kernel_rfl

theorem wf_u8 {n : Int} (h : (Lit.int .u8 n).wf = true) : 0 ≤ n ∧ n < 256 := by
  simp [Lit.wf, IntKind.min, IntKind.max, IntKind.bits, IntKind.signed] at h
  omega
theorem wf_u64 {n : Int} (h : (Lit.int .u64 n).wf = true) : 0 ≤ n ∧ n < 18446744073709551616 := by
  simp [Lit.wf, IntKind.min, IntKind.max, IntKind.bits, IntKind.signed] at h
  omega
theorem wf_i64 {n : Int} (h : (Lit.int .i64 n).wf = true) : -9223372036854775808 ≤ n ∧ n ≤ 9223372036854775807 := by
  simp [Lit.wf, IntKind.min, IntKind.max, IntKind.bits, IntKind.signed] at h
  omega

set_option maxRecDepth 100000 in
theorem open33 {H : Type} {enc : TypeId × Value → H} {W : World} {base : Nat} {v : Value} {d : DataW H} {ps : List MemPlace} (hv : Value.okWide Try.prog W .any base 33 v) (h : DataW.Trod enc Try.prog W 0 (fun _ => true) true 33 v d ps) :
    ∃ (ao : Option Addr) (len cap : Nat) (X : Nat → Nat), v = .slice ao len cap ∧ (ao = none → len = 0 ∧ cap = 0) ∧ len ≤ cap ∧ cap ≤ maxLen ∧ Byt W ao len X ∧ (cap = 0 ∨ ∃ e s, d = .slice e s ∧ e.length + s.length = cap) := by
  obtain ⟨a, len, cap, rfl⟩ := okWide_slice Try.underlying33 hv
  obtain ⟨fuel, hf⟩ := h
  rcases open_ints Try.underlying33 Try.underlying5 cells5 hf with ⟨hcs, _⟩ | ⟨x, l, cp, zs, hcs, _, hl, hm, hz, hd, hc, hwf⟩
  · simp [Value.cells] at hcs
    obtain ⟨rfl, rfl, rfl⟩ := hcs
    exact ⟨none, 0, 0, fun _ => 0, rfl, fun _ => ⟨rfl, rfl⟩, Nat.le_refl _, Nat.zero_le _, fun k hk => absurd hk (by omega), .inl rfl⟩
  · simp [Value.cells] at hcs
    obtain ⟨rfl, rfl, rfl⟩ := hcs
    simp only [if_true] at hz
    refine ⟨some x, len, cap, fun k => (zs.getD k 0).toNat, rfl, (fun e => by cases e), hl, hm, fun k hk => ?_, .inr ⟨_, _, (Prod.mk.inj hd).1, ?_⟩⟩
    · have hk' : k < zs.length := by omega
      have w1 := hwf _ (List.getElem_mem hk')
      have e : zs.getD k 0 = zs[k] := by simp [List.getElem?_eq_getElem hk']
      have hr : 0 ≤ zs[k] ∧ zs[k] < 256 := by
        exact wf_u8 w1
      have hcell := hc k hk'
      obtain ⟨b, off, spot⟩ := x
      have hspot : spot = none := by
        have h0 := hc 0 (by omega)
        simpa [Addr.add] using World.cell?_spot h0
      subst hspot
      rw [Addr.add_lit, e] at hcell
      show (zs.getD k 0).toNat < 256 ∧ ∃ b' off', some (⟨b, off, none⟩ : Addr) = some ⟨b', off', none⟩ ∧ W.cell? ⟨b', off' + k, none⟩ = some (.int .u8 ((zs.getD k 0).toNat : Int))
      rw [e]
      refine ⟨by omega, b, off, rfl, ?_⟩
      rw [hcell]
      congr 2
      omega
    · simp [lits]
      omega
end Go.Proofs.Ytnoackenjfpcmaa

/- How slices of bytes, and slices of slices of bytes, that came in are opened: as lists. -/
namespace Go.Proofs.Ytnoackenjfpcmaa
open Go.ChangeShapes Go.WideShapes Go.ChangeAt Go.RowKit Go.Deep
set_option linter.unusedVariables false

theorem cells33 : Try.prog.cellsOf 33 = 1 := by kernel_rfl
theorem sl_bs {w : World} {ao : Option Addr} {len cap : Nat} {X : Nat → Nat} (h1 : ao = none → len = 0 ∧ cap = 0) (h2 : len ≤ cap) (h3 : cap ≤ maxLen) (h4 : Byt w ao len X) : Sl w ao len cap (bs X len) := by
  refine ⟨bs_length X len, okb_bs h4, h1, h2, h3, fun k hk => ?_⟩
  have e : xof (bs X len) k = X k := by
    unfold xof
    rw [bs_getD X len k hk]
    exact Int.toNat_natCast _
  rw [e]
  exact h4 k hk
end Go.Proofs.Ytnoackenjfpcmaa
