/- The switch of a file: the walk. -/
import Derived.Test.YtligofmcmjblpabPren
namespace Go.Proofs.Ytligofmcmjblpab
open Go.RowKit
set_option linter.unusedVariables false
set_option linter.unusedSimpArgs false

section
variable {D : PD} {B q : Nat} {σ σ' : DS} {w W : World} {v : Int}
theorem one_create (h : One D B q σ w) (hW : W.heap.size = B) (hb : Below B W w) (s : ByteArray) (hs : s.size ≤ 2 ^ 63 - 1) (hl : σ.c.calls < 1048576) (e : σ.create s = (v, σ')) : Calls Try.prog 7 #[.pointer (some ⟨q, 0, none⟩), .string s] w fun e w' => e = .returned (.int .i64 v) ∧ Below B W w' ∧ One D B q σ' w' := by
  obtain ⟨F, r, f⟩ := h.ex
  have hi := h.inv.create hl s
  have := D.create s r h.inv hs
  rw [e] at this hi
  exact this.mono fun e w' ⟨a, b⟩ => ⟨a, one_nx hW hb f hi b⟩
theorem one_append (h : One D B q σ w) (hW : W.heap.size = B) (hb : Below B W w) (s : ByteArray) (ao : Option Addr) (len cap : Nat) (X : Nat → Nat) (hx : Byt W ao len X) (hn : ao = none → len = 0 ∧ cap = 0) (hlen : len ≤ 2000) (hl : σ.c.calls < 1048576) (e : σ.append s (bs X len) = (v, σ')) :
    Calls Try.prog 8 #[.pointer (some ⟨q, 0, none⟩), .string s, .slice ao len cap] w fun e w' => e = .returned (.int .i64 v) ∧ Below B W w' ∧ One D B q σ' w' := by
  obtain ⟨F, r, f⟩ := h.ex
  have hi := h.inv.append hl s _ (okb_bs hx)
  subst hW
  have := D.append s ao len cap X r h.inv (hx.later hb) hn (fun h0 a e hf => by
    obtain ⟨_, b, off, e', hcell⟩ := hx 0 h0
    rw [e] at e'
    simp only [Option.some.injEq] at e'
    subst e'
    have h1 := World.block_lt_of_cell? W _ hcell
    have h2 := f _ hf
    simp only at h1 h2
    omega) (by omega)
  rw [e] at this hi
  exact this.mono fun e w' ⟨a, b⟩ => ⟨a, one_nx rfl hb f hi b⟩
theorem one_sync (h : One D B q σ w) (hW : W.heap.size = B) (hb : Below B W w) (s : ByteArray) (hl : σ.c.calls < 1048576) (e : σ.sync s = (v, σ')) : Calls Try.prog 14 #[.pointer (some ⟨q, 0, none⟩), .string s] w fun e w' => e = .returned (.int .i64 v) ∧ Below B W w' ∧ One D B q σ' w' := by
  obtain ⟨F, r, f⟩ := h.ex
  have hi := h.inv.sync hl s
  have := D.sync s r h.inv
  rw [e] at this hi
  exact this.mono fun e w' ⟨a, b⟩ => ⟨a, one_nx hW hb f hi b⟩
theorem one_rename (h : One D B q σ w) (hW : W.heap.size = B) (hb : Below B W w) (s t : ByteArray) (ht : t.size ≤ 2 ^ 63 - 1) (hl : σ.c.calls < 1048576) (e : σ.rename s t = (v, σ')) : Calls Try.prog 17 #[.pointer (some ⟨q, 0, none⟩), .string s, .string t] w fun e w' => e = .returned (.int .i64 v) ∧ Below B W w' ∧ One D B q σ' w' := by
  obtain ⟨F, r, f⟩ := h.ex
  have hi := h.inv.rename hl s t
  have := D.rename s t r h.inv ht
  rw [e] at this hi
  exact this.mono fun e w' ⟨a, b⟩ => ⟨a, one_nx hW hb f hi b⟩
theorem one_syncDir (h : One D B q σ w) (hW : W.heap.size = B) (hb : Below B W w) (hl : σ.c.calls < 1048576) (e : σ.syncDir = (v, σ')) : Calls Try.prog 15 #[.pointer (some ⟨q, 0, none⟩)] w fun e w' => e = .returned (.int .i64 v) ∧ Below B W w' ∧ One D B q σ' w' := by
  obtain ⟨F, r, f⟩ := h.ex
  have hi := h.inv.syncDir hl
  have := D.syncDir r h.inv
  rw [e] at this hi
  exact this.mono fun e w' ⟨a, b⟩ => ⟨a, one_nx hW hb f hi b⟩
theorem one_crashP (h : One D B q σ w) (hW : W.heap.size = B) (hb : Below B W w) (po : Option Addr) (pl pc : Nat) (P : Nat → Int) (hp : Ints W po pl P) (hl : pl ≤ pc ∧ pc ≤ 2 ^ 63 - 1) :
    Calls Try.prog 18 #[.pointer (some ⟨q, 0, none⟩), .slice po pl pc] w fun e w' => e = .returned (.tuple #[]) ∧ Below B W w' ∧ One D B q (σ.crash (is P pl)) w' := by
  obtain ⟨F, r, f⟩ := h.ex
  subst hW
  have := D.crash po pl pc P r h.inv (hp.later hb) (fun h0 a e hf => by
    obtain ⟨_, b, off, e', hcell⟩ := hp 0 h0
    rw [e] at e'
    simp only [Option.some.injEq] at e'
    subst e'
    have h1 := World.block_lt_of_cell? W _ hcell
    have h2 := f _ hf
    simp only at h1 h2
    omega) hl
  exact this.mono fun e w' ⟨a, b⟩ => ⟨a, one_nx rfl hb f (h.inv.crash _) b⟩
end
def fl0 : Nat → List Int × Nat := fun _ => ([], 0)
theorem calls_mk {d : List Ent} {ws : List (List Ent)} {fl : Nat → List Int × Nat} {nx : Nat} {c : Cn} (h : c.calls < 1048576) : (mk d ws fl nx c).c.calls < 1048576 := h
def fl3 (O : List Int) : Nat → List Int × Nat := upd (upd (upd fl0 0 ([], 0)) 0 (O, 0)) 0 (O, O.length)

set_option maxHeartbeats 4000000 in
set_option maxRecDepth 100000 in
theorem renames_any (D : PD) (oo yo po : Option Addr) (ol oc yl yc pl pc : Nat) (X Z : Nat → Nat) (P : Nat → Int) (fu : Int) (w : World) (hX : Byt w oo ol X) (hZ : Byt w yo yl Z) (hP : Ints w po pl P) (nX : oo = none → ol = 0 ∧ oc = 0) (nZ : yo = none → yl = 0 ∧ yc = 0) (hol : ol ≤ 2 ^ 63 - 1) (hyl : yl ≤ 2 ^ 63 - 1) (hpl : pl ≤ pc ∧ pc ≤ 2 ^ 63 - 1) :
    Calls Try.prog 4 #[.slice oo ol oc, .slice yo yl yc, .int .i64 fu, .slice po pl pc] w fun e w' => e = .returned (.bool true) ∧ Below w.heap.size w w' := by
  have HA : Hid (∀ w1, Calls Try.prog 12 #[] w1 fun e w' => e = .returned (.bool true) ∧ Below w1.heap.size w1 w') := fun w1 => awake_any D w1
  by_cases h1 : 2000 < ol
  · have d1 : decide ((2000 : Int) < (ol : Int)) = true := decide_eq_true (by omega)
    clear hX hZ hP
    go_enter Try.func4, Try.ntmps4
    go_wp2_with (go_at_call 12; refine (HA.out _).mono ?_; rintro e w1 ⟨rfl, b1⟩)
    go_ret
    exact ⟨rfl, b1⟩
  have d1 : decide ((2000 : Int) < (ol : Int)) = false := decide_eq_false (by omega)
  by_cases h2 : 2000 < yl
  · have d2 : decide ((2000 : Int) < (yl : Int)) = true := decide_eq_true (by omega)
    clear hX hZ hP
    go_enter Try.func4, Try.ntmps4
    go_wp2_with (go_at_call 12; refine (HA.out _).mono ?_; rintro e w1 ⟨rfl, b1⟩)
    go_ret
    exact ⟨rfl, b1⟩
  have d2 : decide ((2000 : Int) < (yl : Int)) = false := decide_eq_false (by omega)
  have hO : (bs X ol).length ≤ 2000 := by rw [bs_length]; omega
  have hY : (bs Z yl).length ≤ 2000 := by rw [bs_length]; omega
  have HXZ := Hid.intro (And.intro hX (And.intro hZ (And.intro hP (And.intro nX (And.intro nZ hpl)))))
  have HST : Hid (∀ wx, Below w.heap.size w wx → (convert 27 9 (.slice oo ol oc)).run Try.prog wx = .ok (.string (strOfNums (bs X ol))) wx ∧ (convert 27 9 (.slice yo yl yc)).run Try.prog wx = .ok (.string (strOfNums (bs Z yl))) wx) := fun wx hb => ⟨run_str (hX.later hb) nX, run_str (hZ.later hb) nZ⟩
  obtain ⟨F, hF⟩ := Int.eq_ofNat_of_zero_le (show 0 ≤ (IntKind.u64.wrap fu).tmod 8 from Int.tmod_nonneg _ (by rw [wrapU']; omega))
  have lF : F < 8 := by have := Int.tmod_lt_of_pos (IntKind.u64.wrap fu) (b := 8) (by decide); omega
  have k0 := D.new 1048576 w (by decide) (by decide)
  have HOL : Hid (ol ≤ 2000 ∧ yl ≤ 2000) := ⟨by omega, by omega⟩
  obtain ⟨O, hOe⟩ : ∃ O, O = bs X ol := ⟨_, rfl⟩
  obtain ⟨Y, hYe⟩ : ∃ Y, Y = bs Z yl := ⟨_, rfl⟩
  rw [← hOe] at hO HST
  rw [← hYe] at hY HST
  have HE := Hid.intro (And.intro hOe hYe)
  unfold ptr at k0
  clear hX hZ hP nX nZ h1 h2 hOe hYe
  go_enter Try.func4, Try.ntmps4
  go_upto_region 6 with (first | (go_at_call 6; refine k0.mono ?_; rintro e w1 ⟨q, G, rfl, r1, f1, b1⟩; have O1 : One D w.heap.size q (mk [] [[]] fl0 0 ⟨0, 0, 0, 0, false⟩) w1 := ⟨⟨G, r1, f1⟩, Inv.new 1048576 (by decide)⟩) | (go_at_call 7; refine (one_create (W := w) (v := 0) O1 rfl b1 sC (by decide) (by decide) (n_create rfl)).mono ?_; rintro e w2 ⟨rfl, b2, O2⟩) | (go_at_call 8; refine (one_append (W := w) (v := 0) O2 rfl b2 sC oo ol oc X HXZ.out.1 HXZ.out.2.2.2.1 HOL.out.1 (by decide) (by rw [← HE.out.1]; exact n_append rfl _ _ rfl hO)).mono ?_; rintro e w3 ⟨rfl, b3, O3⟩) | (go_at_call 14; refine (one_sync (W := w) (v := 0) O3 rfl b3 sC (calls_mk (by decide)) (n_sync rfl rfl _)).mono ?_; rintro e w4 ⟨rfl, b4, O4⟩) | (go_at_call 15; refine (one_syncDir (W := w) (v := 0) O4 rfl b4 (calls_mk (by decide)) (n_syncDir rfl rfl _ _ _)).mono ?_; rintro e w5 ⟨rfl, b5, O5⟩))
  have kf := one_fuse O5 rfl b5 (F : Int) (by omega) (by omega)
  go_upto_region 7 with (go_at_call 16; refine kf.mono ?_; rintro e w6 ⟨rfl, b6, O6⟩)
  go_cut [10] from 48 to 71 (fun s10 wx => ∃ (b : Bool) (σ : DS), s10 = .bool b ∧ Hid (Below w.heap.size w wx ∧ One D w.heap.size q σ wx ∧ Fin O Y b σ))
  case first =>
    clear k0 kf r1 f1 O1 O2 O3 O4 O5 hF
    have hF8 : F = 0 ∨ F = 1 ∨ F = 2 ∨ F = 3 ∨ F = 4 ∨ F = 5 ∨ F = 6 ∨ F = 7 := by omega
    rcases hF8 with rfl | rfl | rfl | rfl | rfl | rfl | rfl | rfl
    · have O6 : One D w.heap.size q (mk [(sC, 0)] [[(sC, 0)]] (fl3 O) 1 ⟨4, 0, 0, 0, false⟩) w6 := O6
      go_wp2_with (first | (go_at_call 7; refine (one_create (W := w) (v := 0) O6 rfl b6 sT (by decide) (calls_mk (by decide)) (t_create rfl)).mono ?_; rintro e w7 ⟨rfl, b7, O7⟩) | (go_at_call 8; refine (one_append (W := w) (v := 0) O7 rfl b7 sT yo yl yc Z HXZ.out.2.1 HXZ.out.2.2.2.2.1 HOL.out.2 (calls_mk (by decide)) (by rw [← HE.out.2]; exact t_append rfl _ _ rfl hO hY)).mono ?_; rintro e w8 ⟨rfl, b8, O8⟩) | (go_at_call 14; refine (one_sync (W := w) (v := 0) O8 rfl b8 sT (calls_mk (by decide)) (t_sync rfl rfl _)).mono ?_; rintro e w9 ⟨rfl, b9, O9⟩) | (go_at_call 17; refine (one_rename (W := w) (v := 0) O9 rfl b9 sT sC (by decide) (calls_mk (by decide)) (t_rename rfl _)).mono ?_; rintro e w10 ⟨rfl, b10, O10⟩) | (go_at_call 15; refine (one_syncDir (W := w) (v := 0) O10 rfl b10 (calls_mk (by decide)) (n_syncDir rfl rfl _ _ _)).mono ?_; rintro e w11 ⟨rfl, b11, O11⟩))
      go_meet
      exact ⟨true, _, rfl, b11, O11, fin1 rfl _⟩
    · have O6 : One D w.heap.size q (mk [(sC, 0)] [[(sC, 0)]] (fl3 O) 1 ⟨4, 1, 0, 0, false⟩) w6 := O6
      go_wp2_with (first | (go_at_call 7; refine (one_create (W := w) (v := 10) O6 rfl b6 sT (by decide) (calls_mk (by decide)) (t_create rfl)).mono ?_; rintro e w7 ⟨rfl, b7, O7⟩) | (go_at_call 8; refine (one_append (W := w) (v := 0) O7 rfl b7 sT yo yl yc Z HXZ.out.2.1 HXZ.out.2.2.2.2.1 HOL.out.2 (calls_mk (by decide)) (by rw [← HE.out.2]; exact t_append rfl _ _ rfl hO hY)).mono ?_; rintro e w8 ⟨rfl, b8, O8⟩) | (go_at_call 14; refine (one_sync (W := w) (v := 0) O8 rfl b8 sT (calls_mk (by decide)) (t_sync rfl rfl _)).mono ?_; rintro e w9 ⟨rfl, b9, O9⟩) | (go_at_call 17; refine (one_rename (W := w) (v := 0) O9 rfl b9 sT sC (by decide) (calls_mk (by decide)) (t_rename rfl _)).mono ?_; rintro e w10 ⟨rfl, b10, O10⟩) | (go_at_call 15; refine (one_syncDir (W := w) (v := 0) O10 rfl b10 (calls_mk (by decide)) (n_syncDir rfl rfl _ _ _)).mono ?_; rintro e w11 ⟨rfl, b11, O11⟩))
      go_meet
      exact ⟨false, _, rfl, b7, O7, fin2 rfl _ _ rfl⟩
    · have O6 : One D w.heap.size q (mk [(sC, 0)] [[(sC, 0)]] (fl3 O) 1 ⟨4, 2, 0, 0, false⟩) w6 := O6
      go_wp2_with (first | (go_at_call 7; refine (one_create (W := w) (v := 0) O6 rfl b6 sT (by decide) (calls_mk (by decide)) (t_create rfl)).mono ?_; rintro e w7 ⟨rfl, b7, O7⟩) | (go_at_call 8; refine (one_append (W := w) (v := 10) O7 rfl b7 sT yo yl yc Z HXZ.out.2.1 HXZ.out.2.2.2.2.1 HOL.out.2 (calls_mk (by decide)) (by rw [← HE.out.2]; exact t_append rfl _ _ rfl hO hY)).mono ?_; rintro e w8 ⟨rfl, b8, O8⟩) | (go_at_call 14; refine (one_sync (W := w) (v := 0) O8 rfl b8 sT (calls_mk (by decide)) (t_sync rfl rfl _)).mono ?_; rintro e w9 ⟨rfl, b9, O9⟩) | (go_at_call 17; refine (one_rename (W := w) (v := 0) O9 rfl b9 sT sC (by decide) (calls_mk (by decide)) (t_rename rfl _)).mono ?_; rintro e w10 ⟨rfl, b10, O10⟩) | (go_at_call 15; refine (one_syncDir (W := w) (v := 0) O10 rfl b10 (calls_mk (by decide)) (n_syncDir rfl rfl _ _ _)).mono ?_; rintro e w11 ⟨rfl, b11, O11⟩))
      go_meet
      exact ⟨false, _, rfl, b8, O8, fin2 rfl _ _ rfl⟩
    · have O6 : One D w.heap.size q (mk [(sC, 0)] [[(sC, 0)]] (fl3 O) 1 ⟨4, 3, 0, 0, false⟩) w6 := O6
      go_wp2_with (first | (go_at_call 7; refine (one_create (W := w) (v := 0) O6 rfl b6 sT (by decide) (calls_mk (by decide)) (t_create rfl)).mono ?_; rintro e w7 ⟨rfl, b7, O7⟩) | (go_at_call 8; refine (one_append (W := w) (v := 0) O7 rfl b7 sT yo yl yc Z HXZ.out.2.1 HXZ.out.2.2.2.2.1 HOL.out.2 (calls_mk (by decide)) (by rw [← HE.out.2]; exact t_append rfl _ _ rfl hO hY)).mono ?_; rintro e w8 ⟨rfl, b8, O8⟩) | (go_at_call 14; refine (one_sync (W := w) (v := 10) O8 rfl b8 sT (calls_mk (by decide)) (t_syncD rfl rfl _)).mono ?_; rintro e w9 ⟨rfl, b9, O9⟩) | (go_at_call 17; refine (one_rename (W := w) (v := 0) O9 rfl b9 sT sC (by decide) (calls_mk (by decide)) (t_rename rfl _)).mono ?_; rintro e w10 ⟨rfl, b10, O10⟩) | (go_at_call 15; refine (one_syncDir (W := w) (v := 0) O10 rfl b10 (calls_mk (by decide)) (n_syncDir rfl rfl _ _ _)).mono ?_; rintro e w11 ⟨rfl, b11, O11⟩))
      go_meet
      exact ⟨false, _, rfl, b9, O9, fin2 rfl _ _ rfl⟩
    · have O6 : One D w.heap.size q (mk [(sC, 0)] [[(sC, 0)]] (fl3 O) 1 ⟨4, 4, 0, 0, false⟩) w6 := O6
      go_wp2_with (first | (go_at_call 7; refine (one_create (W := w) (v := 0) O6 rfl b6 sT (by decide) (calls_mk (by decide)) (t_create rfl)).mono ?_; rintro e w7 ⟨rfl, b7, O7⟩) | (go_at_call 8; refine (one_append (W := w) (v := 0) O7 rfl b7 sT yo yl yc Z HXZ.out.2.1 HXZ.out.2.2.2.2.1 HOL.out.2 (calls_mk (by decide)) (by rw [← HE.out.2]; exact t_append rfl _ _ rfl hO hY)).mono ?_; rintro e w8 ⟨rfl, b8, O8⟩) | (go_at_call 14; refine (one_sync (W := w) (v := 0) O8 rfl b8 sT (calls_mk (by decide)) (t_sync rfl rfl _)).mono ?_; rintro e w9 ⟨rfl, b9, O9⟩) | (go_at_call 17; refine (one_rename (W := w) (v := 10) O9 rfl b9 sT sC (by decide) (calls_mk (by decide)) (t_rename rfl _)).mono ?_; rintro e w10 ⟨rfl, b10, O10⟩) | (go_at_call 15; refine (one_syncDir (W := w) (v := 0) O10 rfl b10 (calls_mk (by decide)) (n_syncDir rfl rfl _ _ _)).mono ?_; rintro e w11 ⟨rfl, b11, O11⟩))
      go_meet
      exact ⟨false, _, rfl, b10, O10, fin3 rfl rfl _ _ rfl⟩
    · have O6 : One D w.heap.size q (mk [(sC, 0)] [[(sC, 0)]] (fl3 O) 1 ⟨4, 5, 0, 0, false⟩) w6 := O6
      go_wp2_with (first | (go_at_call 7; refine (one_create (W := w) (v := 0) O6 rfl b6 sT (by decide) (calls_mk (by decide)) (t_create rfl)).mono ?_; rintro e w7 ⟨rfl, b7, O7⟩) | (go_at_call 8; refine (one_append (W := w) (v := 0) O7 rfl b7 sT yo yl yc Z HXZ.out.2.1 HXZ.out.2.2.2.2.1 HOL.out.2 (calls_mk (by decide)) (by rw [← HE.out.2]; exact t_append rfl _ _ rfl hO hY)).mono ?_; rintro e w8 ⟨rfl, b8, O8⟩) | (go_at_call 14; refine (one_sync (W := w) (v := 0) O8 rfl b8 sT (calls_mk (by decide)) (t_sync rfl rfl _)).mono ?_; rintro e w9 ⟨rfl, b9, O9⟩) | (go_at_call 17; refine (one_rename (W := w) (v := 0) O9 rfl b9 sT sC (by decide) (calls_mk (by decide)) (t_rename rfl _)).mono ?_; rintro e w10 ⟨rfl, b10, O10⟩) | (go_at_call 15; refine (one_syncDir (W := w) (v := 10) O10 rfl b10 (calls_mk (by decide)) (n_syncDirD rfl rfl _ _ _)).mono ?_; rintro e w11 ⟨rfl, b11, O11⟩))
      go_meet
      exact ⟨false, _, rfl, b11, O11, fin3 rfl rfl _ _ rfl⟩
    · have O6 : One D w.heap.size q (mk [(sC, 0)] [[(sC, 0)]] (fl3 O) 1 ⟨4, 6, 0, 0, false⟩) w6 := O6
      go_wp2_with (first | (go_at_call 7; refine (one_create (W := w) (v := 0) O6 rfl b6 sT (by decide) (calls_mk (by decide)) (t_create rfl)).mono ?_; rintro e w7 ⟨rfl, b7, O7⟩) | (go_at_call 8; refine (one_append (W := w) (v := 0) O7 rfl b7 sT yo yl yc Z HXZ.out.2.1 HXZ.out.2.2.2.2.1 HOL.out.2 (calls_mk (by decide)) (by rw [← HE.out.2]; exact t_append rfl _ _ rfl hO hY)).mono ?_; rintro e w8 ⟨rfl, b8, O8⟩) | (go_at_call 14; refine (one_sync (W := w) (v := 0) O8 rfl b8 sT (calls_mk (by decide)) (t_sync rfl rfl _)).mono ?_; rintro e w9 ⟨rfl, b9, O9⟩) | (go_at_call 17; refine (one_rename (W := w) (v := 0) O9 rfl b9 sT sC (by decide) (calls_mk (by decide)) (t_rename rfl _)).mono ?_; rintro e w10 ⟨rfl, b10, O10⟩) | (go_at_call 15; refine (one_syncDir (W := w) (v := 0) O10 rfl b10 (calls_mk (by decide)) (n_syncDir rfl rfl _ _ _)).mono ?_; rintro e w11 ⟨rfl, b11, O11⟩))
      go_meet
      exact ⟨true, _, rfl, b11, O11, fin1 rfl _⟩
    · have O6 : One D w.heap.size q (mk [(sC, 0)] [[(sC, 0)]] (fl3 O) 1 ⟨4, 7, 0, 0, false⟩) w6 := O6
      go_wp2_with (first | (go_at_call 7; refine (one_create (W := w) (v := 0) O6 rfl b6 sT (by decide) (calls_mk (by decide)) (t_create rfl)).mono ?_; rintro e w7 ⟨rfl, b7, O7⟩) | (go_at_call 8; refine (one_append (W := w) (v := 0) O7 rfl b7 sT yo yl yc Z HXZ.out.2.1 HXZ.out.2.2.2.2.1 HOL.out.2 (calls_mk (by decide)) (by rw [← HE.out.2]; exact t_append rfl _ _ rfl hO hY)).mono ?_; rintro e w8 ⟨rfl, b8, O8⟩) | (go_at_call 14; refine (one_sync (W := w) (v := 0) O8 rfl b8 sT (calls_mk (by decide)) (t_sync rfl rfl _)).mono ?_; rintro e w9 ⟨rfl, b9, O9⟩) | (go_at_call 17; refine (one_rename (W := w) (v := 0) O9 rfl b9 sT sC (by decide) (calls_mk (by decide)) (t_rename rfl _)).mono ?_; rintro e w10 ⟨rfl, b10, O10⟩) | (go_at_call 15; refine (one_syncDir (W := w) (v := 0) O10 rfl b10 (calls_mk (by decide)) (n_syncDir rfl rfl _ _ _)).mono ?_; rintro e w11 ⟨rfl, b11, O11⟩))
      go_meet
      exact ⟨true, _, rfl, b11, O11, fin1 rfl _⟩
  case rest =>
    obtain ⟨b, σ, rfl, HT⟩ := hcut
    have kr := one_crashP HT.out.2.1 rfl HT.out.1 po pl pc P HXZ.out.2.2.1 HXZ.out.2.2.2.2.2
    have hfi := HT.out.2.2 (is P pl)
    have kR : ∀ {wx}, One D w.heap.size q (σ.crash (is P pl)) wx → Calls Try.prog 9 #[.pointer (some ⟨q, 0, none⟩), .string ⟨#[99]⟩] wx fun e w' => ∃ v, e = .returned (.tuple #[v, .int .i64 ((σ.crash (is P pl)).read sC).2]) ∧ BytR w' v (((σ.crash (is P pl)).read sC).1.getD []) ∧ Below wx.heap.size wx w' := fun h => by
      obtain ⟨G, r, _⟩ := h.ex
      exact D.read sC r h.inv
    clear k0 kf r1 f1 O1 O2 O3 O4 O5 O6 hF HT
    rcases hfi with hfi | ⟨rfl, hfi⟩
    · rw [hfi] at kR
      simp only [Option.getD_some] at kR
      cases b with
      | true =>
        go_wp2_with (first | (go_at_call 18; refine kr.mono ?_; rintro e w7 ⟨rfl, b7, O7⟩) | (go_at_call 9; refine (kR O7).mono ?_; rintro e w8 ⟨v8, rfl, s8, c8⟩; obtain ⟨o1, o2, o3, rfl, t8⟩ := s8.str; have u8 := t8 _ (Below.refl _ _); have B8 : Below w.heap.size w w8 := b7.trans (c8.mono b7.size); obtain ⟨u9, u10⟩ := HST.out _ B8) | (go_at_call 12; refine (HA.out _).mono ?_; rintro e w9 ⟨rfl, b9⟩))
        go_ret
        exact ⟨rfl, B8.trans (b9.mono B8.size)⟩
      | false =>
        by_cases hq : ((strOfNums Y).toList == (strOfNums O).toList) = true
        · go_wp2_with (first | (go_at_call 18; refine kr.mono ?_; rintro e w7 ⟨rfl, b7, O7⟩) | (go_at_call 9; refine (kR O7).mono ?_; rintro e w8 ⟨v8, rfl, s8, c8⟩; obtain ⟨o1, o2, o3, rfl, t8⟩ := s8.str; have u8 := t8 _ (Below.refl _ _); have B8 : Below w.heap.size w w8 := b7.trans (c8.mono b7.size); obtain ⟨u9, u10⟩ := HST.out _ B8) | (go_at_call 12; refine (HA.out _).mono ?_; rintro e w9 ⟨rfl, b9⟩))
          go_ret
          exact ⟨rfl, B8.trans (b9.mono B8.size)⟩
        · have hq' : ((strOfNums Y).toList == (strOfNums O).toList) = false := by simpa using hq
          clear hq
          go_wp2_with (first | (go_at_call 18; refine kr.mono ?_; rintro e w7 ⟨rfl, b7, O7⟩) | (go_at_call 9; refine (kR O7).mono ?_; rintro e w8 ⟨v8, rfl, s8, c8⟩; obtain ⟨o1, o2, o3, rfl, t8⟩ := s8.str; have u8 := t8 _ (Below.refl _ _); have B8 : Below w.heap.size w w8 := b7.trans (c8.mono b7.size); obtain ⟨u9, u10⟩ := HST.out _ B8) | (go_at_call 12; refine (HA.out _).mono ?_; rintro e w9 ⟨rfl, b9⟩))
          go_ret
          exact ⟨rfl, B8.trans (b9.mono B8.size)⟩
    · rw [hfi] at kR
      simp only [Option.getD_some] at kR
      go_wp2_with (first | (go_at_call 18; refine kr.mono ?_; rintro e w7 ⟨rfl, b7, O7⟩) | (go_at_call 9; refine (kR O7).mono ?_; rintro e w8 ⟨v8, rfl, s8, c8⟩; obtain ⟨o1, o2, o3, rfl, t8⟩ := s8.str; have u8 := t8 _ (Below.refl _ _); have B8 : Below w.heap.size w w8 := b7.trans (c8.mono b7.size); obtain ⟨u9, u10⟩ := HST.out _ B8) | (go_at_call 12; refine (HA.out _).mono ?_; rintro e w9 ⟨rfl, b9⟩))
      go_ret
      exact ⟨rfl, B8.trans (b9.mono B8.size)⟩
end Go.Proofs.Ytligofmcmjblpab
