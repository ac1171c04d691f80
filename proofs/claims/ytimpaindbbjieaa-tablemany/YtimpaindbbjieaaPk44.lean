import Derived.SizedLaws
import Derived.ChangeSlices
import Derived.Carry
import Derived.Deep.Matrix
import Derived.Test.YtimpaindbbjieaaPk01
import Derived.Test.YtimpaindbbjieaaPk03
import Derived.Test.YtimpaindbbjieaaPk17
import Derived.Test.YtimpaindbbjieaaPk39
import Derived.Test.YtimpaindbbjieaaPk41
import Derived.Test.YtimpaindbbjieaaPk43
/- The landed table: that it is awake; a table that there is not. -/
namespace Go.Proofs.Ytimpaindbbjieaa
open Go.RowKit
set_option linter.unusedVariables false
set_option linter.unusedSimpArgs false

/-- : what is asked of a program's tables at the least. -/
structure PTA where
  R : World → Nat → List EntV → Prop
  later : ∀ {w w' : World} {p : Nat} {l : List EntV}, R w p l → Below w.heap.size w w' → R w' p l
  build : ∀ {w : World} {ao : Option Addr} {len cap : Nat} {l : List EntV}, RS entE w ao len cap l → len ≤ 4010 → (∀ e ∈ l, e.key.length ≤ 3000 ∧ e.val.length ≤ 3000) → Calls Try.prog 9 #[.slice ao len cap] w fun e w' => ∃ v, e = .returned (.tuple #[v, .int .i64 ((tblE l : Nat) : Int)]) ∧ SlV w' v (tblX l) ∧ Below w.heap.size w w'
  opn : ∀ {w : World} {ao : Option Addr} {len cap : Nat} {b : List Int}, Sl w ao len cap b → len ≤ 5000000 → Calls Try.prog 12 #[.slice ao len cap] w fun e w' => ∃ (v : Value) (E : Nat), e = .returned (.tuple #[v, .int .i64 (E : Int)]) ∧ (E = 0 ↔ (opT tkD b).1 = 0) ∧ (E ≠ 0 → v = .pointer none) ∧ (E = 0 → ∃ p, v = pm p ∧ R w' p (opT tkD b).2) ∧ Below w.heap.size w w'
  len : ∀ {w : World} {p : Nat} {l : List EntV}, R w p l → Calls Try.prog 16 #[pm p] w fun r w' => r = .returned (.int .i64 (l.length : Nat)) ∧ Below w.heap.size w w'
  most : ∀ {w : World} {p : Nat} {l : List EntV}, R w p l → Calls Try.prog 18 #[pm p] w fun r w' => ∃ v, r = .returned v ∧ SlV w' v (lastK [] l) ∧ Below w.heap.size w w'
set_option maxHeartbeats 1000000 in
set_option maxRecDepth 100000 in
theorem awake12_a (D : PTA) (w : World) : Calls Try.prog 8 #[] w fun e w' => e = .returned (.bool true) ∧ Below w.heap.size w w' := by
  have hcv2 : ∀ (w : World) X, (convert 25 25 (.slice (some ⟨w.heap.size + 1, 0, none⟩) 1 1)).run Try.prog ((w.alloc X).alloc (.cells #[.int .u8 120] 5)) = .ok (.slice (some ⟨w.heap.size + 1, 0, none⟩) 1 1) ((w.alloc X).alloc (.cells #[.int .u8 120] 5 (1, 2))) := fun w X => by
    have := Lib.run_convert_bytes_const (P := Try.prog) (w.alloc X) 25 5 #[.int .u8 120] 1 1 Try.underlying25 Try.underlying5
    simpa using this
  have hcv := fun (w : World) a l c => Lib.run_convert_bytes_const (P := Try.prog) w 25 5 a l c Try.underlying25 Try.underlying5
  obtain ⟨W3, hW3⟩ : ∃ W, W = (w.alloc (.cells #[.int .u8 97] 5 (1, 2))).alloc (.cells #[.int .u8 120] 5 (1, 2)) := ⟨_, rfl⟩
  have b2 : Below w.heap.size w W3 := by rw [hW3]; exact ((Below.refl _ w).alloc (Nat.le_refl _) _).alloc (by simp) _
  have s1 : Sl W3 (some ⟨w.heap.size, 0, none⟩) 1 1 [97] := by rw [hW3]; exact (sl_byte w 97 (by decide)).later ((Below.refl _ _).alloc (Nat.le_refl _) _)
  have s2 : Sl W3 (some ⟨w.heap.size + 1, 0, none⟩) 1 1 [120] := by
    have := sl_byte (w.alloc (.cells #[.int .u8 97] 5 (1, 2))) 120 (by decide)
    rw [hW3]
    simpa using this
  have hM : entE.M W3 [.slice (some ⟨w.heap.size, 0, none⟩) 1 1, .int .i64 1, .bool false, .int .i64 0, .slice (some ⟨w.heap.size + 1, 0, none⟩) 1 1] eT := ⟨_, 1, _, 1, rfl, s1, s2, ⟨by decide, by decide⟩, ⟨by decide, by decide⟩⟩
  have hone := rs_one hM
  obtain ⟨L, hL⟩ : ∃ L, L = [eT] := ⟨_, rfl⟩
  rw [← hL] at hone
  have t1 : tblE L = 0 := by rw [hL]; exact tbl_t
  have t2 : ∀ e ∈ L, OkE e := by rw [hL]; exact ok_t
  have t3 : ∀ e ∈ L, e.key.length ≤ 3000 ∧ e.val.length ≤ 3000 := by rw [hL]; exact fun e he => by rw [List.mem_singleton.1 he]; exact ⟨by decide, by decide⟩
  have t4 : L.length = 1 := by rw [hL]; rfl
  have t5 : lastK [] L = [97] := by rw [hL]; rfl
  clear hL
  have hp := D.build ⟨_, hone⟩ (by decide) t3
  have hX : tblX L = tblB L := by unfold tblX; rw [if_pos t1]
  rw [t1, hX] at hp
  have hsz : W3.heap.size = w.heap.size + 2 := by rw [hW3]; simp
  have HB : Hid (Below w.heap.size w (W3.alloc (.cells #[.slice (some ⟨w.heap.size, 0, none⟩) 1 1, .int .i64 1, .bool false, .int .i64 0, .slice (some ⟨w.heap.size + 1, 0, none⟩) 1 1] 34))) := b2.alloc b2.size _
  have ho := opT_of_tbl t1 t2
  have hbl := (tblE_ok t1).2.2.2.2
  obtain ⟨X, hXX⟩ : ∃ X, X = tblB L := ⟨_, rfl⟩
  rw [← hXX] at hp ho hbl
  obtain ⟨N, hN⟩ : ∃ n, n = X.length := ⟨_, rfl⟩
  have HN : Hid (N = X.length ∧ N ≤ 4194304) := ⟨hN, by rw [hN]; exact hbl⟩
  have HOP : Hid (∀ {wx : World} {a : Option Addr} {c : Nat}, Sl wx a N c X → Calls Try.prog 12 #[.slice a N c] wx fun e w' => ∃ p, e = .returned (.tuple #[.pointer (some ⟨p, 0, none⟩), .int .i64 0]) ∧ D.R w' p L ∧ Below wx.heap.size wx w') := fun {wx a c} hs => (D.opn hs (by have := HN.out.2; omega)).mono fun e w' ⟨v, E, he, h1, h2, h3, h4⟩ => by
    rw [ho] at h1 h3
    have hE := h1.2 rfl
    obtain ⟨p, hv, hR⟩ := h3 hE
    exact ⟨p, by rw [he, hE, hv]; rfl, hR, h4⟩
  have HT : Hid (L.length = 1 ∧ lastK [] L = [97]) := ⟨t4, t5⟩
  clear t1 t2 t3 t4 t5 ho hbl hXX
  rw [hsz] at hp
  rw [hW3] at hp HB
  clear hM hone b2 s1 s2 hsz hW3 hX hN
  go_enter Try.func8, Try.ntmps8
  go_upto_region 2 with (go_at_call 9; refine hp.mono ?_; rintro e w1 ⟨v1, rfl, ⟨a1, c1, hv1, s1⟩, b1⟩; rw [← HN.out.1] at hv1 s1; subst hv1)
  have ho := HOP.out s1
  have HB1 := hid (HB.out.trans (b1.mono HB.out.size))
  clear hp s1 b1 hcv hcv2 HB
  go_upto_region 3 with (go_at_call 12; refine ho.mono ?_; rintro e w2 ⟨p, rfl, hR, b2⟩)
  have HB2 := hid (HB1.out.trans (b2.mono HB1.out.size))
  have hl := D.len hR
  rw [HT.out.1] at hl
  have HMO : Hid (∀ wx, Below w2.heap.size w2 wx → Calls Try.prog 18 #[.pointer (some ⟨p, 0, none⟩)] wx fun r w' => ∃ a c, r = .returned (.slice a 1 c) ∧ Sl w' a 1 c [97] ∧ Below wx.heap.size wx w') := fun wx hb => (D.most (D.later hR hb)).mono fun e w' ⟨v, he, ⟨a, c, hv, hs⟩, hb'⟩ => by
    rw [HT.out.2] at hv hs
    exact ⟨a, c, by rw [he, hv]; rfl, hs, hb'⟩
  unfold pm at hl
  clear ho hR b2
  go_wp2_with (first | (go_at_call 16; refine hl.mono ?_; rintro e w3 ⟨rfl, b3⟩) | (go_at_call 18; refine (HMO.out _ b3).mono ?_; rintro e w4 ⟨a4, c4, rfl, s4, b4⟩; have hst := str_l s4; rw [show strOfNums [97] = ⟨#[97]⟩ from rfl] at hst))
  exact bodyPost_ret (v := .bool true) (by simp [results, Try.results8, go_sem]) rfl ⟨rfl, (HB2.out.trans (b3.mono HB2.out.size)).trans (b4.mono (Nat.le_trans HB2.out.size b3.size))⟩

set_option maxHeartbeats 1000000 in
set_option maxRecDepth 100000 in
theorem nil12_a (D : PTA) (N : PTN) {w : World} {ka : Option Addr} {kl kc : Nat} {key : List Int} {s : Int} (hk : Sl w ka kl kc key) (hs : In64 s) :
    Calls Try.prog 5 #[.slice ka kl kc, .int .i64 s] w fun e w' => e = .returned (.bool true) ∧ Below w.heap.size w w' := by
  have hg := N.get hk hs
  have HAW : Hid (∀ wx, Calls Try.prog 8 #[] wx fun e w' => e = .returned (.bool true) ∧ Below wx.heap.size wx w') := fun wx => awake12_a D wx
  have HL : Hid (∀ wx : World, Calls Try.prog 16 #[.pointer none] wx fun r w' => r = .returned (.int .i64 0) ∧ Below wx.heap.size wx w') := fun wx => N.len
  have HLE : Hid (∀ wx : World, Calls Try.prog 17 #[.pointer none] wx fun r w' => ∃ a c, r = .returned (.slice a 0 c) ∧ Below wx.heap.size wx w') := fun wx => N.least
  have HMO : Hid (∀ wx : World, Calls Try.prog 18 #[.pointer none] wx fun r w' => ∃ a c, r = .returned (.slice a 0 c) ∧ Below wx.heap.size wx w') := fun wx => N.most
  have HMA : Hid (∀ wx : World, Below w.heap.size w wx → Calls Try.prog 23 #[.pointer none, .slice ka kl kc] wx fun r w' => r = .returned (.bool false) ∧ Below wx.heap.size wx w') := fun wx hb => N.may (hk.later hb)
  have HAL : Hid (∀ wx : World, Calls Try.prog 26 #[.pointer none] wx fun r w' => ∃ a c, r = .returned (.slice a 0 c) ∧ Below wx.heap.size wx w') := fun wx => N.all
  have HLI : Hid (∀ wx : World, Below w.heap.size w wx → Calls Try.prog 21 #[.pointer none, .slice ka kl kc, .slice none 0 0] wx fun r w' => ∃ a c, r = .returned (.slice a 0 c) ∧ Below wx.heap.size wx w') := fun wx hb => N.list (hk.later hb) (Sl.nil _)
  unfold ent0 at hg
  clear hk hs
  go_enter Try.func5, Try.ntmps5
  go_upto_region 3 with (go_at_call 13; refine hg.mono ?_; rintro e w1 ⟨rfl, b1⟩)
  have B1 : Below w.heap.size w (w1.alloc (.cells #[.slice none 0 0, .int .i64 0, .bool false, .int .i64 0, .slice none 0 0] 34)) := b1.alloc b1.size _
  clear hg
  go_wp2_with (first | (go_at_call 16; refine (HL.out _).mono ?_; rintro e w2 ⟨rfl, b2⟩; have B2 := B1.trans (b2.mono B1.size)) | (go_at_call 17; refine (HLE.out _).mono ?_; rintro e w3 ⟨a3, c3, rfl, b3⟩; have B3 := B2.trans (b3.mono B2.size)) | (go_at_call 18; refine (HMO.out _).mono ?_; rintro e w4 ⟨a4, c4, rfl, b4⟩; have B4 := B3.trans (b4.mono B3.size)) | (go_at_call 23; refine (HMA.out _ B4).mono ?_; rintro e w5 ⟨rfl, b5⟩; have B5 := B4.trans (b5.mono B4.size)) | (go_at_call 26; refine (HAL.out _).mono ?_; rintro e w6 ⟨a6, c6, rfl, b6⟩; have B6 := B5.trans (b6.mono B5.size)) | (go_at_call 21; refine (HLI.out _ B6).mono ?_; rintro e w7 ⟨a7, c7, rfl, b7⟩; have B7 := B6.trans (b7.mono B6.size)) | (go_at_call 8; refine (HAW.out _).mono ?_; rintro e w8 ⟨rfl, b8⟩))
  exact bodyPost_ret (v := .bool true) (by simp [results, Try.results5, go_sem]) rfl ⟨rfl, B7.trans (b8.mono B7.size)⟩

theorem opnT {w : World} {ao : Option Addr} {len cap : Nat} {b : List Int} (h : Sl w ao len cap b) (hl : len ≤ 5000000) : Calls Try.prog 12 #[.slice ao len cap] w fun e w' => ∃ (v : Value) (E : Nat), e = .returned (.tuple #[v, .int .i64 (E : Int)]) ∧ (E = 0 ↔ (opT tkD b).1 = 0) ∧ (E ≠ 0 → v = .pointer none) ∧ (E = 0 → ∃ p, v = pm p ∧ RTb w' p (opT tkD b).2) ∧ Below w.heap.size w w' := (open_t h hl).mono fun e w' ⟨⟨v, E, h1, h2, h3, h4⟩, h5⟩ => ⟨v, E, h1, h2, h3, h4, h5⟩
/-- -/
def theTa : PTA where
  R := RTb
  later := fun h hb => h.later hb
  build := fun {w ao len cap l} h hl _ => build_t h (by omega)
  opn := fun h hl => opnT h hl
  len := fun h => lenA_t h
  most := fun h => most_t h
/-- -/
theorem theTn : PTN where
  len := lenN_t
  least := leastN_t
  most := mostN_t
  get := fun _ _ => getN_t
  may := fun _ => mayN2_t
  list := fun _ _ => listN_t
  all := allN_t
end Go.Proofs.Ytimpaindbbjieaa

/- How a slice of bytes that came in is opened. -/
namespace Go.Proofs.Ytimpaindbbjieaa
open Go.ChangeShapes Go.WideShapes Go.ChangeAt Go.RowKit

theorem cells5 : Try.prog.cellsOf 5 = 1 := by kernel_rfl
theorem bytes5 : Try.prog.bytesOf 5 = 1 := by kernel_rfl

theorem wf_u8 {n : Int} (h : (Lit.int .u8 n).wf = true) : 0 ≤ n ∧ n < 256 := by
  simp [Lit.wf, IntKind.min, IntKind.max, IntKind.bits, IntKind.signed] at h
  omega
theorem wf_u64 {n : Int} (h : (Lit.int .u64 n).wf = true) : 0 ≤ n ∧ n < 18446744073709551616 := by
  simp [Lit.wf, IntKind.min, IntKind.max, IntKind.bits, IntKind.signed] at h
  omega
theorem wf_i64 {n : Int} (h : (Lit.int .i64 n).wf = true) : -9223372036854775808 ≤ n ∧ n ≤ 9223372036854775807 := by
  simp [Lit.wf, IntKind.min, IntKind.max, IntKind.bits, IntKind.signed] at h
  omega

set_option maxRecDepth 100000 in
theorem open25 {H : Type} {enc : TypeId × Value → H} {W : World} {base : Nat} {v : Value} {d : DataW H} {ps : List MemPlace} (hv : Value.okWide Try.prog W .any base 25 v) (h : DataW.Trod enc Try.prog W 0 (fun _ => true) true 25 v d ps) :
    ∃ (ao : Option Addr) (len cap : Nat) (X : Nat → Nat), v = .slice ao len cap ∧ (ao = none → len = 0 ∧ cap = 0) ∧ len ≤ cap ∧ cap ≤ maxLen ∧ Byt W ao len X ∧ (cap = 0 ∨ ∃ e s, d = .slice e s ∧ e.length + s.length = cap) := by
  obtain ⟨a, len, cap, rfl⟩ := okWide_slice Try.underlying25 hv
  obtain ⟨fuel, hf⟩ := h
  rcases open_ints Try.underlying25 Try.underlying5 cells5 hf with ⟨hcs, _⟩ | ⟨x, l, cp, zs, hcs, _, hl, hm, hz, hd, hc, hwf⟩
  · simp [Value.cells] at hcs
    obtain ⟨rfl, rfl, rfl⟩ := hcs
    exact ⟨none, 0, 0, fun _ => 0, rfl, fun _ => ⟨rfl, rfl⟩, Nat.le_refl _, Nat.zero_le _, fun k hk => absurd hk (by omega), .inl rfl⟩
  · simp [Value.cells] at hcs
    obtain ⟨rfl, rfl, rfl⟩ := hcs
    simp only [if_true] at hz
    refine ⟨some x, len, cap, fun k => (zs.getD k 0).toNat, rfl, (fun e => by cases e), hl, hm, fun k hk => ?_, .inr ⟨_, _, (Prod.mk.inj hd).1, ?_⟩⟩
    · have hk' : k < zs.length := by omega
      have w1 := hwf _ (List.getElem_mem hk')
      have e : zs.getD k 0 = zs[k] := by simp [List.getElem?_eq_getElem hk']
      have hr : 0 ≤ zs[k] ∧ zs[k] < 256 := by
        exact wf_u8 w1
      have hcell := hc k hk'
      obtain ⟨b, off, spot⟩ := x
      have hspot : spot = none := by
        have h0 := hc 0 (by omega)
        simpa [Addr.add] using World.cell?_spot h0
      subst hspot
      rw [Addr.add_lit, e] at hcell
      show (zs.getD k 0).toNat < 256 ∧ ∃ b' off', some (⟨b, off, none⟩ : Addr) = some ⟨b', off', none⟩ ∧ W.cell? ⟨b', off' + k, none⟩ = some (.int .u8 ((zs.getD k 0).toNat : Int))
      rw [e]
      refine ⟨by omega, b, off, rfl, ?_⟩
      rw [hcell]
      congr 2
      omega
    · simp [lits]
      omega
end Go.Proofs.Ytimpaindbbjieaa

/- How slices of bytes, and slices of slices of bytes, that came in are opened: as lists. -/
namespace Go.Proofs.Ytimpaindbbjieaa
open Go.ChangeShapes Go.WideShapes Go.ChangeAt Go.RowKit Go.Deep
set_option linter.unusedVariables false

theorem cells25 : Try.prog.cellsOf 25 = 1 := by kernel_rfl
theorem sl_bs {w : World} {ao : Option Addr} {len cap : Nat} {X : Nat → Nat} (h1 : ao = none → len = 0 ∧ cap = 0) (h2 : len ≤ cap) (h3 : cap ≤ maxLen) (h4 : Byt w ao len X) : Sl w ao len cap (bs X len) := by
  refine ⟨bs_length X len, okb_bs h4, h1, h2, h3, fun k hk => ?_⟩
  have e : xof (bs X len) k = X k := by
    unfold xof
    rw [bs_getD X len k hk]
    exact Int.toNat_natCast _
  rw [e]
  exact h4 k hk
set_option maxRecDepth 100000 in
theorem open38 {H : Type} {enc : TypeId × Value → H} {W : World} {base : Nat} {v : Value} {d : DataW H} {ps : List MemPlace} (hv : Value.okWide Try.prog W .any base 38 v) (h : DataW.Trod enc Try.prog W 0 (fun _ => true) true 38 v d ps) :
    ∃ (ao : Option Addr) (len cap : Nat) (rs : List (List Int)), v = .slice ao len cap ∧ RB W ao len cap rs := by
  obtain ⟨a, len, cap, rfl⟩ := okWide_slice Try.underlying38 hv
  obtain ⟨fuel, hf⟩ := h
  rcases open_int_rows Try.underlying38 Try.underlying25 Try.underlying5 cells25 cells5 hf with ⟨hcs, _⟩ | ⟨x, l, cp, A, LN, C, Z, hcs, _, hl, hm, hd, hc⟩
  · simp [Value.cells] at hcs
    obtain ⟨rfl, rfl, rfl⟩ := hcs
    exact ⟨none, 0, 0, [], rfl, rfl, fun _ => ⟨rfl, rfl⟩, Nat.le_refl _, Nat.zero_le _, fun i r hr => by simp at hr⟩
  · simp [Value.cells] at hcs
    obtain ⟨rfl, rfl, rfl⟩ := hcs
    refine ⟨some x, len, cap, (List.range len).map fun r => (Z r).take (LN r), rfl, by simp, (fun e => by cases e), hl, hm, fun i r hr => ?_⟩
    have hi : i < len := by
      have := (List.getElem?_eq_some_iff.1 hr).1
      simpa using this
    rw [List.getElem?_map, List.getElem?_range hi, Option.map_some, Option.some.injEq] at hr
    subst hr
    obtain ⟨h0, h1, h2, h3, h4, h5, h6⟩ := hc i (by omega)
    obtain ⟨b, off, spot⟩ := x
    have hspot : spot = none := by
      have h0 := (hc 0 (by omega)).1
      simpa [Addr.add] using World.cell?_spot h0
    subst hspot
    rw [Addr.add_lit] at h0
    have hlen : ((Z i).take (LN i)).length = LN i := by rw [List.length_take]; omega
    rw [hlen]
    refine ⟨b, off, A i, C i, rfl, h0, hlen, fun y hy => wf_u8 (h4 y (List.mem_of_mem_take hy)), fun e => ?_, h1, h2, fun k hk => ?_⟩
    · have := h5 e
      omega
    · have hk' : k < (Z i).length := by omega
      have e : xof ((Z i).take (LN i)) k = ((Z i)[k]).toNat := by
        unfold xof
        rw [List.getD_eq_getElem?_getD, List.getElem?_take_of_lt hk, List.getElem?_eq_getElem hk']
        rfl
      have hr := wf_u8 (h4 _ (List.getElem_mem hk'))
      rw [e]
      cases hA : A i with
      | none => have := h5 hA; omega
      | some a' =>
        obtain ⟨_, hcc⟩ := h6 a' hA
        have hcell := hcc k (by omega)
        obtain ⟨b', off', spot⟩ := a'
        have hspot : spot = none := by
          have h0 := hcc 0 (by omega)
          simpa [Addr.add] using World.cell?_spot h0
        subst hspot
        have e2 : (Z i).getD k 0 = (Z i)[k] := by simp [List.getElem?_eq_getElem hk']
        rw [Addr.add_lit, e2] at hcell
        refine ⟨by omega, b', off', rfl, ?_⟩
        rw [hcell]
        congr 2
        omega
end Go.Proofs.Ytimpaindbbjieaa
