import Derived.Lib.SlBytesConst
import Derived.BigQuiet
import Derived.Test.YtfecopldepnicaaPk08
import Derived.Test.YtfecopldepnicaaPk11
import Derived.Test.YtfecopldepnicaaPk15
import Derived.Test.YtfecopldepnicaaPk16
/- The law's own mem that every program must know. -/
namespace Go.Proofs.Ytfecopldepnicaa
open Go.RowKit
set_option linter.unusedVariables false
set_option linter.unusedSimpArgs false

theorem sl_byte (w : World) (c : Nat) (hc : c < 256) : Sl (w.alloc (.cells #[.int .u8 (c : Int)] 5 (1, 2))) (some ⟨w.heap.size, 0, none⟩) 1 1 [(c : Int)] := by
  refine ⟨rfl, fun x hx => by simp at hx; omega, (fun e => by cases e), Nat.le_refl _, by unfold maxLen; omega, fun k hk => ?_⟩
  obtain rfl : k = 0 := by omega
  refine ⟨by simpa [xof] using hc, w.heap.size, 0, rfl, ?_⟩
  have e : (w.alloc (.cells #[.int .u8 (c : Int)] 5 (1, 2))).heap[w.heap.size]? = some (.cells #[.int .u8 (c : Int)] 5 (1, 2)) := heap_alloc_new w _
  unfold World.cell?
  rw [e]
  simp [xof]
def eA : EntV := ⟨[97], 5, false, 0, [120]⟩
def eB : EntV := ⟨[97], 7, true, 0, []⟩
theorem add_a : addE [] eA = (0, [eA]) := by simp [addE, mayE, hasE, putE, atE, eA]
theorem ahead_ab : ahead eA eB = 1 := by simp [ahead, eA, eB, cmp]
theorem add_b : addE [eA] eB = (0, [eB, eA]) := by simp [addE, mayE, hasE, putE, atE, ahead_ab]; simp [eB]
theorem get_ab : getE [eB, eA] [97] 6 = some eA := by simp [getE, eA, eB, cmp]
theorem ord_nil : ordE [] := List.Pairwise.nil
theorem ok_nil : okE [] := fun e he => by cases he
theorem ord_a : ordE [eA] := List.pairwise_singleton _ _
theorem ok_a : okE [eA] := by have := addE_ok ok_nil eA; rw [add_a] at this; exact this
theorem ord_ab : ordE [eB, eA] := by have := addE_ord ord_a eB; rw [add_b] at this; exact this
theorem ok_ab : okE [eB, eA] := by have := addE_ok ok_a eB; rw [add_b] at this; exact this
theorem in64_of {n : Int} (h1 : -9223372036854775808 ≤ n) (h2 : n ≤ 9223372036854775807) : In64 n := ⟨h1, h2⟩
theorem refs_pair {a b : Nat} {k v : Value} {s t : Int} {g : Bool} (hk : ∀ x, Refs k x → x = a) (hv : ∀ x, Refs v x → x = b) : ∀ u ∈ [k, .int .i64 s, .bool g, .int .i64 t, v], ∀ x, Refs u x → x = a ∨ x = b := fun u hu x hx => by
  simp only [List.mem_cons, List.not_mem_nil, or_false] at hu
  rcases hu with rfl | rfl | rfl | rfl | rfl
  · exact .inl (hk x hx)
  · exact (refs_int hx).elim
  · exact (refs_bool hx).elim
  · exact (refs_int hx).elim
  · exact .inr (hv x hx)
theorem refs_at {a l c x : Nat} (h : Refs (.slice (some ⟨a, 0, none⟩) l c) x) : x = a := by
  obtain ⟨off, l', c', e, _⟩ := h
  simp only [Value.slice.injEq, Option.some.injEq, Addr.mk.injEq, and_true] at e
  exact e.1.1.symm
theorem refs_none {a x : Nat} (h : Refs (.slice none 0 0) x) : x = a := by
  obtain ⟨off, l', c', e, _⟩ := h
  cases e

end Go.Proofs.Ytfecopldepnicaa

/- What the laws on tables lean on: what a program's own must keep; the simple ones. -/
namespace Go.Proofs.Ytfecopldepnicaa
open Go.RowKit
set_option linter.unusedVariables false
set_option linter.unusedSimpArgs false

def tblX (l : List EntV) : List Int := if tblE l = 0 then tblB l else []
/-- : what is asked of a program's tables. -/
structure PT where
  R : World → Nat → List EntV → Prop
  later : ∀ {w w' : World} {p : Nat} {l : List EntV}, R w p l → Below w.heap.size w w' → R w' p l
  build : ∀ {w : World} {ao : Option Addr} {len cap : Nat} {l : List EntV}, RS entE w ao len cap l → len ≤ 4010 → (∀ e ∈ l, e.key.length ≤ 3000 ∧ e.val.length ≤ 3000) → Calls Try.prog 9 #[.slice ao len cap] w fun e w' => ∃ v, e = .returned (.tuple #[v, .int .i64 ((tblE l : Nat) : Int)]) ∧ SlV w' v (tblX l) ∧ Below w.heap.size w w'
  opn : ∀ {w : World} {ao : Option Addr} {len cap : Nat} {b : List Int}, Sl w ao len cap b → len ≤ 5000000 → Calls Try.prog 12 #[.slice ao len cap] w fun e w' => ∃ (v : Value) (E : Nat), e = .returned (.tuple #[v, .int .i64 (E : Int)]) ∧ (E = 0 ↔ (opT tkD b).1 = 0) ∧ (E ≠ 0 → v = .pointer none) ∧ (E = 0 → ∃ p, v = pm p ∧ R w' p (opT tkD b).2) ∧ Below w.heap.size w w'
  len : ∀ {w : World} {p : Nat} {l : List EntV}, R w p l → Calls Try.prog 16 #[pm p] w fun r w' => r = .returned (.int .i64 (l.length : Nat)) ∧ Below w.heap.size w w'
  least : ∀ {w : World} {p : Nat} {l : List EntV}, R w p l → Calls Try.prog 17 #[pm p] w fun r w' => ∃ v, r = .returned v ∧ SlV w' v (l.head?.elim [] (·.key)) ∧ Below w.heap.size w w'
  most : ∀ {w : World} {p : Nat} {l : List EntV}, R w p l → Calls Try.prog 18 #[pm p] w fun r w' => ∃ v, r = .returned v ∧ SlV w' v (lastK [] l) ∧ Below w.heap.size w w'
  get : ∀ {w : World} {p : Nat} {l : List EntV} {ka : Option Addr} {kl kc : Nat} {key : List Int} {s : Int}, R w p l → Sl w ka kl kc key → In64 s → Calls Try.prog 13 #[pm p, .slice ka kl kc, .int .i64 s] w fun r w' => (∃ B, GotE B (getE l key s) r w') ∧ Below w.heap.size w w'
  may : ∀ {w : World} {p : Nat} {l : List EntV} {ka : Option Addr} {kl kc : Nat} {key : List Int}, R w p l → Sl w ka kl kc key → Calls Try.prog 23 #[pm p, .slice ka kl kc] w fun r w' => r = .returned (.bool (has (filT l) key)) ∧ Below w.heap.size w w'
  list : ∀ {w : World} {p : Nat} {l : List EntV} {fa ta : Option Addr} {fl fc tl tc : Nat} {fr ub : List Int}, R w p l → Sl w fa fl fc fr → Sl w ta tl tc ub → Calls Try.prog 21 #[pm p, .slice fa fl fc, .slice ta tl tc] w fun r w' => ∃ v, r = .returned v ∧ RSV entE w' v (listE l fr ub) ∧ Below w.heap.size w w'
  all : ∀ {w : World} {p : Nat} {l : List EntV}, R w p l → Calls Try.prog 26 #[pm p] w fun r w' => ∃ v, r = .returned v ∧ RSV entE w' v l ∧ Below w.heap.size w w'
/-- : what is asked of a table that there is not. -/
structure PTN : Prop where
  len : ∀ {w : World}, Calls Try.prog 16 #[.pointer none] w fun r w' => r = .returned (.int .i64 0) ∧ Below w.heap.size w w'
  least : ∀ {w : World}, Calls Try.prog 17 #[.pointer none] w fun r w' => ∃ a c, r = .returned (.slice a 0 c) ∧ Below w.heap.size w w'
  most : ∀ {w : World}, Calls Try.prog 18 #[.pointer none] w fun r w' => ∃ a c, r = .returned (.slice a 0 c) ∧ Below w.heap.size w w'
  get : ∀ {w : World} {ka : Option Addr} {kl kc : Nat} {key : List Int} {s : Int}, Sl w ka kl kc key → In64 s → Calls Try.prog 13 #[.pointer none, .slice ka kl kc, .int .i64 s] w fun r w' => r = .returned (.tuple #[ent0, .bool false]) ∧ Below w.heap.size w w'
  may : ∀ {w : World} {ka : Option Addr} {kl kc : Nat} {key : List Int}, Sl w ka kl kc key → Calls Try.prog 23 #[.pointer none, .slice ka kl kc] w fun r w' => r = .returned (.bool false) ∧ Below w.heap.size w w'
  list : ∀ {w : World} {fa ta : Option Addr} {fl fc tl tc : Nat} {fr ub : List Int}, Sl w fa fl fc fr → Sl w ta tl tc ub → Calls Try.prog 21 #[.pointer none, .slice fa fl fc, .slice ta tl tc] w fun r w' => ∃ a c, r = .returned (.slice a 0 c) ∧ Below w.heap.size w w'
  all : ∀ {w : World}, Calls Try.prog 26 #[.pointer none] w fun r w' => ∃ a c, r = .returned (.slice a 0 c) ∧ Below w.heap.size w w'

def eT : EntV := ⟨[97], 1, false, 0, [120]⟩
theorem tbl_t : tblE [eT] = 0 := by
  rw [tblE_srt (by decide) (fun e he => by rw [List.mem_singleton.1 he]; decide) (List.pairwise_singleton _ _)]
  rfl
theorem ok_t : ∀ e ∈ [eT], OkE e := fun e he => by
  rw [List.mem_singleton.1 he]
  exact ⟨fun x hx => by simp [eT] at hx; omega, fun x hx => by simp [eT] at hx; omega⟩
theorem len_t : (tblB [eT]).length ≤ 4194304 := (tblE_ok tbl_t).2.2.2.2

set_option maxHeartbeats 1000000 in
set_option maxRecDepth 100000 in
theorem awake12_any (D : PT) (w : World) : Calls Try.prog 8 #[] w fun e w' => e = .returned (.bool true) ∧ Below w.heap.size w w' := by
  have hcv2 : ∀ (w : World) X, (convert 25 25 (.slice (some ⟨w.heap.size + 1, 0, none⟩) 1 1)).run Try.prog ((w.alloc X).alloc (.cells #[.int .u8 120] 5)) = .ok (.slice (some ⟨w.heap.size + 1, 0, none⟩) 1 1) ((w.alloc X).alloc (.cells #[.int .u8 120] 5 (1, 2))) := fun w X => by
    have := Lib.run_convert_bytes_const (P := Try.prog) (w.alloc X) 25 5 #[.int .u8 120] 1 1 Try.underlying25 Try.underlying5
    simpa using this
  have hcv := fun (w : World) a l c => Lib.run_convert_bytes_const (P := Try.prog) w 25 5 a l c Try.underlying25 Try.underlying5
  obtain ⟨W3, hW3⟩ : ∃ W, W = (w.alloc (.cells #[.int .u8 97] 5 (1, 2))).alloc (.cells #[.int .u8 120] 5 (1, 2)) := ⟨_, rfl⟩
  have b2 : Below w.heap.size w W3 := by rw [hW3]; exact ((Below.refl _ w).alloc (Nat.le_refl _) _).alloc (by simp) _
  have s1 : Sl W3 (some ⟨w.heap.size, 0, none⟩) 1 1 [97] := by rw [hW3]; exact (sl_byte w 97 (by decide)).later ((Below.refl _ _).alloc (Nat.le_refl _) _)
  have s2 : Sl W3 (some ⟨w.heap.size + 1, 0, none⟩) 1 1 [120] := by
    have := sl_byte (w.alloc (.cells #[.int .u8 97] 5 (1, 2))) 120 (by decide)
    rw [hW3]
    simpa using this
  have hM : entE.M W3 [.slice (some ⟨w.heap.size, 0, none⟩) 1 1, .int .i64 1, .bool false, .int .i64 0, .slice (some ⟨w.heap.size + 1, 0, none⟩) 1 1] eT := ⟨_, 1, _, 1, rfl, s1, s2, ⟨by decide, by decide⟩, ⟨by decide, by decide⟩⟩
  have hone := rs_one hM
  obtain ⟨L, hL⟩ : ∃ L, L = [eT] := ⟨_, rfl⟩
  rw [← hL] at hone
  have t1 : tblE L = 0 := by rw [hL]; exact tbl_t
  have t2 : ∀ e ∈ L, OkE e := by rw [hL]; exact ok_t
  have t3 : ∀ e ∈ L, e.key.length ≤ 3000 ∧ e.val.length ≤ 3000 := by rw [hL]; exact fun e he => by rw [List.mem_singleton.1 he]; exact ⟨by decide, by decide⟩
  have t4 : L.length = 1 := by rw [hL]; rfl
  have t5 : lastK [] L = [97] := by rw [hL]; rfl
  clear hL
  have hp := D.build ⟨_, hone⟩ (by decide) t3
  have hX : tblX L = tblB L := by unfold tblX; rw [if_pos t1]
  rw [t1, hX] at hp
  have hsz : W3.heap.size = w.heap.size + 2 := by rw [hW3]; simp
  have HB : Hid (Below w.heap.size w (W3.alloc (.cells #[.slice (some ⟨w.heap.size, 0, none⟩) 1 1, .int .i64 1, .bool false, .int .i64 0, .slice (some ⟨w.heap.size + 1, 0, none⟩) 1 1] 34))) := b2.alloc b2.size _
  have ho := opT_of_tbl t1 t2
  have hbl := (tblE_ok t1).2.2.2.2
  obtain ⟨X, hXX⟩ : ∃ X, X = tblB L := ⟨_, rfl⟩
  rw [← hXX] at hp ho hbl
  obtain ⟨N, hN⟩ : ∃ n, n = X.length := ⟨_, rfl⟩
  have HN : Hid (N = X.length ∧ N ≤ 4194304) := ⟨hN, by rw [hN]; exact hbl⟩
  have HOP : Hid (∀ {wx : World} {a : Option Addr} {c : Nat}, Sl wx a N c X → Calls Try.prog 12 #[.slice a N c] wx fun e w' => ∃ p, e = .returned (.tuple #[.pointer (some ⟨p, 0, none⟩), .int .i64 0]) ∧ D.R w' p L ∧ Below wx.heap.size wx w') := fun {wx a c} hs => (D.opn hs (by have := HN.out.2; omega)).mono fun e w' ⟨v, E, he, h1, h2, h3, h4⟩ => by
    rw [ho] at h1 h3
    have hE := h1.2 rfl
    obtain ⟨p, hv, hR⟩ := h3 hE
    exact ⟨p, by rw [he, hE, hv]; rfl, hR, h4⟩
  have HT : Hid (L.length = 1 ∧ lastK [] L = [97]) := ⟨t4, t5⟩
  clear t1 t2 t3 t4 t5 ho hbl hXX
  rw [hsz] at hp
  rw [hW3] at hp HB
  clear hM hone b2 s1 s2 hsz hW3 hX hN
  go_enter Try.func8, Try.ntmps8
  go_upto_region 2 with (go_at_call 9; refine hp.mono ?_; rintro e w1 ⟨v1, rfl, ⟨a1, c1, hv1, s1⟩, b1⟩; rw [← HN.out.1] at hv1 s1; subst hv1)
  have ho := HOP.out s1
  have HB1 := hid (HB.out.trans (b1.mono HB.out.size))
  clear hp s1 b1 hcv hcv2 HB
  go_upto_region 3 with (go_at_call 12; refine ho.mono ?_; rintro e w2 ⟨p, rfl, hR, b2⟩)
  have HB2 := hid (HB1.out.trans (b2.mono HB1.out.size))
  have hl := D.len hR
  rw [HT.out.1] at hl
  have HMO : Hid (∀ wx, Below w2.heap.size w2 wx → Calls Try.prog 18 #[.pointer (some ⟨p, 0, none⟩)] wx fun r w' => ∃ a c, r = .returned (.slice a 1 c) ∧ Sl w' a 1 c [97] ∧ Below wx.heap.size wx w') := fun wx hb => (D.most (D.later hR hb)).mono fun e w' ⟨v, he, ⟨a, c, hv, hs⟩, hb'⟩ => by
    rw [HT.out.2] at hv hs
    exact ⟨a, c, by rw [he, hv]; rfl, hs, hb'⟩
  unfold pm at hl
  clear ho hR b2
  go_wp2_with (first | (go_at_call 16; refine hl.mono ?_; rintro e w3 ⟨rfl, b3⟩) | (go_at_call 18; refine (HMO.out _ b3).mono ?_; rintro e w4 ⟨a4, c4, rfl, s4, b4⟩; have hst := str_l s4; rw [show strOfNums [97] = ⟨#[97]⟩ from rfl] at hst))
  exact bodyPost_ret (v := .bool true) (by simp [results, Try.results8, go_sem]) rfl ⟨rfl, (HB2.out.trans (b3.mono HB2.out.size)).trans (b4.mono (Nat.le_trans HB2.out.size b3.size))⟩

set_option maxHeartbeats 1000000 in
set_option maxRecDepth 100000 in
theorem nil12_any (D : PT) (N : PTN) {w : World} {ka : Option Addr} {kl kc : Nat} {key : List Int} {s : Int} (hk : Sl w ka kl kc key) (hs : In64 s) :
    Calls Try.prog 5 #[.slice ka kl kc, .int .i64 s] w fun e w' => e = .returned (.bool true) ∧ Below w.heap.size w w' := by
  have hg := N.get hk hs
  have HAW : Hid (∀ wx, Calls Try.prog 8 #[] wx fun e w' => e = .returned (.bool true) ∧ Below wx.heap.size wx w') := fun wx => awake12_any D wx
  have HL : Hid (∀ wx : World, Calls Try.prog 16 #[.pointer none] wx fun r w' => r = .returned (.int .i64 0) ∧ Below wx.heap.size wx w') := fun wx => N.len
  have HLE : Hid (∀ wx : World, Calls Try.prog 17 #[.pointer none] wx fun r w' => ∃ a c, r = .returned (.slice a 0 c) ∧ Below wx.heap.size wx w') := fun wx => N.least
  have HMO : Hid (∀ wx : World, Calls Try.prog 18 #[.pointer none] wx fun r w' => ∃ a c, r = .returned (.slice a 0 c) ∧ Below wx.heap.size wx w') := fun wx => N.most
  have HMA : Hid (∀ wx : World, Below w.heap.size w wx → Calls Try.prog 23 #[.pointer none, .slice ka kl kc] wx fun r w' => r = .returned (.bool false) ∧ Below wx.heap.size wx w') := fun wx hb => N.may (hk.later hb)
  have HAL : Hid (∀ wx : World, Calls Try.prog 26 #[.pointer none] wx fun r w' => ∃ a c, r = .returned (.slice a 0 c) ∧ Below wx.heap.size wx w') := fun wx => N.all
  have HLI : Hid (∀ wx : World, Below w.heap.size w wx → Calls Try.prog 21 #[.pointer none, .slice ka kl kc, .slice none 0 0] wx fun r w' => ∃ a c, r = .returned (.slice a 0 c) ∧ Below wx.heap.size wx w') := fun wx hb => N.list (hk.later hb) (Sl.nil _)
  unfold ent0 at hg
  clear hk hs
  go_enter Try.func5, Try.ntmps5
  go_upto_region 3 with (go_at_call 13; refine hg.mono ?_; rintro e w1 ⟨rfl, b1⟩)
  have B1 : Below w.heap.size w (w1.alloc (.cells #[.slice none 0 0, .int .i64 0, .bool false, .int .i64 0, .slice none 0 0] 34)) := b1.alloc b1.size _
  clear hg
  go_wp2_with (first | (go_at_call 16; refine (HL.out _).mono ?_; rintro e w2 ⟨rfl, b2⟩; have B2 := B1.trans (b2.mono B1.size)) | (go_at_call 17; refine (HLE.out _).mono ?_; rintro e w3 ⟨a3, c3, rfl, b3⟩; have B3 := B2.trans (b3.mono B2.size)) | (go_at_call 18; refine (HMO.out _).mono ?_; rintro e w4 ⟨a4, c4, rfl, b4⟩; have B4 := B3.trans (b4.mono B3.size)) | (go_at_call 23; refine (HMA.out _ B4).mono ?_; rintro e w5 ⟨rfl, b5⟩; have B5 := B4.trans (b5.mono B4.size)) | (go_at_call 26; refine (HAL.out _).mono ?_; rintro e w6 ⟨a6, c6, rfl, b6⟩; have B6 := B5.trans (b6.mono B5.size)) | (go_at_call 21; refine (HLI.out _ B6).mono ?_; rintro e w7 ⟨a7, c7, rfl, b7⟩; have B7 := B6.trans (b7.mono B6.size)) | (go_at_call 8; refine (HAW.out _).mono ?_; rintro e w8 ⟨rfl, b8⟩))
  exact bodyPost_ret (v := .bool true) (by simp [results, Try.results5, go_sem]) rfl ⟨rfl, B7.trans (b8.mono B7.size)⟩
end Go.Proofs.Ytfecopldepnicaa

/- The document's own Cut: where the blocks begin and end. -/
namespace Go.Proofs.Ytfecopldepnicaa
open Go.RowKit
set_option linter.unusedVariables false
set_option linter.unusedSimpArgs false

/-- Values of one cell that name old memory alone. -/
def valE : El Value where
  ty := 22
  size := 1
  M := fun w vs x => vs = [x] ∧ x.oneCell' = true ∧ ∀ b, Refs x b → b < w.heap.size
  len := fun h => by obtain ⟨rfl, _⟩ := h; rfl
  one := fun h v hv => by obtain ⟨rfl, h1, _⟩ := h; rw [List.mem_singleton.1 hv]; exact h1
  lt := fun h v hv b hr => by obtain ⟨rfl, _, h2⟩ := h; rw [List.mem_singleton.1 hv] at hr; exact h2 b hr
  keep := fun {w w' vs x} h hk => by
    obtain ⟨rfl, h1, h2⟩ := h
    refine ⟨rfl, h1, fun b hr => ?_⟩
    have e := hk x (by simp) b hr
    have hl := h2 b hr
    rw [Array.getElem?_eq_getElem hl] at e
    exact (Array.getElem?_eq_some_iff.1 e).1
theorem valE_info : (Try.prog.info? valE.ty).map (fun i => (i.zero, i.size, i.bytes)) = some (some (.slice none 0 0), valE.size, 24) := by kernel_rfl
theorem run_midE (w : World) (ao : Option Addr) (len cap i j : Nat) (h1 : i ≤ j) (h2 : j ≤ cap) : (Instr.slice 22 (.slice ao len cap) (some (.int .i64 (i : Int))) (some (.int .i64 (j : Int))) none).run Try.prog w = .ok (.slice (cutS ao cap i 5) (j - i) (cap - i)) w := by
  rw [run_slice_lh (P := Try.prog) (w := w) 22 ao len cap under22 .i64 .i64 (i : Int) (j : Int) (by omega) (by omega) (by omega), elem22, Try.sizeOf34]
  simp only [Result.andThen, Int.toNat_natCast]
  rw [sliced_cutS _ _ _ _ _ (by omega)]
/-- Where the blocks of what is left begin and end. -/
def bnd (f i s : Nat) : List EntV → List (Nat × Nat)
  | [] => []
  | e :: r => if 256 ≤ s + wtE e ∨ r = [] then (f, i + 1) :: bnd (i + 1) (i + 1) 0 r else bnd f (i + 1) (s + wtE e) r
theorem bnd_cons (f i s : Nat) (e : EntV) (r : List EntV) : bnd f i s (e :: r) = if 256 ≤ s + wtE e ∨ r = [] then (f, i + 1) :: bnd (i + 1) (i + 1) 0 r else bnd f (i + 1) (s + wtE e) r := rfl
def pcE (l : List EntV) (p : Nat × Nat) : List EntV := (l.drop p.1).take (p.2 - p.1)
theorem bnd_cut (l : List EntV) : ∀ (r : List EntV) (f i s : Nat), l.drop i = r → f ≤ i → (r = [] → f = i) → cutB s ((l.drop f).take (i - f)) r = (bnd f i s r).map (pcE l)
  | [], f, i, s, _, h2, h3 => by
    have := h3 rfl
    subst this
    simp [cutB, bnd]
  | e :: r, f, i, s, h1, h2, _ => by
    have hi : i < l.length := by
      rcases Nat.lt_or_ge i l.length with q | q
      · exact q
      · rw [List.drop_eq_nil_of_le q] at h1; cases h1
    have hr : l.drop (i + 1) = r := by
      have := congrArg (List.drop 1) h1
      simpa [List.drop_drop] using this
    have he : l[i]? = some e := by
      have := congrArg List.head? h1
      rw [List.head?_drop] at this
      simpa using this
    have hc : (l.drop f).take (i - f) ++ [e] = (l.drop f).take (i + 1 - f) := by
      rw [show i + 1 - f = (i - f) + 1 by omega, List.take_add_one, List.getElem?_drop, show f + (i - f) = i by omega, he]
      rfl
    unfold cutB bnd
    by_cases q : 256 ≤ s + wtE e
    · rw [if_pos q, if_pos (.inl q), List.map_cons, hc]
      have := bnd_cut l r (i + 1) (i + 1) 0 hr (Nat.le_refl _) (fun _ => rfl)
      simp only [Nat.sub_self, List.take_zero] at this
      rw [this]
      rfl
    · rw [if_neg q]
      by_cases q2 : r = []
      · subst q2
        rw [if_pos (.inr rfl), List.map_cons, hc]
        have hne : (l.drop f).take (i + 1 - f) ≠ [] := by rw [← hc]; simp
        unfold cutB
        rw [if_neg hne]
        rfl
      · rw [if_neg (fun h => h.elim q q2), hc]
        exact bnd_cut l r f (i + 1) _ hr (by omega) (fun z => absurd z q2)
theorem bnd_T (l : List EntV) : cutT l = (bnd 0 0 0 l).map (pcE l) := by
  have := bnd_cut l l 0 0 0 rfl (Nat.le_refl _) (fun _ => rfl)
  simpa [cutT] using this
theorem bnd_in : ∀ (r : List EntV) (f i s : Nat), f ≤ i → ∀ p ∈ bnd f i s r, p.1 < p.2 ∧ p.2 ≤ i + r.length
  | [], f, i, s, _, p, hp => by cases hp
  | e :: r, f, i, s, h, p, hp => by
    unfold bnd at hp
    split at hp
    · rcases List.mem_cons.1 hp with rfl | hp
      · simp; omega
      · have := bnd_in r (i + 1) (i + 1) 0 (Nat.le_refl _) p hp
        simp; omega
    · have := bnd_in r f (i + 1) _ (by omega) p hp
      simp; omega
theorem sumW1 {S WT : Nat} (h1 : S < 256) (h2 : WT ≤ 2600) : wrap64 ((S : Int) + (WT : Int)) = ((S + WT : Nat) : Int) := by unfold wrap64; omega
theorem sumW2 {S WT : Nat} (h1 : S < 256) (h2 : WT ≤ 2600) : IntKind.i64.wrap ((S : Int) + (WT : Int)) = ((S + WT : Nat) : Int) := by rw [IntKind.wrap_i64]; omega
theorem eqKb {k n : Nat} (h : k + 1 = n) : (((k : Int) + 1) == (n : Int)) = true := by simp; omega
theorem neKb {k n : Nat} (h : ¬ (k + 1 = n)) : (((k : Int) + 1) == (n : Int)) = false := by simp; omega
theorem eqK {k n : Nat} (h : k + 1 = n) : (k : Int) + 1 = (n : Int) := by omega
theorem neK {k n : Nat} (h : ¬ (k + 1 = n)) : ¬ ((k : Int) + 1 = (n : Int)) := by omega
def slE (ao : Option Addr) (cap : Nat) (p : Nat × Nat) : Value := .slice (cutS ao cap p.1 5) (p.2 - p.1) (cap - p.1)
theorem bnd_len : ∀ (r : List EntV) (f i s : Nat), (bnd f i s r).length ≤ r.length
  | [], f, i, s => by simp [bnd]
  | e :: r, f, i, s => by
    unfold bnd
    split
    · have := bnd_len r (i + 1) (i + 1) 0; simp; omega
    · have := bnd_len r f (i + 1) (s + wtE e); simp; omega

set_option maxHeartbeats 4000000 in
set_option maxRecDepth 100000 in
theorem rcut_any {w : World} {ao : Option Addr} {len cap : Nat} {l : List EntV} (h : RS entE w ao len cap l) (hl : len ≤ 4000) (hm : ∀ e ∈ l, mayE e = true) :
    Calls Try.prog 37 #[.slice ao len cap] w fun e w' => ∃ v, e = .returned v ∧ RowS valE w.heap.size w' v ((bnd 0 0 0 l).map (slE ao cap)) ∧ Below w.heap.size w w' := by
  have hln : l.length = len := h.len.1
  have hlc : len ≤ cap := by obtain ⟨_, hu⟩ := h; exact hu.2.2.1
  obtain ⟨T, hT⟩ : ∃ T, T = (bnd 0 0 0 l).map (slE ao cap) := ⟨_, rfl⟩
  rw [← hT]
  have HS : Hid (RS entE w ao len cap l ∧ l.length = len ∧ len ≤ 4000 ∧ ∀ e ∈ l, mayE e = true) := ⟨h, hln, hl, hm⟩
  have HTL : Hid (T.length ≤ 4000) := by show _ ≤ _; rw [hT, List.length_map]; have := bnd_len l 0 0 0; omega
  have H0 : Hid (RowS valE w.heap.size w (.slice none 0 0) [] ∧ Below w.heap.size w w ∧ T = [] ++ (bnd 0 0 0 (l.drop 0)).map (slE ao cap)) := ⟨RowS.nil _ _, Below.refl _ _, by rw [hT]; rfl⟩
  have hl62 : len ≤ 2 ^ 61 := by omega
  have HLC := hid hlc
  clear h hT hm hl
  go_enter Try.func37, Try.ntmps37
  go_wp2_with fail
  go_loopg [3, 4, 5, 6, 7, 10] len (fun g v f s _ _ i wr => ∃ (k F S : Nat) (acc : List Value), k + g = len ∧ i = .int .i64 (k : Int) ∧ f = .int .i64 (F : Int) ∧ s = .int .i64 (S : Int) ∧ F ≤ k ∧ S < 256 ∧ Hid (RowS valE w.heap.size wr v acc ∧ Below w.heap.size w wr ∧ T = acc ++ (bnd F k S (l.drop k)).map (slE ao cap)))
  case atStart => exact ⟨0, 0, 0, [], by omega, rfl, rfl, rfl, by omega, by omega, H0⟩
  case round =>
    obtain ⟨k, F, S, acc, hk, rfl, rfl, rfl, hF, hS, HK⟩ := hrel
    by_cases hkl : k < len
    · have hkl' : (k : Int) < (len : Int) := by omega
      have hkx : k < l.length := by omega
      have bel := HK.out.2.1
      obtain ⟨b, off, ka, kc, va, vc, hab, e0, e1, e2, e3, e4, sk, sv, i1, i2⟩ := RS.ent HS.out.1 (List.getElem?_eq_getElem hkx)
      have d0 := cell_later bel e0
      have d1 := cell_later bel e1
      have d2 := cell_later bel e2
      have d3 := cell_later bel e3
      have d4 := cell_later bel e4
      have hmo := mayE_ok (HS.out.2.2.2 _ (List.getElem_mem hkx))
      have hdr : l.drop k = l[k] :: l.drop (k + 1) := List.drop_eq_getElem_cons hkx
      have HT1 : Hid (T = acc ++ (bnd F k S (l[k] :: l.drop (k + 1))).map (slE ao cap)) := by show _ = _; rw [HK.out.2.2, hdr]
      have hlast : l.drop (k + 1) = [] ↔ k + 1 = len := by
        rw [List.drop_eq_nil_iff]
        omega
      generalize l[k] = o at d0 d1 d2 d3 d4 hmo HT1
      have hwt : wtE o ≤ 2600 := by unfold wtE; omega
      obtain ⟨W1, hW1⟩ : ∃ W, wr.alloc (.cells #[.slice ka o.key.length kc, .int .i64 o.seq, .bool o.gone, .int .i64 o.till, .slice va o.val.length vc] 34) = W := ⟨_, rfl⟩
      have b1 : Below wr.heap.size wr W1 := by rw [← hW1]; exact (Below.refl _ _).alloc (Nat.le_refl _) _
      have hwe := rweight_any (w := W1) (ka := ka) (kc := kc) (va := va) (vc := vc) (e := o) (by omega) (by omega)
      unfold entA at hwe
      obtain ⟨y0, y1, y2, y3, y4⟩ := box_cells wr (.slice ka o.key.length kc) (.int .i64 o.seq) (.bool o.gone) (.int .i64 o.till) (.slice va o.val.length vc) 34 (wx := W1) (by rw [hW1]; exact Below.refl _ _)
      obtain ⟨WT, hWT⟩ : ∃ n, n = wtE o := ⟨_, rfl⟩
      rw [← hWT] at hwe hwt
      have HB1 := hid (bel.trans (b1.mono bel.size))
      have HR1 := hid (HK.out.1.later b1)
      have HAL : Hid (acc.length ≤ 4000) := by
        have h1 := HTL.out
        have h2 := congrArg List.length HT1.out
        rw [List.length_append] at h2
        show _ ≤ _
        omega
      have HOW : Hid (∀ g, u3.ownBlock = some g → w.heap.size ≤ g) := fun g e => (HK.out.1.own_lt e).1
      have hk62 : k ≤ 2 ^ 60 := by have := HS.out.2.2.1; omega
      have hF62 : F ≤ 2 ^ 60 := by omega
      obtain ⟨GK, HG⟩ : ∃ g, Hid (g < gk ∧ k + 1 + g = len) := ⟨gk - 1, by omega, by omega⟩
      have HFL : Hid (256 ≤ S + WT ∨ k + 1 = len → T = (acc ++ [slE ao cap (F, k + 1)]) ++ (bnd (k + 1) (k + 1) 0 (l.drop (k + 1))).map (slE ao cap)) := fun hq => by
        rw [HT1.out, bnd_cons, if_pos (by rw [← hWT, hlast]; exact hq), List.map_cons, List.append_assoc]
        rfl
      have HNF : Hid (¬ (256 ≤ S + WT) → ¬ (k + 1 = len) → T = acc ++ (bnd F (k + 1) (S + WT) (l.drop (k + 1))).map (slE ao cap)) := fun q1 q2 => by
        rw [HT1.out, bnd_cons, if_neg (by rw [← hWT, hlast]; exact fun z => z.elim q1 q2), hWT]
      have hsl := fun wx => run_midE wx ao len cap F (k + 1) (by omega) (by have := HLC.out; omega)
      rw [show ((k + 1 : Nat) : Int) = (k : Int) + 1 by omega] at hsl
      have HREF : Hid (∀ bb, Refs (slE ao cap (F, k + 1)) bb → bb < w.heap.size) := fun bb hr => by
        subst hab
        have h1 := World.block_lt_of_cell? w _ e0
        unfold slE cutS Refs at hr
        obtain ⟨off9, l9, c9, e9, _⟩ := hr
        simp only [Value.slice.injEq] at e9
        have e8 := e9.1
        split at e8
        · simp only [Option.some.injEq, Addr.mk.injEq] at e8
          have := e8.1
          simp only at h1
          omega
        · simp only [Option.map_some, Option.some.injEq, Addr.add, Addr.mk.injEq] at e8
          simp only at h1
          split at e8
          · simp only [Addr.mk.injEq] at e8
            have := e8.1
            omega
          · simp only [Addr.mk.injEq] at e8
            have := e8.1
            omega
      have HROW2 : Hid (∀ wx, Below W1.heap.size W1 wx → RSu valE (wx.alloc (.cells #[slE ao cap (F, k + 1)] 22)) (some ⟨wx.heap.size, 0, none⟩) 1 1 [slE ao cap (F, k + 1)] [slE ao cap (F, k + 1)] ∧ RowS valE w.heap.size (wx.alloc (.cells #[slE ao cap (F, k + 1)] 22)) u3 acc ∧ Below w.heap.size w (wx.alloc (.cells #[slE ao cap (F, k + 1)] 22)) ∧ (∀ u ∈ [slE ao cap (F, k + 1)], ∀ b, Refs u b → u3.ownBlock ≠ some b)) := fun wx hb => by
        have b3 : Below wx.heap.size wx (wx.alloc (.cells #[slE ao cap (F, k + 1)] 22)) := (Below.refl _ _).alloc (Nat.le_refl _) _
        have hB := HB1.out.trans (hb.mono HB1.out.size)
        refine ⟨rs_one (E := valE) (w := wx) (vs := [slE ao cap (F, k + 1)]) (x := slE ao cap (F, k + 1)) ⟨rfl, rfl, fun b hr => Nat.lt_of_lt_of_le (HREF.out b hr) hB.size⟩, (HR1.out.later hb).later b3, hB.trans (b3.mono hB.size), fun u hu b hr e => ?_⟩
        rw [List.mem_singleton.1 hu] at hr
        have h2 := HREF.out b hr
        have h3 := HOW.out b e
        omega
      unfold slE at HROW2
      subst hab
      simp only at HROW2
      have HST : Hid (slE (some ⟨b, off, none⟩) cap (F, k + 1) = .slice (cutS (some ⟨b, off, none⟩) cap F 5) (k + 1 - F) (cap - F)) := rfl
      generalize cutS (some ⟨b, off, none⟩) cap F 5 = a9 at HROW2 hsl HST
      generalize cap - F = c9 at HROW2 hsl HST
      generalize k + 1 - F = n9 at HROW2 hsl HST
      generalize o.key.length = kl at d0 hW1 y0 hwe
      generalize o.val.length = vn at d4 hW1 y4 hwe
      generalize o.seq = sq at d1 hW1 y1 hwe
      generalize o.gone = gn at d2 hW1 y2 hwe
      generalize o.till = ti at d3 hW1 y3 hwe
      have HFK : Hid (F ≤ k) := hF
      clear hmo hdr HT1 hlast hWT bel b1 sk sv i1 i2 e0 e1 e2 e3 e4 HK H0 hk HREF HOW hF hln hlc
      have hsum := sumW1 hS hwt
      have hsum2 := sumW2 hS hwt
      by_cases q1 : 256 ≤ S + WT
      · have q1' : (256 : Int) ≤ ((S + WT : Nat) : Int) := Int.ofNat_le.2 q1
        have HT2 := hid (HFL.out (.inl q1))
        generalize S + WT = SW at q1' hsum hsum2
        clear q1 HFL HNF
        go_wp2_with (first | (go_at_call 70; refine hwe.mono ?_; rintro e w4 ⟨rfl, b4⟩; obtain ⟨A1, A2, A3, A4⟩ := HROW2.out w4 b4) | (at_builtin; refine wpList_appS valE (t := 62) (z := .slice none 0 0) (bytes := 24) (B := w.heap.size) Try.underlying62 valE_info rfl (by decide) rfl (.tmp 28) (.tmp 34) rfl rfl A2 rfl A1 A4 (by have := HAL.out; omega) (by have := HAL.out; omega) A3.size ?_; intro v9 w9 r9 g9 m9; have HR9 := hid r9; have HB9 : Hid (Below w.heap.size w w9) := A3.trans (A2.below g9 A3.size)))
        go_roundg GK
        case measure => exact HG.out.1
        case rel => exact ⟨k + 1, k + 1, 0, acc ++ [.slice a9 n9 c9], HG.out.2, by go_num, by go_num, rfl, Nat.le_refl _, by omega, HR9.out, HB9.out, by rw [HT2.out, HST.out]⟩
      · have q1' : ¬ ((256 : Int) ≤ ((S + WT : Nat) : Int)) := fun z => q1 (Int.ofNat_le.1 z)
        by_cases q2 : k + 1 = len
        · have q2' := eqKb q2
          have HT2 := hid (HFL.out (.inr q2))
          generalize S + WT = SW at q1' hsum hsum2
          clear q1 q2 HFL HNF
          go_wp2_with (first | (go_at_call 70; refine hwe.mono ?_; rintro e w4 ⟨rfl, b4⟩; obtain ⟨A1, A2, A3, A4⟩ := HROW2.out w4 b4) | (at_builtin; refine wpList_appS valE (t := 62) (z := .slice none 0 0) (bytes := 24) (B := w.heap.size) Try.underlying62 valE_info rfl (by decide) rfl (.tmp 28) (.tmp 34) rfl rfl A2 rfl A1 A4 (by have := HAL.out; omega) (by have := HAL.out; omega) A3.size ?_; intro v9 w9 r9 g9 m9; have HR9 := hid r9; have HB9 : Hid (Below w.heap.size w w9) := A3.trans (A2.below g9 A3.size)))
          go_roundg GK
          case measure => exact HG.out.1
          case rel => exact ⟨k + 1, k + 1, 0, acc ++ [.slice a9 n9 c9], HG.out.2, by go_num, by go_num, rfl, Nat.le_refl _, by omega, HR9.out, HB9.out, by rw [HT2.out, HST.out]⟩
        · have q2' := neKb q2
          have HT2 := hid (HNF.out q1 q2)
          have HSW : Hid (S + WT < 256) := Nat.not_le.1 q1
          generalize S + WT = SW at q1' hsum hsum2 HT2 HSW
          clear q1 q2 HFL HNF
          go_wp2_with (go_at_call 70; refine hwe.mono ?_; rintro e w4 ⟨rfl, b4⟩)
          go_roundg GK
          case measure => exact HG.out.1
          case rel => exact ⟨k + 1, F, SW, acc, HG.out.2, by go_num, rfl, rfl, Nat.le_succ_of_le HFK.out, HSW.out, HR1.out.later b4, HB1.out.trans (b4.mono HB1.out.size), HT2.out⟩
    · have hkl' : (len : Int) ≤ (k : Int) := by omega
      have HE : Hid (T = acc) := by
        show _ = _
        rw [HK.out.2.2, List.drop_eq_nil_of_le (by have := HS.out; omega)]
        simp [bnd]
      have HB := hid HK.out.2.1
      have HR := hid HK.out.1
      clear hk hkl HK
      go_wp2_with fail
      exact bodyPost_ret (v := u3) (by simp [results, Try.results37, go_sem]) rfl ⟨u3, rfl, by rw [HE.out]; exact HR.out, HB.out⟩
end Go.Proofs.Ytfecopldepnicaa
