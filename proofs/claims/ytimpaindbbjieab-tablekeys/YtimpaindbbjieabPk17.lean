import Derived.Lib.SlBytesConst
import Derived.BigQuiet
import Derived.Test.YtimpaindbbjieabPk08
import Derived.Test.YtimpaindbbjieabPk12
import Derived.Test.YtimpaindbbjieabPk16
/- The law's own mem that every program must know. -/
namespace Go.Proofs.Ytimpaindbbjieab
open Go.RowKit
set_option linter.unusedVariables false
set_option linter.unusedSimpArgs false

theorem sl_byte (w : World) (c : Nat) (hc : c < 256) : Sl (w.alloc (.cells #[.int .u8 (c : Int)] 5 (1, 2))) (some ⟨w.heap.size, 0, none⟩) 1 1 [(c : Int)] := by
  refine ⟨rfl, fun x hx => by simp at hx; omega, (fun e => by cases e), Nat.le_refl _, by unfold maxLen; omega, fun k hk => ?_⟩
  obtain rfl : k = 0 := by omega
  refine ⟨by simpa [xof] using hc, w.heap.size, 0, rfl, ?_⟩
  have e : (w.alloc (.cells #[.int .u8 (c : Int)] 5 (1, 2))).heap[w.heap.size]? = some (.cells #[.int .u8 (c : Int)] 5 (1, 2)) := heap_alloc_new w _
  unfold World.cell?
  rw [e]
  simp [xof]
def eA : EntV := ⟨[97], 5, false, 0, [120]⟩
def eB : EntV := ⟨[97], 7, true, 0, []⟩
theorem add_a : addE [] eA = (0, [eA]) := by simp [addE, mayE, hasE, putE, atE, eA]
theorem ahead_ab : ahead eA eB = 1 := by simp [ahead, eA, eB, cmp]
theorem add_b : addE [eA] eB = (0, [eB, eA]) := by simp [addE, mayE, hasE, putE, atE, ahead_ab]; simp [eB]
theorem get_ab : getE [eB, eA] [97] 6 = some eA := by simp [getE, eA, eB, cmp]
theorem ord_nil : ordE [] := List.Pairwise.nil
theorem ok_nil : okE [] := fun e he => by cases he
theorem ord_a : ordE [eA] := List.pairwise_singleton _ _
theorem ok_a : okE [eA] := by have := addE_ok ok_nil eA; rw [add_a] at this; exact this
theorem ord_ab : ordE [eB, eA] := by have := addE_ord ord_a eB; rw [add_b] at this; exact this
theorem ok_ab : okE [eB, eA] := by have := addE_ok ok_a eB; rw [add_b] at this; exact this
theorem in64_of {n : Int} (h1 : -9223372036854775808 ≤ n) (h2 : n ≤ 9223372036854775807) : In64 n := ⟨h1, h2⟩
theorem refs_pair {a b : Nat} {k v : Value} {s t : Int} {g : Bool} (hk : ∀ x, Refs k x → x = a) (hv : ∀ x, Refs v x → x = b) : ∀ u ∈ [k, .int .i64 s, .bool g, .int .i64 t, v], ∀ x, Refs u x → x = a ∨ x = b := fun u hu x hx => by
  simp only [List.mem_cons, List.not_mem_nil, or_false] at hu
  rcases hu with rfl | rfl | rfl | rfl | rfl
  · exact .inl (hk x hx)
  · exact (refs_int hx).elim
  · exact (refs_bool hx).elim
  · exact (refs_int hx).elim
  · exact .inr (hv x hx)
theorem refs_at {a l c x : Nat} (h : Refs (.slice (some ⟨a, 0, none⟩) l c) x) : x = a := by
  obtain ⟨off, l', c', e, _⟩ := h
  simp only [Value.slice.injEq, Option.some.injEq, Addr.mk.injEq, and_true] at e
  exact e.1.1.symm
theorem refs_none {a x : Nat} (h : Refs (.slice none 0 0) x) : x = a := by
  obtain ⟨off, l', c', e, _⟩ := h
  cases e

end Go.Proofs.Ytimpaindbbjieab

/- What the laws on tables lean on: what a program's own must keep; the simple ones. -/
namespace Go.Proofs.Ytimpaindbbjieab
open Go.RowKit
set_option linter.unusedVariables false
set_option linter.unusedSimpArgs false

def tblX (l : List EntV) : List Int := if tblE l = 0 then tblB l else []
/-- : what is asked of a program's tables. -/
structure PT where
  R : World → Nat → List EntV → Prop
  later : ∀ {w w' : World} {p : Nat} {l : List EntV}, R w p l → Below w.heap.size w w' → R w' p l
  build : ∀ {w : World} {ao : Option Addr} {len cap : Nat} {l : List EntV}, RS entE w ao len cap l → len ≤ 4010 → (∀ e ∈ l, e.key.length ≤ 3000 ∧ e.val.length ≤ 3000) → Calls Try.prog 6 #[.slice ao len cap] w fun e w' => ∃ v, e = .returned (.tuple #[v, .int .i64 ((tblE l : Nat) : Int)]) ∧ SlV w' v (tblX l) ∧ Below w.heap.size w w'
  opn : ∀ {w : World} {ao : Option Addr} {len cap : Nat} {b : List Int}, Sl w ao len cap b → len ≤ 5000000 → Calls Try.prog 8 #[.slice ao len cap] w fun e w' => ∃ (v : Value) (E : Nat), e = .returned (.tuple #[v, .int .i64 (E : Int)]) ∧ (E = 0 ↔ (opT tkD b).1 = 0) ∧ (E ≠ 0 → v = .pointer none) ∧ (E = 0 → ∃ p, v = pm p ∧ R w' p (opT tkD b).2) ∧ Below w.heap.size w w'
  len : ∀ {w : World} {p : Nat} {l : List EntV}, R w p l → Calls Try.prog 27 #[pm p] w fun r w' => r = .returned (.int .i64 (l.length : Nat)) ∧ Below w.heap.size w w'
  least : ∀ {w : World} {p : Nat} {l : List EntV}, R w p l → Calls Try.prog 13 #[pm p] w fun r w' => ∃ v, r = .returned v ∧ SlV w' v (l.head?.elim [] (·.key)) ∧ Below w.heap.size w w'
  most : ∀ {w : World} {p : Nat} {l : List EntV}, R w p l → Calls Try.prog 14 #[pm p] w fun r w' => ∃ v, r = .returned v ∧ SlV w' v (lastK [] l) ∧ Below w.heap.size w w'
  get : ∀ {w : World} {p : Nat} {l : List EntV} {ka : Option Addr} {kl kc : Nat} {key : List Int} {s : Int}, R w p l → Sl w ka kl kc key → In64 s → Calls Try.prog 15 #[pm p, .slice ka kl kc, .int .i64 s] w fun r w' => (∃ B, GotE B (getE l key s) r w') ∧ Below w.heap.size w w'
  may : ∀ {w : World} {p : Nat} {l : List EntV} {ka : Option Addr} {kl kc : Nat} {key : List Int}, R w p l → Sl w ka kl kc key → Calls Try.prog 11 #[pm p, .slice ka kl kc] w fun r w' => r = .returned (.bool (has (filT l) key)) ∧ Below w.heap.size w w'
  list : ∀ {w : World} {p : Nat} {l : List EntV} {fa ta : Option Addr} {fl fc tl tc : Nat} {fr ub : List Int}, R w p l → Sl w fa fl fc fr → Sl w ta tl tc ub → Calls Try.prog 36 #[pm p, .slice fa fl fc, .slice ta tl tc] w fun r w' => ∃ v, r = .returned v ∧ RSV entE w' v (listE l fr ub) ∧ Below w.heap.size w w'
  all : ∀ {w : World} {p : Nat} {l : List EntV}, R w p l → Calls Try.prog 10 #[pm p] w fun r w' => ∃ v, r = .returned v ∧ RSV entE w' v l ∧ Below w.heap.size w w'
/-- : what is asked of a table that there is not. -/
structure PTN : Prop where
  len : ∀ {w : World}, Calls Try.prog 27 #[.pointer none] w fun r w' => r = .returned (.int .i64 0) ∧ Below w.heap.size w w'
  least : ∀ {w : World}, Calls Try.prog 13 #[.pointer none] w fun r w' => ∃ a c, r = .returned (.slice a 0 c) ∧ Below w.heap.size w w'
  most : ∀ {w : World}, Calls Try.prog 14 #[.pointer none] w fun r w' => ∃ a c, r = .returned (.slice a 0 c) ∧ Below w.heap.size w w'
  get : ∀ {w : World} {ka : Option Addr} {kl kc : Nat} {key : List Int} {s : Int}, Sl w ka kl kc key → In64 s → Calls Try.prog 15 #[.pointer none, .slice ka kl kc, .int .i64 s] w fun r w' => r = .returned (.tuple #[ent0, .bool false]) ∧ Below w.heap.size w w'
  may : ∀ {w : World} {ka : Option Addr} {kl kc : Nat} {key : List Int}, Sl w ka kl kc key → Calls Try.prog 11 #[.pointer none, .slice ka kl kc] w fun r w' => r = .returned (.bool false) ∧ Below w.heap.size w w'
  list : ∀ {w : World} {fa ta : Option Addr} {fl fc tl tc : Nat} {fr ub : List Int}, Sl w fa fl fc fr → Sl w ta tl tc ub → Calls Try.prog 36 #[.pointer none, .slice fa fl fc, .slice ta tl tc] w fun r w' => ∃ a c, r = .returned (.slice a 0 c) ∧ Below w.heap.size w w'
  all : ∀ {w : World}, Calls Try.prog 10 #[.pointer none] w fun r w' => ∃ a c, r = .returned (.slice a 0 c) ∧ Below w.heap.size w w'

def eT : EntV := ⟨[97], 1, false, 0, [120]⟩
theorem tbl_t : tblE [eT] = 0 := by
  rw [tblE_srt (by decide) (fun e he => by rw [List.mem_singleton.1 he]; decide) (List.pairwise_singleton _ _)]
  rfl
theorem ok_t : ∀ e ∈ [eT], OkE e := fun e he => by
  rw [List.mem_singleton.1 he]
  exact ⟨fun x hx => by simp [eT] at hx; omega, fun x hx => by simp [eT] at hx; omega⟩
theorem len_t : (tblB [eT]).length ≤ 4194304 := (tblE_ok tbl_t).2.2.2.2

set_option maxHeartbeats 1000000 in
set_option maxRecDepth 100000 in
theorem awake12_any (D : PT) (w : World) : Calls Try.prog 7 #[] w fun e w' => e = .returned (.bool true) ∧ Below w.heap.size w w' := by
  have hcv2 : ∀ (w : World) X, (convert 24 24 (.slice (some ⟨w.heap.size + 1, 0, none⟩) 1 1)).run Try.prog ((w.alloc X).alloc (.cells #[.int .u8 120] 5)) = .ok (.slice (some ⟨w.heap.size + 1, 0, none⟩) 1 1) ((w.alloc X).alloc (.cells #[.int .u8 120] 5 (1, 2))) := fun w X => by
    have := Lib.run_convert_bytes_const (P := Try.prog) (w.alloc X) 24 5 #[.int .u8 120] 1 1 Try.underlying24 Try.underlying5
    simpa using this
  have hcv := fun (w : World) a l c => Lib.run_convert_bytes_const (P := Try.prog) w 24 5 a l c Try.underlying24 Try.underlying5
  obtain ⟨W3, hW3⟩ : ∃ W, W = (w.alloc (.cells #[.int .u8 97] 5 (1, 2))).alloc (.cells #[.int .u8 120] 5 (1, 2)) := ⟨_, rfl⟩
  have b2 : Below w.heap.size w W3 := by rw [hW3]; exact ((Below.refl _ w).alloc (Nat.le_refl _) _).alloc (by simp) _
  have s1 : Sl W3 (some ⟨w.heap.size, 0, none⟩) 1 1 [97] := by rw [hW3]; exact (sl_byte w 97 (by decide)).later ((Below.refl _ _).alloc (Nat.le_refl _) _)
  have s2 : Sl W3 (some ⟨w.heap.size + 1, 0, none⟩) 1 1 [120] := by
    have := sl_byte (w.alloc (.cells #[.int .u8 97] 5 (1, 2))) 120 (by decide)
    rw [hW3]
    simpa using this
  have hM : entE.M W3 [.slice (some ⟨w.heap.size, 0, none⟩) 1 1, .int .i64 1, .bool false, .int .i64 0, .slice (some ⟨w.heap.size + 1, 0, none⟩) 1 1] eT := ⟨_, 1, _, 1, rfl, s1, s2, ⟨by decide, by decide⟩, ⟨by decide, by decide⟩⟩
  have hone := rs_one hM
  obtain ⟨L, hL⟩ : ∃ L, L = [eT] := ⟨_, rfl⟩
  rw [← hL] at hone
  have t1 : tblE L = 0 := by rw [hL]; exact tbl_t
  have t2 : ∀ e ∈ L, OkE e := by rw [hL]; exact ok_t
  have t3 : ∀ e ∈ L, e.key.length ≤ 3000 ∧ e.val.length ≤ 3000 := by rw [hL]; exact fun e he => by rw [List.mem_singleton.1 he]; exact ⟨by decide, by decide⟩
  have t4 : L.length = 1 := by rw [hL]; rfl
  have t5 : lastK [] L = [97] := by rw [hL]; rfl
  clear hL
  have hp := D.build ⟨_, hone⟩ (by decide) t3
  have hX : tblX L = tblB L := by unfold tblX; rw [if_pos t1]
  rw [t1, hX] at hp
  have hsz : W3.heap.size = w.heap.size + 2 := by rw [hW3]; simp
  have HB : Hid (Below w.heap.size w (W3.alloc (.cells #[.slice (some ⟨w.heap.size, 0, none⟩) 1 1, .int .i64 1, .bool false, .int .i64 0, .slice (some ⟨w.heap.size + 1, 0, none⟩) 1 1] 36))) := b2.alloc b2.size _
  have ho := opT_of_tbl t1 t2
  have hbl := (tblE_ok t1).2.2.2.2
  obtain ⟨X, hXX⟩ : ∃ X, X = tblB L := ⟨_, rfl⟩
  rw [← hXX] at hp ho hbl
  obtain ⟨N, hN⟩ : ∃ n, n = X.length := ⟨_, rfl⟩
  have HN : Hid (N = X.length ∧ N ≤ 4194304) := ⟨hN, by rw [hN]; exact hbl⟩
  have HOP : Hid (∀ {wx : World} {a : Option Addr} {c : Nat}, Sl wx a N c X → Calls Try.prog 8 #[.slice a N c] wx fun e w' => ∃ p, e = .returned (.tuple #[.pointer (some ⟨p, 0, none⟩), .int .i64 0]) ∧ D.R w' p L ∧ Below wx.heap.size wx w') := fun {wx a c} hs => (D.opn hs (by have := HN.out.2; omega)).mono fun e w' ⟨v, E, he, h1, h2, h3, h4⟩ => by
    rw [ho] at h1 h3
    have hE := h1.2 rfl
    obtain ⟨p, hv, hR⟩ := h3 hE
    exact ⟨p, by rw [he, hE, hv]; rfl, hR, h4⟩
  have HT : Hid (L.length = 1 ∧ lastK [] L = [97]) := ⟨t4, t5⟩
  clear t1 t2 t3 t4 t5 ho hbl hXX
  rw [hsz] at hp
  rw [hW3] at hp HB
  clear hM hone b2 s1 s2 hsz hW3 hX hN
  go_enter Try.func7, Try.ntmps7
  go_upto_region 2 with (go_at_call 6; refine hp.mono ?_; rintro e w1 ⟨v1, rfl, ⟨a1, c1, hv1, s1⟩, b1⟩; rw [← HN.out.1] at hv1 s1; subst hv1)
  have ho := HOP.out s1
  have HB1 := hid (HB.out.trans (b1.mono HB.out.size))
  clear hp s1 b1 hcv hcv2 HB
  go_upto_region 3 with (go_at_call 8; refine ho.mono ?_; rintro e w2 ⟨p, rfl, hR, b2⟩)
  have HB2 := hid (HB1.out.trans (b2.mono HB1.out.size))
  have hl := D.len hR
  rw [HT.out.1] at hl
  have HMO : Hid (∀ wx, Below w2.heap.size w2 wx → Calls Try.prog 14 #[.pointer (some ⟨p, 0, none⟩)] wx fun r w' => ∃ a c, r = .returned (.slice a 1 c) ∧ Sl w' a 1 c [97] ∧ Below wx.heap.size wx w') := fun wx hb => (D.most (D.later hR hb)).mono fun e w' ⟨v, he, ⟨a, c, hv, hs⟩, hb'⟩ => by
    rw [HT.out.2] at hv hs
    exact ⟨a, c, by rw [he, hv]; rfl, hs, hb'⟩
  unfold pm at hl
  clear ho hR b2
  go_wp2_with (first | (go_at_call 27; refine hl.mono ?_; rintro e w3 ⟨rfl, b3⟩) | (go_at_call 14; refine (HMO.out _ b3).mono ?_; rintro e w4 ⟨a4, c4, rfl, s4, b4⟩; have hst := str_l s4; rw [show strOfNums [97] = ⟨#[97]⟩ from rfl] at hst))
  exact bodyPost_ret (v := .bool true) (by simp [results, Try.results7, go_sem]) rfl ⟨rfl, (HB2.out.trans (b3.mono HB2.out.size)).trans (b4.mono (Nat.le_trans HB2.out.size b3.size))⟩

end Go.Proofs.Ytimpaindbbjieab

/- The document's own Ordered, of rows in order. -/
namespace Go.Proofs.Ytimpaindbbjieab
open Go.RowKit
set_option linter.unusedVariables false
set_option linter.unusedSimpArgs false

set_option maxHeartbeats 4000000 in
set_option maxRecDepth 100000 in
theorem rordE_any {w : World} {ao : Option Addr} {len cap : Nat} {l : List EntV} (h : RS entE w ao len cap l) (hl : len ≤ 1000000) (ho : ordE l) :
    Calls Try.prog 16 #[.slice ao len cap] w fun r w' => r = .returned (.bool true) ∧ Below w.heap.size w w' := by
  have HS : Hid (RS entE w ao len cap l ∧ ordE l ∧ len ≤ 1000000) := ⟨h, ho, hl⟩
  have hln : l.length = len := h.len.1
  have hl62 : len ≤ 2 ^ 61 := by omega
  clear h hl ho
  go_enter Try.func16, Try.ntmps16
  go_wp2_with fail
  go_loopg [3] len (fun g i wr => ∃ k : Nat, (k + g = len ∨ (k = 0 ∧ g = len)) ∧ i = .int .i64 ((k + 1 : Nat) : Int) ∧ Hid (Below w.heap.size w wr))
  case atStart => exact ⟨0, .inr ⟨rfl, rfl⟩, rfl, Below.refl _ _⟩
  case round =>
    obtain ⟨k, hk, rfl, HK⟩ := hrel
    by_cases hkl : k + 1 < len
    · have hkl' : (k : Int) + 1 < (len : Int) := by omega
      have hdl : decide ((k : Int) + 1 < (len : Int)) = true := by simpa using hkl'
      have hx1 : k < l.length := by omega
      have hx2 : k + 1 < l.length := by omega
      obtain ⟨b, off, ka, kc, va, vc, hab, d0, d1, d2, d3, d4, s1, s2, i1, i2⟩ := RS.ent (HS.out.1.later HK.out) (List.getElem?_eq_getElem hx1)
      obtain ⟨b', off', kb, kd, vb, vd, hab', e0, e1, e2, e3, e4, t1, t2, j1, j2⟩ := RS.ent (HS.out.1.later HK.out) (List.getElem?_eq_getElem hx2)
      rw [hab] at hab'
      simp only [Option.some.injEq, Addr.mk.injEq, and_true] at hab'
      obtain ⟨rfl, rfl⟩ := hab'
      subst hab
      have hah : ahead l[k] l[k + 1] < 0 := List.pairwise_iff_getElem.1 HS.out.2.1 _ _ hx1 hx2 (by omega)
      have hA := rahead_any (va := va) (vc := vc) (vb := vb) (vd := vd) (s1.drewN 1) (t1.drewN 1)
      unfold entA at hA
      generalize ahead l[k] l[k + 1] = c at hA hah
      generalize l[k] = o at d0 d1 d2 d3 d4 hA
      generalize l[k + 1] = o' at e0 e1 e2 e3 e4 hA
      generalize o.key.length = kl at d0 hA
      generalize o.val.length = ln at d4 hA
      generalize o.seq = seq at d1 hA
      generalize o.gone = gone at d2 hA
      generalize o.till = till at d3 hA
      generalize o'.key.length = kl2 at e0 hA
      generalize o'.val.length = ln2 at e4 hA
      generalize o'.seq = seq2 at e1 hA
      generalize o'.gone = gone2 at e2 hA
      generalize o'.till = till2 at e3 hA
      have hk62 : k ≤ 2 ^ 60 := by have := HS.out.2.2; omega
      have hwa : IntKind.i64.wrap ((k : Int) + 1 - 1) = (k : Int) := by rw [IntKind.wrap_i64]; omega
      have hwb : wrap64 ((k : Int) + 1 - 1) = (k : Int) := by unfold wrap64; omega
      have hwc : IntKind.i64.wrap (k : Int) = (k : Int) := by rw [IntKind.wrap_i64]; omega
      have hwd : wrap64 (k : Int) = (k : Int) := by unfold wrap64; omega
      have hkl0 : (k : Int) < (len : Int) := by omega
      have hkl3 : k < len := by omega
      have hge : decide (c ≥ 0) = false := by simp; omega
      have hge2 : decide (0 ≤ c) = false := by simp; omega
      obtain ⟨GK, HG⟩ : ∃ g, Hid (g < gk ∧ k + 1 + g = len) := ⟨len - (k + 1), by omega, by omega⟩
      have HKB : Hid (∀ wx, Below wr.drew.heap.size wr.drew wx → Below w.heap.size w wx) := fun wx hb => HK.out.drew.trans (hb.mono HK.out.drew.size)
      clear s1 s2 i1 i2 t1 t2 j1 j2 hk
      go_wp2_with fail
      go_region_held_law (fun w' => (w'.cell? ⟨b, off + k * 5, none⟩ = some (.slice ka kl kc) ∧ w'.cell? ⟨b, off + k * 5 + 1, none⟩ = some (.int .i64 seq) ∧ w'.cell? ⟨b, off + k * 5 + 2, none⟩ = some (.bool gone) ∧ w'.cell? ⟨b, off + k * 5 + 3, none⟩ = some (.int .i64 till) ∧ w'.cell? ⟨b, off + k * 5 + 4, none⟩ = some (.slice va ln vc)) ∧ (w'.cell? ⟨b, off + (k + 1) * 5, none⟩ = some (.slice kb kl2 kd) ∧ w'.cell? ⟨b, off + (k + 1) * 5 + 1, none⟩ = some (.int .i64 seq2) ∧ w'.cell? ⟨b, off + (k + 1) * 5 + 2, none⟩ = some (.bool gone2) ∧ w'.cell? ⟨b, off + (k + 1) * 5 + 3, none⟩ = some (.int .i64 till2) ∧ w'.cell? ⟨b, off + (k + 1) * 5 + 4, none⟩ = some (.slice vb ln2 vd))) (first | exact ⟨⟨d0, d1, d2, d3, d4⟩, ⟨e0, e1, e2, e3, e4⟩⟩ | exact ⟨⟨cell_later hb5 d0, cell_later hb5 d1, cell_later hb5 d2, cell_later hb5 d3, cell_later hb5 d4⟩, ⟨cell_later hb5 e0, cell_later hb5 e1, cell_later hb5 e2, cell_later hb5 e3, cell_later hb5 e4⟩⟩) (first | (go_at_call 40; refine hA.mono ?_; rintro e w5 ⟨rfl, hb5⟩))
      go_wp2_with fail
      go_roundg GK
      case measure => exact HG.out.1
      case rel => exact ⟨k + 1, .inl HG.out.2, by go_num, HKB.out _ hb5⟩
    · have hkl' : (len : Int) ≤ (k : Int) + 1 := by omega
      clear hk hkl
      go_wp2_with fail
      exact bodyPost_ret (v := .bool true) (by simp [results, Try.results16, go_sem]) rfl ⟨rfl, HK.out⟩
end Go.Proofs.Ytimpaindbbjieab
