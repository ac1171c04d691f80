import Derived.Lib.SlBytesConst
import Derived.BigQuiet
import Derived.Test.YtimpaindbbjieaaPk03
import Derived.Test.YtimpaindbbjieaaPk08
import Derived.Test.YtimpaindbbjieaaPk16
/- The law's own mem that every program must know. -/
namespace Go.Proofs.Ytimpaindbbjieaa
open Go.RowKit
set_option linter.unusedVariables false
set_option linter.unusedSimpArgs false

theorem sl_byte (w : World) (c : Nat) (hc : c < 256) : Sl (w.alloc (.cells #[.int .u8 (c : Int)] 5 (1, 2))) (some ⟨w.heap.size, 0, none⟩) 1 1 [(c : Int)] := by
  refine ⟨rfl, fun x hx => by simp at hx; omega, (fun e => by cases e), Nat.le_refl _, by unfold maxLen; omega, fun k hk => ?_⟩
  obtain rfl : k = 0 := by omega
  refine ⟨by simpa [xof] using hc, w.heap.size, 0, rfl, ?_⟩
  have e : (w.alloc (.cells #[.int .u8 (c : Int)] 5 (1, 2))).heap[w.heap.size]? = some (.cells #[.int .u8 (c : Int)] 5 (1, 2)) := heap_alloc_new w _
  unfold World.cell?
  rw [e]
  simp [xof]
def eA : EntV := ⟨[97], 5, false, 0, [120]⟩
def eB : EntV := ⟨[97], 7, true, 0, []⟩
theorem add_a : addE [] eA = (0, [eA]) := by simp [addE, mayE, hasE, putE, atE, eA]
theorem ahead_ab : ahead eA eB = 1 := by simp [ahead, eA, eB, cmp]
theorem add_b : addE [eA] eB = (0, [eB, eA]) := by simp [addE, mayE, hasE, putE, atE, ahead_ab]; simp [eB]
theorem get_ab : getE [eB, eA] [97] 6 = some eA := by simp [getE, eA, eB, cmp]
theorem ord_nil : ordE [] := List.Pairwise.nil
theorem ok_nil : okE [] := fun e he => by cases he
theorem ord_a : ordE [eA] := List.pairwise_singleton _ _
theorem ok_a : okE [eA] := by have := addE_ok ok_nil eA; rw [add_a] at this; exact this
theorem ord_ab : ordE [eB, eA] := by have := addE_ord ord_a eB; rw [add_b] at this; exact this
theorem ok_ab : okE [eB, eA] := by have := addE_ok ok_a eB; rw [add_b] at this; exact this
theorem in64_of {n : Int} (h1 : -9223372036854775808 ≤ n) (h2 : n ≤ 9223372036854775807) : In64 n := ⟨h1, h2⟩
theorem refs_pair {a b : Nat} {k v : Value} {s t : Int} {g : Bool} (hk : ∀ x, Refs k x → x = a) (hv : ∀ x, Refs v x → x = b) : ∀ u ∈ [k, .int .i64 s, .bool g, .int .i64 t, v], ∀ x, Refs u x → x = a ∨ x = b := fun u hu x hx => by
  simp only [List.mem_cons, List.not_mem_nil, or_false] at hu
  rcases hu with rfl | rfl | rfl | rfl | rfl
  · exact .inl (hk x hx)
  · exact (refs_int hx).elim
  · exact (refs_bool hx).elim
  · exact (refs_int hx).elim
  · exact .inr (hv x hx)
theorem refs_at {a l c x : Nat} (h : Refs (.slice (some ⟨a, 0, none⟩) l c) x) : x = a := by
  obtain ⟨off, l', c', e, _⟩ := h
  simp only [Value.slice.injEq, Option.some.injEq, Addr.mk.injEq, and_true] at e
  exact e.1.1.symm
theorem refs_none {a x : Nat} (h : Refs (.slice none 0 0) x) : x = a := by
  obtain ⟨off, l', c', e, _⟩ := h
  cases e

end Go.Proofs.Ytimpaindbbjieaa

/- What the laws on tables lean on: what a program's own must keep; the simple ones. -/
namespace Go.Proofs.Ytimpaindbbjieaa
open Go.RowKit
set_option linter.unusedVariables false
set_option linter.unusedSimpArgs false

def tblX (l : List EntV) : List Int := if tblE l = 0 then tblB l else []
/-- : what is asked of a program's tables. -/
structure PT where
  R : World → Nat → List EntV → Prop
  later : ∀ {w w' : World} {p : Nat} {l : List EntV}, R w p l → Below w.heap.size w w' → R w' p l
  build : ∀ {w : World} {ao : Option Addr} {len cap : Nat} {l : List EntV}, RS entE w ao len cap l → len ≤ 4010 → (∀ e ∈ l, e.key.length ≤ 3000 ∧ e.val.length ≤ 3000) → Calls Try.prog 9 #[.slice ao len cap] w fun e w' => ∃ v, e = .returned (.tuple #[v, .int .i64 ((tblE l : Nat) : Int)]) ∧ SlV w' v (tblX l) ∧ Below w.heap.size w w'
  opn : ∀ {w : World} {ao : Option Addr} {len cap : Nat} {b : List Int}, Sl w ao len cap b → len ≤ 5000000 → Calls Try.prog 12 #[.slice ao len cap] w fun e w' => ∃ (v : Value) (E : Nat), e = .returned (.tuple #[v, .int .i64 (E : Int)]) ∧ (E = 0 ↔ (opT tkD b).1 = 0) ∧ (E ≠ 0 → v = .pointer none) ∧ (E = 0 → ∃ p, v = pm p ∧ R w' p (opT tkD b).2) ∧ Below w.heap.size w w'
  len : ∀ {w : World} {p : Nat} {l : List EntV}, R w p l → Calls Try.prog 16 #[pm p] w fun r w' => r = .returned (.int .i64 (l.length : Nat)) ∧ Below w.heap.size w w'
  least : ∀ {w : World} {p : Nat} {l : List EntV}, R w p l → Calls Try.prog 17 #[pm p] w fun r w' => ∃ v, r = .returned v ∧ SlV w' v (l.head?.elim [] (·.key)) ∧ Below w.heap.size w w'
  most : ∀ {w : World} {p : Nat} {l : List EntV}, R w p l → Calls Try.prog 18 #[pm p] w fun r w' => ∃ v, r = .returned v ∧ SlV w' v (lastK [] l) ∧ Below w.heap.size w w'
  get : ∀ {w : World} {p : Nat} {l : List EntV} {ka : Option Addr} {kl kc : Nat} {key : List Int} {s : Int}, R w p l → Sl w ka kl kc key → In64 s → Calls Try.prog 13 #[pm p, .slice ka kl kc, .int .i64 s] w fun r w' => (∃ B, GotE B (getE l key s) r w') ∧ Below w.heap.size w w'
  may : ∀ {w : World} {p : Nat} {l : List EntV} {ka : Option Addr} {kl kc : Nat} {key : List Int}, R w p l → Sl w ka kl kc key → Calls Try.prog 23 #[pm p, .slice ka kl kc] w fun r w' => r = .returned (.bool (has (filT l) key)) ∧ Below w.heap.size w w'
  list : ∀ {w : World} {p : Nat} {l : List EntV} {fa ta : Option Addr} {fl fc tl tc : Nat} {fr ub : List Int}, R w p l → Sl w fa fl fc fr → Sl w ta tl tc ub → Calls Try.prog 21 #[pm p, .slice fa fl fc, .slice ta tl tc] w fun r w' => ∃ v, r = .returned v ∧ RSV entE w' v (listE l fr ub) ∧ Below w.heap.size w w'
  all : ∀ {w : World} {p : Nat} {l : List EntV}, R w p l → Calls Try.prog 26 #[pm p] w fun r w' => ∃ v, r = .returned v ∧ RSV entE w' v l ∧ Below w.heap.size w w'
/-- : what is asked of a table that there is not. -/
structure PTN : Prop where
  len : ∀ {w : World}, Calls Try.prog 16 #[.pointer none] w fun r w' => r = .returned (.int .i64 0) ∧ Below w.heap.size w w'
  least : ∀ {w : World}, Calls Try.prog 17 #[.pointer none] w fun r w' => ∃ a c, r = .returned (.slice a 0 c) ∧ Below w.heap.size w w'
  most : ∀ {w : World}, Calls Try.prog 18 #[.pointer none] w fun r w' => ∃ a c, r = .returned (.slice a 0 c) ∧ Below w.heap.size w w'
  get : ∀ {w : World} {ka : Option Addr} {kl kc : Nat} {key : List Int} {s : Int}, Sl w ka kl kc key → In64 s → Calls Try.prog 13 #[.pointer none, .slice ka kl kc, .int .i64 s] w fun r w' => r = .returned (.tuple #[ent0, .bool false]) ∧ Below w.heap.size w w'
  may : ∀ {w : World} {ka : Option Addr} {kl kc : Nat} {key : List Int}, Sl w ka kl kc key → Calls Try.prog 23 #[.pointer none, .slice ka kl kc] w fun r w' => r = .returned (.bool false) ∧ Below w.heap.size w w'
  list : ∀ {w : World} {fa ta : Option Addr} {fl fc tl tc : Nat} {fr ub : List Int}, Sl w fa fl fc fr → Sl w ta tl tc ub → Calls Try.prog 21 #[.pointer none, .slice fa fl fc, .slice ta tl tc] w fun r w' => ∃ a c, r = .returned (.slice a 0 c) ∧ Below w.heap.size w w'
  all : ∀ {w : World}, Calls Try.prog 26 #[.pointer none] w fun r w' => ∃ a c, r = .returned (.slice a 0 c) ∧ Below w.heap.size w w'

def eT : EntV := ⟨[97], 1, false, 0, [120]⟩
theorem tbl_t : tblE [eT] = 0 := by
  rw [tblE_srt (by decide) (fun e he => by rw [List.mem_singleton.1 he]; decide) (List.pairwise_singleton _ _)]
  rfl
theorem ok_t : ∀ e ∈ [eT], OkE e := fun e he => by
  rw [List.mem_singleton.1 he]
  exact ⟨fun x hx => by simp [eT] at hx; omega, fun x hx => by simp [eT] at hx; omega⟩
theorem len_t : (tblB [eT]).length ≤ 4194304 := (tblE_ok tbl_t).2.2.2.2

set_option maxHeartbeats 1000000 in
set_option maxRecDepth 100000 in
theorem awake12_any (D : PT) (w : World) : Calls Try.prog 8 #[] w fun e w' => e = .returned (.bool true) ∧ Below w.heap.size w w' := by
  have hcv2 : ∀ (w : World) X, (convert 25 25 (.slice (some ⟨w.heap.size + 1, 0, none⟩) 1 1)).run Try.prog ((w.alloc X).alloc (.cells #[.int .u8 120] 5)) = .ok (.slice (some ⟨w.heap.size + 1, 0, none⟩) 1 1) ((w.alloc X).alloc (.cells #[.int .u8 120] 5 (1, 2))) := fun w X => by
    have := Lib.run_convert_bytes_const (P := Try.prog) (w.alloc X) 25 5 #[.int .u8 120] 1 1 Try.underlying25 Try.underlying5
    simpa using this
  have hcv := fun (w : World) a l c => Lib.run_convert_bytes_const (P := Try.prog) w 25 5 a l c Try.underlying25 Try.underlying5
  obtain ⟨W3, hW3⟩ : ∃ W, W = (w.alloc (.cells #[.int .u8 97] 5 (1, 2))).alloc (.cells #[.int .u8 120] 5 (1, 2)) := ⟨_, rfl⟩
  have b2 : Below w.heap.size w W3 := by rw [hW3]; exact ((Below.refl _ w).alloc (Nat.le_refl _) _).alloc (by simp) _
  have s1 : Sl W3 (some ⟨w.heap.size, 0, none⟩) 1 1 [97] := by rw [hW3]; exact (sl_byte w 97 (by decide)).later ((Below.refl _ _).alloc (Nat.le_refl _) _)
  have s2 : Sl W3 (some ⟨w.heap.size + 1, 0, none⟩) 1 1 [120] := by
    have := sl_byte (w.alloc (.cells #[.int .u8 97] 5 (1, 2))) 120 (by decide)
    rw [hW3]
    simpa using this
  have hM : entE.M W3 [.slice (some ⟨w.heap.size, 0, none⟩) 1 1, .int .i64 1, .bool false, .int .i64 0, .slice (some ⟨w.heap.size + 1, 0, none⟩) 1 1] eT := ⟨_, 1, _, 1, rfl, s1, s2, ⟨by decide, by decide⟩, ⟨by decide, by decide⟩⟩
  have hone := rs_one hM
  obtain ⟨L, hL⟩ : ∃ L, L = [eT] := ⟨_, rfl⟩
  rw [← hL] at hone
  have t1 : tblE L = 0 := by rw [hL]; exact tbl_t
  have t2 : ∀ e ∈ L, OkE e := by rw [hL]; exact ok_t
  have t3 : ∀ e ∈ L, e.key.length ≤ 3000 ∧ e.val.length ≤ 3000 := by rw [hL]; exact fun e he => by rw [List.mem_singleton.1 he]; exact ⟨by decide, by decide⟩
  have t4 : L.length = 1 := by rw [hL]; rfl
  have t5 : lastK [] L = [97] := by rw [hL]; rfl
  clear hL
  have hp := D.build ⟨_, hone⟩ (by decide) t3
  have hX : tblX L = tblB L := by unfold tblX; rw [if_pos t1]
  rw [t1, hX] at hp
  have hsz : W3.heap.size = w.heap.size + 2 := by rw [hW3]; simp
  have HB : Hid (Below w.heap.size w (W3.alloc (.cells #[.slice (some ⟨w.heap.size, 0, none⟩) 1 1, .int .i64 1, .bool false, .int .i64 0, .slice (some ⟨w.heap.size + 1, 0, none⟩) 1 1] 34))) := b2.alloc b2.size _
  have ho := opT_of_tbl t1 t2
  have hbl := (tblE_ok t1).2.2.2.2
  obtain ⟨X, hXX⟩ : ∃ X, X = tblB L := ⟨_, rfl⟩
  rw [← hXX] at hp ho hbl
  obtain ⟨N, hN⟩ : ∃ n, n = X.length := ⟨_, rfl⟩
  have HN : Hid (N = X.length ∧ N ≤ 4194304) := ⟨hN, by rw [hN]; exact hbl⟩
  have HOP : Hid (∀ {wx : World} {a : Option Addr} {c : Nat}, Sl wx a N c X → Calls Try.prog 12 #[.slice a N c] wx fun e w' => ∃ p, e = .returned (.tuple #[.pointer (some ⟨p, 0, none⟩), .int .i64 0]) ∧ D.R w' p L ∧ Below wx.heap.size wx w') := fun {wx a c} hs => (D.opn hs (by have := HN.out.2; omega)).mono fun e w' ⟨v, E, he, h1, h2, h3, h4⟩ => by
    rw [ho] at h1 h3
    have hE := h1.2 rfl
    obtain ⟨p, hv, hR⟩ := h3 hE
    exact ⟨p, by rw [he, hE, hv]; rfl, hR, h4⟩
  have HT : Hid (L.length = 1 ∧ lastK [] L = [97]) := ⟨t4, t5⟩
  clear t1 t2 t3 t4 t5 ho hbl hXX
  rw [hsz] at hp
  rw [hW3] at hp HB
  clear hM hone b2 s1 s2 hsz hW3 hX hN
  go_enter Try.func8, Try.ntmps8
  go_upto_region 2 with (go_at_call 9; refine hp.mono ?_; rintro e w1 ⟨v1, rfl, ⟨a1, c1, hv1, s1⟩, b1⟩; rw [← HN.out.1] at hv1 s1; subst hv1)
  have ho := HOP.out s1
  have HB1 := hid (HB.out.trans (b1.mono HB.out.size))
  clear hp s1 b1 hcv hcv2 HB
  go_upto_region 3 with (go_at_call 12; refine ho.mono ?_; rintro e w2 ⟨p, rfl, hR, b2⟩)
  have HB2 := hid (HB1.out.trans (b2.mono HB1.out.size))
  have hl := D.len hR
  rw [HT.out.1] at hl
  have HMO : Hid (∀ wx, Below w2.heap.size w2 wx → Calls Try.prog 18 #[.pointer (some ⟨p, 0, none⟩)] wx fun r w' => ∃ a c, r = .returned (.slice a 1 c) ∧ Sl w' a 1 c [97] ∧ Below wx.heap.size wx w') := fun wx hb => (D.most (D.later hR hb)).mono fun e w' ⟨v, he, ⟨a, c, hv, hs⟩, hb'⟩ => by
    rw [HT.out.2] at hv hs
    exact ⟨a, c, by rw [he, hv]; rfl, hs, hb'⟩
  unfold pm at hl
  clear ho hR b2
  go_wp2_with (first | (go_at_call 16; refine hl.mono ?_; rintro e w3 ⟨rfl, b3⟩) | (go_at_call 18; refine (HMO.out _ b3).mono ?_; rintro e w4 ⟨a4, c4, rfl, s4, b4⟩; have hst := str_l s4; rw [show strOfNums [97] = ⟨#[97]⟩ from rfl] at hst))
  exact bodyPost_ret (v := .bool true) (by simp [results, Try.results8, go_sem]) rfl ⟨rfl, (HB2.out.trans (b3.mono HB2.out.size)).trans (b4.mono (Nat.le_trans HB2.out.size b3.size))⟩

set_option maxHeartbeats 1000000 in
set_option maxRecDepth 100000 in
theorem nil12_any (D : PT) (N : PTN) {w : World} {ka : Option Addr} {kl kc : Nat} {key : List Int} {s : Int} (hk : Sl w ka kl kc key) (hs : In64 s) :
    Calls Try.prog 5 #[.slice ka kl kc, .int .i64 s] w fun e w' => e = .returned (.bool true) ∧ Below w.heap.size w w' := by
  have hg := N.get hk hs
  have HAW : Hid (∀ wx, Calls Try.prog 8 #[] wx fun e w' => e = .returned (.bool true) ∧ Below wx.heap.size wx w') := fun wx => awake12_any D wx
  have HL : Hid (∀ wx : World, Calls Try.prog 16 #[.pointer none] wx fun r w' => r = .returned (.int .i64 0) ∧ Below wx.heap.size wx w') := fun wx => N.len
  have HLE : Hid (∀ wx : World, Calls Try.prog 17 #[.pointer none] wx fun r w' => ∃ a c, r = .returned (.slice a 0 c) ∧ Below wx.heap.size wx w') := fun wx => N.least
  have HMO : Hid (∀ wx : World, Calls Try.prog 18 #[.pointer none] wx fun r w' => ∃ a c, r = .returned (.slice a 0 c) ∧ Below wx.heap.size wx w') := fun wx => N.most
  have HMA : Hid (∀ wx : World, Below w.heap.size w wx → Calls Try.prog 23 #[.pointer none, .slice ka kl kc] wx fun r w' => r = .returned (.bool false) ∧ Below wx.heap.size wx w') := fun wx hb => N.may (hk.later hb)
  have HAL : Hid (∀ wx : World, Calls Try.prog 26 #[.pointer none] wx fun r w' => ∃ a c, r = .returned (.slice a 0 c) ∧ Below wx.heap.size wx w') := fun wx => N.all
  have HLI : Hid (∀ wx : World, Below w.heap.size w wx → Calls Try.prog 21 #[.pointer none, .slice ka kl kc, .slice none 0 0] wx fun r w' => ∃ a c, r = .returned (.slice a 0 c) ∧ Below wx.heap.size wx w') := fun wx hb => N.list (hk.later hb) (Sl.nil _)
  unfold ent0 at hg
  clear hk hs
  go_enter Try.func5, Try.ntmps5
  go_upto_region 3 with (go_at_call 13; refine hg.mono ?_; rintro e w1 ⟨rfl, b1⟩)
  have B1 : Below w.heap.size w (w1.alloc (.cells #[.slice none 0 0, .int .i64 0, .bool false, .int .i64 0, .slice none 0 0] 34)) := b1.alloc b1.size _
  clear hg
  go_wp2_with (first | (go_at_call 16; refine (HL.out _).mono ?_; rintro e w2 ⟨rfl, b2⟩; have B2 := B1.trans (b2.mono B1.size)) | (go_at_call 17; refine (HLE.out _).mono ?_; rintro e w3 ⟨a3, c3, rfl, b3⟩; have B3 := B2.trans (b3.mono B2.size)) | (go_at_call 18; refine (HMO.out _).mono ?_; rintro e w4 ⟨a4, c4, rfl, b4⟩; have B4 := B3.trans (b4.mono B3.size)) | (go_at_call 23; refine (HMA.out _ B4).mono ?_; rintro e w5 ⟨rfl, b5⟩; have B5 := B4.trans (b5.mono B4.size)) | (go_at_call 26; refine (HAL.out _).mono ?_; rintro e w6 ⟨a6, c6, rfl, b6⟩; have B6 := B5.trans (b6.mono B5.size)) | (go_at_call 21; refine (HLI.out _ B6).mono ?_; rintro e w7 ⟨a7, c7, rfl, b7⟩; have B7 := B6.trans (b7.mono B6.size)) | (go_at_call 8; refine (HAW.out _).mono ?_; rintro e w8 ⟨rfl, b8⟩))
  exact bodyPost_ret (v := .bool true) (by simp [results, Try.results5, go_sem]) rfl ⟨rfl, B7.trans (b8.mono B7.size)⟩
end Go.Proofs.Ytimpaindbbjieaa

/- bytes.Clone. -/
namespace Go.Proofs.Ytimpaindbbjieaa
open Go.RowKit
set_option linter.unusedVariables false
set_option linter.unusedSimpArgs false

theorem wpList_applN {w : World} {ops : Array Oper} {rest : List Oper} {o : Oper} {a : Act} {Q : Exit → Act → World → Prop} {B : Nat} {v : Value} {xs ys : List Int} {ao : Option Addr} {m c : Nat} (hgd : o.guard = none) (s x : Operand)
    (ho : o.op = .call { callee := .builtin .append, args := #[s, x], argTypes := #[25, 25] }) (hs : a.eval s = v) (hrow : Row B w v xs) (hx : a.eval x = .slice ao m c) (hsl : Sl w ao m c ys) (hb : xs.length + m ≤ 140737488355328) (hB : B ≤ w.heap.size)
    (h : ∀ v' w', Row B w' v' (xs ++ ys) → w.grownBy w' v.ownBlock → Moved w v v' → wpList Try.prog ops Q rest (a.put o.dst v') w') : wpList Try.prog ops Q (o :: rest) a w :=
  wpList_plain hgd fun K hK => by
    obtain ⟨v', w', hr, h2, h3, h4⟩ := run_app B w o.type v xs hrow ao m c (xof ys) hsl.2.2.1 hsl.2.2.2.2.2 hb hB
    rw [← hsl.1, bs_xof hsl.2.1] at h2
    unfold Oper.wp execOp
    simp only [ho, resolve, invoke, builtin, Sem.run_bind, Sem.run_pure, Result.andThen_ok, List.map_toArray, List.map_cons, List.map_nil, hs, hx, hr]
    exact hK _ _ (h v' w' h2 h3 h4)
set_option maxHeartbeats 1000000 in
set_option maxRecDepth 100000 in
theorem clone_n {w : World} {ao : Option Addr} {len cap : Nat} {xs : List Int} (h : Sl w ao len cap xs) (hl : len ≤ 140737488355328) :
    Calls Try.prog 52 #[.slice ao len cap] w fun e w' => ∃ v, e = .returned v ∧ Row w.heap.size w' v xs ∧ Below w.heap.size w w' := by
  have q22 : ∀ (w : World) (a : Option Addr) (n c n' c' : Nat), (binOp .eql 25 (.slice a n c) (.slice none n' c')).run Try.prog w = .ok (.bool a.isNone) w := fun w a n c n' c' => Lib.run_eql_slice_nil w _ _ a n c n' c' Try.underlying25
  cases ao with
  | none =>
    obtain ⟨rfl, rfl⟩ := h.2.2.1 rfl
    have hx : xs = [] := List.eq_nil_of_length_eq_zero h.1
    subst hx
    clear h hl
    go_enter Try.func52, Try.ntmps52
    go_wp2_with fail
    exact bodyPost_ret (v := .slice none 0 0) (by simp [results, Try.results52, go_sem]) rfl ⟨_, rfl, Row.nil _ _, Below.refl _ _⟩
  | some a =>
    have b1 : Below w.heap.size w (w.alloc (.cells #[] 5)) := (Below.refl _ _).alloc (Nat.le_refl _) _
    have HS : Hid (Sl (w.alloc (.cells #[] 5)) (some a) len cap xs ∧ len ≤ 140737488355328 ∧ Below w.heap.size w (w.alloc (.cells #[] 5)) ∧ Row w.heap.size (w.alloc (.cells #[] 5)) (.slice (some ⟨w.heap.size, 0, none⟩) 0 0) []) := ⟨h.later b1, hl, b1, World.ownsRow_made w #[] 0 (Nat.le_refl _) (Nat.zero_le _) rfl⟩
    clear h hl b1
    go_enter Try.func52, Try.ntmps52
    go_wp2_with (at_builtin; refine wpList_applN (B := w.heap.size) rfl (.tmp 5) (.tmp 6) rfl rfl HS.out.2.2.2 rfl HS.out.1 (by have := HS.out.2.1; simp; omega) HS.out.2.2.1.size ?_; intro v2 w2 r2 g2 m2)
    exact bodyPost_ret (v := v2) (by simp [results, Try.results52, go_sem]) rfl ⟨v2, rfl, r2, HS.out.2.2.1.trans (grown_below HS.out.2.2.2 g2 HS.out.2.2.1.size)⟩

end Go.Proofs.Ytimpaindbbjieaa
