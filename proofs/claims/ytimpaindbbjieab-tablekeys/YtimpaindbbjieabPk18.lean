import Derived.Deep.RegionHeldLaw
import Derived.Laws.BitsAllLaws
import Derived.Test.YtimpaindbbjieabPk10
import Derived.Test.YtimpaindbbjieabPk17
/- The law's own filling of a mem, of any mem. -/
namespace Go.Proofs.Ytimpaindbbjieab
open Go.RowKit
set_option linter.unusedVariables false
set_option linter.unusedSimpArgs false

theorem RowF.kept {α : Type} {E : El α} {B : Nat} {G F : Nat → Prop} {w w' : World} {v : Value} {xs : List α} (h : RowF E B G w v xs) (hk : Kept F w w') (h1 : ∀ g, v.ownBlock = some g → ¬ F g) (h2 : ∀ b, G b → ¬ F b) : RowF E B G w' v xs := by
  obtain ⟨us, hown, g2, g3, g4⟩ := h
  refine ⟨us, ⟨hown.1, ?_⟩, g2.keep fun u hu b hr => hk.block b (g2.lt u hu b hr) (h2 b (g4 u hu b hr)), g3, g4⟩
  rcases hown.2 with q | ⟨g, cap, cur, q1, q2, q3, q4⟩
  · exact .inl q
  · exact .inr ⟨g, cap, cur, q1, q2, by rw [hk.block g (Array.getElem?_eq_some_iff.1 q3).1 (h1 g (by rw [q1]; rfl))]; exact q3, q4⟩
/-- A mem and the document's own row, side by side. -/
def FillS (D : PM) (w : World) (p : Nat) (n : Nat) (wx : World) (v : Value) : Prop :=
  ∃ F L, D.R wx p L F ∧ ordE L ∧ okE L ∧ L.length ≤ n ∧ RowF entE w.heap.size (fun b => b < w.heap.size) wx v L ∧ (∀ g, v.ownBlock = some g → ¬ F g) ∧ (∀ k, F k → w.heap.size ≤ k) ∧ Below w.heap.size w wx

theorem FillS.later {D : PM} {w : World} {p n : Nat} {wx wy : World} {v : Value} (h : FillS D w p n wx v) (hb : Below wx.heap.size wx wy) : FillS D w p n wy v := by
  obtain ⟨F, L, a1, a2, a3, a4, a5, a6, a7, a8⟩ := h
  exact ⟨F, L, PM.later a1 hb, a2, a3, a4, a5.later hb, a6, a7, a8.trans (hb.mono a8.size)⟩
theorem addE_bad {l : List EntV} {e : EntV} (h : mayE e = false) : addE l e = (1, l) := by unfold addE; rw [if_pos h]
theorem addE_has {l : List EntV} {e : EntV} (h : mayE e = true) (h2 : hasE l e = true) : addE l e = (6, l) := by unfold addE; rw [if_neg (by rw [h]; decide), if_pos h2]
theorem addE_put {l : List EntV} {e : EntV} (h : mayE e = true) (h2 : hasE l e = false) : addE l e = (0, putE l e) := by unfold addE; rw [if_neg (by rw [h]; decide), if_neg (by rw [h2]; decide)]

end Go.Proofs.Ytimpaindbbjieab

/- The laws on tables: the law's own sorted row. -/
namespace Go.Proofs.Ytimpaindbbjieab
open Go.RowKit
set_option linter.unusedVariables false
set_option linter.unusedSimpArgs false

/-- Entries in order that may be, at most so many. -/
def SrT (w : World) (n : Nat) (wx : World) (v : Value) (L : List EntV) : Prop :=
  RowF entE w.heap.size (fun b => b < w.heap.size) wx v L ∧ ordE L ∧ (∀ e ∈ L, mayE e = true) ∧ L.length ≤ n ∧ Below w.heap.size w wx
theorem SrT.later {w : World} {n : Nat} {wx wy : World} {v : Value} {L : List EntV} (h : SrT w n wx v L) (hb : Below wx.heap.size wx wy) : SrT w n wy v L :=
  ⟨h.1.later hb, h.2.1, h.2.2.1, h.2.2.2.1, h.2.2.2.2.trans (hb.mono h.2.2.2.2.size)⟩

set_option maxHeartbeats 2000000 in
set_option maxRecDepth 100000 in
theorem sorted12_any {w : World} {ao : Option Addr} {len cap : Nat} {l : List EntV} (h : RS entE w ao len cap l) :
    Calls Try.prog 5 #[.slice ao len cap] w fun r w' => ∃ v, r = .returned v ∧ ∃ L, SrT w 60 w' v L := by
  have HS : Hid (RSG entE (fun b => b < w.heap.size) w ao len cap l) := RSG.any h
  have hln : l.length = len := h.len.1
  have hl63 : len ≤ 2 ^ 63 - 1 := by have := h.len.2; unfold maxLen at this; omega
  have H0 : Hid (SrT w 60 w (.slice none 0 0) [] ∧ ([] : List EntV).length ≤ 0) := ⟨⟨RowF.nil _ _ _, ord_nil, (fun e he => by cases he), Nat.zero_le _, Below.refl _ _⟩, Nat.le_refl _⟩
  clear h
  go_enter Try.func5, Try.ntmps5
  go_wp2_with fail
  go_loopg [3, 4, 5, 8] len (fun g v _ _ i wr => ∃ (k : Nat) (L : List EntV), k + g = len ∧ i = .int .i64 (k : Int) ∧ Hid (SrT w 60 wr v L ∧ L.length ≤ k))
  case atStart => exact ⟨0, [], by omega, rfl, H0⟩
  case round =>
    obtain ⟨k, L, hk, rfl, HK⟩ := hrel
    by_cases hkl : k < len
    · have hkl' : (k : Int) < (len : Int) := by omega
      have hkx : k < l.length := by omega
      obtain ⟨row1, o1, m1, n1, bel⟩ := HK.out.1
      obtain ⟨b, off, ka, kc, va, vc, rfl, e0, e1, e2, e3, e4, hem, sk, heg⟩ := RSG.ent HS.out (List.getElem?_eq_getElem hkx)
      have d0 := cell_later bel e0
      have d1 := cell_later bel e1
      have d2 := cell_later bel e2
      have d3 := cell_later bel e3
      have d4 := cell_later bel e4
      clear e0 e1 e2 e3 e4
      generalize l[k] = o at d0 d1 d2 d3 d4 hem sk heg
      obtain ⟨ra, rc, hv6, hrsg⟩ := row1.rsg
      subst hv6
      have hk63 : k ≤ 2 ^ 63 - 2 := by omega
      obtain ⟨GK, HG⟩ : ∃ g, Hid (g < gk ∧ k + 1 + g = len) := ⟨gk - 1, by omega, by omega⟩
      obtain ⟨W1, hW1⟩ : ∃ W1, W1 = wr.alloc (.cells #[.slice ka o.key.length kc, .int .i64 o.seq, .bool o.gone, .int .i64 o.till, .slice va o.val.length vc] 36) := ⟨_, rfl⟩
      have b1 : Below wr.heap.size wr W1 := by rw [hW1]; exact (Below.refl _ _).alloc (Nat.le_refl _) _
      have hbx : ∀ wx, Below W1.heap.size W1 wx → _ := fun wx hb => box_cells wr (.slice ka o.key.length kc) (.int .i64 o.seq) (.bool o.gone) (.int .i64 o.till) (.slice va o.val.length vc) 36 (wx := wx) (by rw [← hW1]; exact hb)
      have HBX := hid hbx
      have HBr : Hid (∀ wx, Below W1.heap.size W1 wx → Below wr.heap.size wr wx) := fun wx hb => b1.trans (hb.mono b1.size)
      have HRW : Hid (∀ wx, Below wr.heap.size wr wx → Below w.heap.size w wx) := fun wx hb => bel.trans (hb.mono bel.size)
      have HM1 : Hid (∀ wx, Calls Try.prog 17 #[entA ka kc va vc o] wx fun r w' => r = .returned (.bool (mayE o)) ∧ Below wx.heap.size wx w') := fun wx => rmayE_any
      have HPUT : Hid (∀ wx, Below wr.heap.size wr wx → Calls Try.prog 18 #[.slice ra L.length rc, entA ka kc va vc o] wx fun r w' => Below wx.heap.size wx w' ∧ ((hasE L o = true ∧ r = .returned (.tuple #[.slice ra L.length rc, .bool false])) ∨ (hasE L o = false ∧ ∃ v, r = .returned (.tuple #[v, .bool true]) ∧ RowF entE wx.heap.size (fun b => b < w.heap.size) w' v (putE L o)))) := fun wx hb => rputE_any (hrsg.later hb) (El.later (E := entE) hem (HRW.out _ hb)) (fun b hb' => Nat.lt_of_lt_of_le hb' (HRW.out _ hb).size) heg (by omega) o1
      have HFS : Hid (∀ wx, Below wr.heap.size wr wx → SrT w 60 wx (.slice ra L.length rc) L) := fun wx hb => HK.out.1.later hb
      have HPP : Hid (mayE o = true → hasE L o = false → k < 60 → ∀ wx v, Below wr.heap.size wr wx → RowF entE w.heap.size (fun b => b < w.heap.size) wx v (putE L o) → SrT w 60 wx v (putE L o) ∧ (putE L o).length ≤ k + 1) := fun q1 q2 q3 wx v hb hr => by
        have ea := addE_put q1 q2
        have ho := addE_ord o1 o
        rw [ea] at ho
        have hlen : (putE L o).length = L.length + 1 := putE_len L o
        refine ⟨⟨hr, ho, fun e he => ?_, by have := HK.out.2; omega, HRW.out _ hb⟩, by have := HK.out.2; omega⟩
        rcases List.mem_cons.1 ((putE_perm L o).mem_iff.1 he) with q | q
        · rw [q]; exact q1
        · exact m1 e q
      have HKL : Hid (L.length ≤ k) := HK.out.2
      have HW1 := hid hW1
      unfold entA at HM1 HPUT
      clear row1 o1 m1 n1 hrsg hem sk heg hbx hW1 hk HK bel b1
      go_upto_region 5 with fail
      rw [← HW1.out]
      clear d0 d1 d2 d3 d4
      obtain ⟨y0, y1, y2, y3, y4⟩ := HBX.out _ (Below.refl _ _)
      by_cases q6 : k < 60
      · have q6' : (k : Int) < 60 := by omega
        go_wp2_with fail
        refine (HM1.out _).mono ?_
        rintro e w2 ⟨rfl, b2⟩
        clear y0 y1 y2 y3 y4
        cases hmy : mayE o with
        | false =>
          have B2 := hid (HBr.out _ b2)
          go_wp2_with fail
          go_roundg GK
          case measure => exact HG.out.1
          case rel => exact ⟨k + 1, L, HG.out.2, by go_num, HFS.out _ B2.out, by have := HKL.out; omega⟩
        | true =>
          obtain ⟨x0, x1, x2, x3, x4⟩ := HBX.out _ b2
          have B2 := hid (HBr.out _ b2)
          have HQ6 := hid q6
          have HMY := hid hmy
          clear q6 hmy
          go_wp2_with fail
          refine (HPUT.out _ B2.out).mono ?_
          rintro e w3 ⟨b3, ⟨hh, rfl⟩ | ⟨hh, v3, rfl, r3⟩⟩
          · have B3 := hid (B2.out.trans (b3.mono B2.out.size))
            go_wp2_with fail
            go_roundg GK
            case measure => exact HG.out.1
            case rel => exact ⟨k + 1, L, HG.out.2, by go_num, HFS.out _ B3.out, by have := HKL.out; omega⟩
          · have B3 := hid (B2.out.trans (b3.mono B2.out.size))
            have HN := hid (HPP.out HMY.out hh HQ6.out w3 v3 B3.out (r3.base (HRW.out _ B2.out).size))
            clear r3
            go_wp2_with fail
            go_roundg GK
            case measure => exact HG.out.1
            case rel => exact ⟨k + 1, putE L o, HG.out.2, by go_num, HN.out⟩
      · have q6' : ¬ ((k : Int) < 60) := by omega
        have B2 := hid (HBr.out _ (Below.refl _ W1))
        clear q6
        go_wp2_with fail
        go_roundg GK
        case measure => exact HG.out.1
        case rel => exact ⟨k + 1, L, HG.out.2, by go_num, HFS.out _ B2.out, by have := HKL.out; omega⟩
    · have hkl' : ¬ ((k : Int) < (len : Int)) := by omega
      have HF := hid HK.out.1
      clear hk hkl HK
      go_wp2_with fail
      exact bodyPost_ret (v := u3) (by simp [results, Try.results5, go_sem]) rfl ⟨u3, rfl, L, HF.out⟩
end Go.Proofs.Ytimpaindbbjieab

/- The laws on tables: TableBack. -/
namespace Go.Proofs.Ytimpaindbbjieab
open Go.RowKit
set_option linter.unusedVariables false
set_option linter.unusedSimpArgs false

theorem Row.shapeT {B : Nat} {w : World} {v : Value} {xs : List Int} (h : Row B w v xs) (hp : 0 < xs.length) : ∃ g cap, v = .slice (some ⟨g, 0, none⟩) xs.length cap ∧ xs.length ≤ cap := by
  rcases h.2 with ⟨_, h0⟩ | ⟨g, cap, cur, h1, _, _, h2, _⟩
  · omega
  · exact ⟨g, cap, h1, h2⟩
theorem Row.atT {B : Nat} {w : World} {g cap : Nat} {xs : List Int} (h : Row B w (.slice (some ⟨g, 0, none⟩) xs.length cap) xs) (j : Nat) (hj : j < xs.length) : w.cell? ⟨g, j, none⟩ = some (.int .u8 xs[j]) ∧ w.frozen? ⟨g, j, none⟩ = false := by
  refine ⟨?_, World.ownsRow.frozenAt h j⟩
  rw [World.ownsRow.cellAt h j (by omega)]
  simp [hj]
theorem Row.setT {B : Nat} {w : World} {g cap : Nat} {xs : List Int} (h : Row B w (.slice (some ⟨g, 0, none⟩) xs.length cap) xs) (j : Nat) (u : Nat) : Row B (w.setCell ⟨g, j, none⟩ (.int .u8 (u : Int))) (.slice (some ⟨g, 0, none⟩) xs.length cap) (xs.set j (u : Int)) ∧ w.grownBy (w.setCell ⟨g, j, none⟩ (.int .u8 (u : Int))) (some g) := by
  obtain ⟨h1, h2⟩ := World.ownsRow.stored h j (.int .u8 (u : Int))
  refine ⟨?_, h2⟩
  unfold Row
  rw [List.map_set, List.length_set]
  exact h1
theorem okb_setT {xs : List Int} {p u : Nat} (h : Okb xs) (hu : u < 256) : Okb (xs.set p (u : Int)) := fun x hx => by
  rcases List.mem_or_eq_of_mem_set hx with q | q
  · exact h x q
  · omega
theorem run_uptoT (kh : IntKind) (ao : Option Addr) (len cap j : Nat) (h2 : j ≤ cap) : ∀ w, (Instr.slice 24 (.slice ao len cap) none (some (.int kh (j : Int))) none).run Try.prog w = .ok (.slice (cutA ao cap 0) j cap) w := fun w => by
  rw [run_slice_h (P := Try.prog) (w := w) 24 ao len cap under24 kh (j : Int) (by omega) (by omega), elem24, Try.sizeOf5]
  simp only [Result.andThen, Int.toNat_natCast]
  rw [sliced_cut _ _ _ _ (by omega)]
  simp
theorem Sl.uptoT {w : World} {ao : Option Addr} {len cap : Nat} {xs : List Int} (h : Sl w ao len cap xs) (j : Nat) (h2 : j ≤ len) : Sl w (cutA ao cap 0) j cap (xs.take j) := by
  have := h.cut 0 j (Nat.zero_le _) h2
  simpa using this
theorem remT (n : Int) (L : Nat) (hL : 0 < L) (h2 : L ≤ 4194304) : ∃ (T : Int) (N : Nat), n.tmod (L : Int) = T ∧ (T + (L : Int)).tmod (L : Int) = (N : Int) ∧ N < L ∧ wrap64 (T + (L : Int)) = T + (L : Int) := by
  have a1 : -(L : Int) < n.tmod (L : Int) ∧ n.tmod (L : Int) < (L : Int) := ⟨Int.lt_tmod_of_pos n (by omega), Int.tmod_lt_of_pos n (by omega)⟩
  obtain ⟨T, hT⟩ : ∃ T, n.tmod (L : Int) = T := ⟨_, rfl⟩
  rw [hT] at a1
  obtain ⟨p, hp⟩ := Int.eq_ofNat_of_zero_le (show 0 ≤ (T + (L : Int)).tmod (L : Int) from Int.tmod_nonneg _ (by omega))
  exact ⟨T, p, hT, hp, by have := Int.tmod_lt_of_pos (T + (L : Int)) (b := (L : Int)) (by omega); omega, by unfold wrap64; omega⟩
theorem may_lgT {L : List EntV} (h : ∀ e ∈ L, mayE e = true) : ∀ e ∈ L, e.key.length ≤ 3000 ∧ e.val.length ≤ 3000 := fun e he => by
  have := mayE_ok (h e he)
  omega
theorem opT_len {tk : List Int → Nat × List EntV} {b : List Int} (h : (opT tk b).1 = 0) : 32 ≤ b.length := by
  by_cases q : b.length < 32
  · unfold opT at h
    rw [if_pos q] at h
    cases h
  · omega
theorem xor_ne {y z : Nat} (h : z ≠ 0) : y ^^^ z ≠ y := fun e => h (by
  have : y ^^^ (y ^^^ z) = y ^^^ y := by rw [e]
  rw [← Nat.xor_assoc, Nat.xor_self, Nat.zero_xor] at this
  exact this)
theorem rs_okT {w : World} {ao : Option Addr} {len cap : Nat} {l : List EntV} (h : RS entE w ao len cap l) : ∀ e ∈ l, OkE e := fun e he => by
  obtain ⟨i, hi, rfl⟩ := List.getElem_of_mem he
  obtain ⟨b, off, ka, kc, va, vc, _, _, _, _, _, _, sk, sv, _, _⟩ := RS.ent h (List.getElem?_eq_getElem hi)
  exact ⟨sk.2.1, sv.2.1⟩
/-- One byte of a table as another one, or not. -/
theorem opT_xor {l : List EntV} (h : tblE l = 0) (ho : ∀ e ∈ l, OkE e) {i y z u : Nat} (hu : u = y ^^^ z) (hy : y < 256) (hz : z < 256) (hi : i < (tblB l).length) (hb : (tblB l)[i] = (y : Int)) : (opT tkD ((tblB l).set i (u : Int))).1 = 0 ↔ z = 0 := by
  constructor
  · intro h0
    by_cases q : z = 0
    · exact q
    · have hu8 : u < 256 := by rw [hu]; exact Nat.xor_lt_two_pow (n := 8) hy hz
      have hne : (tblB l)[i] ≠ (u : Int) := by
        rw [hb, hu]
        intro e
        exact xor_ne (y := y) q (by omega)
      exact absurd h0 (opT_one h ho ⟨by omega, by omega⟩ hi hne)
  · intro q
    have : (tblB l).set i (u : Int) = tblB l := by
      rw [hu, q, Nat.xor_zero, ← hb]
      exact List.set_getElem_self hi
    rw [this, opT_of_tbl h ho]

set_option maxHeartbeats 4000000 in
set_option maxRecDepth 100000 in
theorem back12_any (D : PT) {w : World} {ao : Option Addr} {len cap : Nat} {l : List EntV} {at0 cut : Int} {z : Nat} (h : RS entE w ao len cap l) (hz : z < 256) :
    Calls Try.prog 3 #[.slice ao len cap, .int .i64 at0, .int .u8 (z : Int), .int .i64 cut] w fun e w' => e = .returned (.bool true) ∧ Below w.heap.size w w' := by
  have hso := sorted12_any h
  have HAW : Hid (∀ wx, Calls Try.prog 7 #[] wx fun e w' => e = .returned (.bool true) ∧ Below wx.heap.size wx w') := fun wx => awake12_any D wx
  clear h
  go_enter Try.func3, Try.ntmps3
  go_wp2_with fail
  refine hso.mono ?_
  rintro e w1 ⟨v1, rfl, L, SR⟩
  obtain ⟨a1, c1, rfl, rs1⟩ := SR.1.s.rs
  have hn60 := SR.2.2.2.1
  have hE := D.build rs1 (by omega) (may_lgT SR.2.2.1)
  have hbe := tblE_srt (by omega) SR.2.2.1 SR.2.1
  have HS1 : Hid (RS entE w1 a1 L.length c1 L ∧ Below w.heap.size w w1) := ⟨rs1, SR.2.2.2.2⟩
  clear hso SR rs1
  by_cases q0 : L.length = 0
  · rw [if_pos q0] at hbe
    rw [hbe] at hE
    have q0' : ((L.length : Int) == 0) = true := by rw [q0]; rfl
    generalize L.length = n at q0' hE HS1
    generalize tblX L = X at hE
    clear q0 hbe hn60
    go_wp2_with (first | (go_at_call 6; refine hE.mono ?_; rintro e w2 ⟨v2, rfl, -, b2⟩) | (go_at_call 7; refine (HAW.out _).mono ?_; rintro e w3 ⟨rfl, b3⟩))
    have B2 := HS1.out.2.trans (b2.mono HS1.out.2.size)
    exact bodyPost_ret (v := .bool true) (by simp [results, Try.results3, go_sem]) rfl ⟨rfl, B2.trans (b3.mono B2.size)⟩
  · rw [if_neg q0] at hbe
    have hX : tblX L = tblB L := by unfold tblX; rw [if_pos hbe]
    have hok : ∀ e ∈ L, OkE e := rs_okT HS1.out.1
    have ho := opT_of_tbl hbe hok
    have h32 := opT_len (b := tblB L) (tk := tkD) (by rw [ho])
    have hbig := (tblE_ok hbe).2.2.2.2
    have hxr : ∀ (i y u : Nat), u = y ^^^ z → y < 256 → ∀ (hi : i < (tblB L).length), (tblB L)[i] = (y : Int) → ((opT tkD ((tblB L).set i (u : Int))).1 = 0 ↔ z = 0) := fun i y u h1 h2 hi h3 => opT_xor hbe hok h1 h2 hz hi h3
    rw [hbe, hX] at hE
    generalize tblB L = X at hE ho h32 hbig hxr
    obtain ⟨LN, hLN⟩ : ∃ n, n = X.length := ⟨_, rfl⟩
    have HLN := hid hLN
    rw [← hLN] at h32 hbig
    have HO1 : Hid (∀ {wx : World} {a : Option Addr} {c : Nat}, Sl wx a LN c X → Calls Try.prog 8 #[.slice a LN c] wx fun e w' => ∃ p, e = .returned (.tuple #[.pointer (some ⟨p, 0, none⟩), .int .i64 0]) ∧ D.R w' p L ∧ Below wx.heap.size wx w') := fun {wx a c} hs => (D.opn hs (by omega)).mono fun e w' ⟨v, E, he, h1, h2, h3, h4⟩ => by
      rw [ho] at h1 h3
      have hE := h1.2 rfl
      obtain ⟨p, hv, hR⟩ := h3 hE
      exact ⟨p, by rw [he, hE, hv]; rfl, hR, h4⟩
    have HAL : Hid (∀ {wx : World} {p : Nat}, D.R wx p L → Calls Try.prog 10 #[.pointer (some ⟨p, 0, none⟩)] wx fun r w' => ∃ a c, r = .returned (.slice a L.length c) ∧ RS entE w' a L.length c L ∧ Below wx.heap.size wx w') := fun {wx p} hR => (D.all hR).mono fun e w' ⟨v, he, ⟨a, c, hv, hr⟩, hb⟩ => ⟨a, c, by rw [he, hv], hr, hb⟩
    obtain ⟨T0, P, hT0, hP, hPl, hw0⟩ := remT at0 LN (by omega) hbig
    obtain ⟨T1, C, hT1, hC, hCl, hw1⟩ := remT cut LN (by omega) hbig
    have hL32 : ¬ ((LN : Int) < 32) := by omega
    have hL0 : ¬ (LN : Int) = 0 := by omega
    have hL62 : LN ≤ 2 ^ 60 := by omega
    have hC62 : C ≤ 2 ^ 60 := by omega
    have hP62 : P ≤ 2 ^ 60 := by omega
    have HCL : Hid (C < LN ∧ P < LN ∧ LN ≤ 4194304 ∧ z < 256 ∧ 32 ≤ LN) := ⟨hCl, hPl, hbig, hz, h32⟩
    have HXR := hid hxr
    obtain ⟨Y, hY⟩ : ∃ y, y = (opT tkD (X.take C)).2 := ⟨_, rfl⟩
    have HD2 : Hid (∀ {wx : World} {a : Option Addr} {c : Nat}, Sl wx a C c (X.take C) → Calls Try.prog 8 #[.slice a C c] wx fun e w' => (∃ (E : Nat) (v : Value), E ≠ 0 ∧ e = .returned (.tuple #[v, .int .i64 (E : Int)]) ∧ Below wx.heap.size wx w') ∨ (∃ p, e = .returned (.tuple #[.pointer (some ⟨p, 0, none⟩), .int .i64 0]) ∧ D.R w' p Y ∧ tblE Y = 0 ∧ tblX Y = X.take C ∧ Y.length ≤ 4010 ∧ (∀ e ∈ Y, e.key.length ≤ 3000 ∧ e.val.length ≤ 3000) ∧ Below wx.heap.size wx w')) := fun {wx a c} hx => (D.opn hx (by omega)).mono fun e w' ⟨v, E, he, h1, h2, h3, h4⟩ => by
      by_cases q : E = 0
      · obtain ⟨p, hv, hR⟩ := h3 q
        have hb := opT_tbl (h1.1 q)
        rw [← hY] at hb hR
        have hk := tblE_ok hb.1
        exact .inr ⟨p, by rw [he, hv, q]; rfl, hR, hb.1, by unfold tblX; rw [if_pos hb.1, hb.2], by omega, may_lgT hk.2.2.1, h4⟩
      · exact .inl ⟨E, v, q, he, h4⟩
    generalize hnn : L.length = n at hE HS1 HAL
    clear q0 hbe hX h32 hbig hLN hCl hPl hY hnn hn60 hxr ho hok hz
    go_wp2_with fail
    refine hE.mono ?_
    rintro e w2 ⟨v2, rfl, ⟨a2, c2, hv2, s2⟩, b2⟩
    rw [← HLN.out] at hv2 s2
    subst hv2
    have B2 := HS1.out.2.trans (b2.mono HS1.out.2.size)
    clear hE
    go_wp2_with fail
    refine (HO1.out s2).mono ?_
    rintro e w3 ⟨p3, rfl, R3, b3⟩
    have B3 := B2.trans (b3.mono B2.size)
    have hA := HAL.out R3
    have HB3 := hid B3
    have HS3 := hid (s2.later b3)
    have HR3 := hid ((HS1.out.1.later b2).later b3)
    clear s2 b2 B2 b3 B3 R3 HO1 HS1
    go_upto_region 8 with (first | (go_at_call 10; refine hA.mono ?_; rintro e w4 ⟨a4, c4, rfl, rs4, b4⟩; have hSm := rsameE_eq rs4 (HR3.out.later b4)) | (go_at_call 9; refine hSm.mono ?_; rintro e w5 ⟨rfl, b5⟩))
    have s5 := (HS3.out.later b4).later b5
    have B5 := (HB3.out.trans (b4.mono HB3.out.size))
    have HB5 := hid (B5.trans (b5.mono B5.size))
    clear b4 b5 B5 HB3 HS3 HR3 hSm rs4 hA HAL
    go_quiet (fail)
    have hdr : Below w5.heap.size w5 (w5.drewN nq) := below_drewN (Below.refl _ _) _
    obtain ⟨W5, hW5⟩ : ∃ x, x = w5.drewN nq := ⟨_, rfl⟩
    rw [← hW5] at hdr ⊢
    have s5' := s5.later hdr
    have HB5' := hid (HB5.out.trans (hdr.mono HB5.out.size))
    clear hW5 hdr s5 HB5
    clear hT0 hP hT1 hC hw0 hw1 hL32 hL0
    have HX : Hid (Sl W5 a2 LN c2 X) := s5'
    have hB1 : Below W5.heap.size W5 (W5.alloc (.cells #[] 5)) := (Below.refl _ _).alloc (Nat.le_refl _) _
    clear s5'
    go_upto_region 10 with (at_builtin; refine wpList_app rfl _ _ rfl W5.heap.size _ [] (by simp [Act.eval]) (row_empty W5) a2 LN c2 (xof X) (by simp [Act.eval]) HX.out.2.2.1 (HX.out.later hB1).2.2.2.2.2 (by simp; have := HCL.out; omega) hB1.size ?_; intro v6 w6 hr6 hg6 hm6)
    rw [List.nil_append, HLN.out, bs_xof HX.out.2.1] at hr6
    have hb6 : Below W5.heap.size W5 w6 := hB1.trans (grown_below (row_empty W5) hg6 hB1.size)
    have hPf : P < X.length := by have := HCL.out; have := HLN.out; omega
    obtain ⟨g, c6, hv6, hc6⟩ := hr6.shapeT (by omega)
    subst hv6
    obtain ⟨hcell, hfz⟩ := hr6.atT P hPf
    obtain ⟨y, hy, hy8⟩ : ∃ y : Nat, X[P] = (y : Int) ∧ y < 256 := by
      have := HX.out.2.1 _ (List.getElem_mem hPf)
      exact ⟨(X[P]).toNat, by omega, by omega⟩
    rw [hy] at hcell
    obtain ⟨u, hu⟩ : ∃ u, u = y ^^^ z := ⟨_, rfl⟩
    have hu8 : u < 256 := by rw [hu]; exact Nat.xor_lt_two_pow (n := 8) hy8 HCL.out.2.2.2.1
    have hxor : bits .xor .u8 (y : Int) (z : Int) = (u : Int) := by rw [hu]; exact u8_xor_nat y z hy8 HCL.out.2.2.2.1
    have hop := HXR.out _ _ _ hu hy8 hPf hy
    obtain ⟨hset, hgrow⟩ := hr6.setT P u
    have hok : Okb (X.set P (u : Int)) := okb_setT HX.out.2.1 hu8
    have hb7 : Below W5.heap.size W5 (w6.setCell ⟨g, P, none⟩ (.int .u8 (u : Int))) := hb6.trans (grown_below hr6 hgrow hb6.size)
    obtain ⟨w7, hw7⟩ : ∃ w7, w7 = w6.setCell ⟨g, P, none⟩ (.int .u8 (u : Int)) := ⟨_, rfl⟩
    rw [← hw7] at hset hb7
    have hyl : (X.set P (u : Int)).length = LN := by rw [List.length_set]; exact HLN.out.symm
    generalize X.set P (u : Int) = ys at hset hok hop hyl
    obtain ⟨a8, c8, e8, s8⟩ := Sl.ofRow hset hok
    simp only [Value.slice.injEq] at e8
    obtain ⟨q1, q2, q3⟩ := e8
    rw [hyl, ← q1, ← q3] at s8
    rw [← HLN.out]
    have hO : Calls Try.prog 8 #[.slice (some ⟨g, 0, none⟩) LN c6] w7 fun e w' => ∃ (v : Value) (E : Nat), e = .returned (.tuple #[v, .int .i64 (E : Int)]) ∧ (E = 0 ↔ z = 0) ∧ Below w7.heap.size w7 w' := (D.opn s8 (by have := HCL.out; omega)).mono fun e w' ⟨v, E, he, h1, h2, h3, h4⟩ => ⟨v, E, he, h1.trans hop, h4⟩
    have HB7 := hid (HB5'.out.trans (hb7.mono HB5'.out.size))
    have HX7 := hid (HX.out.later hb7)
    have hPc : (P : Int) < (LN : Int) := by have := HCL.out; omega
    have hc6' : (LN : Int) ≤ (c6 : Int) := by have := HLN.out; omega
    clear hr6 hg6 hm6 hb6 hPf hc6 hy hy8 hu hu8 hset hgrow hok hb7 hyl s8 q1 q2 q3 hB1 hop HX HXR HB5'
    go_upto_region 11 with fail
    rw [← hw7]
    clear hcell hfz hxor hw7
    go_upto_region 12 with (go_at_call 8; refine hO.mono ?_; rintro e w9 ⟨v9, E9, rfl, hE9, b9⟩)
    have HB9 := hid (HB7.out.trans (b9.mono HB7.out.size))
    have s9 := HX7.out.later b9
    have hcuC := run_uptoT .i64 a2 LN c2 C (by have := s9.2.2.2.1; have := HCL.out; omega)
    have s10 := s9.uptoT C (by have := HCL.out; omega)
    generalize cutA a2 c2 0 = a10 at hcuC s10
    have hd2 := HD2.out s10
    have HS10 := hid s10
    have hcase : (((E9 : Int) == 0) = true ∧ ((z : Int) == 0) = true) ∨ (((E9 : Int) == 0) = false ∧ ((z : Int) == 0) = false) := by
      by_cases q : z = 0
      · exact .inl ⟨by have := hE9.2 q; simp; omega, by simp; omega⟩
      · exact .inr ⟨by have : ¬ E9 = 0 := fun t => q (hE9.1 t); simp; omega, by simp; omega⟩
    clear s9 s10 HD2 hO b9 HB7 HX7 hE9 HLN
    rcases hcase with ⟨r1, r2⟩ | ⟨r1, r2⟩
    all_goals
      go_upto_region 15 with (go_at_call 8; refine hd2.mono ?_; rintro e w11 (⟨Gk, v11, hGk, rfl, b11⟩ | ⟨p11, rfl, R11, g1, g2, g3, g4, b11⟩))
      · have B11 := hid (HB9.out.trans (b11.mono HB9.out.size))
        have qG : ((Gk : Int) == 0) = false := by simp; omega
        clear hd2 b11 HS10 hGk r1 r2
        go_wp2_with (go_at_call 7; refine (HAW.out _).mono ?_; rintro e w12 ⟨rfl, b12⟩)
        exact bodyPost_ret (v := .bool true) (by simp [results, Try.results3, go_sem]) rfl ⟨rfl, B11.out.trans (b12.mono B11.out.size)⟩
      · have B11 := hid (HB9.out.trans (b11.mono HB9.out.size))
        have hA2 := D.all R11
        have HBU : Hid (∀ {wx : World} {a : Option Addr} {c : Nat}, RS entE wx a Y.length c Y → Calls Try.prog 6 #[.slice a Y.length c] wx fun e w' => ∃ a' c', e = .returned (.tuple #[.slice a' (X.take C).length c', .int .i64 0]) ∧ Sl w' a' (X.take C).length c' (X.take C) ∧ Below wx.heap.size wx w') := fun {wx a c} hr => (D.build hr g3 g4).mono fun e w' ⟨v, he, ⟨a', c', hv, hs⟩, hb⟩ => by
          rw [g1] at he
          rw [g2] at hv hs
          exact ⟨a', c', by rw [he, hv]; rfl, hs, hb⟩
        have HS11 := hid (HS10.out.later b11)
        generalize X.take C = XC at HS11 HBU
        generalize hyn : Y.length = yn at HBU
        have HYN := hid hyn
        unfold pm at hA2
        clear hd2 b11 HS10 r1 r2 R11 g1 g2 g3 g4 hyn
        go_upto_region 17 with (first | (go_at_call 10; refine hA2.mono ?_; rintro e w12 ⟨v12, rfl, ⟨a12, c12, hv12, rs12⟩, b12⟩; rw [HYN.out] at hv12 rs12; subst hv12; have hbu := HBU.out rs12) | (go_at_call 6; refine hbu.mono ?_; rintro e w13 ⟨a13, c13, rfl, s13, b13⟩))
        have B12 := hid (B11.out.trans (b12.mono B11.out.size))
        have B13 := hid (B12.out.trans (b13.mono B12.out.size))
        have s14 := (HS11.out.later b12).later b13
        have HCV : Hid (∀ wx, Below w13.heap.size w13 wx → (convert 24 9 (.slice a13 XC.length c13)).run Try.prog wx = .ok (.string (strOfNums XC)) wx ∧ (convert 24 9 (.slice a10 C c2)).run Try.prog wx = .ok (.string (strOfNums XC)) wx) := fun wx hb => ⟨str_l (s13.later hb), str_l (s14.later hb)⟩
        clear hbu hA2 s13 s14 b12 b13 HBU rs12 HS11
        generalize XC.length = xl at HCV
        generalize strOfNums XC = sX at HCV
        obtain ⟨t7, t8⟩ := HCV.out w13 (Below.refl _ _)
        have HBD : Hid (Below w13.heap.size w13 w13.drew) := (Below.refl _ w13).drew
        go_region_held_law (fun w' => (convert 24 9 (.slice a13 xl c13)).run Try.prog w' = .ok (.string sX) w' ∧ (convert 24 9 (.slice a10 C c2)).run Try.prog w' = .ok (.string sX) w') (first | exact ⟨t7, t8⟩ | exact HCV.out _ (Below.refl _ _).drew | exact HCV.out _ b79) (first | (go_at_call 7; refine (HAW.out _).mono ?_; rintro e w15 ⟨rfl, b15⟩; have b79 : Below w13.heap.size w13 w15 := (HBD.out).trans (b15.mono HBD.out.size)))
        go_wp2_with fail
        exact bodyPost_ret (v := .bool true) (by simp [results, Try.results3, go_sem]) rfl ⟨rfl, B13.out.trans (b79.mono B13.out.size)⟩
end Go.Proofs.Ytimpaindbbjieab
