/- What the laws on batches lean on: what a program's own must keep; a batch that every program knows; what is too heavy. -/
import Derived.Test.YtcielnkkbccldaaBput
import Derived.Test.YtcielnkkbccldaaBsame
import Derived.Test.YtcielnkkbccldaaBtakew
import Derived.Lib.SlBytesConst
namespace Go.Proofs.Ytcielnkkbccldaa
open Go.RowKit
set_option linter.unusedVariables false
set_option linter.unusedSimpArgs false

/-- A batch's four calls, as the document has them: what a program's own must keep. -/
structure PB : Prop where
  may : ∀ {w : World} {ao : Option Addr} {len cap : Nat} {s : Int} {os : List OpV}, RS opE w ao len cap os → In64 s →
    Calls Try.prog 14 #[.agg #[.int .i64 s, .slice ao len cap]] w fun e w' => e = .returned (.int .i64 (mayB s os : Nat)) ∧ Below w.heap.size w w'
  enc : ∀ {w : World} {ao : Option Addr} {len cap : Nat} {s : Int} {os : List OpV}, RS opE w ao len cap os → In64 s →
    Calls Try.prog 10 #[.agg #[.int .i64 s, .slice ao len cap]] w fun e w' => ∃ v, e = .returned (.tuple #[v, .int .i64 (mayB s os : Nat)]) ∧ SlV w' v (enV s os) ∧ Below w.heap.size w w'
  dec : ∀ {w : World} {ao : Option Addr} {len cap : Nat} {d : List Int}, Sl w ao len cap d → len ≤ 175921860444160 →
    Calls Try.prog 17 #[.slice ao len cap] w fun e w' => ∃ v, e = .returned (.tuple #[.agg #[.int .i64 (deB d).1.1, v], .int .i64 ((deB d).2 : Nat)]) ∧ RSV opE w' v (deB d).1.2 ∧ Below w.heap.size w w'
  ents : ∀ {w : World} {ao : Option Addr} {len cap : Nat} {s : Int} {os : List OpV}, RS opE w ao len cap os → In64 s →
    Calls Try.prog 12 #[.agg #[.int .i64 s, .slice ao len cap]] w fun e w' => ∃ v, e = .returned (.tuple #[v, .int .i64 (mayB s os : Nat)]) ∧ RSV entE w' v (entV s os) ∧ Below w.heap.size w w'

theorem uv_small {n : Nat} (h : n < 128) : uv n = [(n : Int)] := uv_lt h
theorem okb_b : Okb [98] := fun x hx => by simp at hx; subst hx; omega
theorem may_b : mayB 5 [⟨[98], true, 0, []⟩] = 0 := by decide
theorem en_b : enV 5 [⟨[98], true, 0, []⟩] = [5, 1, 1, 1, 98] := by
  unfold enV
  rw [if_pos may_b]
  simp [enB, enOs, enO, flg, lb, uv_small]
theorem sl_b (w : World) : Sl (w.alloc (.cells #[.int .u8 98] 5 (1, 2))) (some ⟨w.heap.size, 0, none⟩) 1 1 [98] := by
  refine ⟨rfl, okb_b, (fun e => by cases e), Nat.le_refl _, by decide, fun k hk => ?_⟩
  obtain rfl : k = 0 := by omega
  refine ⟨by decide, w.heap.size, 0, rfl, ?_⟩
  have e : (w.alloc (.cells #[.int .u8 98] 5 (1, 2))).heap[w.heap.size]? = some (.cells #[.int .u8 98] 5 (1, 2)) := heap_alloc_new w _
  unfold World.cell?
  rw [e]
  rfl
set_option maxHeartbeats 1000000 in
set_option maxRecDepth 100000 in
theorem awake8_any (D : PB) (w : World) : Calls Try.prog 9 #[] w fun e w' => e = .returned (.bool true) ∧ Below w.heap.size w w' := by
  have hM : opE.M (w.alloc (.cells #[.int .u8 98] 5 (1, 2))) [.slice (some ⟨w.heap.size, 0, none⟩) 1 1, .bool true, .int .i64 0, .slice none 0 0] ⟨[98], true, 0, []⟩ := ⟨_, 1, none, 0, rfl, sl_b w, Sl.nil _, in64_0⟩
  have hone := rs_one hM
  have hb0 : Below w.heap.size w (w.alloc (.cells #[.int .u8 98] 5 (1, 2))) := (Below.refl _ _).alloc (Nat.le_refl _) _
  have hsz : (w.alloc (.cells #[.int .u8 98] 5 (1, 2))).heap.size = w.heap.size + 1 := by simp
  rw [hsz] at hone
  have hb1 : Below w.heap.size w ((w.alloc (.cells #[.int .u8 98] 5 (1, 2))).alloc (.cells #[.slice (some ⟨w.heap.size, 0, none⟩) 1 1, .bool true, .int .i64 0, .slice none 0 0] 42)) := hb0.alloc hb0.size _
  have hp := D.enc (s := 5) ⟨_, hone⟩ ⟨by decide, by decide⟩
  rw [may_b, en_b] at hp
  have hcv := fun (w : World) a l c => Lib.run_convert_bytes_const (P := Try.prog) w 27 5 a l c Try.underlying27 Try.underlying5
  have HB : Hid (Below w.heap.size w ((w.alloc (.cells #[.int .u8 98] 5 (1, 2))).alloc (.cells #[.slice (some ⟨w.heap.size, 0, none⟩) 1 1, .bool true, .int .i64 0, .slice none 0 0] 42))) := hb1
  clear hM hone hb0 hb1 hsz
  go_enter Try.func9, Try.ntmps9
  go_wp2_with (go_at_call 10; refine hp.mono ?_; rintro e w1 ⟨v1, rfl, ⟨a1, c1, rfl, hs1⟩, hb1⟩; have hst := str_l hs1; rw [show strOfNums [5, 1, 1, 1, 98] = ⟨#[5, 1, 1, 1, 98]⟩ from rfl, show ([5, 1, 1, 1, 98] : List Int).length = 5 from rfl] at hst)
  exact bodyPost_ret (v := .bool true) (by simp [results, Try.results9, go_sem]) rfl ⟨rfl, HB.out.trans (hb1.mono HB.out.size)⟩

set_option maxHeartbeats 2000000 in
set_option maxRecDepth 100000 in
theorem heavy_any {w : World} {ao : Option Addr} {len cap : Nat} {s : Int} {os : List OpV} (h : RS opE w ao len cap os) :
    Calls Try.prog 8 #[.agg #[.int .i64 s, .slice ao len cap]] w fun e w' => ∃ b, e = .returned (.bool b) ∧ Below w.heap.size w w' := by
  have hl := h.len
  have hl63 : len ≤ 2 ^ 63 - 1 := by have := hl.2; unfold maxLen at this; omega
  have HS : Hid (RS opE w ao len cap os) := h
  have hln := hl.1
  have HB : Hid (Below w.heap.size w (w.alloc (.cells #[.int .i64 s, .slice ao len cap] 24))) := (Below.refl _ w).alloc (Nat.le_refl _) _
  clear h hl
  go_enter Try.func8, Try.ntmps8
  go_wp2_with fail
  go_loopg [3, 4, 8] len (fun g _ _ i wr => ∃ k : Nat, k + g = len ∧ i = .int .i64 (k : Int) ∧ Hid (Below w.heap.size w wr))
  case atStart => exact ⟨0, by omega, rfl, HB⟩
  case round =>
    obtain ⟨k, hk, rfl, HK⟩ := hrel
    by_cases hkl : k < len
    · have hkl' : (k : Int) < (len : Int) := by omega
      have hko : k < os.length := by omega
      have hox := List.getElem?_eq_getElem hko
      obtain ⟨b, off, ka, kc, va, vc, rfl, d0, d1, d2, d3, k1, k2, k3⟩ := RS.op (HS.out.later HK.out) hox
      generalize os[k] = o at d0 d1 d2 d3 k1 k2 k3
      have hkey63 : o.key.length ≤ 2 ^ 63 - 1 := by have := k1.2.2.2; unfold maxLen at this; omega
      have hval63 : o.val.length ≤ 2 ^ 63 - 1 := by have := k2.2.2.2; unfold maxLen at this; omega
      obtain ⟨key, gone, till, vl⟩ := o
      simp only at d0 d1 d2 d3 hkey63 hval63
      have HW : Hid (Below w.heap.size w (wr.alloc (.cells #[.slice ka key.length kc, .bool gone, .int .i64 till, .slice va vl.length vc] 42))) := HK.out.alloc HK.out.size _
      have hk62 : k ≤ 2 ^ 63 - 2 := by omega
      obtain ⟨GK, HG⟩ : ∃ g, Hid (g < gk ∧ k + 1 + g = len) := ⟨gk - 1, by omega, by omega⟩
      generalize key.length = kl at d0 hkey63 HW
      generalize vl.length = ln at d3 hval63 HW
      clear k1 k2 k3 hk HK hox
      by_cases qA : (500 : Int) < (k : Int)
      · go_wp2_with fail
        exact bodyPost_ret (v := .bool true) (by simp [results, Try.results8, go_sem]) rfl (by first | exact ⟨_, rfl, HW.out⟩ | exact ⟨.inr rfl, HW.out⟩)
      have qA' : (k : Int) ≤ 500 := by omega
      by_cases qB : (3000 : Int) < (kl : Int)
      · go_wp2_with fail
        exact bodyPost_ret (v := .bool true) (by simp [results, Try.results8, go_sem]) rfl (by first | exact ⟨_, rfl, HW.out⟩ | exact ⟨.inr rfl, HW.out⟩)
      have qB' : (kl : Int) ≤ 3000 := by omega
      by_cases qC : (3000 : Int) < (ln : Int)
      · go_wp2_with fail
        exact bodyPost_ret (v := .bool true) (by simp [results, Try.results8, go_sem]) rfl (by first | exact ⟨_, rfl, HW.out⟩ | exact ⟨.inr rfl, HW.out⟩)
      have qC' : (ln : Int) ≤ 3000 := by omega
      go_wp2_with fail
      go_roundg GK
      case measure => exact HG.out.1
      case rel => exact ⟨k + 1, HG.out.2, by go_num, HW⟩
    · have hkl' : (len : Int) ≤ (k : Int) := by omega
      have HW : Hid (Below w.heap.size w wr) := HK.out
      clear hk HK
      go_wp2_with fail
      exact bodyPost_ret (v := .bool false) (by simp [results, Try.results8, go_sem]) rfl ⟨_, rfl, HW.out⟩

set_option maxHeartbeats 2000000 in
set_option maxRecDepth 100000 in
theorem decodes_any (D : PB) {w : World} {ao : Option Addr} {len cap : Nat} {d : List Int} (h : Sl w ao len cap d) (hl : len ≤ 140737488351232) :
    Calls Try.prog 4 #[.slice ao len cap] w fun e w' => e = .returned (.bool true) ∧ Below w.heap.size w w' := by
  have h1 := D.dec h (by omega)
  have H2 : Hid (∀ wx, Below w.heap.size w wx → Calls Try.prog 18 #[.slice ao len cap] wx fun e w' => ∃ v, e = .returned (.tuple #[.agg #[.int .i64 (deB d).1.1, v], .int .i64 ((deB d).2 : Nat)]) ∧ RSV opE w' v (deB d).1.2 ∧ Below wx.heap.size wx w') := fun wx hb => rtakeB_any (h.later hb) (by omega)
  have HA : Hid (∀ wx, Calls Try.prog 9 #[] wx fun e w' => e = .returned (.bool true) ∧ Below wx.heap.size wx w') := fun wx => awake8_any D wx
  obtain ⟨⟨⟨s, os⟩, er⟩, hD⟩ : ∃ x, deB d = x := ⟨_, rfl⟩
  rw [hD] at h1 H2
  simp only at h1 H2
  have heq : ((er : Int) == (er : Int)) = true := by simp
  clear h hl hD
  go_enter Try.func4, Try.ntmps4
  go_upto_region 2 with (go_at_call 17; refine h1.mono ?_; rintro e w1 ⟨v1, rfl, ⟨a1, c1, rfl, hs1⟩, hb1⟩)
  have b1 : Below w.heap.size w (w1.alloc (.cells #[.int .i64 s, .slice a1 os.length c1] 24)) := hb1.alloc hb1.size _
  have c1' : Below w1.heap.size w1 (w1.alloc (.cells #[.int .i64 s, .slice a1 os.length c1] 24)) := (Below.refl _ _).alloc (Nat.le_refl _) _
  have h2 := H2.out _ b1
  have HB1 : Hid (RS opE (w1.alloc (.cells #[.int .i64 s, .slice a1 os.length c1] 24)) a1 os.length c1 os ∧ Below w.heap.size w (w1.alloc (.cells #[.int .i64 s, .slice a1 os.length c1] 24))) := ⟨hs1.later c1', b1⟩
  have x0 : (w1.alloc (.cells #[.int .i64 s, .slice a1 os.length c1] 24)).cell? ⟨w1.heap.size, 0, none⟩ = some (.int .i64 s) := by rw [cell_of (heap_alloc_new w1 _)]; rfl
  have x1 : (w1.alloc (.cells #[.int .i64 s, .slice a1 os.length c1] 24)).cell? ⟨w1.heap.size, 1, none⟩ = some (.slice a1 os.length c1) := by rw [cell_of (heap_alloc_new w1 _)]; rfl
  obtain ⟨W1, hW1⟩ : ∃ W1, W1 = w1.alloc (.cells #[.int .i64 s, .slice a1 os.length c1] 24) := ⟨_, rfl⟩
  rw [← hW1] at h2 HB1 x0 x1 ⊢
  clear h1 hs1 hb1 b1 c1' hW1 H2
  go_upto_region 3 with (go_at_call 18; refine h2.mono ?_; rintro e w2 ⟨v2, rfl, ⟨a2, c2, rfl, hs2⟩, hb2⟩)
  have c2' : Below w2.heap.size w2 (w2.alloc (.cells #[.int .i64 s, .slice a2 os.length c2] 24)) := (Below.refl _ _).alloc (Nat.le_refl _) _
  have b12 : Below W1.heap.size W1 (w2.alloc (.cells #[.int .i64 s, .slice a2 os.length c2] 24)) := hb2.trans (c2'.mono hb2.size)
  have hS := rsameB_eq (s := s) (HB1.out.1.later b12) (hs2.later c2')
  have y0 := cell_later b12 x0
  have y1 := cell_later b12 x1
  have z0 : (w2.alloc (.cells #[.int .i64 s, .slice a2 os.length c2] 24)).cell? ⟨w2.heap.size, 0, none⟩ = some (.int .i64 s) := by rw [cell_of (heap_alloc_new w2 _)]; rfl
  have z1 : (w2.alloc (.cells #[.int .i64 s, .slice a2 os.length c2] 24)).cell? ⟨w2.heap.size, 1, none⟩ = some (.slice a2 os.length c2) := by rw [cell_of (heap_alloc_new w2 _)]; rfl
  have HB2 : Hid (Below w.heap.size w (w2.alloc (.cells #[.int .i64 s, .slice a2 os.length c2] 24))) := HB1.out.2.trans (b12.mono HB1.out.2.size)
  clear h2 hs2 hb2 c2' b12 x0 x1 HB1
  go_wp2_with (first | (go_at_call 19; refine hS.mono ?_; rintro e w3 ⟨rfl, hb3⟩) | (go_at_call 9; refine (HA.out _).mono ?_; rintro e w4 ⟨rfl, hb4⟩))
  have B3 := HB2.out.trans (hb3.mono HB2.out.size)
  exact bodyPost_ret (v := .bool true) (by simp [results, Try.results4, go_sem]) rfl ⟨rfl, B3.trans (hb4.mono B3.size)⟩
end Go.Proofs.Ytcielnkkbccldaa
