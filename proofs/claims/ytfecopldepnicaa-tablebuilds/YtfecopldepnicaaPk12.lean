import Derived.WalkKit
import Derived.Test.YtfecopldepnicaaPk06
import Derived.Test.YtfecopldepnicaaPk11
/- The document's own reader: Number, Bytes, Flag, End. -/
namespace Go.Proofs.Ytfecopldepnicaa
open Go.RowKit
set_option linter.unusedVariables false
set_option linter.unusedSimpArgs false

theorem heap_set {w : World} {p : Nat} {C : Array Value} {t : TypeId} {f : Nat × Nat} (h : w.heap[p]? = some (.cells C t f)) (k : Nat) (v : Value) : (w.setCell ⟨p, k, none⟩ v).heap[p]? = some (.cells (C.setIfInBounds k v) t f) := by
  simp only [World.setCell, Array.getElem?_modify, if_true, h]
  rfl
theorem frozen_of {w : World} {p : Nat} {C : Array Value} {t : TypeId} (h : w.heap[p]? = some (.cells C t (0, 0))) (k : Nat) : w.frozen? ⟨p, k, none⟩ = false := by
  simp [World.frozen?, h]
theorem grown_set (w : World) (p k : Nat) (v : Value) : w.grownBy (w.setCell ⟨p, k, none⟩ v) (some p) :=
  ⟨rfl, rfl, rfl, by simp [World.setCell], fun i hi hn => Below.heap_setCell _ _ _ _ (fun e => hn (by rw [e]))⟩
theorem below_grown {w w' : World} (h : Below w.heap.size w w') (r : Option Nat) : w.grownBy w' r := ⟨h.os, h.tape, h.output, h.size, fun k hk _ => h.block k hk⟩
theorem grown_trans {w w' w'' : World} {r : Option Nat} (h : w.grownBy w' r) (g : w'.grownBy w'' r) : w.grownBy w'' r :=
  ⟨g.os.trans h.os, g.tape.trans h.tape, g.output.trans h.output, Nat.le_trans h.size g.size, fun k hk hn => (g.block k (Nat.lt_of_lt_of_le hk h.size) hn).trans (h.block k hk hn)⟩
theorem refs_cut {w : World} {ao : Option Addr} {len cap i j : Nat} {xs : List Int} {b : Nat} (hs : Sl w ao len cap xs) (hj : j ≤ len) (h : Refs (.slice (cutA ao cap i) (j - i) (cap - i)) b) : Refs (.slice ao len cap) b := by
  obtain ⟨off, l, c, e, h0⟩ := h
  simp only [Value.slice.injEq] at e
  obtain ⟨e1, rfl, rfl⟩ := e
  have hl := hs.2.2.2.1
  obtain ⟨_, b', off', e', _⟩ := hs.2.2.2.2.2 0 (by omega)
  subst e'
  unfold cutA at e1
  rw [if_neg (by omega)] at e1
  have e2 : (some ((⟨b', off', none⟩ : Addr).add i)) = some (⟨b, off, none⟩ : Addr) := e1
  rw [Addr.add_lit] at e2
  simp only [Option.some.injEq, Addr.mk.injEq, and_true] at e2
  obtain ⟨rfl, _⟩ := e2
  exact ⟨off', len, cap, rfl, by omega⟩
theorem rdB_okb {most : Nat} {s : Rd} (h : Okb s.1) : Okb (rdB most s).1 := by
  unfold rdB
  split
  · exact fun x hx => by cases hx
  · split
    · exact fun x hx => by cases hx
    · exact tb_okb h
theorem rdN_le {most : Nat} {s : Rd} : (rdN most s).1 ≤ most := by
  unfold rdN
  split
  · exact Nat.zero_le _
  · split
    · exact Nat.zero_le _
    · split
      · exact Nat.zero_le _
      · rename_i h; exact Nat.le_of_not_lt h

end Go.Proofs.Ytfecopldepnicaa

/- The document's own Get. -/
namespace Go.Proofs.Ytfecopldepnicaa
open Go.RowKit
set_option linter.unusedVariables false
set_option linter.unusedSimpArgs false

theorem cells_set5 {w : World} {p : Nat} {c0 c1 c2 c3 c4 : Value} {t : TypeId} (h : w.heap[p]? = some (.cells #[c0, c1, c2, c3, c4] t (0, 0))) (a b c d e : Value) :
    let wf := ((((w.setCell ⟨p, 0, none⟩ a).setCell ⟨p, 1, none⟩ b).setCell ⟨p, 2, none⟩ c).setCell ⟨p, 3, none⟩ d).setCell ⟨p, 4, none⟩ e
    wf.cell? ⟨p, 0, none⟩ = some a ∧ wf.cell? ⟨p, 1, none⟩ = some b ∧ wf.cell? ⟨p, 2, none⟩ = some c ∧ wf.cell? ⟨p, 3, none⟩ = some d ∧ wf.cell? ⟨p, 4, none⟩ = some e := by
  have hs := heap_set (heap_set (heap_set (heap_set (heap_set h 0 a) 1 b) 2 c) 3 d) 4 e
  refine ⟨?_, ?_, ?_, ?_, ?_⟩ <;> rw [cell_of hs] <;> rfl
theorem below_set5 {w wx : World} (h : Below w.heap.size w wx) (a b c d e : Value) : Below w.heap.size w (((((wx.setCell ⟨w.heap.size, 0, none⟩ a).setCell ⟨w.heap.size, 1, none⟩ b).setCell ⟨w.heap.size, 2, none⟩ c).setCell ⟨w.heap.size, 3, none⟩ d).setCell ⟨w.heap.size, 4, none⟩ e) :=
  Below.grown h (grown_trans (grown_trans (grown_trans (grown_trans (grown_set wx w.heap.size 0 a) (grown_set _ w.heap.size 1 b)) (grown_set _ w.heap.size 2 c)) (grown_set _ w.heap.size 3 d)) (grown_set _ w.heap.size 4 e)) h.size (fun k hk => by simp only [Option.some.injEq] at hk; omega)
set_option maxHeartbeats 4000000 in
set_option maxRecDepth 100000 in
theorem rgetE_any {w : World} {ao : Option Addr} {len cap : Nat} {l : List EntV} {fa : Option Addr} {fl fc : Nat} {key : List Int} {s : Int} (h : RS entE w ao len cap l) (hf : Sl w fa fl fc key) (hl : len ≤ 1000000) :
    Calls Try.prog 14 #[.slice ao len cap, .slice fa fl fc, .int .i64 s] w fun r w' => Below w.heap.size w w' ∧ ((getE l key s = none ∧ r = .returned (.tuple #[ent0, .bool false])) ∨ ∃ x ka kc va vc, getE l key s = some x ∧ r = .returned (.tuple #[entA ka kc va vc x, .bool true]) ∧ EntM w' [.slice ka x.key.length kc, .int .i64 x.seq, .bool x.gone, .int .i64 x.till, .slice va x.val.length vc] x) := by
  obtain ⟨W, hW⟩ : ∃ W, W = w.alloc (.cells #[.slice none 0 0, .int .i64 0, .bool false, .int .i64 0, .slice none 0 0] 34) := ⟨_, rfl⟩
  have b0 : Below w.heap.size w W := by rw [hW]; exact (Below.refl _ w).alloc (Nat.le_refl _) _
  have hWs : W.heap.size = w.heap.size + 1 := by rw [hW]; simp
  have hq : W.heap[w.heap.size]? = some (.cells #[.slice none 0 0, .int .i64 0, .bool false, .int .i64 0, .slice none 0 0] 34 (0, 0)) := by rw [hW]; exact heap_alloc_new w _
  have HQ : Hid (∀ wx, Below W.heap.size W wx → wx.heap[w.heap.size]? = some (.cells #[.slice none 0 0, .int .i64 0, .bool false, .int .i64 0, .slice none 0 0] 34 (0, 0))) := fun wx hb => (hb.block _ (by omega)).trans hq
  have HS : Hid (RS entE w ao len cap l ∧ Sl W fa fl fc key ∧ Below w.heap.size w W ∧ W.heap.size = w.heap.size + 1) := ⟨h, hf.later b0, b0, hWs⟩
  have hln : l.length = len := h.len.1
  have hl62 : len ≤ 2 ^ 61 := by omega
  have H0 : Hid (getE (l.take 0) key s = none ∧ Below W.heap.size W W) := ⟨rfl, Below.refl _ _⟩
  have HW := hid hW
  clear h hf hl b0 hq hWs hW
  go_enter Try.func14, Try.ntmps14
  go_wp2_with fail
  rw [← HW.out]
  go_loopg [9, 12] len (fun g _ i wr => ∃ k : Nat, k + g = len ∧ i = .int .i64 (k : Int) ∧ Hid (getE (l.take k) key s = none ∧ Below W.heap.size W wr))
  case atStart => exact ⟨0, by omega, rfl, H0⟩
  case round =>
    obtain ⟨k, hk, rfl, HK⟩ := hrel
    by_cases hkl : k < len
    · have hkl' : (k : Int) < (len : Int) := by omega
      have hkx : k < l.length := by omega
      have hox := List.getElem?_eq_getElem hkx
      have hno := getE_take HK.out.1 hkx
      have hys := getE_some HK.out.1 hkx
      obtain ⟨b, off, ka, kc, va, vc, rfl, e0, e1, e2, e3, e4, sk, sv, i1, i2⟩ := RS.ent HS.out.1 hox
      have bw : Below w.heap.size w wr := HS.out.2.2.1.trans (HK.out.2.mono HS.out.2.2.1.size)
      have d0 := cell_later bw e0
      have d1 := cell_later bw e1
      have d2 := cell_later bw e2
      have d3 := cell_later bw e3
      have d4 := cell_later bw e4
      clear e0 e1 e2 e3 e4
      generalize l[k] = o at d0 d1 d2 d3 d4 sk sv i1 i2 hno hys
      have hk62 : k ≤ 2 ^ 61 := by omega
      obtain ⟨GK, HG⟩ : ∃ g, Hid (g < gk ∧ k + 1 + g = len) := ⟨gk - 1, by omega, by omega⟩
      obtain ⟨W1, hW1⟩ : ∃ W1, W1 = wr.alloc (.cells #[.slice ka o.key.length kc, .int .i64 o.seq, .bool o.gone, .int .i64 o.till, .slice va o.val.length vc] 34) := ⟨_, rfl⟩
      have b1 : Below wr.heap.size wr W1 := by rw [hW1]; exact (Below.refl _ _).alloc (Nat.le_refl _) _
      have hbx : ∀ wx, Below W1.heap.size W1 wx → _ := fun wx hb => box_cells wr (.slice ka o.key.length kc) (.int .i64 o.seq) (.bool o.gone) (.int .i64 o.till) (.slice va o.val.length vc) 34 (wx := wx) (by rw [← hW1]; exact hb)
      have HBX := hid hbx
      have HB1 : Hid (Below W.heap.size W W1) := HK.out.2.trans (b1.mono HK.out.2.size)
      have hcc := rcmp_any ((sk.later bw).later b1) ((HS.out.2.1.later HK.out.2).later b1)
      have HEM : Hid (∀ wx, Below w.heap.size w wx → EntM wx [.slice ka o.key.length kc, .int .i64 o.seq, .bool o.gone, .int .i64 o.till, .slice va o.val.length vc] o) := fun wx hb => ⟨ka, kc, va, vc, rfl, sk.later hb, sv.later hb, i1, i2⟩
      have HLT : Hid (wr.heap.size ≤ W1.heap.size ∧ Below wr.heap.size wr W1 ∧ w.heap.size < wr.heap.size) := ⟨b1.size, b1, by have := HK.out.2.size; have := HS.out.2.2.2; omega⟩
      have HW1 := hid hW1
      have HNO := hid hno
      have HYS := hid hys
      generalize cmp o.key key = c at hcc HNO HYS
      obtain ⟨kl, hkl2⟩ : ∃ n, n = o.key.length := ⟨_, rfl⟩
      obtain ⟨ln, hln2⟩ : ∃ n, n = o.val.length := ⟨_, rfl⟩
      obtain ⟨seq, hsq⟩ : ∃ n, n = o.seq := ⟨_, rfl⟩
      obtain ⟨gone, hgn⟩ : ∃ n, n = o.gone := ⟨_, rfl⟩
      obtain ⟨till, htt⟩ : ∃ n, n = o.till := ⟨_, rfl⟩
      rw [← hkl2] at d0 HBX HW1 hcc
      rw [← hln2] at d4 HBX HW1
      rw [← hsq] at d1 HBX HW1 HNO HYS
      rw [← hgn] at d2 HBX HW1
      rw [← htt] at d3 HBX HW1
      have HEQ : Hid (kl = o.key.length ∧ ln = o.val.length ∧ seq = o.seq ∧ gone = o.gone ∧ till = o.till) := ⟨hkl2, hln2, hsq, hgn, htt⟩
      clear hkl2 hln2 hsq hgn htt sk sv i1 i2 hox hk hbx hW1 hno hys b1 bw
      go_upto_region 4 with fail
      rw [← HW1.out]
      obtain ⟨x0, x1, x2, x3, x4⟩ := HBX.out _ (Below.refl _ _)
      go_wp2_with fail
      refine hcc.mono ?_
      rintro e w2 ⟨rfl, b2⟩
      obtain ⟨y0, y1, y2, y3, y4⟩ := HBX.out _ b2
      have b3 : Below W.heap.size W w2 := HB1.out.trans (b2.mono HB1.out.size)
      clear x0 x1 x2 x3 x4 d0 d1 d2 d3 d4 hcc
      by_cases q1 : c = 0
      · by_cases q2 : seq ≤ s
        · have q1' : (c == 0) = true := by simpa using q1
          have q2' : decide (seq ≤ s) = true := by simpa using q2
          have hg := HQ.out _ b3
          have z0 : w2.cell? ⟨w.heap.size, 0, none⟩ = some (.slice none 0 0) := by rw [cell_of hg]; rfl
          have z1 : w2.cell? ⟨w.heap.size, 1, none⟩ = some (.int .i64 0) := by rw [cell_of hg]; rfl
          have z2 : w2.cell? ⟨w.heap.size, 2, none⟩ = some (.bool false) := by rw [cell_of hg]; rfl
          have z3 : w2.cell? ⟨w.heap.size, 3, none⟩ = some (.int .i64 0) := by rw [cell_of hg]; rfl
          have z4 : w2.cell? ⟨w.heap.size, 4, none⟩ = some (.slice none 0 0) := by rw [cell_of hg]; rfl
          have f0 := frozen_of hg 0
          have f1 := frozen_of hg 1
          have f2 := frozen_of hg 2
          have f3 := frozen_of hg 3
          have f4 := frozen_of hg 4
          have HGT := hid (HYS.out q1 q2)
          have HB3 := hid b3
          have HBF := hid (below_set5 (HS.out.2.2.1.trans (b3.mono HS.out.2.2.1.size)) (.slice ka kl kc) (.int .i64 seq) (.bool gone) (.int .i64 till) (.slice va ln vc))
          obtain ⟨o0, o1, o2, o3, o4⟩ := cells_set5 hg (.slice ka kl kc) (.int .i64 seq) (.bool gone) (.int .i64 till) (.slice va ln vc)
          have HO : Hid (_ ∧ _ ∧ _ ∧ _ ∧ _) := ⟨o0, o1, o2, o3, o4⟩
          clear q1 q2 HYS HNO hg b2 b3 o0 o1 o2 o3 o4
          go_wp2_with fail
          obtain ⟨o0, o1, o2, o3, o4⟩ := HO.out
          refine bodyPost_ret (v := .tuple #[.agg #[.slice ka kl kc, .int .i64 seq, .bool gone, .int .i64 till, .slice va ln vc], .bool true]) (by simp [results, Try.results14, go_sem, o0, o1, o2, o3, o4]) rfl ⟨HBF.out, .inr ⟨o, ka, kc, va, vc, HGT.out, ?_, HEM.out _ HBF.out⟩⟩
          obtain ⟨g1, g2, g3, g4, g5⟩ := HEQ.out
          unfold entA
          rw [g1, g2, g3, g4, g5]
        · have q1' : (c == 0) = true := by simpa using q1
          have q2' : decide (seq ≤ s) = false := by simpa using q2
          have HN : Hid (getE (l.take (k + 1)) key s = none) := by show _ = _; rw [HNO.out, if_neg (fun h => q2 h.2)]
          have HB3 := hid b3
          clear q1 q2 HYS HNO b2 b3
          go_wp2_with fail
          go_roundg GK
          case measure => exact HG.out.1
          case rel => exact ⟨k + 1, HG.out.2, by go_num, HN.out, HB3.out⟩
      · have q1' : (c == 0) = false := by simpa using q1
        have HN : Hid (getE (l.take (k + 1)) key s = none) := by show _ = _; rw [HNO.out, if_neg (fun h => q1 h.1)]
        have HB3 := hid b3
        clear q1 HYS HNO b2 b3
        go_wp2_with fail
        go_roundg GK
        case measure => exact HG.out.1
        case rel => exact ⟨k + 1, HG.out.2, by go_num, HN.out, HB3.out⟩
    · have hkl' : (len : Int) ≤ (k : Int) := by omega
      have HE : Hid (getE l key s = none) := by
        have := HK.out.1
        rw [List.take_of_length_le (by omega)] at this
        exact this
      have hg := HQ.out _ HK.out.2
      have z0 : wr.cell? ⟨w.heap.size, 0, none⟩ = some (.slice none 0 0) := by rw [cell_of hg]; rfl
      have z1 : wr.cell? ⟨w.heap.size, 1, none⟩ = some (.int .i64 0) := by rw [cell_of hg]; rfl
      have z2 : wr.cell? ⟨w.heap.size, 2, none⟩ = some (.bool false) := by rw [cell_of hg]; rfl
      have z3 : wr.cell? ⟨w.heap.size, 3, none⟩ = some (.int .i64 0) := by rw [cell_of hg]; rfl
      have z4 : wr.cell? ⟨w.heap.size, 4, none⟩ = some (.slice none 0 0) := by rw [cell_of hg]; rfl
      have f0 := frozen_of hg 0
      have f1 := frozen_of hg 1
      have f2 := frozen_of hg 2
      have f3 := frozen_of hg 3
      have f4 := frozen_of hg 4
      have HBF := hid (below_set5 (HS.out.2.2.1.trans (HK.out.2.mono HS.out.2.2.1.size)) (.slice none 0 0) (.int .i64 0) (.bool false) (.int .i64 0) (.slice none 0 0))
      obtain ⟨o0, o1, o2, o3, o4⟩ := cells_set5 hg (.slice none 0 0) (.int .i64 0) (.bool false) (.int .i64 0) (.slice none 0 0)
      have HO : Hid (_ ∧ _ ∧ _ ∧ _ ∧ _) := ⟨o0, o1, o2, o3, o4⟩
      clear hk hkl hg o0 o1 o2 o3 o4
      go_wp2_with fail
      obtain ⟨o0, o1, o2, o3, o4⟩ := HO.out
      exact bodyPost_ret (v := .tuple #[.agg #[.slice none 0 0, .int .i64 0, .bool false, .int .i64 0, .slice none 0 0], .bool false]) (by simp [results, Try.results14, go_sem, o0, o1, o2, o3, o4]) rfl ⟨HBF.out, .inl ⟨HE.out, rfl⟩⟩
end Go.Proofs.Ytfecopldepnicaa

/- Sums of bytes, on natural numbers: one step, a byte, a row; that they are linear and lose nothing; what one to four bytes that differ do. -/
namespace Go.Proofs.Ytfecopldepnicaa
set_option linter.unusedVariables false

def poly : Nat := 2197175160
/-- One of the eight steps. -/
def stp (s : Nat) : Nat := if s % 2 = 1 then (s / 2) ^^^ poly else s / 2
def stps : Nat → Nat → Nat
  | 0, s => s
  | n + 1, s => stps n (stp s)
def upd8 (s b : Nat) : Nat := stps 8 (s ^^^ b)
/-- What a row of bytes makes of a state. -/
def crcs (s : Nat) (l : List Nat) : Nat := l.foldl upd8 s
theorem crcs_nil (s : Nat) : crcs s [] = s := List.foldl_nil
theorem crcs_cons (s b : Nat) (l : List Nat) : crcs s (b :: l) = crcs (upd8 s b) l := List.foldl_cons

theorem xor_mod2 (a b : Nat) : (a ^^^ b) % 2 = (a % 2 + b % 2) % 2 := by
  have h := Nat.xor_mod_two_pow (a := a) (b := b) (n := 1)
  rw [show (2 : Nat) ^ 1 = 2 from rfl] at h
  rcases Nat.mod_two_eq_zero_or_one a with ha | ha <;> rcases Nat.mod_two_eq_zero_or_one b with hb | hb <;> rw [h, ha, hb] <;> rfl
theorem xor_div2 (a b : Nat) : (a ^^^ b) / 2 = a / 2 ^^^ b / 2 := by
  have := Nat.shiftRight_xor_distrib (a := a) (b := b) (i := 1)
  simpa [Nat.shiftRight_eq_div_pow] using this
theorem xor_lt {a b : Nat} (n : Nat) (ha : a < 2 ^ n) (hb : b < 2 ^ n) : a ^^^ b < 2 ^ n := Nat.xor_lt_two_pow ha hb
theorem xor_lt32 {a b : Nat} (ha : a < 4294967296) (hb : b < 4294967296) : a ^^^ b < 4294967296 := xor_lt 32 ha hb

theorem stp_lt {s : Nat} (h : s < 4294967296) : stp s < 4294967296 := by
  unfold stp poly
  split
  · exact xor_lt32 (by omega) (by decide)
  · omega
theorem stps_lt : ∀ (n : Nat) {s : Nat}, s < 4294967296 → stps n s < 4294967296
  | 0, _, h => h
  | n + 1, _, h => stps_lt n (stp_lt h)
theorem upd8_lt {s b : Nat} (h : s < 4294967296) (hb : b < 256) : upd8 s b < 4294967296 := stps_lt 8 (xor_lt32 h (by omega))
theorem crcs_lt (l : List Nat) : ∀ {s : Nat}, s < 4294967296 → (∀ x ∈ l, x < 256) → crcs s l < 4294967296 := by
  induction l with
  | nil => intro s h _; rw [crcs_nil]; exact h
  | cons b l ih =>
    intro s h hl
    rw [crcs_cons]
    exact ih (upd8_lt h (hl b (by simp))) fun x hx => hl x (by simp [hx])
theorem crcs_append (l m : List Nat) (s : Nat) : crcs s (l ++ m) = crcs (crcs s l) m := List.foldl_append

/-- Linear. -/
theorem stp_xor (a b : Nat) : stp (a ^^^ b) = stp a ^^^ stp b := by
  unfold stp
  have hm := xor_mod2 a b
  rw [xor_div2]
  rcases Nat.mod_two_eq_zero_or_one a with ha | ha <;> rcases Nat.mod_two_eq_zero_or_one b with hb | hb <;> rw [ha, hb] at hm <;> simp only [hm, ha, hb]
  · simp
  · simp [Nat.xor_assoc]
  · simp only [if_true, show ¬ (0 : Nat) = 1 by decide, if_false]
    rw [Nat.xor_assoc, Nat.xor_comm (b / 2) poly, ← Nat.xor_assoc]
  · simp only [show ¬ ((1 + 1) % 2 = 1) by decide, if_false, if_true]
    rw [Nat.xor_assoc, ← Nat.xor_assoc poly, Nat.xor_comm poly, Nat.xor_assoc, Nat.xor_self, Nat.xor_zero]
theorem stps_xor : ∀ (n a b : Nat), stps n (a ^^^ b) = stps n a ^^^ stps n b
  | 0, _, _ => rfl
  | n + 1, a, b => by simp only [stps]; rw [stp_xor, stps_xor]
theorem stps_zero : ∀ n, stps n 0 = 0
  | 0 => rfl
  | n + 1 => by simp only [stps]; exact stps_zero n
/-- Nothing is lost. -/
theorem stp_eq_zero {s : Nat} (h : s < 4294967296) (e : stp s = 0) : s = 0 := by
  unfold stp at e
  split at e
  · have : s / 2 = poly := by
      have := congrArg (· ^^^ poly) e
      simpa [Nat.xor_assoc] using this
    unfold poly at this
    omega
  · omega
theorem stps_eq_zero (n : Nat) : ∀ {s : Nat}, s < 4294967296 → stps n s = 0 → s = 0 := by
  induction n with
  | zero => intro s _ e; exact e
  | succ n ih =>
    intro s h e
    simp only [stps] at e
    exact stp_eq_zero h (ih (stp_lt h) e)
theorem stps_add : ∀ (m n s : Nat), stps (m + n) s = stps n (stps m s)
  | 0, n, s => by rw [Nat.zero_add]; rfl
  | m + 1, n, s => by rw [show m + 1 + n = (m + n) + 1 by omega]; exact stps_add m n (stp s)

/-- Two rows and their difference. -/
theorem upd8_xor (s t a b : Nat) : upd8 (s ^^^ t) (a ^^^ b) = upd8 s a ^^^ upd8 t b := by
  unfold upd8
  rw [← stps_xor]
  congr 1
  rw [Nat.xor_assoc, ← Nat.xor_assoc t, Nat.xor_comm t a, Nat.xor_assoc a, ← Nat.xor_assoc]
theorem crcs_xor (l : List Nat) : ∀ (m : List Nat) (s t : Nat), l.length = m.length → crcs (s ^^^ t) (List.zipWith (· ^^^ ·) l m) = crcs s l ^^^ crcs t m := by
  induction l with
  | nil =>
    intro m s t h
    cases m with
    | nil => rw [List.zipWith_nil_left, crcs_nil, crcs_nil, crcs_nil]
    | cons b m => simp at h
  | cons a l ih =>
    intro m s t h
    cases m with
    | nil => simp at h
    | cons b m =>
      have h' : l.length = m.length := by simpa using h
      have e := ih m (upd8 s a) (upd8 t b) h'
      rw [← upd8_xor] at e
      rw [List.zipWith_cons_cons, crcs_cons, crcs_cons, crcs_cons]
      exact e
theorem crcs_zeros (n : Nat) : ∀ {s : Nat}, s < 4294967296 → (crcs s (List.replicate n 0) = 0 ↔ s = 0) := by
  induction n with
  | zero => intro s _; rw [List.replicate_zero, crcs_nil]
  | succ n ih =>
    intro s h
    have hs : upd8 s 0 < 4294967296 := upd8_lt h (Nat.zero_lt_succ 255)
    have e1 : crcs s (List.replicate (n + 1) 0) = crcs (upd8 s 0) (List.replicate n 0) := by rw [List.replicate_succ, crcs_cons]
    have e2 : upd8 s 0 = stps 8 s := by unfold upd8; rw [Nat.xor_zero]
    rw [e1, ih hs, e2]
    exact ⟨fun e => stps_eq_zero 8 h e, fun e => by rw [e]; exact stps_zero 8⟩
theorem zip_self (q : List Nat) : List.zipWith (· ^^^ ·) q q = List.replicate q.length 0 := by
  induction q with
  | nil => rfl
  | cons a q ih => simp only [List.zipWith, List.length_cons, List.replicate, Nat.xor_self, ih]

/-- What lies above the lowest eight bits comes down. -/
theorem stp_even (y : Nat) : stp (y * 2) = y := by
  unfold stp
  rw [if_neg (by omega)]
  omega
theorem stps_high : ∀ (n y : Nat), stps n (y * 2 ^ n) = y
  | 0, y => by simp [stps]
  | n + 1, y => by
    simp only [stps]
    rw [show y * 2 ^ (n + 1) = y * 2 ^ n * 2 by rw [Nat.pow_succ, Nat.mul_assoc], stp_even]
    exact stps_high n y
theorem upd8_word (s y : Nat) : stps 8 s ^^^ y = stps 8 (s ^^^ y * 256) := by
  rw [stps_xor, show y * 256 = y * 2 ^ 8 by rfl, stps_high]

theorem xor_add {a b : Nat} (n : Nat) (ha : a < 2 ^ n) : a ^^^ b * 2 ^ n = a + b * 2 ^ n := by
  have h1 : a ^^^ b * 2 ^ n = a ||| b * 2 ^ n := by
    apply Nat.eq_of_testBit_eq
    intro i
    simp only [Nat.testBit_xor, Nat.testBit_or, Nat.testBit_mul_two_pow]
    by_cases hi : i < n
    · simp [show ¬ n ≤ i by omega]
    · rw [Nat.testBit_lt_two_pow (Nat.lt_of_lt_of_le ha (Nat.pow_le_pow_right (by decide) (by omega)))]
      simp
  rw [h1, Nat.or_comm, Nat.mul_comm, ← Nat.two_pow_add_eq_or_of_lt ha, Nat.add_comm]

/-- A row of bytes as one word, the first lowest. -/
def word : List Nat → Nat
  | [] => 0
  | b :: l => b ^^^ word l * 256
theorem crcs_word : ∀ (l : List Nat) (s : Nat), crcs s l = stps (8 * l.length) (s ^^^ word l)
  | [], s => by rw [crcs_nil, word, Nat.xor_zero]; rfl
  | b :: l, s => by
    rw [crcs_cons, word, List.length_cons]
    rw [crcs_word l, upd8, upd8_word, show 8 * (l.length + 1) = 8 + 8 * l.length by omega, stps_add, Nat.xor_assoc]
theorem word_lt : ∀ (l : List Nat), (∀ x ∈ l, x < 256) → word l < 256 ^ l.length ∧ (word l = 0 ↔ ∀ x ∈ l, x = 0)
  | [], _ => by simp [word]
  | b :: l, h => by
    obtain ⟨h1, h2⟩ := word_lt l fun x hx => h x (by simp [hx])
    have hb := h b (by simp)
    have e : word (b :: l) = b + word l * 256 := xor_add 8 hb
    rw [e, List.length_cons, Nat.pow_succ]
    refine ⟨by omega, fun e0 x hx => ?_, fun h0 => ?_⟩
    · rcases List.mem_cons.1 hx with q | q
      · omega
      · exact h2.1 (by omega) x q
    · have := h0 b (by simp)
      have := h2.2 fun x hx => h0 x (by simp [hx])
      omega
/-- One to four bytes. -/
theorem crcs_tells (l : List Nat) (h4 : l.length ≤ 4) (h : ∀ x ∈ l, x < 256) : crcs 0 l = 0 ↔ ∀ x ∈ l, x = 0 := by
  obtain ⟨h1, h2⟩ := word_lt l h
  rw [crcs_word, Nat.zero_xor, ← h2]
  have hw : word l < 4294967296 := by
    have : 256 ^ l.length ≤ 256 ^ 4 := Nat.pow_le_pow_right (by decide) h4
    have e : (256 : Nat) ^ 4 = 4294967296 := by decide
    omega
  exact ⟨stps_eq_zero _ hw, fun e => by rw [e]; exact stps_zero _⟩

/-- Two rows that differ in one to four bytes side by side have unlike sums. -/
theorem crcs_unlike (p l m q : List Nat) (s : Nat) (hs : s < 4294967296) (hlen : l.length = m.length) (h4 : l.length ≤ 4) (hp : ∀ x ∈ p, x < 256) (hl : ∀ x ∈ l, x < 256) (hm : ∀ x ∈ m, x < 256) (hq : ∀ x ∈ q, x < 256) :
    crcs s (p ++ (l ++ q)) = crcs s (p ++ (m ++ q)) ↔ l = m := by
  refine ⟨fun e => ?_, fun e => by rw [e]⟩
  rw [crcs_append, crcs_append, crcs_append, crcs_append] at e
  have ht := crcs_lt p hs hp
  generalize crcs s p = t at e ht
  have d1 := crcs_xor l m t t hlen
  have d2 := crcs_xor q q (crcs t l) (crcs t m) rfl
  rw [Nat.xor_self] at d1
  have hz := zip_self q
  rw [hz, e, Nat.xor_self] at d2
  have hx := (crcs_zeros q.length (xor_lt32 (crcs_lt l ht hl) (crcs_lt m ht hm))).1 d2
  rw [← d1] at hx
  have hzb : ∀ x ∈ List.zipWith (· ^^^ ·) l m, x < 256 := by
    intro x hx
    obtain ⟨i, hi, rfl⟩ := List.getElem_of_mem hx
    simp only [List.length_zipWith] at hi
    rw [List.getElem_zipWith]
    exact xor_lt 8 (hl _ (List.getElem_mem _)) (hm _ (List.getElem_mem _))
  have hall := (crcs_tells _ (by simp only [List.length_zipWith]; omega) hzb).1 hx
  apply List.ext_getElem hlen
  intro i h1 h2
  have hi : i < (List.zipWith (· ^^^ ·) l m).length := by simp only [List.length_zipWith]; omega
  have := hall _ (List.getElem_mem hi)
  rw [List.getElem_zipWith] at this
  have h3 := congrArg (· ^^^ m[i]) this
  simpa only [Nat.xor_assoc, Nat.xor_self, Nat.xor_zero, Nat.zero_xor] using h3

/-- Sum and More. -/
def ones : Nat := 4294967295
def more (sum : Nat) (l : List Nat) : Nat := crcs (sum ^^^ ones) l ^^^ ones
theorem xor_ones_ones (a : Nat) : a ^^^ ones ^^^ ones = a := by rw [Nat.xor_assoc, Nat.xor_self, Nat.xor_zero]
theorem xor_ones {a : Nat} (h : a < 4294967296) : a ^^^ ones = 4294967295 - a := by
  unfold ones
  have := Nat.xor_lt_two_pow (n := 32) h (show 4294967295 < 2 ^ 32 by decide)
  have e : a ^^^ (2 ^ 32 - 1) = 2 ^ 32 - 1 - a := by
    apply Nat.eq_of_testBit_eq
    intro i
    rw [Nat.testBit_xor, Nat.testBit_two_pow_sub_one, show 2 ^ 32 - 1 - a = 2 ^ 32 - (a + 1) by omega, Nat.testBit_two_pow_sub_succ h]
    by_cases hi : i < 32
    · simp [hi]
    · rw [Nat.testBit_lt_two_pow (Nat.lt_of_lt_of_le h (by exact Nat.pow_le_pow_right (n := 2) (by decide) (show 32 ≤ i by omega)))]
      simp [hi]
  exact e
theorem more_append (sum : Nat) (l m : List Nat) : more (more sum l) m = more sum (l ++ m) := by
  unfold more
  rw [xor_ones_ones, crcs_append]
theorem more_lt {sum : Nat} {l : List Nat} (h : sum < 4294967296) (hl : ∀ x ∈ l, x < 256) : more sum l < 4294967296 := xor_lt32 (crcs_lt l (xor_lt32 h (by decide)) hl) (by decide)
theorem more_unlike (p l m q : List Nat) (s : Nat) (hs : s < 4294967296) (hlen : l.length = m.length) (h4 : l.length ≤ 4) (hp : ∀ x ∈ p, x < 256) (hl : ∀ x ∈ l, x < 256) (hm : ∀ x ∈ m, x < 256) (hq : ∀ x ∈ q, x < 256) :
    more s (p ++ (l ++ q)) = more s (p ++ (m ++ q)) ↔ l = m := by
  rw [← crcs_unlike p l m q (s ^^^ ones) (xor_lt32 hs (by decide)) hlen h4 hp hl hm hq]
  unfold more
  exact ⟨fun e => by have := congrArg (· ^^^ ones) e; simpa only [xor_ones_ones] using this, fun e => by rw [e]⟩

/-- Mask and Unmask. -/
def mask (x : Nat) : Nat := (x / 32768 + x % 32768 * 131072 + 2726488792) % 4294967296
def unmask (x : Nat) : Nat := (x + 4294967296 - 2726488792) % 4294967296 % 131072 * 32768 + (x + 4294967296 - 2726488792) % 4294967296 / 131072
theorem mask_lt (x : Nat) : mask x < 4294967296 := Nat.mod_lt _ (by decide)
theorem unmask_lt {x : Nat} (h : x < 4294967296) : unmask x < 4294967296 := by unfold unmask; omega
theorem unmask_mask {x : Nat} (h : x < 4294967296) : unmask (mask x) = x := by
  have e1 : (mask x + 4294967296 - 2726488792) % 4294967296 = x / 32768 + x % 32768 * 131072 := by
    unfold mask
    have hr : x / 32768 + x % 32768 * 131072 < 4294967296 := by omega
    generalize x / 32768 + x % 32768 * 131072 = r at hr
    omega
  unfold unmask
  rw [e1]
  have h1 : x / 32768 < 131072 := by omega
  have h2 : x = x / 32768 * 32768 + x % 32768 := by omega
  generalize x / 32768 = a at h1 h2 ⊢
  generalize x % 32768 = b at h2 ⊢
  subst h2
  omega
theorem mask_unmask {x : Nat} (h : x < 4294967296) : mask (unmask x) = x := by
  unfold unmask
  obtain ⟨r, hr⟩ : ∃ r, r = (x + 4294967296 - 2726488792) % 4294967296 := ⟨_, rfl⟩
  rw [← hr]
  have hr1 : r < 4294967296 := by omega
  have e1 : (r + 2726488792) % 4294967296 = x := by omega
  unfold mask
  have h1 : r / 131072 < 32768 := by omega
  have h2 : r = r / 131072 * 131072 + r % 131072 := by omega
  have e2 : (r % 131072 * 32768 + r / 131072) / 32768 + (r % 131072 * 32768 + r / 131072) % 32768 * 131072 = r := by
    generalize r / 131072 = a at h1 h2 ⊢
    generalize r % 131072 = b at h2 ⊢
    omega
  rw [e2, e1]
end Go.Proofs.Ytfecopldepnicaa
