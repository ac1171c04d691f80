import Derived.Test.YtfecopldepnicaaPk10
/- The document's own List, Seen, Latest and Get. -/
namespace Go.Proofs.Ytfecopldepnicaa
open Go.RowKit
set_option linter.unusedVariables false
set_option linter.unusedSimpArgs false

theorem wpList_appG {α : Type} (E : El α) {t : TypeId} {z : Value} {bytes : Nat} (ht : Try.prog.underlying t = some (.slice E.ty)) (hinfo : (Try.prog.info? E.ty).map (fun i => (i.zero, i.size, i.bytes)) = some (some z, E.size, bytes)) (hz1 : z.cells.size = E.size) (hp : 0 < E.size)
    {w : World} {ops : Array Oper} {rest : List Oper} {o : Oper} {a : Act} {Q : Exit → Act → World → Prop} (hgd : o.guard = none) (s x : Operand)
    (ho : o.op = .call { callee := .builtin .append, args := #[s, x], argTypes := #[t, t] }) {B : Nat} {v : Value} {xs ys : List α} (hs : a.eval s = v) {G : Nat → Prop} (hrow : RowF E B G w v xs) {ao : Option Addr} {m c : Nat} (hx : a.eval x = .slice ao m c)
    (hr : RSG E G w ao m c ys) (hG : ∀ b, G b → b < B) (hb : (xs.length + m) * bytes ≤ 140737488355328) (h63 : xs.length + m ≤ 140737488355328) (hbase : B ≤ w.heap.size)
    (h : ∀ v' w', RowF E B G w' v' (xs ++ ys) → Below B w w' → wpList Try.prog ops Q rest (a.put o.dst v') w') : wpList Try.prog ops Q (o :: rest) a w := by
  obtain ⟨us, hru, hug⟩ := hr
  exact wpList_appF E ht hinfo hz1 hp hgd s x ho hs hrow hx hru (fun u hu b hrb e => by have := hG b (hug u hu b hrb); have := (hrow.own_lt e).1; omega) hug h63 hb hbase fun v' w' h2 h3 _ => h v' w' h2 (hrow.s.below h3 hbase)
/-- An entry of a row that leans on G: its cells, and what they lean on. -/
theorem RSG.ent {G : Nat → Prop} {w : World} {ao : Option Addr} {len cap : Nat} {os : List EntV} (h : RSG entE G w ao len cap os) {i : Nat} {o : EntV} (hx : os[i]? = some o) :
    ∃ b off ka kc va vc, ao = some ⟨b, off, none⟩ ∧ w.cell? ⟨b, off + i * 5, none⟩ = some (.slice ka o.key.length kc) ∧ w.cell? ⟨b, off + i * 5 + 1, none⟩ = some (.int .i64 o.seq) ∧ w.cell? ⟨b, off + i * 5 + 2, none⟩ = some (.bool o.gone) ∧ w.cell? ⟨b, off + i * 5 + 3, none⟩ = some (.int .i64 o.till) ∧ w.cell? ⟨b, off + i * 5 + 4, none⟩ = some (.slice va o.val.length vc) ∧
      EntM w [.slice ka o.key.length kc, .int .i64 o.seq, .bool o.gone, .int .i64 o.till, .slice va o.val.length vc] o ∧ Sl w ka o.key.length kc o.key ∧ ∀ u ∈ [Value.slice ka o.key.length kc, .int .i64 o.seq, .bool o.gone, .int .i64 o.till, .slice va o.val.length vc], ∀ b, Refs u b → G b := by
  obtain ⟨us, ⟨h1, h2, h3, h4, h5, h6⟩, hg⟩ := h
  obtain ⟨vs, g1, gm, g2⟩ := h5.at hx
  have g1' := g1
  obtain ⟨ka, kc, va, vc, rfl, s1, s2, s3, s4⟩ := g1'
  obtain ⟨b, off, e, _⟩ := h6 _ _ (g2 0 _ rfl)
  have hc : ∀ (j : Nat) (v : Value), [Value.slice ka o.key.length kc, .int .i64 o.seq, .bool o.gone, .int .i64 o.till, .slice va o.val.length vc][j]? = some v → w.cell? ⟨b, off + (i * 5 + j), none⟩ = some v := fun j v hv => by
    obtain ⟨b', off', e', hc⟩ := h6 _ _ (g2 j v hv)
    rw [e] at e'
    simp only [Option.some.injEq, Addr.mk.injEq, and_true] at e'
    obtain ⟨rfl, rfl⟩ := e'
    exact hc
  exact ⟨b, off, ka, kc, va, vc, e, hc 0 _ rfl, hc 1 _ rfl, hc 2 _ rfl, hc 3 _ rfl, hc 4 _ rfl, g1, s1, fun u hu b hr => hg u (gm u hu) b hr⟩
theorem box_cells (w : World) (a b c d e : Value) (t : TypeId) {wx : World} (hb : Below (w.alloc (.cells #[a, b, c, d, e] t)).heap.size (w.alloc (.cells #[a, b, c, d, e] t)) wx) :
    wx.cell? ⟨w.heap.size, 0, none⟩ = some a ∧ wx.cell? ⟨w.heap.size, 1, none⟩ = some b ∧ wx.cell? ⟨w.heap.size, 2, none⟩ = some c ∧ wx.cell? ⟨w.heap.size, 3, none⟩ = some d ∧ wx.cell? ⟨w.heap.size, 4, none⟩ = some e := by
  refine ⟨cell_later hb ?_, cell_later hb ?_, cell_later hb ?_, cell_later hb ?_, cell_later hb ?_⟩ <;> rw [cell_of (heap_alloc_new w _)] <;> rfl

set_option maxHeartbeats 4000000 in
set_option maxRecDepth 100000 in
theorem rlistE_any {w : World} {ao : Option Addr} {len cap : Nat} {l : List EntV} {G : Nat → Prop} {fa ta : Option Addr} {fl fc tl tc : Nat} {fr ub : List Int} (h : RSG entE G w ao len cap l) (hf : Sl w fa fl fc fr) (ht : Sl w ta tl tc ub) (hG : ∀ b, G b → b < w.heap.size) (hl : len ≤ 1000000) :
    Calls Try.prog 22 #[.slice ao len cap, .slice fa fl fc, .slice ta tl tc] w fun r w' => ∃ v, r = .returned v ∧ RowF entE w.heap.size G w' v (listE l fr ub) ∧ Below w.heap.size w w' := by
  have HS : Hid (RSG entE G w ao len cap l ∧ Sl w fa fl fc fr ∧ Sl w ta tl tc ub) := ⟨h, hf, ht⟩
  have HGG := hid hG
  have hln : l.length = len := h.rs.len.1
  have htl := ht.1
  have hl62 : len ≤ 2 ^ 61 := by omega
  have htl63 : tl ≤ 2 ^ 63 - 1 := by have := ht.2.2.2.1; have := ht.2.2.2.2.1; unfold maxLen at this; omega
  have H0 : Hid (RowF entE w.heap.size G w (.slice none 0 0) (listE (l.take 0) fr ub) ∧ Below w.heap.size w w) := ⟨RowF.nil _ _ _, Below.refl _ _⟩
  have HL0 : Hid (len ≤ 1000000) := hl
  clear h hf ht hG hl
  go_enter Try.func22, Try.ntmps22
  go_wp2_with fail
  go_loopg [7, 9, 12] len (fun g v _ i wr => ∃ k : Nat, k + g = len ∧ i = .int .i64 (k : Int) ∧ Hid (RowF entE w.heap.size G wr v (listE (l.take k) fr ub) ∧ Below w.heap.size w wr))
  case atStart => exact ⟨0, by omega, rfl, H0⟩
  case round =>
    obtain ⟨k, hk, rfl, HK⟩ := hrel
    by_cases hkl : k < len
    · have hkl' : (k : Int) < (len : Int) := by omega
      have hkx : k < l.length := by omega
      have hox := List.getElem?_eq_getElem hkx
      have hlt := listE_take (fr := fr) (ub := ub) hkx
      have hll := listE_len (l.take k) fr ub
      rw [List.length_take] at hll
      obtain ⟨b, off, ka, kc, va, vc, rfl, d0, d1, d2, d3, d4, hem, sk, heg⟩ := RSG.ent (HS.out.1.later HK.out.2) hox
      generalize l[k] = o at d0 d1 d2 d3 d4 hem sk heg hlt
      have HEG := hid heg
      have HSK := hid sk
      have HIN : Hid (inE fr ub o = decide (0 ≤ cmp o.key fr ∧ (tl = 0 ∨ cmp o.key ub < 0))) := by unfold inE; rw [htl]; rfl
      have b1 : Below wr.heap.size wr (wr.alloc (.cells #[.slice ka o.key.length kc, .int .i64 o.seq, .bool o.gone, .int .i64 o.till, .slice va o.val.length vc] 34)) := (Below.refl _ _).alloc (Nat.le_refl _) _
      have hc1 := rcmp_any (sk.later b1) ((HS.out.2.1.later HK.out.2).later b1)
      have HC2 : Hid (∀ wx, Below wr.heap.size wr wx → Calls Try.prog 15 #[.slice ka o.key.length kc, .slice ta tl tc] wx fun r w' => r = .returned (.int .i64 (cmp o.key ub)) ∧ Below wx.heap.size wx w') := fun wx hb => rcmp_any (HSK.out.later hb) ((HS.out.2.2.later HK.out.2).later hb)
      have HLN : Hid ((listE (l.take k) fr ub).length + 1 ≤ 2000000 ∧ ((listE (l.take k) fr ub).length + 1) * 72 ≤ 140737488355328) := by have := HL0.out; constructor <;> omega
      have HLT := hid hlt
      have hk62 : k ≤ 2 ^ 61 := by omega
      obtain ⟨GK, HG⟩ : ∃ g, Hid (g < gk ∧ k + 1 + g = len) := ⟨gk - 1, by omega, by omega⟩
      have HB1 := hid b1
      obtain ⟨c1, hcc1⟩ : ∃ c, c = cmp o.key fr := ⟨_, rfl⟩
      obtain ⟨c2, hcc2⟩ : ∃ c, c = cmp o.key ub := ⟨_, rfl⟩
      rw [← hcc1, ← hcc2] at HIN
      rw [← hcc1] at hc1
      rw [← hcc2] at HC2
      obtain ⟨kl, hkl2⟩ : ∃ n, n = o.key.length := ⟨_, rfl⟩
      obtain ⟨ln, hln2⟩ : ∃ n, n = o.val.length := ⟨_, rfl⟩
      obtain ⟨seq, hsq⟩ : ∃ n, n = o.seq := ⟨_, rfl⟩
      obtain ⟨gone, hgn⟩ : ∃ n, n = o.gone := ⟨_, rfl⟩
      obtain ⟨till, htt⟩ : ∃ n, n = o.till := ⟨_, rfl⟩
      rw [← hkl2] at d0 hem HEG HSK hc1 HC2 HB1
      rw [← hln2] at d4 hem HEG HB1 hc1
      rw [← hsq] at d1 hem HEG HB1 hc1
      rw [← hgn] at d2 hem HEG HB1 hc1
      rw [← htt] at d3 hem HEG HB1 hc1
      clear hkl2 hln2 hsq hgn htt hcc1 hcc2 sk heg hlt hll hox b1 hk
      go_wp2_with fail
      refine hc1.mono ?_
      rintro e w2 ⟨rfl, b2⟩
      have b3 := HB1.out.trans (b2.mono HB1.out.size)
      have HR := hid ((HK.out.1).later b3)
      have HEM := hid (El.later (E := entE) hem b3)
      have HBL : Hid (Below w.heap.size w w2) := HK.out.2.trans (b3.mono HK.out.2.size)
      have HSZ : Hid (w.heap.size ≤ w2.heap.size) := HBL.out.size
      obtain ⟨y0, y1, y2, y3, y4⟩ := box_cells wr _ _ _ _ _ _ b2
      clear hc1 d0 d1 d2 d3 d4
      by_cases q1 : c1 < 0
      · have HIF : Hid (inE fr ub o = false) := by show _ = _; rw [HIN.out]; simp; omega
        clear HIN
        go_wp2_with fail
        go_roundg GK
        case measure => exact HG.out.1
        case rel => exact ⟨k + 1, HG.out.2, by go_num, by rw [HLT.out, HIF.out]; simpa using HR.out, HBL.out⟩
      · have q1' : (0 : Int) ≤ c1 := by omega
        by_cases q2 : tl = 0
        · have HIF : Hid (inE fr ub o = true) := by show _ = _; rw [HIN.out]; simp [q1', q2]
          have q2' : ((tl : Int) == 0) = true := by simp; omega
          clear HIN q1 q2
          go_wp2_with (at_builtin; refine wpList_appG entE (t := 22) (z := .agg #[.slice none 0 0, .int .i64 0, .bool false, .int .i64 0, .slice none 0 0]) (bytes := 72) (B := w.heap.size) Try.underlying22 entE_info rfl (by decide) rfl (.tmp 33) (.tmp 35) rfl rfl (HR.out.alloc _) rfl (rsg_one HEM.out HEG.out) HGG.out (by have := HLN.out; omega) (by have := HLN.out; omega) (by have := HSZ.out; simp; omega) ?_; intro v9 w9 r9 b9; have HR9 := hid r9; have HB9 : Hid (Below w.heap.size w w9) := (HBL.out.alloc HSZ.out _).trans b9)
          go_roundg GK
          case measure => exact HG.out.1
          case rel => exact ⟨k + 1, HG.out.2, by go_num, by rw [HLT.out, HIF.out]; exact HR9.out, HB9.out⟩
        · have q2' : ((tl : Int) == 0) = false := by simp; omega
          have hc2 := HC2.out _ b3
          have HB3 := hid b3
          have HB2 := hid b2
          have HHEM := hid hem
          go_wp2_with fail
          refine hc2.mono ?_
          rintro e w4 ⟨rfl, b4⟩
          clear HR HEM HBL HSZ y0 y1 y2 y3 y4
          have b5 := HB3.out.trans (b4.mono HB3.out.size)
          have b6 := HB2.out.trans (b4.mono HB2.out.size)
          have HR := hid ((HK.out.1).later b5)
          have HEM := hid (El.later (E := entE) HHEM.out b5)
          have HBL : Hid (Below w.heap.size w w4) := HK.out.2.trans (b5.mono HK.out.2.size)
          have HSZ : Hid (w.heap.size ≤ w4.heap.size) := HBL.out.size
          obtain ⟨y0, y1, y2, y3, y4⟩ := box_cells wr _ _ _ _ _ _ b6
          clear hc2
          by_cases q3 : c2 < 0
          · have HIF : Hid (inE fr ub o = true) := by show _ = _; rw [HIN.out]; simp [q1', q3]
            clear HIN q1 q2
            go_wp2_with (at_builtin; refine wpList_appG entE (t := 22) (z := .agg #[.slice none 0 0, .int .i64 0, .bool false, .int .i64 0, .slice none 0 0]) (bytes := 72) (B := w.heap.size) Try.underlying22 entE_info rfl (by decide) rfl (.tmp 33) (.tmp 35) rfl rfl (HR.out.alloc _) rfl (rsg_one HEM.out HEG.out) HGG.out (by have := HLN.out; omega) (by have := HLN.out; omega) (by have := HSZ.out; simp; omega) ?_; intro v9 w9 r9 b9; have HR9 := hid r9; have HB9 : Hid (Below w.heap.size w w9) := (HBL.out.alloc HSZ.out _).trans b9)
            go_roundg GK
            case measure => exact HG.out.1
            case rel => exact ⟨k + 1, HG.out.2, by go_num, by rw [HLT.out, HIF.out]; exact HR9.out, HB9.out⟩
          · have HIF : Hid (inE fr ub o = false) := by show _ = _; rw [HIN.out]; simp; omega
            clear HIN q1 q2
            go_wp2_with fail
            go_roundg GK
            case measure => exact HG.out.1
            case rel => exact ⟨k + 1, HG.out.2, by go_num, by rw [HLT.out, HIF.out]; simpa using HR.out, HBL.out⟩
    · have hkl' : (len : Int) ≤ (k : Int) := by omega
      have HE : Hid (l.take k = l) := List.take_of_length_le (by omega)
      clear hk hkl
      go_wp2_with fail
      exact bodyPost_ret (v := u7) (by simp [results, Try.results22, go_sem]) rfl ⟨u7, rfl, by have := HK.out.1; rw [HE.out] at this; exact this, HK.out.2⟩
end Go.Proofs.Ytfecopldepnicaa

/- The document's own Seen. -/
namespace Go.Proofs.Ytfecopldepnicaa
open Go.RowKit
set_option linter.unusedVariables false
set_option linter.unusedSimpArgs false

theorem seen1_yes {s : Int} {out : List EntV} {e : EntV} (h1 : e.seq ≤ s) (h2 : out = [] ∨ ∃ x, out.getLast? = some x ∧ cmp x.key e.key ≠ 0) : seen1 s out e = out ++ [e] := by unfold seen1; rw [if_pos ⟨h1, h2⟩]
theorem seen1_old {s : Int} {out : List EntV} {e : EntV} (h1 : ¬ e.seq ≤ s) : seen1 s out e = out := by unfold seen1; rw [if_neg (fun h => h1 h.1)]
theorem seen1_like {s : Int} {out : List EntV} {e x : EntV} (hx : out.getLast? = some x) (h : cmp x.key e.key = 0) : seen1 s out e = out := by
  unfold seen1
  rw [if_neg]
  rintro ⟨_, h2 | ⟨y, hy, hn⟩⟩
  · rw [h2] at hx; cases hx
  · rw [hx] at hy
    simp only [Option.some.injEq] at hy
    subst hy
    exact hn h
end Go.Proofs.Ytfecopldepnicaa

/- The document's own Latest, Get and Ordered. -/
namespace Go.Proofs.Ytfecopldepnicaa
open Go.RowKit
set_option linter.unusedVariables false
set_option linter.unusedSimpArgs false

def notGone (l : List EntV) : List EntV := l.filter fun e => !e.gone
theorem notGone_take {l : List EntV} {k : Nat} (h : k < l.length) : notGone (l.take (k + 1)) = notGone (l.take k) ++ (if l[k].gone then [] else [l[k]]) := by
  unfold notGone
  rw [List.take_add_one, List.getElem?_eq_getElem h, List.filter_append]
  simp only [Option.toList]
  congr 1
  cases hh : l[k].gone <;> simp [hh]
theorem notGone_len (l : List EntV) : (notGone l).length ≤ l.length := List.length_filter_le _ _
end Go.Proofs.Ytfecopldepnicaa
