import Derived.BigQuiet
import Derived.Test.YtaefddnmldbgiaaDoorPk13
import Derived.Test.YtaefddnmldbgiaaDoorPk17
/- The law on the order in which entries come, of any mem. -/
namespace Go.Proofs.YtaefddnmldbgiaaDoor
open Go.RowKit
set_option linter.unusedVariables false
set_option linter.unusedSimpArgs false

/-- Two mems that are being filled, apart from one another. -/
def TwoS (D : PM) (w : World) (p q n m : Nat) (wx : World) (L M : List EntV) : Prop :=
  ∃ F G, D.R wx p L F ∧ D.R wx q M G ∧ (ordE L ∧ okE L ∧ L.length ≤ n) ∧ (ordE M ∧ okE M ∧ M.length ≤ m) ∧ (∀ k, F k → ¬ G k) ∧ (∀ k, F k → w.heap.size ≤ k) ∧ (∀ k, G k → w.heap.size ≤ k) ∧ D.N ≤ w.heap.size ∧ Below w.heap.size w wx
theorem TwoS.later {D : PM} {w : World} {p q n m : Nat} {wx wy : World} {L M : List EntV} (h : TwoS D w p q n m wx L M) (hb : Below wx.heap.size wx wy) : TwoS D w p q n m wy L M := by
  obtain ⟨F, G, a1, a2, a3, a4, a5, a6, a7, gn, a8⟩ := h
  exact ⟨F, G, PM.later a1 hb, PM.later a2 hb, a3, a4, a5, a6, a7, gn, a8.trans (hb.mono a8.size)⟩
theorem TwoS.swap {D : PM} {w : World} {p q n m : Nat} {wx : World} {L M : List EntV} (h : TwoS D w p q n m wx L M) : TwoS D w q p m n wx M L := by
  obtain ⟨F, G, a1, a2, a3, a4, a5, a6, a7, gn, a8⟩ := h
  exact ⟨G, F, a2, a1, a4, a3, fun k h1 h2 => a5 k h2 h1, a7, a6, gn, a8⟩
theorem TwoS.bel {D : PM} {w : World} {p q n m : Nat} {wx : World} {L M : List EntV} (h : TwoS D w p q n m wx L M) : Below w.heap.size w wx := by
  obtain ⟨F, G, a1, a2, a3, a4, a5, a6, a7, gn, a8⟩ := h
  exact a8
/-- One more to the one: the other stays. -/
theorem TwoS.add {D : PM} {w : World} {p q n m : Nat} {wx : World} {L M : List EntV} (h : TwoS D w p q n m wx L M) (hn : n ≤ 90) {ka kc va vc : _} {o : EntV} (hem : EntM w (entL ka kc va vc o) o) (h1 : o.key.length ≤ 3000) (h2 : o.val.length ≤ 3000) :
    Calls Tryd.prog 23 #[pm p, entA ka kc va vc o] wx fun r w' => r = .returned (.int .i64 ((addE L o).1 : Nat)) ∧ TwoS D w p q (n + 1) m w' (addE L o).2 M := by
  obtain ⟨F, G, a1, b1, ⟨a2, a3, a4⟩, b2, ap, a5, b5, gn, a6⟩ := h
  refine (D.add a1 a2 a3 (by omega) (El.later (E := entE) hem a6) (fun u hu b hr hb' => by have := entE.lt hem u hu b hr; have := a5 b hb'; omega) h1 h2).mono fun r w' ⟨he, F', r6, k6, f6⟩ => ⟨he, F', G, r6, D.same b1 (fun k hk => k6.block k (D.lt b1 k hk) (fun hf => ap k hf hk)) (fun k hk => k6.block k (by have := D.rn b1; omega) (fun hf => by have := a5 k hf; omega)), ⟨addE_ord a2 o, addE_ok a3 o, by have := addE_len L o; omega⟩, b2, (fun j hj hg => ?_), (fun j hj => ?_), b5, gn, a6.trans (k6.below a6.size a5)⟩
  · rcases f6 j hj with e | e
    · exact ap j e hg
    · have := D.lt b1 j hg; omega
  · rcases f6 j hj with e | e
    · exact a5 j e
    · have := a6.size; omega
theorem twoS_begin {D : PM} {w w1 w2 : World} {p q : Nat} {F G : Nat → Prop} (gn : D.N ≤ w.heap.size) (r1 : D.R w1 p [] F) (f1 : ∀ k, F k → w.heap.size ≤ k) (b1 : Below w.heap.size w w1) (r2 : D.R w2 q [] G) (f2 : ∀ k, G k → w1.heap.size ≤ k) (b2 : Below w1.heap.size w1 w2) : TwoS D w p q 0 0 w2 [] [] :=
  ⟨F, G, PM.later r1 b2, r2, ⟨ord_nil, ok_nil, Nat.le_refl _⟩, ⟨ord_nil, ok_nil, Nat.le_refl _⟩, (fun k h1 h2 => by have := D.lt r1 k h1; have := f2 k h2; omega), f1, (fun k h => by have := f2 k h; have := b1.size; omega), gn, b1.trans (b2.mono b1.size)⟩
theorem run_takeE (w : World) (b off len cap k : Nat) (h : k ≤ cap) : (Instr.slice 22 (.slice (some ⟨b, off, none⟩) len cap) none (some (.int .i64 (k : Int))) none).run Tryd.prog w = .ok (.slice (some ⟨b, off, none⟩) k cap) w := by
  have e : cutS (some ⟨b, off, none⟩) cap 0 5 = some ⟨b, off, none⟩ := by
    unfold cutS
    split
    · rfl
    · simp [Addr.add]
  have := run_headE w (some ⟨b, off, none⟩) len cap k h
  rw [e] at this
  exact this
/-- All light, no two alike. -/
def LU (l : List EntV) : Prop := (∀ e ∈ l, e.key.length ≤ 3000 ∧ e.val.length ≤ 3000) ∧ unlike l
theorem LU.nil : LU [] := ⟨(fun e he => by cases he), List.Pairwise.nil⟩
theorem LU.more {l : List EntV} {k : Nat} {o : EntV} (h : LU (l.take k)) (hx : l[k]? = some o) (h1 : o.key.length ≤ 3000 ∧ o.val.length ≤ 3000) (h2 : ∀ e ∈ l.take k, ¬ (e.key = o.key ∧ e.seq = o.seq)) : LU (l.take (k + 1)) := by
  have e : l.take (k + 1) = l.take k ++ [o] := by rw [List.take_add_one, hx]; rfl
  rw [e]
  refine ⟨fun x hx => ?_, ?_⟩
  · rcases List.mem_append.1 hx with q | q
    · exact h.1 x q
    · rw [List.mem_singleton.1 q]; exact h1
  · unfold unlike
    rw [List.pairwise_append]
    refine ⟨h.2, List.pairwise_singleton _ _, fun a ha b hb => ?_⟩
    rw [List.mem_singleton.1 hb]
    exact h2 a ha

theorem addAll_take {l : List EntV} {k : Nat} {o : EntV} (h : l[k]? = some o) (L : List EntV) : addAll (l.take (k + 1)) L = (addE (addAll (l.take k) L) o).2 := by
  rw [List.take_add_one, h, addAll_app]
  rfl
theorem rev_at {l : List EntV} {N k : Nat} {o : EntV} (hN : N ≤ l.length) (hk : k < N) (h : l[N - 1 - k]? = some o) : (l.take N).reverse[k]? = some o := by
  rw [List.getElem?_reverse (by rw [List.length_take]; omega), List.length_take, show min N l.length - 1 - k = N - 1 - k by omega, List.getElem?_take_of_lt (by omega)]
  exact h

set_option maxHeartbeats 4000000 in
set_option maxRecDepth 100000 in
theorem turned_any (D : PM) (LL : PML D) {w : World} {ao : Option Addr} {len cap : Nat} {l : List EntV} (hG : D.G w) (h : RS entE w ao len cap l) :
    Calls Tryd.prog 7 #[.slice ao len cap] w fun r w' => r = .returned (.bool true) ∧ Below w.heap.size w w' := by
  have HGD : Hid (∀ wx, Below w.heap.size w wx → D.G wx) := fun wx hb => D.gk hG hb
  have HS : Hid (RS entE w ao len cap l ∧ len ≤ cap) := ⟨h, h.len.2.1⟩
  have hln : l.length = len := h.len.1
  have hl63 : len ≤ 2 ^ 63 - 1 := by have := h.len.2; unfold maxLen at this; omega
  have hnew := D.new hG
  have HGN := hid (D.gn hG)
  clear hG
  clear h
  go_enter Tryd.func7, Tryd.ntmps7
  go_wp2_with fail
  refine hnew.mono ?_
  rintro e w1 ⟨p, F0, rfl, r0, hF0, b0⟩
  have HR0 := hid (And.intro r0 (And.intro hF0 b0))
  clear hnew r0 hF0 b0
  go_wp2_with fail
  refine (D.new (HGD.out _ HR0.out.2.2)).mono ?_
  rintro e w2 ⟨q, G0, rfl, r1, hG0, b1⟩
  have H0 : Hid (TwoS D w p q 0 0 w2 [] []) := twoS_begin HGN.out HR0.out.1 HR0.out.2.1 HR0.out.2.2 r1 hG0 b1
  clear r1 hG0 b1 HR0
  go_upto_region 2 with fail
  go_cut [5] from 17 to 19 (fun v wx => wx = w2 ∧ ∃ N : Nat, v = .int .i64 (N : Int) ∧ Hid (N ≤ len ∧ N ≤ 60))
  case first =>
    by_cases h60 : len ≤ 60
    · have h60' : (len : Int) ≤ 60 := by omega
      go_wp2_with fail
      go_meet
      exact ⟨rfl, len, rfl, Nat.le_refl _, h60⟩
    · have h60' : (60 : Int) < (len : Int) := by omega
      have h60'' : ¬ (len : Int) ≤ 60 := by omega
      go_wp2_with fail
      go_meet
      exact ⟨rfl, 60, rfl, by show 60 ≤ len; omega, Nat.le_refl _⟩
  obtain ⟨hwc, N, rfl, HNN⟩ := hcut
  obtain rfl := hwc.symm
  have HN : Hid (N ≤ len ∧ N ≤ 60 ∧ N ≤ l.length) := ⟨HNN.out.1, HNN.out.2, by have := HNN.out; omega⟩
  have hN62 : N ≤ 2 ^ 61 := by have := HN.out; omega
  clear HNN hwc
  go_wp2_with fail
  go_loopg [6, 8, 21] N (fun g _ _ i wr => ∃ k : Nat, k + g = N ∧ i = .int .i64 (k : Int) ∧ Hid (Below w2.heap.size w2 wr ∧ LU (l.take k)))
  case atStart => exact ⟨0, by omega, rfl, Below.refl _ _, by rw [List.take_zero]; exact LU.nil⟩
  case round =>
    obtain ⟨k, hk, rfl, HK⟩ := hrel
    by_cases hkl : k < N
    · have hkl' : (k : Int) < (N : Int) := by omega
      have hkx : k < l.length := by have := HN.out; omega
      have hll : (k : Int) < (len : Int) := by omega
      have bel : Below w.heap.size w wr := H0.out.bel.trans (HK.out.1.mono H0.out.bel.size)
      obtain ⟨b, off, ka, kc, va, vc, rfl, e0, e1, e2, e3, e4, sk, sv, i1, i2⟩ := RS.ent HS.out.1 (List.getElem?_eq_getElem hkx)
      have HXK := hid (List.getElem?_eq_getElem hkx)
      have d0 := cell_later bel e0
      have d1 := cell_later bel e1
      have d2 := cell_later bel e2
      have d3 := cell_later bel e3
      have d4 := cell_later bel e4
      generalize l[k] = o at e0 e1 e2 e3 e4 d0 d1 d2 d3 d4 sk sv i1 i2 HXK
      have hlg := light9_any (w := wr) (ka := ka) (kc := kc) (va := va) (vc := vc) (e := o)
      have HC : Hid (∀ wx, Below wr.heap.size wr wx → wx.cell? ⟨b, off + k * 5, none⟩ = some (.slice ka o.key.length kc) ∧ wx.cell? ⟨b, off + k * 5 + 1, none⟩ = some (.int .i64 o.seq)) := fun wx hb => ⟨cell_later hb d0, cell_later hb d1⟩
      have HBW : Hid (Below w.heap.size w wr ∧ Below w2.heap.size w2 wr) := ⟨bel, HK.out.1⟩
      have HSK : Hid (Sl w ka o.key.length kc o.key) := sk
      have HLU : Hid (LU (l.take k)) := HK.out.2
      have hk62 : k ≤ 2 ^ 61 := by omega
      obtain ⟨GK, HG⟩ : ∃ g, Hid (g < gk ∧ k + 1 + g = N) := ⟨gk - 1, by omega, by omega⟩
      unfold entA at hlg
      clear e0 e1 e2 e3 e4 sk sv i1 i2 bel hk HK
      go_wp2_with fail
      refine hlg.mono ?_
      rintro e w3 ⟨rfl, b3⟩
      clear hlg d0 d1 d2 d3 d4
      by_cases hlt : o.key.length ≤ 3000 ∧ o.val.length ≤ 3000
      · have hlt' : decide (o.key.length ≤ 3000 ∧ o.val.length ≤ 3000) = true := by simpa using hlt
        rw [hlt']
        have HLT : Hid (o.key.length ≤ 3000 ∧ o.val.length ≤ 3000) := hlt
        have hcf := fun w => run_takeE w b off len cap k (by have := HS.out.2; have := HN.out; omega)
        have HB3 : Hid (Below wr.heap.size wr w3) := b3
        obtain ⟨WR, hWR⟩ : ∃ W, W = wr := ⟨_, rfl⟩
        rw [← hWR] at HC HBW HB3 b3
        clear hlt hlt' b3 hWR
        go_wp2_with fail
        clear hcf
        go_loopg [8, 35] k (fun g _ i wr => ∃ m : Nat, m + g = k ∧ i = .int .i64 (m : Int) ∧ Hid (Below w3.heap.size w3 wr ∧ ∀ e ∈ l.take m, ¬ (e.key = o.key ∧ e.seq = o.seq)))
        case atStart => exact ⟨0, by omega, rfl, Below.refl _ _, fun e he => by simp at he⟩
        case round =>
          obtain ⟨m, hm, rfl, HM⟩ := hrel
          by_cases hmk : m < k
          · have hmk' : (m : Int) < (k : Int) := by omega
            have hmx : m < l.length := by omega
            have bm : Below w.heap.size w wr := HBW.out.1.trans ((HB3.out.trans (HM.out.1.mono HB3.out.size)).mono HBW.out.1.size)
            obtain ⟨b', off', xa, xc, ya, yc, eb, t0, t1, t2, t3, t4, xk, xv, j1, j2⟩ := RS.ent HS.out.1 (List.getElem?_eq_getElem hmx)
            simp only [Option.some.injEq, Addr.mk.injEq, and_true] at eb
            obtain ⟨rfl, rfl⟩ := eb
            have HXM := hid (List.getElem?_eq_getElem hmx)
            have d0 := cell_later bm t0
            have d1 := cell_later bm t1
            have d2 := cell_later bm t2
            have d3 := cell_later bm t3
            have d4 := cell_later bm t4
            generalize l[m] = x at t0 t1 t2 t3 t4 d0 d1 d2 d3 d4 xk xv j1 j2 HXM
            obtain ⟨W1, hW1⟩ : ∃ W1, W1 = wr.alloc (.cells #[.slice xa x.key.length xc, .int .i64 x.seq, .bool x.gone, .int .i64 x.till, .slice ya x.val.length yc] 28) := ⟨_, rfl⟩
            have b1 : Below wr.heap.size wr W1 := by rw [hW1]; exact (Below.refl _ _).alloc (Nat.le_refl _) _
            have HBX := hid (box_cells wr (.slice xa x.key.length xc) (.int .i64 x.seq) (.bool x.gone) (.int .i64 x.till) (.slice ya x.val.length yc) 28 (wx := W1) (by rw [← hW1]; exact Below.refl _ _))
            have HB1 : Hid (Below w3.heap.size w3 W1) := HM.out.1.trans (b1.mono HM.out.1.size)
            have bw1 : Below w.heap.size w W1 := bm.trans (b1.mono bm.size)
            have g1 := fun j => str_l ((xk.later bw1).drewN j)
            have g2 := fun j => str_l ((HSK.out.later bw1).drewN j)
            have heq := str_eq xk.2.1 HSK.out.2.1
            have HCK := hid (HC.out W1 (HB3.out.trans (HB1.out.mono HB3.out.size)))
            have HBW1 := hid bw1
            have HMM := hid HM.out.2
            have hm62 : m ≤ 2 ^ 61 := by omega
            obtain ⟨GM, HGM⟩ : ∃ g, Hid (g < gk ∧ m + 1 + g = k) := ⟨gk - 1, by omega, by omega⟩
            have HW1 := hid hW1
            clear t0 t1 t2 t3 t4 xk xv j1 j2 bm b1 bw1 hW1 hm HM
            by_cases q1 : x.key = o.key
            · have he : ((strOfNums x.key).toList == (strOfNums o.key).toList) = true := by rw [heq]; simpa using q1
              by_cases q2 : x.seq = o.seq
              · have hs : (x.seq == o.seq) = true := by simpa using q2
                generalize strOfNums x.key = S1 at g1 he
                generalize strOfNums o.key = S2 at g2 he
                clear heq q1 q2
                go_upto_region 11 with fail
                rw [← HW1.out]
                obtain ⟨x0, x1, x2, x3, x4⟩ := HBX.out
                obtain ⟨y0, y1⟩ := HCK.out
                go_quiet (fail)
                clear x0 x1 x2 x3 x4 y0 y1 g1 g2 he hs d0 d1 d2 d3 d4
                have HBQ := hid (below_drewN HBW1.out nq)
                generalize W1.drewN nq = wq at HBQ ⊢
                go_wp2_with fail
                refine (awake9_any D wq (HGD.out _ HBQ.out)).mono ?_
                rintro e w4 ⟨rfl, b4⟩
                have c4 := HBQ.out.trans (b4.mono HBQ.out.size)
                go_wp2_with fail
                exact bodyPost_ret (v := .bool true) (by simp [results, Tryd.results7, go_sem]) rfl ⟨rfl, c4⟩
              · have hs : (x.seq == o.seq) = false := by simpa using q2
                have HNE : Hid (∀ e ∈ l.take (m + 1), ¬ (e.key = o.key ∧ e.seq = o.seq)) := fun e he => by
                  rw [List.take_add_one, HXM.out] at he
                  rcases List.mem_append.1 he with a | a
                  · exact HMM.out e a
                  · rw [List.mem_singleton.1 a]; exact fun z => q2 z.2
                generalize strOfNums x.key = S1 at g1 he
                generalize strOfNums o.key = S2 at g2 he
                clear heq q1 q2
                go_upto_region 11 with fail
                rw [← HW1.out]
                obtain ⟨x0, x1, x2, x3, x4⟩ := HBX.out
                obtain ⟨y0, y1⟩ := HCK.out
                go_quiet (fail)
                go_wp2_with fail
                go_roundg GM
                case measure => exact HGM.out.1
                case rel => exact ⟨m + 1, HGM.out.2, by go_num, below_drewN HB1.out _, HNE.out⟩
            · have he : ((strOfNums x.key).toList == (strOfNums o.key).toList) = false := by rw [heq]; simpa using q1
              have HNE : Hid (∀ e ∈ l.take (m + 1), ¬ (e.key = o.key ∧ e.seq = o.seq)) := fun e he => by
                rw [List.take_add_one, HXM.out] at he
                rcases List.mem_append.1 he with a | a
                · exact HMM.out e a
                · rw [List.mem_singleton.1 a]; exact fun z => q1 z.1
              generalize strOfNums x.key = S1 at g1 he
              generalize strOfNums o.key = S2 at g2 he
              clear heq q1
              go_upto_region 11 with fail
              rw [← HW1.out]
              obtain ⟨x0, x1, x2, x3, x4⟩ := HBX.out
              obtain ⟨y0, y1⟩ := HCK.out
              go_quiet (fail)
              go_wp2_with fail
              go_roundg GM
              case measure => exact HGM.out.1
              case rel => exact ⟨m + 1, HGM.out.2, by go_num, below_drewN HB1.out _, HNE.out⟩
          · have hmk' : (k : Int) ≤ (m : Int) := by omega
            obtain rfl : m = k := by omega
            have HF : Hid (Below w2.heap.size w2 wr ∧ LU (l.take (m + 1))) := ⟨HBW.out.2.trans ((HB3.out.trans (HM.out.1.mono HB3.out.size)).mono HBW.out.2.size), HLU.out.more HXK.out HLT.out HM.out.2⟩
            clear hm hmk HM
            go_wp2_with fail
            go_roundg GK
            case measure => exact HG.out.1
            case rel => exact ⟨m + 1, HG.out.2, by go_num, HF.out⟩
      · have hlt' : decide (o.key.length ≤ 3000 ∧ o.val.length ≤ 3000) = false := by rw [decide_eq_false_iff_not]; exact hlt
        rw [hlt']
        clear hlt hlt'
        go_wp2_with fail
        have c2 := HBW.out.1.trans (b3.mono HBW.out.1.size)
        refine (awake9_any D w3 (HGD.out _ c2)).mono ?_
        rintro e w4 ⟨rfl, b4⟩
        have c3 := c2.trans (b4.mono c2.size)
        go_wp2_with fail
        exact bodyPost_ret (v := .bool true) (by simp [results, Tryd.results7, go_sem]) rfl ⟨rfl, c3⟩
    · have hkl' : (N : Int) ≤ (k : Int) := by omega
      obtain rfl : k = N := by omega
      have HLU : Hid (LU (l.take k)) := HK.out.2
      have H1 : Hid (TwoS D w p q 0 0 wr [] []) := H0.out.later HK.out.1
      clear hk hkl HK H0
      go_wp2_with fail
      go_loopg [9, 63] k (fun g _ i wr => ∃ j : Nat, j + g = k ∧ i = .int .i64 (j : Int) ∧ Hid (TwoS D w p q j j wr (addAll (l.take j) []) (addAll ((l.take k).reverse.take j) [])))
      case atStart => exact ⟨0, by omega, rfl, by rw [List.take_zero, List.take_zero]; exact H1.out⟩
      case round =>
        obtain ⟨j, hj, rfl, HJ⟩ := hrel
        by_cases hjk : j < k
        · have hjk' : (j : Int) < (k : Int) := by omega
          have hjx : j < l.length := by have := HN.out; omega
          obtain ⟨I, hI⟩ : ∃ I, I = k - 1 - j := ⟨_, rfl⟩
          have hix : I < l.length := by have := HN.out; omega
          have hjl : (j : Int) < (len : Int) := by omega
          have bel : Below w.heap.size w wr := HJ.out.bel
          obtain ⟨b, off, ka, kc, va, vc, rfl, e0, e1, e2, e3, e4, sk, sv, i1, i2⟩ := RS.ent HS.out.1 (List.getElem?_eq_getElem hjx)
          obtain ⟨b', off', xa, xc, ya, yc, eb, t0, t1, t2, t3, t4, xk, xv, j1, j2⟩ := RS.ent HS.out.1 (List.getElem?_eq_getElem hix)
          simp only [Option.some.injEq, Addr.mk.injEq, and_true] at eb
          obtain ⟨rfl, rfl⟩ := eb
          have HXJ := hid (List.getElem?_eq_getElem hjx)
          have HXI := hid (rev_at HN.out.2.2 hjk (by rw [← hI]; exact List.getElem?_eq_getElem hix))
          have ho := HLU.out.1 l[j] (List.mem_iff_getElem?.2 ⟨j, by rw [List.getElem?_take_of_lt hjk]; exact HXJ.out⟩)
          have hx := HLU.out.1 l[I] (List.mem_reverse.1 (List.mem_iff_getElem?.2 ⟨j, HXI.out⟩))
          have d0 := cell_later bel e0
          have d1 := cell_later bel e1
          have d2 := cell_later bel e2
          have d3 := cell_later bel e3
          have d4 := cell_later bel e4
          generalize l[j] = o at e0 e1 e2 e3 e4 d0 d1 d2 d3 d4 sk sv i1 i2 HXJ ho
          have HCI : Hid (∀ wx, Below w.heap.size w wx → wx.cell? ⟨b, off + I * 5, none⟩ = some (.slice xa l[I].key.length xc) ∧ wx.cell? ⟨b, off + I * 5 + 1, none⟩ = some (.int .i64 l[I].seq) ∧ wx.cell? ⟨b, off + I * 5 + 2, none⟩ = some (.bool l[I].gone) ∧ wx.cell? ⟨b, off + I * 5 + 3, none⟩ = some (.int .i64 l[I].till) ∧ wx.cell? ⟨b, off + I * 5 + 4, none⟩ = some (.slice ya l[I].val.length yc)) := fun wx hb => ⟨cell_later hb t0, cell_later hb t1, cell_later hb t2, cell_later hb t3, cell_later hb t4⟩
          have HEX : Hid (EntM w (entL xa xc ya yc l[I]) l[I]) := ⟨xa, xc, ya, yc, rfl, xk, xv, j1, j2⟩
          generalize l[I] = x at HCI HEX HXI hx
          rw [hI] at HCI
          have HEO : Hid (EntM w (entL ka kc va vc o) o) := ⟨ka, kc, va, vc, rfl, sk, sv, i1, i2⟩
          have hI62 : I ≤ 2 ^ 61 := by omega
          have hIl : (I : Int) < (len : Int) := by omega
          have hb1 : (j : Int) ≤ (k : Int) - 1 := by omega
          have hb2 : (k : Int) - 1 - (j : Int) < (len : Int) := by omega
          have HX : Hid (x.key.length ≤ 3000 ∧ x.val.length ≤ 3000) := hx
          have hj62 : j ≤ 2 ^ 61 := by omega
          have hadd := HJ.out.add (by have := HN.out; omega) HEO.out ho.1 ho.2
          unfold entA at hadd
          have HJ60 : Hid (j ≤ 60) := by show _ ≤ _; have := HN.out; omega
          obtain ⟨GJ, HGJ⟩ : ∃ g, Hid (g < gk ∧ j + 1 + g = k) := ⟨gk - 1, by omega, by omega⟩
          clear e0 e1 e2 e3 e4 t0 t1 t2 t3 t4 sk sv i1 i2 xk xv j1 j2 bel hj ho hx hI HJ
          go_wp2_with fail
          refine hadd.mono ?_
          rintro e w3 ⟨rfl, T3⟩
          clear hadd d0 d1 d2 d3 d4
          obtain ⟨d0, d1, d2, d3, d4⟩ := HCI.out _ T3.bel
          have hadd2 := T3.swap.add (by have := HJ60.out; omega) HEX.out HX.out.1 HX.out.2
          unfold entA at hadd2
          clear T3
          go_wp2_with fail
          refine hadd2.mono ?_
          rintro e w4 ⟨rfl, T4⟩
          have HT4 := hid T4.swap
          clear hadd2 d0 d1 d2 d3 d4 T4
          go_wp2_with fail
          go_roundg GJ
          case measure => exact HGJ.out.1
          case rel => exact ⟨j + 1, HGJ.out.2, by go_num, by rw [addAll_take HXJ.out, addAll_take HXI.out]; exact HT4.out⟩
        · have hjk' : (k : Int) ≤ (j : Int) := by omega
          obtain rfl : j = k := by omega
          obtain ⟨L, hL⟩ : ∃ L, L = addAll (l.take j) [] := ⟨_, rfl⟩
          have HT : Hid (TwoS D w p q 60 60 wr L L) := by
            have h1 := HJ.out
            have e : (l.take j).reverse.take j = (l.take j).reverse := List.take_of_length_le (by rw [List.length_reverse, List.length_take]; omega)
            rw [e, addAll_turned HLU.out.2, ← hL] at h1
            obtain ⟨F, G, a1, a2, ⟨a3, a3', a3''⟩, ⟨a4, a4', a4''⟩, a5⟩ := h1
            have := HN.out
            exact ⟨F, G, a1, a2, ⟨a3, a3', by omega⟩, ⟨a4, a4', by omega⟩, a5⟩
          clear hj hjk HJ hL H1
          obtain ⟨F, G, ra, rb, ⟨o1, ok1, n1⟩, _, _, _, _, _, bel⟩ := HT.out
          have hal := LL.all ra o1 ok1 (by omega)
          have HR : Hid (D.R wr p L F ∧ D.R wr q L G ∧ ordE L ∧ okE L ∧ L.length ≤ 60 ∧ Below w.heap.size w wr) := ⟨ra, rb, o1, ok1, n1, bel⟩
          clear ra rb o1 ok1 n1 bel HT
          go_wp2_with fail
          refine hal.mono ?_
          rintro e w3 ⟨v3, rfl, row3, b3⟩
          obtain ⟨a3, q3, hv3, rs3⟩ := row3.s.rs
          subst hv3
          have HRS3 := hid rs3
          have HB3 := hid b3
          obtain ⟨n, hn⟩ : ∃ n, n = L.length := ⟨_, rfl⟩
          rw [← hn] at HRS3 ⊢
          have HNL : Hid (n = L.length ∧ n ≤ 60) := ⟨hn, by have := HR.out.2.2.2.2.1; omega⟩
          have hn62 : n ≤ 2 ^ 61 := by have := HNL.out; omega
          clear hal row3 rs3 b3 hn
          go_wp2_with fail
          refine (LL.all (PM.later HR.out.2.1 HB3.out) HR.out.2.2.1 HR.out.2.2.2.1 (by have := HR.out.2.2.2.2.1; omega)).mono ?_
          rintro e w4 ⟨v4, rfl, row4, b4⟩
          obtain ⟨a4, q4, hv4, rs4⟩ := row4.s.rs
          subst hv4
          rw [← HNL.out.1] at rs4 ⊢
          have hsm := rsameE_eq (HRS3.out.later b4) rs4
          have HB4 : Hid (Below wr.heap.size wr w4) := HB3.out.trans (b4.mono HB3.out.size)
          have HB34 := hid b4
          clear row4 rs4 b4
          go_wp2_with fail
          refine hsm.mono ?_
          rintro e w5 ⟨rfl, b5⟩
          have HB5 : Hid (Below wr.heap.size wr w5) := HB4.out.trans (b5.mono HB4.out.size)
          have HB35 : Hid (Below w3.heap.size w3 w5) := HB34.out.trans (b5.mono HB34.out.size)
          clear hsm b5 HB4 HB34
          go_wp2_with fail
          refine (D.weight (PM.later HR.out.1 HB5.out) HR.out.2.2.1 HR.out.2.2.2.1 (by have := HR.out.2.2.2.2.1; omega)).mono ?_
          rintro e w6 ⟨rfl, b6⟩
          have HB6 : Hid (Below wr.heap.size wr w6) := HB5.out.trans (b6.mono HB5.out.size)
          have HB36 : Hid (Below w3.heap.size w3 w6) := HB35.out.trans (b6.mono HB35.out.size)
          clear b6 HB5 HB35
          go_wp2_with fail
          refine (D.weight (PM.later HR.out.2.1 HB6.out) HR.out.2.2.1 HR.out.2.2.2.1 (by have := HR.out.2.2.2.2.1; omega)).mono ?_
          rintro e w7 ⟨rfl, b7⟩
          have HB7 : Hid (Below wr.heap.size wr w7) := HB6.out.trans (b7.mono HB6.out.size)
          have HB37 : Hid (Below w3.heap.size w3 w7) := HB36.out.trans (b7.mono HB36.out.size)
          have hwe : (((wts L : Nat) : Int) != ((wts L : Nat) : Int)) = false := by simp
          clear b7 HB6 HB36
          go_wp2_with fail
          refine (rordE_any (HRS3.out.later HB37.out) (by have := HNL.out; omega) HR.out.2.2.1).mono ?_
          rintro e w8 ⟨rfl, b8⟩
          have HB8 : Hid (Below wr.heap.size wr w8) := HB7.out.trans (b8.mono HB7.out.size)
          have HB38 : Hid (Below w3.heap.size w3 w8) := HB37.out.trans (b8.mono HB37.out.size)
          obtain ⟨WR, hWR⟩ : ∃ W, W = wr := ⟨_, rfl⟩
          rw [← hWR] at HR HB8
          clear b8 HB7 HB37 hwe hWR HB3
          go_wp2_with fail
          go_loopg [12, 13, 14, 103] n (fun g _ _ _ i wr => ∃ j : Nat, j + g = n ∧ i = .int .i64 (j : Int) ∧ Hid (Below WR.heap.size WR wr ∧ Below w3.heap.size w3 wr))
          case atStart => exact ⟨0, by omega, rfl, HB8.out, HB38.out⟩
          case round =>
            obtain ⟨m, hm, rfl, HM⟩ := hrel
            by_cases hmn : m < n
            · have hmn' : (m : Int) < (n : Int) := by omega
              have hmx : m < L.length := by have := HNL.out; omega
              obtain ⟨b, off, ka, kc, va, vc, rfl, e0, e1, e2, e3, e4, sk, sv, i1, i2⟩ := RS.ent HRS3.out (List.getElem?_eq_getElem hmx)
              have bw := HM.out.2
              have d0 := cell_later bw e0
              have d1 := cell_later bw e1
              have d2 := cell_later bw e2
              have d3 := cell_later bw e3
              have d4 := cell_later bw e4
              have hgo := get_own HR.out.2.2.1 (List.getElem_mem hmx)
              generalize L[m] = o at e0 e1 e2 e3 e4 d0 d1 d2 d3 d4 sk sv i1 i2 hgo
              obtain ⟨W1, hW1⟩ : ∃ W1, W1 = wr.alloc (.cells #[.slice ka o.key.length kc, .int .i64 o.seq, .bool o.gone, .int .i64 o.till, .slice va o.val.length vc] 28) := ⟨_, rfl⟩
              have b1 : Below wr.heap.size wr W1 := by rw [hW1]; exact (Below.refl _ _).alloc (Nat.le_refl _) _
              have HBX := hid (fun wx (hb : Below W1.heap.size W1 wx) => box_cells wr (.slice ka o.key.length kc) (.int .i64 o.seq) (.bool o.gone) (.int .i64 o.till) (.slice va o.val.length vc) 28 (wx := wx) (by rw [← hW1]; exact hb))
              have HBR : Hid (Below WR.heap.size WR W1) := HM.out.1.trans (b1.mono HM.out.1.size)
              have hgt := D.get (PM.later HR.out.1 HBR.out) HR.out.2.2.1 HR.out.2.2.2.1 (by have := HR.out.2.2.2.2.1; omega) ((sk.later bw).later b1) i1
              rw [hgo] at hgt
              have HSK := hid ((sk.later bw).later b1)
              have HSV := hid ((sv.later bw).later b1)
              have HB3W : Hid (Below w3.heap.size w3 W1) := bw.trans (b1.mono bw.size)
              have hm62 : m ≤ 2 ^ 61 := by omega
              obtain ⟨GM, HGM⟩ : ∃ g, Hid (g < gk ∧ m + 1 + g = n) := ⟨gk - 1, by omega, by omega⟩
              have HW1 := hid hW1
              clear e0 e1 e2 e3 e4 sk sv i1 i2 bw b1 hgo hm HM hW1
              go_upto_region 27 with fail
              rw [← HW1.out]
              obtain ⟨x0, x1, x2, x3, x4⟩ := HBX.out _ (Below.refl _ _)
              go_wp2_with fail
              refine hgt.mono ?_
              rintro e w4 ⟨hgot, b4⟩
              rcases hgot with ⟨hq, _⟩ | ⟨x, ka', kc', va', vc', hq, rfl, hem, hnew⟩
              · cases hq
              · simp only [Option.some.injEq] at hq
                subst hq
                obtain ⟨_, _, _, _, ev, t1, t2, _, _⟩ := hem
                unfold entL at ev
                simp only [List.cons.injEq, Value.slice.injEq, and_true, true_and] at ev
                obtain ⟨⟨rfl, rfl⟩, ⟨rfl, rfl⟩⟩ := ev
                obtain ⟨W3, hW3⟩ : ∃ W, W = w4.alloc (.cells #[.slice ka' o.key.length kc', .int .i64 o.seq, .bool o.gone, .int .i64 o.till, .slice va' o.val.length vc'] 28) := ⟨_, rfl⟩
                have b5 : Below w4.heap.size w4 W3 := by rw [hW3]; exact (Below.refl _ _).alloc (Nat.le_refl _) _
                have b45 : Below W1.heap.size W1 W3 := b4.trans (b5.mono b4.size)
                have HBX2 := hid (box_cells w4 (.slice ka' o.key.length kc') (.int .i64 o.seq) (.bool o.gone) (.int .i64 o.till) (.slice va' o.val.length vc') 28 (wx := W3) (by rw [← hW3]; exact Below.refl _ _))
                have HBX1 := hid (HBX.out _ b45)
                have hsm := rsameE1_eq (seq := o.seq) (till := o.till) (gone := o.gone) (t1.later b5) (t2.later b5) (HSK.out.later b45) (HSV.out.later b45)
                have HF : Hid (Below WR.heap.size WR W3 ∧ Below w3.heap.size w3 W3) := ⟨HBR.out.trans (b45.mono HBR.out.size), HB3W.out.trans (b45.mono HB3W.out.size)⟩
                have HW3 := hid hW3
                clear b4 b5 b45 hgt hnew t1 t2 hW3 x0 x1 x2 x3 x4 d0 d1 d2 d3 d4
                unfold entA
                go_upto_region 28 with fail
                rw [← HW3.out]
                obtain ⟨x0, x1, x2, x3, x4⟩ := HBX1.out
                obtain ⟨y0, y1, y2, y3, y4⟩ := HBX2.out
                go_wp2_with fail
                refine hsm.mono ?_
                rintro e w5 ⟨rfl, b6⟩
                have HF2 : Hid (Below WR.heap.size WR w5 ∧ Below w3.heap.size w3 w5) := ⟨HF.out.1.trans (b6.mono HF.out.1.size), HF.out.2.trans (b6.mono HF.out.2.size)⟩
                clear hsm b6 x0 x1 x2 x3 x4 y0 y1 y2 y3 y4
                go_wp2_with fail
                go_roundg GM
                case measure => exact HGM.out.1
                case rel => exact ⟨m + 1, HGM.out.2, by go_num, HF2.out⟩
            · have hmn' : (n : Int) ≤ (m : Int) := by omega
              have HF : Hid (Below w.heap.size w wr) := HR.out.2.2.2.2.2.trans (HM.out.1.mono HR.out.2.2.2.2.2.size)
              clear hm hmn HM
              go_wp2_with fail
              refine (awake9_any D wr (HGD.out _ HF.out)).mono ?_
              rintro e w4 ⟨rfl, b4⟩
              have c4 := HF.out.trans (b4.mono HF.out.size)
              go_wp2_with fail
              exact bodyPost_ret (v := .bool true) (by simp [results, Tryd.results7, go_sem]) rfl ⟨rfl, c4⟩
end Go.Proofs.YtaefddnmldbgiaaDoor
