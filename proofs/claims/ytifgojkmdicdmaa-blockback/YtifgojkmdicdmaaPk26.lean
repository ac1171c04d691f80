import Derived.Lib.AppendZerosOnto
import Derived.Test.YtifgojkmdicdmaaPk21
import Derived.Test.YtifgojkmdicdmaaPk25
/- What slices.Grow of nothing and slices.Concat of rows of bytes make. -/
namespace Go.Proofs.Ytifgojkmdicdmaa
open Go.RowKit
set_option linter.unusedVariables false
set_option linter.unusedSimpArgs false

set_option maxHeartbeats 1000000 in
set_option maxRecDepth 100000 in
theorem grow_nil {w : World} {n : Nat} (hn : n ≤ 175921860444160) :
    Calls Try.prog 48 #[.slice none 0 0, .int .i64 (n : Int)] w fun e w' => ∃ v, e = .returned v ∧ Row w.heap.size w' v [] ∧ Below w.heap.size w w' := by
  obtain ⟨i0, hi, hz, hsize, hbytes⟩ := info_parts Try.info5
  by_cases h0 : n = 0
  · subst h0
    go_enter Try.func48, Try.ntmps48
    go_wp2_with fail
    exact bodyPost_ret (v := .slice none 0 0) (by simp [results, Try.results48, go_sem]) rfl ⟨_, rfl, Row.nil _ _, Below.refl _ _⟩
  · have hrz : ∀ ty, (Builtin.append_ #[25, 3] ty #[.slice none 0 0, .int .i64 (n : Int)]).run Try.prog w =
        .ok (.slice (some ⟨w.heap.size, 0, none⟩) n (grownCap w n 0 5)) (w.drew.alloc (.cells (Builtin.zeroCells (Value.int .u8 0).cells n ++ Builtin.zeroCells (Value.int .u8 0).cells (grownCap w n 0 5 - n)) 5)) := fun ty => by
      have h := Lib.run_append_grow_zeros (P := Try.prog) w 25 3 ty 5 i0 (.int .u8 0) .i64 .i64 Try.underlying25 Try.underlying3 hi hz none 0 0 [] (run_firstCells_none (P := Try.prog) (w := w.drew) i0.size 0 0 0) n (by omega) (by rw [hsize]; decide) (by omega) (by omega) (by rw [hbytes]; omega) (by rw [Nat.zero_add, nextslicecap_zero (by omega), hbytes]; omega)
      simpa using h
    have hge := grownCap_ge w n 0 5
    have hmx := grownCap_le_maxLen w n 0 5 (by unfold maxLen; omega)
    have c0 : (0 : Int) < (n : Int) := by omega
    have hc62 : n ≤ 2 ^ 62 := by omega
    obtain ⟨G, hG⟩ : ∃ G, G = grownCap w n 0 5 := ⟨_, rfl⟩
    rw [← hG] at hrz hge hmx
    have hG62 : G ≤ 2 ^ 63 - 1 := by unfold maxLen at hmx; omega
    have HM : Hid (G ≤ maxLen ∧ n ≤ G) := ⟨hmx, hge⟩
    have hcs : (Builtin.zeroCells (Value.int .u8 0).cells n ++ Builtin.zeroCells (Value.int .u8 0).cells (G - n)).size = G * 1 := by
      rw [Array.size_append, size_zeroCells, size_zeroCells]
      show n * 1 + (G - n) * 1 = G * 1
      omega
    generalize (Builtin.zeroCells (Value.int .u8 0).cells n ++ Builtin.zeroCells (Value.int .u8 0).cells (G - n)) = CS at hrz hcs
    have HW : Hid (CS.size = G * 1) := hcs
    clear hG hmx hcs h0 hge
    go_enter Try.func48, Try.ntmps48
    go_wp2_with (at_builtin; refine Lib.wpList_append_run _ rfl _ _ _ _ rfl _ _ rfl rfl _ _ (hrz _) ?_)
    refine bodyPost_ret (v := .slice (some ⟨w.heap.size, 0, none⟩) 0 G) (by simp [results, Try.results48, go_sem]) rfl ⟨_, rfl, ?_, ?_⟩
    · exact World.ownsRow_made w.drew CS G (Nat.le_refl _) HM.out.1 HW.out
    · exact Below.alloc (below_drewN (Below.refl _ _) 1) (Nat.le_refl _) _

/-- How many bytes rows have together. -/
def tot (rs : List (List Int)) : Nat := rs.flatten.length
theorem flat_take (rs : List (List Int)) {k : Nat} (h : k < rs.length) : (rs.take (k + 1)).flatten = (rs.take k).flatten ++ rs[k] := by
  rw [List.take_add_one, List.getElem?_eq_getElem h, List.flatten_append]
  simp only [Option.toList, List.flatten_cons, List.flatten_nil, List.append_nil]
theorem tot_take (rs : List (List Int)) {k : Nat} (h : k < rs.length) : tot (rs.take (k + 1)) = tot (rs.take k) + rs[k].length := by
  unfold tot
  rw [flat_take rs h, List.length_append]
theorem tot_le (rs : List (List Int)) (k : Nat) : tot (rs.take k) ≤ tot rs := by
  unfold tot
  have := congrArg (fun l => (List.flatten l).length) (List.take_append_drop k rs)
  simp only [List.flatten_append, List.length_append] at this
  omega

set_option maxHeartbeats 2000000 in
set_option maxRecDepth 100000 in
theorem concat_any {w : World} {ao : Option Addr} {len cap : Nat} {rs : List (List Int)} (h : RB w ao len cap rs) (hl : tot rs ≤ 175921860444160) :
    Calls Try.prog 25 #[.slice ao len cap] w fun e w' => ∃ v, e = .returned v ∧ Row w.heap.size w' v rs.flatten ∧ Below w.heap.size w w' := by
  have HS : Hid (RB w ao len cap rs ∧ tot rs ≤ 175921860444160) := ⟨h, hl⟩
  have hlen63 : len ≤ 2 ^ 63 - 1 := by have := h.2.2; unfold maxLen at this; omega
  have hln := h.1
  have hgr := fun (w1 : World) => grow_nil (w := w1) hl
  have e0 : tot (rs.take 0) = 0 := rfl
  have eN : tot (rs.take len) = tot rs := by rw [← hln, List.take_length]
  have H0 : Hid (tot (rs.take 0) = 0) := e0
  clear h hl
  go_enter Try.func25, Try.ntmps25
  go_wp2_with fail
  go_loopg [3, 5, 11] len (fun g sz _ i wr => ∃ k : Nat, k + g = len ∧ i = .int .i64 (k : Int) ∧ sz = .int .i64 (tot (rs.take k) : Int) ∧ wr = w)
  case atStart => exact ⟨0, by omega, rfl, by rw [e0]; rfl, rfl⟩
  case round =>
    obtain ⟨k, hk, rfl, rfl, hw⟩ := hrel
    have hw := hw.symm
    subst hw
    by_cases hkl : k < len
    · have hkl' : (k : Int) < (len : Int) := by omega
      have hkr : k < rs.length := by omega
      obtain ⟨b1, o1, a1, c1, rfl, hc1, hs1⟩ := HS.out.1.2.2.2.2 k rs[k] (List.getElem?_eq_getElem hkr)
      have ht := tot_take rs hkr
      have hle := tot_le rs (k + 1)
      have hb := HS.out.2
      obtain ⟨m, hm⟩ : ∃ m, m = rs[k].length := ⟨_, rfl⟩
      rw [← hm] at hc1 ht
      obtain ⟨t0, ht0⟩ : ∃ t, t = tot (rs.take k) := ⟨_, rfl⟩
      rw [← ht0] at ht ⊢
      obtain ⟨T, hT⟩ : ∃ T, T = t0 + m := ⟨_, rfl⟩
      have hT47 : T ≤ 175921860444160 := by omega
      have hz : ¬ ((T : Int) < 0) := by omega
      have hk62 : k ≤ 2 ^ 63 - 2 := by omega
      obtain ⟨GK, HG⟩ : ∃ g, Hid (g < gk ∧ k + 1 + g = len) := ⟨gk - 1, by omega, by omega⟩
      have HT : Hid (tot (rs.take (k + 1)) = T) := by show _ = _; omega
      have hw1 : wrap64 ((t0 : Int) + (m : Int)) = (T : Int) := by unfold wrap64; omega
      clear hk hs1 hm ht hle hb ht0 eN e0 hT hT47
      go_wp2_with fail
      go_roundg GK
      case measure => exact HG.out.1
      case rel => exact ⟨k + 1, HG.out.2, by go_num, by rw [HT.out], rfl⟩
    · have hkl' : (len : Int) ≤ (k : Int) := by omega
      obtain rfl : k = len := by omega
      rw [eN]
      have hF : decide ((k : Int) < (k : Int)) = false := by simp
      have H1 : Hid (∀ v1 w1, Row w.heap.size w1 v1 [] → Row w.heap.size w1 v1 (rs.take 0).flatten) := fun _ _ h => h
      clear hk hkl hgr H0 e0 eN
      have hgr := grow_nil (w := w) HS.out.2
      go_wp2_with (go_at_call 48; refine hgr.mono ?_; rintro e w1 ⟨v1, rfl, hr1, hb1⟩)
      have H2 := H1.out _ _ hr1
      go_loopg [6, 8, 27] k (fun g v _ i w2 => ∃ j : Nat, j + g = k ∧ i = .int .i64 (j : Int) ∧ Hid (Row w.heap.size w2 v (rs.take j).flatten ∧ Below w.heap.size w w2))
      case atStart => exact ⟨0, by omega, rfl, H2, hb1⟩
      case round =>
        obtain ⟨j, hj, rfl, HJ⟩ := hrel
        by_cases hjl : j < k
        · have hjl' : (j : Int) < (k : Int) := by omega
          have hjr : j < rs.length := by omega
          obtain ⟨b1, o1, a1, c1, rfl, hc1, hs1⟩ := (HS.out.1.later HJ.out.2).2.2.2.2 j rs[j] (List.getElem?_eq_getElem hjr)
          have hft := flat_take rs hjr
          have hle := tot_le rs (j + 1)
          have hb := HS.out.2
          have ht := tot_take rs hjr
          obtain ⟨r, hr⟩ : ∃ r, r = rs[j] := ⟨_, rfl⟩
          rw [← hr] at hc1 hs1 hft ht
          obtain ⟨xs, hxs⟩ : ∃ xs, xs = (rs.take j).flatten := ⟨_, rfl⟩
          have hxl : xs.length = tot (rs.take j) := by rw [hxs]; rfl
          rw [← hxs] at hft
          have HA : Hid (Row w.heap.size wr u6 xs ∧ Below w.heap.size w wr ∧ Sl wr a1 r.length c1 r ∧ xs.length + r.length ≤ 175921860444160) := ⟨by rw [hxs]; exact HJ.out.1, HJ.out.2, hs1, by omega⟩
          have hk62 : j ≤ 2 ^ 63 - 2 := by omega
          obtain ⟨GK, HG⟩ : ∃ g, Hid (g < gk ∧ j + 1 + g = k) := ⟨gk - 1, by omega, by omega⟩
          have HT : Hid ((rs.take (j + 1)).flatten = xs ++ r) := hft
          obtain ⟨m, hm⟩ : ∃ m, Hid (m = r.length) := ⟨_, rfl⟩
          rw [← hm.out] at hc1
          clear hj hs1 hft hle hb ht hr hxs hxl HJ
          go_wp2_with (at_builtin; refine wpList_appW rfl (.tmp 31) (.tmp 32) rfl w.heap.size u6 xs rfl HA.out.1 a1 m c1 (xof r) rfl (by rw [hm.out]; exact HA.out.2.2.1.2.2.1) (by rw [hm.out]; exact HA.out.2.2.1.2.2.2.2.2) (by rw [hm.out]; exact HA.out.2.2.2) HA.out.2.1.size ?_; intro v3 w3 hr3 hg3 hm3)
          go_roundg GK
          case measure => exact HG.out.1
          case rel =>
            refine ⟨j + 1, HG.out.2, by go_num, ?_, HA.out.2.1.trans (grown_below HA.out.1 hg3 HA.out.2.1.size)⟩
            rw [HT.out]
            rw [hm.out, bs_xof HA.out.2.2.1.2.1] at hr3
            exact hr3
        · have hjl' : (k : Int) ≤ (j : Int) := by omega
          obtain rfl : j = k := by omega
          have e : (rs.take j).flatten = rs.flatten := by rw [← hln, List.take_length]
          have HX : Hid (Row w.heap.size wr u6 rs.flatten ∧ Below w.heap.size w wr) := by rw [← e]; exact HJ.out
          clear e hj hjl HJ
          go_wp2_with fail
          exact bodyPost_ret (v := u6) (by simp [results, Try.results25, go_sem]) rfl ⟨u6, rfl, HX.out.1, HX.out.2⟩
end Go.Proofs.Ytifgojkmdicdmaa

/- The landed block: Encode. -/
namespace Go.Proofs.Ytifgojkmdicdmaa
open Go.RowKit
set_option linter.unusedVariables false
set_option linter.unusedSimpArgs false

/-- Three rows of bytes in a new row. -/
theorem rb3_k {w : World} {a1 a2 a3 : Option Addr} {m1 m2 m3 c1 c2 c3 : Nat} {x1 x2 x3 : List Int} (h1 : Sl w a1 m1 c1 x1) (h2 : Sl w a2 m2 c2 x2) (h3 : Sl w a3 m3 c3 x3) :
    RB (w.alloc (.cells #[.slice a1 m1 c1, .slice a2 m2 c2, .slice a3 m3 c3] 25)) (some ⟨w.heap.size, 0, none⟩) 3 3 [x1, x2, x3] := by
  have hb : Below w.heap.size w (w.alloc (.cells #[.slice a1 m1 c1, .slice a2 m2 c2, .slice a3 m3 c3] 25)) := (Below.refl _ w).alloc (Nat.le_refl _) _
  refine ⟨rfl, (fun q => by cases q), Nat.le_refl _, by unfold maxLen; omega, fun i r hr => ?_⟩
  have hc : ∀ j, (w.alloc (.cells #[.slice a1 m1 c1, .slice a2 m2 c2, .slice a3 m3 c3] 25)).cell? ⟨w.heap.size, 0 + j, none⟩ = #[Value.slice a1 m1 c1, .slice a2 m2 c2, .slice a3 m3 c3][j]? := fun j => by
    rw [Nat.zero_add]
    exact cell_of_row _ _ _ _ _ _ (heap_alloc_new w _)
  match i, hr with
  | 0, hr => obtain rfl : x1 = r := by simpa using hr
             exact ⟨_, _, a1, c1, rfl, by rw [hc, h1.1]; rfl, by rw [h1.1]; exact h1.later hb⟩
  | 1, hr => obtain rfl : x2 = r := by simpa using hr
             exact ⟨_, _, a2, c2, rfl, by rw [hc, h2.1]; rfl, by rw [h2.1]; exact h2.later hb⟩
  | 2, hr => obtain rfl : x3 = r := by simpa using hr
             exact ⟨_, _, a3, c3, rfl, by rw [hc, h3.1]; rfl, by rw [h3.1]; exact h3.later hb⟩
  | n + 3, hr => simp at hr
theorem Two.grw {W : World} {ob : Nat} {C : Array Value} {t : TypeId} {wx wy : World} {v v' u : Value} {ys xs zs : List Int} (h : Two W ob C t wx v u ys zs) (hg : Grw wx v wy v') (hp : Pair W wy v' u xs zs) : Two W ob C t wy v' u xs zs := h.step hg.1 hg.2 hp.1

set_option maxHeartbeats 1000000 in
set_option maxRecDepth 100000 in
theorem enc_many {w : World} {ao : Option Addr} {len cap : Nat} (h : len = 0 ∨ 400 < len) (hl : len ≤ 2 ^ 61) :
    Calls Try.prog 10 #[.slice ao len cap] w fun e w' => e = .returned (.tuple #[.slice none 0 0, .int .i64 13]) ∧ Below w.heap.size w w' := by
  rcases h with h | h
  · subst h
    go_enter Try.func10, Try.ntmps10
    go_wp2_with fail
    exact bodyPost_ret (v := .tuple #[.slice none 0 0, .int .i64 13]) (by simp [results, Try.results10, go_sem]) rfl ⟨rfl, Below.refl _ _⟩
  · have h0 : ¬ ((len : Int) < 1) := by omega
    have h1 : (400 : Int) < (len : Int) := by omega
    go_enter Try.func10, Try.ntmps10
    go_wp2_with fail
    exact bodyPost_ret (v := .tuple #[.slice none 0 0, .int .i64 13]) (by simp [results, Try.results10, go_sem]) rfl ⟨rfl, Below.refl _ _⟩
set_option maxHeartbeats 1000000 in
set_option maxRecDepth 100000 in
theorem enc_bad {w : World} {ao : Option Addr} {len cap : Nat} {l : List EntV} (h : RS entE w ao len cap l) (h1 : 1 ≤ len) (h4 : len ≤ 400) (hm : l.all mayE = false ∨ ordB l = false) {c : Int} (hc : c = if l.all mayE = false then 1 else 11) :
    Calls Try.prog 10 #[.slice ao len cap] w fun e w' => e = .returned (.tuple #[.slice none 0 0, .int .i64 c]) ∧ Below w.heap.size w w' := by
  have hl0 : ¬ ((len : Int) < 1) := by omega
  have hl4 : ¬ ((400 : Int) < (len : Int)) := by omega
  have hl62 : len ≤ 2 ^ 61 := by omega
  have hcn := cnf_k h (by omega)
  have HO : Hid (∀ wx, Below w.heap.size w wx → Calls Try.prog 12 #[.slice ao len cap] wx fun r w' => r = .returned (.bool (ordB l)) ∧ Below wx.heap.size wx w') := fun wx hb => ord_k (h.later hb) (by omega)
  cases ha : l.all mayE with
  | false =>
    rw [ha] at hcn hc
    rw [hc]
    clear HO hm h hc
    go_enter Try.func10, Try.ntmps10
    go_wp2_with (go_at_call 21; refine hcn.mono ?_; rintro e w1 ⟨rfl, b1⟩)
    exact bodyPost_ret (v := .tuple #[.slice none 0 0, .int .i64 1]) (by simp [results, Try.results10, go_sem]) rfl ⟨by simp, b1⟩
  | true =>
    rw [ha] at hcn hc hm
    rw [hc]
    have ho : ordB l = false := hm.resolve_left (by decide)
    rw [ho] at HO
    clear hm h hc ho
    go_enter Try.func10, Try.ntmps10
    go_wp2_with (first | (go_at_call 21; refine hcn.mono ?_; rintro e w1 ⟨rfl, b1⟩) | (go_at_call 12; refine (HO.out _ b1).mono ?_; rintro e w2 ⟨rfl, b2⟩))
    exact bodyPost_ret (v := .tuple #[.slice none 0 0, .int .i64 11]) (by simp [results, Try.results10, go_sem]) rfl ⟨by simp, b1.trans (b2.mono b1.size)⟩

set_option maxHeartbeats 8000000 in
set_option maxRecDepth 100000 in
theorem enc_good {w : World} {ao : Option Addr} {len cap : Nat} {l : List EntV} (h : RS entE w ao len cap l) (h1 : 1 ≤ len) (h4 : len ≤ 400) (hm : l.all mayE = true ∧ ordB l = true) :
    Calls Try.prog 10 #[.slice ao len cap] w fun e w' => ∃ v, e = .returned (.tuple #[v, .int .i64 0]) ∧ Row w.heap.size w' v (blkB l) ∧ Below w.heap.size w w' := by
  have hl0 : ¬ ((len : Int) < 1) := by omega
  have hl4 : ¬ ((400 : Int) < (len : Int)) := by omega
  have hl62 : len ≤ 2 ^ 61 := by omega
  have hln : l.length = len := h.len.1
  have hcn := cnf_k h (by omega)
  have HO : Hid (∀ wx, Below w.heap.size w wx → Calls Try.prog 12 #[.slice ao len cap] wx fun r w' => r = .returned (.bool true) ∧ Below wx.heap.size wx w') := fun wx hb => by have := ord_k (h.later hb) (by omega); rw [hm.2] at this; exact this
  rw [hm.1] at hcn
  have HS : Hid (RS entE w ao len cap l ∧ l.all mayE = true ∧ len ≤ 400) := ⟨h, hm.1, h4⟩
  clear h hm h1 h4
  go_enter Try.func10, Try.ntmps10
  go_upto_region 8 with (first | (go_at_call 21; refine hcn.mono ?_; rintro e w1 ⟨rfl, b1⟩) | (go_at_call 12; refine (HO.out _ b1).mono ?_; rintro e w2 ⟨rfl, b2⟩))
  have H0 : Hid (Pair w w2 (.slice none 0 0) (.slice none 0 0) (enEs 0 [] (l.take 0)) (enTl 0 0 [] (l.take 0)) ∧ Sl w none 0 0 (lastK [] (l.take 0))) := ⟨⟨Row.nil _ _, Row.nil _ _, b1.trans (b2.mono b1.size), fun g e => by cases e⟩, Sl.nil w⟩
  clear hcn HO b1 b2
  go_wp2_with fail
  go_loopg [4, 5, 6, 7, 8, 25] len (fun g v u p _ _ i wr => ∃ (q : Nat) (pa : Option Addr) (pl pc : Nat), q + g = len ∧ i = .int .i64 (q : Int) ∧ p = .slice pa pl pc ∧ Hid (Pair w wr v u (enEs 0 [] (l.take q)) (enTl 0 0 [] (l.take q)) ∧ Sl w pa pl pc (lastK [] (l.take q)) ∧ pl ≤ 512))
  case atStart => exact ⟨0, none, 0, 0, by omega, rfl, rfl, H0.out.1, H0.out.2, by omega⟩
  case round =>
    obtain ⟨q, pa, pl, pc, hq, rfl, rfl, HP⟩ := hrel
    by_cases hql : q < len
    · have hql' : (q : Int) < (len : Int) := by omega
      have hqx : q < l.length := by omega
      have bel := HP.out.1.2.2.1
      obtain ⟨b, off, ka, kc, va, vc, rfl, e0, e1, e2, e3, e4, sk, sv, i1, i2⟩ := RS.ent HS.out.1 (List.getElem?_eq_getElem hqx)
      have d0 := cell_later bel e0
      have d1 := cell_later bel e1
      have d2 := cell_later bel e2
      have d3 := cell_later bel e3
      have d4 := cell_later bel e4
      have hye := enEs_take hqx
      have hze := enTl_take hqx
      have hlk := lastK_take l q [] hqx
      have hma : mayE l[q] = true := List.all_eq_true.1 HS.out.2.1 _ (List.getElem_mem hqx)
      have hyl := enEs_tlen HS.out.2.1 q (by omega)
      have hzl := enTl_tlen (l := l) q (by omega)
      have hyo : Okb (enEs 0 [] (l.take q)) := okb_enEs fun e he => HS.out.1.okE e (List.mem_of_mem_take he)
      have hsh : shK l q = if q % 8 = 0 then 0 else shr l[q].key (lastK [] (l.take q)) := by unfold shK shI; rw [List.getElem?_eq_getElem hqx]; rfl
      generalize shK l q = SK at hye hsh
      generalize l[q] = o at d0 d1 d2 d3 d4 hye hma sk sv hlk hsh
      obtain ⟨prev, hprev⟩ : ∃ x, x = lastK [] (l.take q) := ⟨_, rfl⟩
      have spv := HP.out.2.1
      rw [← hprev] at spv hsh
      obtain ⟨ys, hys⟩ : ∃ ys, ys = enEs 0 [] (l.take q) := ⟨_, rfl⟩
      obtain ⟨zs, hzs⟩ : ∃ zs, zs = enTl 0 0 [] (l.take q) := ⟨_, rfl⟩
      have hpr := HP.out.1
      rw [← hys, ← hzs] at hpr
      rw [← hys] at hye hyl hyo hze
      rw [← hzs] at hze hzl
      obtain ⟨a6, c6, hv6, hs6⟩ := Sl.ofRow hpr.1 hyo
      subst hv6
      have hq4 := HS.out.2.2
      have hmo := mayE_ok hma
      have hpl := HP.out.2.2
      have hq62 : q ≤ 2 ^ 61 := by omega
      obtain ⟨GK, HG⟩ : ∃ g, Hid (g < gk ∧ q + 1 + g = len) := ⟨gk - 1, by omega, by omega⟩
      obtain ⟨W1, hW1⟩ : ∃ W1, W1 = wr.alloc (.cells #[.slice ka o.key.length kc, .int .i64 o.seq, .bool o.gone, .int .i64 o.till, .slice va o.val.length vc] 35) := ⟨_, rfl⟩
      have HW1 := hid hW1
      obtain ⟨PB, hPB⟩ : ∃ PB, PB = wr.heap.size := ⟨_, rfl⟩
      have T1 : Hid (Two w PB #[.slice ka o.key.length kc, .int .i64 o.seq, .bool o.gone, .int .i64 o.till, .slice va o.val.length vc] 35 W1 (.slice a6 ys.length c6) u5 ys zs) := by show Two _ _ _ _ _ _ _ _ _; rw [hW1, hPB]; exact hpr.two
      have HAP : Hid (∀ {wx : World} {u zs'} {pa pl pc prev}, Two w PB #[.slice ka o.key.length kc, .int .i64 o.seq, .bool o.gone, .int .i64 o.till, .slice va o.val.length vc] 35 wx (.slice a6 ys.length c6) u ys zs' → Sl w pa pl pc prev → pl ≤ 512 → Calls Try.prog 24 #[.slice a6 ys.length c6, .slice pa pl pc, .agg #[.slice ka o.key.length kc, .int .i64 o.seq, .bool o.gone, .int .i64 o.till, .slice va o.val.length vc]] wx fun r w' => ∃ v', r = .returned v' ∧ Two w PB #[.slice ka o.key.length kc, .int .i64 o.seq, .bool o.gone, .int .i64 o.till, .slice va o.val.length vc] 35 w' v' u (ys ++ enE (shr prev o.key) o) zs') := fun {wx u zs' pa pl pc prev} hT hp hl => by
        have := app_k (va := va) hT.pair hp hl sk sv hma (by omega)
        unfold entA at this
        exact this.mono fun r w' ⟨v', e, hP', hG⟩ => ⟨v', e, hT.grw hG hP'⟩
      have HNX : Hid (∀ {wx v u}, Pair w wx v u (ys ++ enE SK o) (zs ++ (if q % 8 = 0 then fx ys.length 4 else [])) → Pair w wx v u (enEs 0 [] (l.take (q + 1))) (enTl 0 0 [] (l.take (q + 1))) ∧ Sl w ka o.key.length kc (lastK [] (l.take (q + 1))) ∧ o.key.length ≤ 512) := fun {wx v u} hp => by rw [hye, hze, hlk]; exact ⟨hp, sk, by omega⟩
      have HSP := hid spv
      have HPL := hid hpl
      have HSK := hid hsh
      have HZ : Hid (zs.length + 4 ≤ 140737488355328) := by show _ ≤ _; omega
      have hyl62 : ys.length ≤ 2 ^ 61 := by omega
      have hkl62 : o.key.length ≤ 2 ^ 61 := by omega
      clear hpr hs6 hma hye hze hlk hyl hzl hyo hsh hprev spv hys hzs hq4 hmo hpl sk sv i1 i2 e0 e1 e2 e3 e4 hW1 hq bel HP
      go_upto_region 12 with fail
      rw [← HW1.out, ← hPB]
      clear d0 d1 d2 d3 d4 hPB
      have hq8 : Int.tmod (q : Int) 8 = ((q % 8 : Nat) : Int) := by rw [Int.tmod_eq_emod_of_nonneg (by omega)]; omega
      by_cases h8 : q % 8 = 0
      · have hq0 : Int.tmod (q : Int) 8 = 0 := by rw [hq8]; omega
        have hq00 : (q : Int) % 8 = 0 := by omega
        go_upto_region 15 with (first | (go_at_call 23; refine (fix_k hyl62).mono ?_; rintro e w3 ⟨a3, c3, rfl, s3, b3⟩) | (at_builtin; refine wpList_appl (B := w.heap.size) rfl (.tmp 33) (.tmp 36) rfl rfl (T1.out.later b3).row2 rfl s3 (by have := HZ.out; omega) (T1.out.later b3).mid.bel.size ?_; intro v4 w4 r4 g4 m4))
        have T4 := hid (((T1.out.later b3).swap.step g4 m4 r4).swap)
        clear T1 b3 s3 r4 g4 m4 hq8 hq0 hq00
        obtain ⟨z0, z1, z2, z3, z4⟩ := T4.out.cells
        go_upto_region 16 with (go_at_call 24; refine (HAP.out T4.out (Sl.nil w) (by omega)).mono ?_; rintro e w5 ⟨v5, rfl, T5⟩)
        clear z0 z1 z2 z3 z4
        obtain ⟨z0, z1, z2, z3, z4⟩ := T5.cells
        have HX : Hid (Pair w w5 v5 v4 (ys ++ enE SK o) (zs ++ (if q % 8 = 0 then fx ys.length 4 else []))) := by
          show Pair _ _ _ _ _ _
          rw [HSK.out, if_pos h8, if_pos h8]
          exact T5.pair
        clear T5 T4
        go_wp2_with fail
        go_roundg GK
        case measure => exact HG.out.1
        case rel => exact ⟨q + 1, ka, o.key.length, kc, HG.out.2, by go_num, rfl, HNX.out HX.out⟩
      · have hq0 : ¬ Int.tmod (q : Int) 8 = 0 := by rw [hq8]; omega
        have hq00 : ¬ (q : Int) % 8 = 0 := by omega
        have hq41 : ((q : Int) % 8 == 0) = false := by simp; omega
        go_upto_region 15 with fail
        clear hq8 hq0 hq00 hq41
        obtain ⟨z0, z1, z2, z3, z4⟩ := T1.out.cells
        go_upto_region 16 with (go_at_call 24; refine (HAP.out T1.out HSP.out HPL.out).mono ?_; rintro e w5 ⟨v5, rfl, T5⟩)
        clear z0 z1 z2 z3 z4
        obtain ⟨z0, z1, z2, z3, z4⟩ := T5.cells
        have HX : Hid (Pair w w5 v5 u5 (ys ++ enE SK o) (zs ++ (if q % 8 = 0 then fx ys.length 4 else []))) := by
          show Pair _ _ _ _ _ _
          rw [HSK.out, if_neg h8, if_neg h8, List.append_nil, shr_comm]
          exact T5.pair
        clear T5 T1
        go_wp2_with fail
        go_roundg GK
        case measure => exact HG.out.1
        case rel => exact ⟨q + 1, ka, o.key.length, kc, HG.out.2, by go_num, rfl, HNX.out HX.out⟩
    · have hql' : (len : Int) ≤ (q : Int) := by omega
      obtain rfl : q = l.length := by omega
      rw [List.take_length] at HP
      have hyo : Okb (enEs 0 [] l) := okb_enEs fun e he => HS.out.1.okE e he
      obtain ⟨a6, c6, hv6, hs6⟩ := Sl.ofRow HP.out.1.1 hyo
      obtain ⟨a7, c7, hv7, hs7⟩ := Sl.ofRow HP.out.1.2.1 okb_enTl
      subst hv6 hv7
      have hyl := enEs_tlen HS.out.2.1 l.length (Nat.le_refl _)
      have hzl := enTl_tlen (l := l) l.length (Nat.le_refl _)
      rw [List.take_length] at hyl hzl
      have hlen4 := HS.out.2.2
      have HBK : Hid ([enEs 0 [] l, enTl 0 0 [] l, fx ((enTl 0 0 [] l).length / 4) 4].flatten = blkB l) := by show _ = _; unfold blkB; simp
      have HB := hid HP.out.1.2.2.1
      generalize enEs 0 [] l = ys at HP hyl HBK hs6
      generalize enTl 0 0 [] l = zs at HP hzl hs7 HBK
      obtain ⟨Y, hY⟩ : ∃ n, n = ys.length := ⟨_, rfl⟩
      obtain ⟨Z, hZ⟩ : ∃ n, n = zs.length := ⟨_, rfl⟩
      rw [← hZ] at hs7 hzl HBK ⊢
      rw [← hY] at hs6 hyl ⊢
      have HR : Hid (Sl wr a6 Y c6 ys ∧ Sl wr a7 Z c7 zs ∧ ys.length + zs.length ≤ 2000000) := ⟨hs6, hs7, by omega⟩
      have hZ62 : Z ≤ 2 ^ 61 := by omega
      have hz4 : (Z : Int) / 4 = ((Z / 4 : Nat) : Int) := by omega
      have hz5 : Int.tdiv (Z : Int) 4 = ((Z / 4 : Nat) : Int) := by rw [Int.tdiv_eq_ediv_of_nonneg (by omega)]; omega
      have hD62 : Z / 4 ≤ 2 ^ 61 := by omega
      have HFX : Hid (∀ {wx : World}, Calls Try.prog 23 #[.int .i64 ((Z / 4 : Nat) : Int)] wx fun e w' => ∃ a c, e = .returned (.slice a 4 c) ∧ Sl w' a 4 c (fx (Z / 4) 4) ∧ Below wx.heap.size wx w') := fun {wx} => fix_k hD62
      generalize Z / 4 = D at hz4 hz5 hD62 HBK HFX
      clear hZ hY hzl hyl hs7 hs6 HP hlen4 hql hyo hq
      go_wp2_with (first | (go_at_call 23; refine HFX.out.mono ?_; rintro e w8 ⟨a8, c8, rfl, s8, b8⟩) | (go_at_call 25; refine (concat_any (rb3_k (HR.out.1.later b8) (HR.out.2.1.later b8) s8) (by have := HR.out.2.2; unfold tot; simp [fx_length]; omega)).mono ?_; rintro e w9 ⟨v9, rfl, r9, b9⟩))
      rw [HBK.out] at r9
      have b10 : Below w.heap.size w (w8.alloc (.cells #[.slice a6 Y c6, .slice a7 Z c7, .slice a8 4 c8] 25)) := (HB.out.trans (b8.mono HB.out.size)).alloc (Nat.le_trans HB.out.size b8.size) _
      exact bodyPost_ret (v := .tuple #[v9, .int .i64 0]) (by simp [results, Try.results10, go_sem]) rfl ⟨v9, rfl, r9.base b10.size, b10.trans (b9.mono b10.size)⟩

theorem encR_k {w : World} {ao : Option Addr} {len cap : Nat} {l : List EntV} (h : RS entE w ao len cap l) (hl : len ≤ 2 ^ 61) :
    Calls Try.prog 10 #[.slice ao len cap] w fun e w' => ∃ v, e = .returned (.tuple #[v, .int .i64 ((blkE l : Nat) : Int)]) ∧ Row w.heap.size w' v (if blkE l = 0 then blkB l else []) ∧ Below w.heap.size w w' := by
  have hln : l.length = len := h.len.1
  unfold blkE
  rw [hln]
  by_cases q : len = 0 ∨ 400 < len
  · rw [if_pos q]
    exact (enc_many q hl).mono fun e w' ⟨h1, h2⟩ => ⟨_, h1, Row.nil _ _, h2⟩
  · rw [if_neg q]
    cases ha : l.all mayE with
    | false =>
      rw [if_pos rfl]
      exact (enc_bad h (by omega) (by omega) (.inl ha) (c := 1) (by rw [ha]; rfl)).mono fun e w' ⟨h1, h2⟩ => ⟨_, h1, Row.nil _ _, h2⟩
    | true =>
      rw [if_neg (by decide)]
      cases ho : ordB l with
      | false =>
        rw [if_pos rfl]
        exact (enc_bad h (by omega) (by omega) (.inr ho) (c := 11) (by rw [ha]; rfl)).mono fun e w' ⟨h1, h2⟩ => ⟨_, h1, Row.nil _ _, h2⟩
      | true =>
        rw [if_neg (by decide)]
        exact enc_good h (by omega) (by omega) ⟨ha, ho⟩
end Go.Proofs.Ytifgojkmdicdmaa

/- The landed block keeps what is asked of Ordered and Encode. -/
namespace Go.Proofs.Ytifgojkmdicdmaa
open Go.RowKit
set_option linter.unusedVariables false
set_option linter.unusedSimpArgs false

theorem encX_k {w : World} {ao : Option Addr} {len cap : Nat} {l : List EntV} (h : RS entE w ao len cap l) (hl : len ≤ 2 ^ 61) :
    Calls Try.prog 10 #[.slice ao len cap] w fun e w' => ∃ v, e = .returned (.tuple #[v, .int .i64 ((blkE l : Nat) : Int)]) ∧ SlV w' v (encX l) ∧ Below w.heap.size w w' :=
  (encR_k h hl).mono fun e w' ⟨v, he, hr, hb⟩ => ⟨v, he, SlV.ofRow hr (by unfold encX; split; exact okb_blkB h.okE; exact fun x hx => by cases hx), hb⟩
theorem theBk : PBk where
  ordered := fun h hl _ => ord_k h (by omega)
  encode := fun h hl _ => encX_k h (by omega)
end Go.Proofs.Ytifgojkmdicdmaa
