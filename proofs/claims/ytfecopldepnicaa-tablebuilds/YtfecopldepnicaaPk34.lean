import Derived.Deep.RegionHeldLaw
import Derived.Deep.RegionLaw
import Derived.Lib.AppendStr
import Derived.Test.YtfecopldepnicaaPk01
import Derived.Test.YtfecopldepnicaaPk16
import Derived.Test.YtfecopldepnicaaPk26
import Derived.Test.YtfecopldepnicaaPk32
import Derived.Test.YtfecopldepnicaaPk33
/- A call of a Go function as one step of a region that draws its order. -/
namespace Go.Proofs.Ytfecopldepnicaa
open Go.RowKit
set_option linter.unusedVariables false
set_option linter.unusedSimpArgs false

theorem step_fn {P : Program} {ops : Array Oper} {w : World} {o : Oper} {a : Act} {K : Act → World → Prop} {Q : Exit → Act → World → Prop} {E : Prop} {R : Ending → World → Prop} (f : FuncId) {xs : Array Operand} {ts : Array TypeId} {args : Array Value} (hgd : o.guard = none)
    (hop : o.op = .call { callee := .value (.func f), args := xs, argTypes := ts }) (hargs : xs.map a.eval = args) (hf : (callFunc f args).run P w = .ok (.enter f args) w) (hc : Calls P f args w R) (h : ∀ e w', R e w' → ∃ v, e = .returned v ∧ K (a.put o.dst v) w') :
    if Region.wanted o (yielded ops a.tmps) = true then Oper.wp P o a w K Q else E := by
  have hw : Region.wanted o (yielded ops a.tmps) = true := by simp [Region.wanted, hgd]
  rw [if_pos hw]
  have hrun : (execOp a.eval o).run P w = .ok (.enter f args) w := by
    unfold execOp
    rw [hop]
    simp [resolve, invoke, Act.eval, go_sem, hargs, hf]
  unfold Oper.wp
  rw [hrun]
  exact hc.mono fun e w' hR => by
    obtain ⟨v, he, hk⟩ := h e w' hR
    subst he
    exact hk
end Go.Proofs.Ytfecopldepnicaa

/- The landed filters: Build; all of them. -/
namespace Go.Proofs.Ytfecopldepnicaa
open Go.RowKit
set_option linter.unusedVariables false
set_option linter.unusedSimpArgs false

theorem bmany_any {w : World} {ao : Option Addr} {len cap : Nat} {keys : List (List Int)} (h : RB w ao len cap keys) (hl : 100000 < len) : Calls Try.prog 31 #[.slice ao len cap] w fun e w' => ∃ v, e = .returned (.tuple #[v, .int .i64 13]) ∧ SlV w' v [] ∧ Below w.heap.size w w' := by
  have hl' : (100000 : Int) < (len : Int) := by omega
  clear h hl
  go_enter Try.func31, Try.ntmps31
  go_wp2_with fail
  exact bodyPost_ret (v := .tuple #[.slice none 0 0, .int .i64 13]) (by simp [results, Try.results31, go_sem]) rfl ⟨_, rfl, slv_nil _, Below.refl _ _⟩

/-- A filter that is being made. -/
structure FlC (w : World) (g N : Nat) (wx : World) (bs : List Int) : Prop where
  row : Row w.heap.size wx (.slice (some ⟨g, 0, none⟩) N N) bs
  bel : Below w.heap.size w wx
theorem FlC.set {w : World} {g N : Nat} {wx : World} {bs : List Int} (h : FlC w g N wx bs) {i : Nat} (hi : i < bs.length) (hg : w.heap.size ≤ g) (x : Int) : FlC w g N (wx.setCell ⟨g, i, none⟩ (.int .u8 x)) (bs.set i x) := by
  have hne : ∀ b, b ≠ g → (wx.setCell ⟨g, i, none⟩ (.int .u8 x)).heap[b]? = wx.heap[b]? := fun b hb => Below.heap_setCell _ _ _ _ (fun e => hb e)
  exact ⟨row_set h.row hi x, ⟨h.bel.os, h.bel.tape, h.bel.output, by simp [World.setCell]; exact h.bel.size, fun k hk => by rw [hne k (by omega)]; exact h.bel.block k hk⟩⟩
theorem FlC.drew1 {w : World} {g N : Nat} {wx : World} {bs : List Int} (h : FlC w g N wx bs) : FlC w g N wx.drew bs := ⟨h.row.later (Below.refl _ _).drew, h.bel.drew⟩
theorem FlC.drew {w : World} {g N : Nat} {wx : World} {bs : List Int} (h : FlC w g N wx bs) (m : Nat) : FlC w g N (wx.drewN m) bs := ⟨h.row.later (below_drewN (Below.refl _ _) m), below_drewN h.bel m⟩

set_option maxHeartbeats 2000000 in
set_option maxRecDepth 100000 in
theorem bbuildR_any {w : World} {ao : Option Addr} {len cap : Nat} {keys : List (List Int)} (h : RB w ao len cap keys) (hl : len ≤ 100000) :
    Calls Try.prog 31 #[.slice ao len cap] w fun e w' => ∃ v, e = .returned (.tuple #[v, .int .i64 0]) ∧ Row w.heap.size w' v (fil keys) ∧ Below w.heap.size w w' := by
  have HS : Hid (RB w ao len cap keys ∧ keys.length = len) := ⟨h, h.1⟩
  have hfb := fbytes_any (w := w) hl
  obtain ⟨N, hN⟩ : ∃ N, N = fsz len := ⟨_, rfl⟩
  rw [← hN] at hfb
  have hNv : N = (max 64 (10 * len) + 7) / 8 := hN
  have hN9 : N ≤ 125008 := by omega
  have HN8 : Hid (8 ≤ N) := by show 8 ≤ N; omega
  have HN : Hid (N = fsz len) := hN
  have hl' : (len : Int) ≤ 100000 := by omega
  clear h hN hNv
  have hmk := run_make_row' (P := Try.prog) 25 5 (.int .u8 0) 1 Try.underlying25 Try.info5 rfl .i64 .i64 N (by omega) (by omega)
  have H0 : Hid (FlC w w.heap.size N (w.alloc (.cells (madeCells #[.int .u8 0] N) 5)) (setbs (List.replicate N 0) ((keys.take 0).flatMap fun k => prbs k (8 * N)))) := ⟨row_zeros w N (by omega), (Below.refl _ _).alloc (Nat.le_refl _) _⟩
  have hl63 : len ≤ 2 ^ 62 := by omega
  have hN62 : N ≤ 2 ^ 50 := by omega
  go_enter Try.func31, Try.ntmps31
  go_wp2_with (go_at_call 64; refine hfb.mono ?_; rintro e w' ⟨rfl, hw⟩; obtain rfl := hw.symm)
  clear hfb
  go_loopg [6, 8, 18] len (fun g _ _ i wr => ∃ k : Nat, k + g = len ∧ i = .int .i64 (k : Int) ∧ Hid (FlC w w.heap.size N wr (setbs (List.replicate N 0) ((keys.take k).flatMap fun k => prbs k (8 * N)))))
  case atStart => exact ⟨0, by omega, rfl, H0⟩
  case round =>
    obtain ⟨k, hk, rfl, HK⟩ := hrel
    by_cases hkl : k < len
    · have hkl' : (k : Int) < (len : Int) := by omega
      have hkx : k < keys.length := by have := HS.out.2; omega
      obtain ⟨b, off, ka, kc, rfl, hc0, sk⟩ := HS.out.1.2.2.2.2 k keys[k] (List.getElem?_eq_getElem hkx)
      have hc := cell_later HK.out.bel hc0
      have HFL := hid9 (show (keys.take (k + 1)).flatMap (fun k => prbs k (8 * N)) = (keys.take k).flatMap (fun k => prbs k (8 * N)) ++ prbs keys[k] (8 * N) by rw [List.take_add_one, List.getElem?_eq_getElem hkx, List.flatMap_append]; show _ ++ (prbs keys[k] (8 * N) ++ []) = _; rw [List.append_nil])
      have hpr := places_any (M := 8 * N) (sk.later HK.out.bel) (by have := HN8.out; omega) (by omega)
      rw [show ((8 * N : Nat) : Int) = (N : Int) * 8 by omega] at hpr
      generalize keys[k] = key at hc hc0 sk HFL hpr
      have HP : Hid ((∀ p ∈ prbs key (8 * N), p < 8 * N) ∧ (prbs key (8 * N)).length = 6 ∧ (∀ j p, (prbs key (8 * N))[j]? = some p → (prA key (8 * N))[j]? = some (Value.int .i64 ((p : Nat) : Int))) ∧ (prA key (8 * N)).size = 6) := ⟨fun p hp => prbs_lt hp, prbs_len (by have := HN8.out; omega), fun j p h => prA_at h, prA_size (by have := HN8.out; omega)⟩
      generalize prA key (8 * N) = PA at hpr HP
      generalize prbs key (8 * N) = P at HP HFL
      generalize hBS : setbs (List.replicate N 0) ((keys.take k).flatMap fun k => prbs k (8 * N)) = bs at HK
      have HBS : Hid (setbs (List.replicate N 0) ((keys.take k).flatMap fun k => prbs k (8 * N)) = bs ∧ bs.length = N ∧ Okb bs) := ⟨hBS, by rw [← hBS, setbs_len]; simp, by rw [← hBS]; exact setbs_ok _ (okb_zeros _)⟩
      obtain ⟨GK, HG⟩ : ∃ g, Hid (g < gk ∧ k + 1 + g = len) := ⟨gk - 1, by omega, by omega⟩
      clear hk hc0 sk hBS H0
      go_wp2_with (go_at_call 65; refine hpr.mono ?_; rintro e w3 ⟨rfl, b3⟩)
      have HF0 : Hid (FlC w w.heap.size N w3 (setbs bs (P.take 0))) := ⟨by show Row _ _ _ bs; exact HK.out.row.later b3, HK.out.bel.trans (b3.mono HK.out.bel.size)⟩
      clear b3 HK hpr
      go_loopg [8, 27] 6 (fun g _ i wr => ∃ j : Nat, j + g = 6 ∧ i = .int .i64 (j : Int) ∧ Hid (FlC w w.heap.size N wr (setbs bs (P.take j))))
      case atStart => exact ⟨0, by omega, rfl, HF0⟩
      case round =>
        obtain ⟨j, hj, rfl, HJ⟩ := hrel
        by_cases hjn : j < 6
        · have hjn' : (j : Int) < 6 := by omega
          have hjx : j < P.length := by have := HP.out.2.1; omega
          have HPJ := hid9 (List.getElem?_eq_getElem hjx)
          have hpl := HP.out.1 P[j] (List.getElem_mem hjx)
          have hix := fun w => run_ix6 w PA j HP.out.2.2.2 hjn (HP.out.2.2.1 j P[j] HPJ.out)
          generalize P[j] = p at hix hpl HPJ
          obtain ⟨i, hi⟩ : ∃ i, i = p / 8 := ⟨_, rfl⟩
          have hiN : i < N := by omega
          have hlen : (setbs bs (P.take j)).length = N := by rw [setbs_len]; exact HBS.out.2.1
          obtain ⟨x, hxx⟩ : ∃ x, (setbs bs (P.take j))[i]? = some x := ⟨_, List.getElem?_eq_getElem (by omega)⟩
          obtain ⟨y0, y1, -, -, -⟩ := row_at HJ.out.row hxx
          have hp62 : p ≤ 2 ^ 60 := by omega
          obtain ⟨r, hr⟩ : ∃ r, r = p % 8 := ⟨_, rfl⟩
          have hmsk := fun (w : World) => bmask_any (w := w) hp62 hr
          have hq8 : (p : Int) / 8 = (i : Int) := by omega
          have hwi : IntKind.i64.wrap (i : Int) = (i : Int) := by rw [IntKind.wrap_i64]; omega
          have hr7 : r < 8 := by omega
          have hiN' : (i : Int) < (N : Int) := by omega
          have hok := setbs_ok (P.take j) HBS.out.2.2
          have hx8 := hok _ (List.mem_of_getElem? hxx)
          obtain ⟨X, rfl⟩ := Int.eq_ofNat_of_zero_le hx8.1
          have hpw : 2 ^ r < 2 ^ 8 := Nat.pow_lt_pow_right (by decide) (by omega)
          have hor := u8_or_nat X (2 ^ r) (by omega) (by omega)
          obtain ⟨GJ, HGJ⟩ : ∃ g, Hid (g < gk ∧ j + 1 + g = 6) := ⟨gk - 1, by omega, by omega⟩
          have hj62 : j ≤ 2 ^ 61 := by omega
          have HNX : Hid (∀ wx, FlC w w.heap.size N wx (setbs bs (P.take j)) → FlC w w.heap.size N (wx.setCell ⟨w.heap.size, i, none⟩ (.int .u8 ((X ||| 2 ^ r : Nat) : Int))) (setbs bs (P.take (j + 1)))) := fun wx hx => by
            have e : setbs bs (P.take (j + 1)) = (setbs bs (P.take j)).set i ((X ||| 2 ^ r : Nat) : Int) := by
              rw [List.take_add_one, HPJ.out, setbs_app]
              exact setb_at hxx hi hr
            rw [e]
            exact hx.set (by omega) (Nat.le_refl _) _
          generalize ((X ||| 2 ^ r : Nat) : Int) = Y at hor HNX
          generalize ((2 ^ r : Nat) : Int) = R at hor hmsk
          clear hi hr hok hlen hxx hx8 hpw hr7 hpl hjx hj
          go_upto_region 10 with fail
          go_region_law (refine step_fn 66 (args := #[.int .i64 (p : Int)]) rfl rfl (by simp [Act.eval, Act.put]) (by kernel_rfl) (hmsk _) ?_; rintro e w7 ⟨rfl, hw7⟩; subst hw7; refine ⟨_, rfl, ?_⟩)
          all_goals
            go_wp2_with fail
            go_roundg GJ
            case measure => exact HGJ.out.1
            case rel => exact ⟨j + 1, HGJ.out.2, by go_num, by repeat (first | exact HNX.out _ HJ.out | refine FlC.drew1 ?_)⟩
        · have hjn' : ¬ ((j : Int) < 6) := by omega
          have HF : Hid (FlC w w.heap.size N wr (setbs (List.replicate N 0) ((keys.take (k + 1)).flatMap fun k => prbs k (8 * N)))) := by
            have := HJ.out
            rw [List.take_of_length_le (by have := HP.out.2.1; omega)] at this
            show FlC _ _ _ _ _
            rw [HFL.out, setbs_app, HBS.out.1]
            exact this
          clear hj hjn HJ
          go_wp2_with fail
          go_roundg GK
          case measure => exact HG.out.1
          case rel => exact ⟨k + 1, HG.out.2, by go_num, HF⟩
    · have hkl' : (len : Int) ≤ (k : Int) := by omega
      obtain rfl : k = len := by omega
      have HE : Hid (setbs (List.replicate N 0) ((keys.take k).flatMap fun k => prbs k (8 * N)) = fil keys) := by
        show _ = _
        unfold fil
        rw [HS.out.2, ← HN.out, List.take_of_length_le (by have := HS.out.2; omega)]
      clear hk hkl
      go_wp2_with fail
      exact bodyPost_ret (v := .tuple #[.slice (some ⟨w.heap.size, 0, none⟩) N N, .int .i64 0]) (by simp [results, Try.results31, go_sem]) rfl ⟨_, rfl, by rw [← HE.out]; exact HK.out.row, HK.out.bel⟩
theorem bbuild_any {w : World} {ao : Option Addr} {len cap : Nat} {keys : List (List Int)} (h : RB w ao len cap keys) (hl : len ≤ 100000) :
    Calls Try.prog 31 #[.slice ao len cap] w fun e w' => ∃ v, e = .returned (.tuple #[v, .int .i64 0]) ∧ SlV w' v (fil keys) ∧ Below w.heap.size w w' := (bbuildR_any h hl).mono fun e w' ⟨v, h1, h2, h3⟩ => ⟨v, h1, SlV.ofRow h2 (fil_ok _), h3⟩
end Go.Proofs.Ytfecopldepnicaa

/- The landed table: Build. -/
namespace Go.Proofs.Ytfecopldepnicaa
open Go.RowKit
set_option linter.unusedVariables false
set_option linter.unusedSimpArgs false

theorem rs5_t (w : World) (n0 n1 n2 n3 n4 : Nat) : RS numE (w.alloc (.cells #[.int .i64 (n0 : Int), .int .i64 (n1 : Int), .int .i64 (n2 : Int), .int .i64 (n3 : Int), .int .i64 (n4 : Int)] 3)) (some ⟨w.heap.size, 0, none⟩) 5 5 [n0, n1, n2, n3, n4] := by
  refine ⟨[.int .i64 (n0 : Int), .int .i64 (n1 : Int), .int .i64 (n2 : Int), .int .i64 (n3 : Int), .int .i64 (n4 : Int)], rfl, (fun q => by cases q), Nat.le_refl _, by unfold maxLen; omega, ⟨_, _, rfl, rfl, _, _, rfl, rfl, _, _, rfl, rfl, _, _, rfl, rfl, _, _, rfl, rfl, rfl⟩, fun j u hu => ?_⟩
  refine ⟨_, _, rfl, ?_⟩
  rw [Nat.zero_add, cell_of_row _ _ _ _ _ _ (heap_alloc_new w _)]
  simpa using hu
/-- A string's bytes behind a row of one's own. -/
theorem wpList_str {w : World} {ops : Array Oper} {rest : List Oper} {o : Oper} {a : Act} {Q : Exit → Act → World → Prop} {B : Nat} {v : Value} {xs ys : List Int} {s : ByteArray} (hgd : o.guard = none) (sl x : Operand)
    (ho : o.op = .call { callee := .builtin .append, args := #[sl, x], argTypes := #[25, 9] }) (hs : a.eval sl = v) (hrow : Row B w v xs) (hx : a.eval x = .string s) (hy : Lib.strCells s = ys.map (Value.int .u8)) (hb : xs.length + ys.length ≤ 100000000) (hB : B ≤ w.heap.size)
    (h : ∀ v' w', Row B w' v' (xs ++ ys) → w.grownBy w' v.ownBlock → wpList Try.prog ops Q rest (a.put o.dst v') w') : wpList Try.prog ops Q (o :: rest) a w := by
  obtain ⟨i, hi, hz, hsize, hbytes⟩ := info_parts Try.info5
  have hsz : s.size = ys.length := by
    have := congrArg List.length hy
    rw [Lib.strCells_length, List.length_map] at this
    exact this
  refine Lib.wpList_append_own_string w hgd sl x 25 9 ho B 5 i Try.underlying25 Try.underlying9 hi hz hsize hbytes v xs.length (xs.map (Value.int .u8)) hs hrow s hx (by unfold maxLen; omega) (by omega) hB fun v' w' h1 h2 _ => h v' w' ?_ h2
  unfold Row
  rw [List.length_append, List.map_append, ← hy, ← hsz]
  exact h1
theorem okb_tblB {l : List EntV} (h : ∀ e ∈ l, OkE e) : Okb (tblB l) := by
  have hoft : Okb (ftT l) := (okb_fx _ _).app ((okb_fx _ _).app ((okb_fx _ _).app ((okb_fx _ _).app (okb_fx _ _))))
  have hmg : Okb magT := fun x hx => by simp [magT] at hx; omega
  have hc : ∀ c ∈ cutT l, ∀ e ∈ c, OkE e := fun c hc e he => h e (by rw [← cutT_flat l]; exact List.mem_flatten.2 ⟨c, hc, he⟩)
  exact (okb_bodT hc).app ((okb_sm (okb_idxB hc)).app ((okb_sm (fil_ok _)).app ((okb_sm hoft).app hmg)))
/-- The parts behind the blocks. -/
def ptsT (l : List EntV) : List (List Int) := [idxT l, filT l, ftT l]
theorem tbl_pts (l : List EntV) : tblB l = (bodT (cutT l) ++ ((ptsT l).map sm).flatten) ++ magT := by
  unfold tblB ptsT
  simp
theorem pts_take {l : List EntV} {k : Nat} {x : List Int} (h : (ptsT l)[k]? = some x) : bodT (cutT l) ++ (((ptsT l).take (k + 1)).map sm).flatten = (bodT (cutT l) ++ (((ptsT l).take k).map sm).flatten) ++ sm x := by
  rw [List.take_add_one, h]
  simp
set_option maxHeartbeats 1000000 in
set_option maxRecDepth 100000 in
theorem buildM_t {w : World} {ao : Option Addr} {len cap : Nat} (h : len = 0 ∨ 4000 < len) (hl : len ≤ 2 ^ 61) :
    Calls Try.prog 9 #[.slice ao len cap] w fun e w' => e = .returned (.tuple #[.slice none 0 0, .int .i64 13]) ∧ Below w.heap.size w w' := by
  rcases h with q | q
  · have q' : (len : Int) < 1 := by omega
    clear q
    go_enter Try.func9, Try.ntmps9
    go_wp2_with fail
    exact bodyPost_ret (v := .tuple #[.slice none 0 0, .int .i64 13]) (by simp [results, Try.results9, go_sem]) rfl ⟨rfl, Below.refl _ _⟩
  · have q1 : ¬ ((len : Int) < 1) := by omega
    have q2 : (4000 : Int) < (len : Int) := by omega
    clear q
    go_enter Try.func9, Try.ntmps9
    go_wp2_with fail
    exact bodyPost_ret (v := .tuple #[.slice none 0 0, .int .i64 13]) (by simp [results, Try.results9, go_sem]) rfl ⟨rfl, Below.refl _ _⟩
set_option maxHeartbeats 1000000 in
set_option maxRecDepth 100000 in
theorem buildB_t {w : World} {ao : Option Addr} {len cap : Nat} {l : List EntV} (h : RS entE w ao len cap l) (h1 : 1 ≤ len) (h4 : len ≤ 4000) (hm : l.all mayE = false ∨ ordB l = false) {c : Int} (hc : c = if l.all mayE = false then 1 else 11) :
    Calls Try.prog 9 #[.slice ao len cap] w fun e w' => e = .returned (.tuple #[.slice none 0 0, .int .i64 c]) ∧ Below w.heap.size w w' := by
  have hcn := cnf_t h (by omega)
  have q1 : ¬ ((len : Int) < 1) := by omega
  have q2 : ¬ ((4000 : Int) < (len : Int)) := by omega
  cases ha : l.all mayE with
  | false =>
    rw [ha] at hcn hc
    rw [if_pos rfl] at hc
    subst hc
    clear h hm
    go_enter Try.func9, Try.ntmps9
    go_wp2_with (go_at_call 27; refine hcn.mono ?_; rintro e w1 ⟨rfl, b1⟩)
    exact bodyPost_ret (v := .tuple #[.slice none 0 0, .int .i64 1]) (by simp [results, Try.results9, go_sem]) rfl ⟨rfl, b1⟩
  | true =>
    have ho : ordB l = false := by rcases hm with q | q; rw [ha] at q; cases q; exact q
    rw [ha] at hcn hc
    rw [if_neg (by decide)] at hc
    subst hc
    have HOR : Hid (∀ wx, Below w.heap.size w wx → Calls Try.prog 29 #[.slice ao len cap] wx fun r w' => r = .returned (.bool false) ∧ Below wx.heap.size wx w') := fun wx hb => by rw [← ho]; exact ord_k (h.later hb) (by omega)
    clear h hm
    go_enter Try.func9, Try.ntmps9
    go_wp2_with (first | (go_at_call 27; refine hcn.mono ?_; rintro e w1 ⟨rfl, b1⟩) | (go_at_call 29; refine (HOR.out _ b1).mono ?_; rintro e w2 ⟨rfl, b2⟩))
    exact bodyPost_ret (v := .tuple #[.slice none 0 0, .int .i64 11]) (by simp [results, Try.results9, go_sem]) rfl ⟨rfl, b1.trans (b2.mono b1.size)⟩
set_option maxHeartbeats 4000000 in
set_option maxRecDepth 100000 in
theorem buildG_t {w : World} {ao : Option Addr} {len cap : Nat} {l : List EntV} (h : RS entE w ao len cap l) (h1 : 1 ≤ len) (h4 : len ≤ 4000) (hm : l.all mayE = true) (ho : ordB l = true) {C : Int} {X : List Int} (hC : C = if 4194304 < (tblB l).length then 8 else 0) (hX : X = if 4194304 < (tblB l).length then [] else tblB l) :
    Calls Try.prog 9 #[.slice ao len cap] w fun e w' => ∃ v, e = .returned (.tuple #[v, .int .i64 C]) ∧ SlV w' v X ∧ Below w.heap.size w w' := by
  have HCX : Hid (C = (if 4194304 < (tblB l).length then 8 else 0) ∧ X = if 4194304 < (tblB l).length then [] else tblB l) := ⟨hC, hX⟩
  clear hC hX
  have hmE : ∀ e ∈ l, mayE e = true := List.all_eq_true.1 hm
  have hoE : ordE l := by unfold ordB at ho; unfold ordE; simpa using ho
  have hln : l.length = len := h.len.1
  have hokE := h.okET
  have hcn := cnf_t h (by omega)
  rw [hm] at hcn
  have q1 : ¬ ((len : Int) < 1) := by omega
  have q2 : ¬ ((4000 : Int) < (len : Int)) := by omega
  have HOR : Hid (∀ wx, Below w.heap.size w wx → Calls Try.prog 29 #[.slice ao len cap] wx fun r w' => r = .returned (.bool true) ∧ Below wx.heap.size wx w') := fun wx hb => by rw [← ho]; exact ord_k (h.later hb) (by omega)
  have HBA : Hid (∀ wx, Below w.heap.size w wx → Calls Try.prog 30 #[.slice ao len cap] wx fun e w' => ∃ v u, e = .returned (.tuple #[v, u]) ∧ Pair wx w' v u (bodT (cutT l)) (idxT l)) := fun wx hb => bai_t (h.later hb) (by omega) hmE hoE
  have HKY : Hid (∀ wx, Below w.heap.size w wx → Calls Try.prog 32 #[.slice ao len cap] wx fun e w' => ∃ v, e = .returned v ∧ RowS byE wx.heap.size w' v (kys l) ∧ Below wx.heap.size wx w') := fun wx hb => keys_t (h.later hb) (by omega)
  have hshort := cut_short (bs := cutT l) (r := []) (by omega) hmE (by simp [cutT, cutB])
  have hkl := kys_len l
  have hfl : (filT l).length ≤ 100000 := by unfold filT; rw [fil_len]; unfold fsz; omega
  have hokc : ∀ c ∈ cutT l, ∀ e ∈ c, OkE e := fun c hc e he => hokE e (by rw [← cutT_flat l]; exact List.mem_flatten.2 ⟨c, hc, he⟩)
  have HOK : Hid (Okb (bodT (cutT l)) ∧ Okb (idxT l) ∧ Okb (filT l) ∧ Okb (ftT l) ∧ Okb (tblB l)) := ⟨okb_bodT hokc, okb_idxB hokc, fil_ok _, (okb_fx _ _).app ((okb_fx _ _).app ((okb_fx _ _).app ((okb_fx _ _).app (okb_fx _ _)))), okb_tblB hokE⟩
  have HL : Hid ((bodT (cutT l)).length ≤ 20000000 ∧ (idxT l).length ≤ 20000000 ∧ (filT l).length ≤ 100000 ∧ (kys l).length ≤ 4000 ∧ len ≤ 4000) := ⟨hshort.1, hshort.2, hfl, by omega, h4⟩
  have HFT : Hid (wdsT [(bodT (cutT l)).length, (idxT l).length, (bodT (cutT l)).length + (idxT l).length + 4, (filT l).length, len] = ftT l) := by show _ = _; unfold wdsT ftT; rw [hln]; simp
  have HPS : Hid (∀ k x, (ptsT l)[k]? = some x → bodT (cutT l) ++ (((ptsT l).take (k + 1)).map sm).flatten = (bodT (cutT l) ++ (((ptsT l).take k).map sm).flatten) ++ sm x) := fun k x hx => pts_take hx
  have HTB := hid (tbl_pts l)
  have HP0 : Hid ((ptsT l)[0]? = some (idxT l) ∧ (ptsT l)[1]? = some (filT l) ∧ (ptsT l)[2]? = some (ftT l) ∧ (ptsT l).length = 3 ∧ (ftT l).length = 20 ∧ filT l = fil (kys l)) := ⟨rfl, rfl, rfl, rfl, ft_len l, rfl⟩
  generalize hBD : bodT (cutT l) = BD at HBA HOK HL HFT HPS HTB
  generalize hID : idxT l = ID at HBA HOK HL HFT HP0
  generalize hFI : filT l = FI at HOK HL HFT HP0
  generalize hFO : ftT l = FO at HOK HFT HP0
  generalize hTB : tblB l = TBL at HOK HTB HCX
  generalize hPT : ptsT l = PTS at HPS HTB HP0
  clear h hm ho hmE hoE hokE hokc hshort hkl hfl hBD hID hFI hFO hTB hPT hln
  go_enter Try.func9, Try.ntmps9
  go_upto_region 8 with (first | (go_at_call 27; refine hcn.mono ?_; rintro e w1 ⟨rfl, b1⟩) | (go_at_call 29; refine (HOR.out _ b1).mono ?_; rintro e w2 ⟨rfl, b2⟩))
  have HB2 := hid (b1.trans (b2.mono b1.size))
  have hba := HBA.out _ HB2.out
  clear hcn b1 b2
  go_upto_region 9 with (go_at_call 30; refine hba.mono ?_; rintro e w3 ⟨v4, v5, rfl, P3⟩)
  obtain ⟨a4, c4, hv4, -⟩ := Sl.ofRow P3.1 HOK.out.1
  obtain ⟨a5, c5, hv5, -⟩ := Sl.ofRow P3.2.1 HOK.out.2.1
  subst hv4 hv5
  obtain ⟨BL, hBL⟩ : ∃ n, n = BD.length := ⟨_, rfl⟩
  obtain ⟨IL, hIL⟩ : ∃ n, n = ID.length := ⟨_, rfl⟩
  obtain ⟨FL, hFL⟩ : ∃ n, n = FI.length := ⟨_, rfl⟩
  rw [← hBL, ← hIL] at P3 ⊢
  rw [← hBL, ← hIL, ← hFL] at HL HFT
  have HLN := hid (And.intro hBL (And.intro hIL hFL))
  have HPR3 := hid P3
  have HB3 := hid (HB2.out.trans (P3.2.2.1.mono HB2.out.size))
  have hky := HKY.out _ HB3.out
  clear hba P3 hBL hIL hFL
  go_upto_region 10 with (first | (go_at_call 32; refine hky.mono ?_; rintro e w4 ⟨v6, rfl, r6, b4⟩; obtain ⟨a6, c6, hv6, rs6⟩ := r6.rs; subst hv6) | (go_at_call 31; refine (bbuildR_any (rs_rb rs6) (by have := HL.out; omega)).mono ?_; rintro e w5 ⟨v7, rfl, r7, b5⟩; rw [← HP0.out.2.2.2.2.2] at r7; obtain ⟨a7, c7, hv7, -⟩ := Sl.ofRow r7 HOK.out.2.2.1; subst hv7; rw [← HLN.out.2.2] at r7 ⊢))
  have B35 : Below w3.heap.size w3 w5 := b4.trans (b5.mono b4.size)
  have HPR5 := hid (HPR3.out.later B35)
  have HB5 := hid (HB3.out.trans (B35.mono HB3.out.size))
  have HR7 := hid r7
  have h34 := b4.size
  have HSZ : Hid (w3.heap.size ≤ w4.heap.size ∧ w4.heap.size ≤ w5.heap.size) := ⟨b4.size, b5.size⟩
  have hrs := rs5_t w5 BL IL (BL + IL + 4) FL len
  have hwd := words_t hrs (by decide) (fun n hn => by
    have := HL.out
    simp only [List.mem_cons, List.not_mem_nil, or_false] at hn
    omega)
  rw [HFT.out, show 4 * 5 = 20 from rfl, show ((BL + IL + 4 : Nat) : Int) = (BL : Int) + (IL : Int) + 4 by omega] at hwd
  have hBL62 : BL ≤ 2 ^ 60 := by have := HL.out; omega
  have hIL62 : IL ≤ 2 ^ 60 := by have := HL.out; omega
  have hFL62 : FL ≤ 2 ^ 60 := by have := HL.out; omega
  clear hky r6 rs6 b4 b5 r7 B35 hrs h34
  go_upto_region 11 with (go_at_call 33; refine hwd.mono ?_; rintro e w6 ⟨a8, c8, rfl, r8, b6⟩)
  have B56 : Below w5.heap.size w5 w6 := ((Below.refl _ w5).alloc (Nat.le_refl _) _).trans (b6.mono (by simp))
  have HR8 := hid (r8.base (B' := w5.heap.size) (by simp))
  obtain ⟨W7, hW7⟩ : ∃ W, w6.alloc (.cells #[.slice a5 IL c5, .slice a7 FL c7, .slice a8 20 c8] 25) = W := ⟨_, rfl⟩
  have B67 : Below w6.heap.size w6 W7 := by rw [← hW7]; exact (Below.refl _ w6).alloc (Nat.le_refl _) _
  have B57 := B56.trans (B67.mono B56.size)
  have HPR7 := hid (HPR5.out.later B57)
  have HB7 := hid (HB5.out.trans (B57.mono HB5.out.size))
  have hblk7 : W7.heap[w6.heap.size]? = some (.cells #[.slice a5 IL c5, .slice a7 FL c7, .slice a8 20 c8] 25 (0, 0)) := by rw [← hW7]; exact heap_alloc_new w6 _
  have hlt4 : ∀ g, (Value.slice a4 BL c4).ownBlock = some g → g < w3.heap.size := fun g hg => (Row.own_ltT HPR3.out.1 hg).2
  have HPT : Hid (∀ (k : Nat) (x : List Int), PTS[k]? = some x → ∃ a m c, m = x.length ∧ m ≤ 20000000 ∧ ∀ w', W7.grownBy w' (Value.slice a4 BL c4).ownBlock → Sl w' a m c x ∧ w'.cell? ⟨w6.heap.size, k, none⟩ = some (.slice a m c)) := fun k x hx => by
    have hcell : ∀ w', W7.grownBy w' (Value.slice a4 BL c4).ownBlock → w'.heap[w6.heap.size]? = some (.cells #[.slice a5 IL c5, .slice a7 FL c7, .slice a8 20 c8] 25 (0, 0)) := fun w' hg => by
      rw [hg.block w6.heap.size (Array.getElem?_eq_some_iff.1 hblk7).1 (fun e => by have := hlt4 _ e.symm; have := B56.size; have := HSZ.out; omega)]
      exact hblk7
    match k, hx with
    | 0, hx =>
      rw [HP0.out.1] at hx; cases hx
      exact ⟨a5, IL, c5, HLN.out.2.1, by have := HL.out; omega, fun w' hg => ⟨(HPR7.out.2.1.other hg fun g e1 e2 => HPR7.out.2.2.2 g e2 e1).slT HOK.out.2.1, by rw [cell_of (hcell w' hg)]; rfl⟩⟩
    | 1, hx =>
      rw [HP0.out.2.1] at hx; cases hx
      exact ⟨a7, FL, c7, HLN.out.2.2, by have := HL.out; omega, fun w' hg => ⟨((HR7.out.later B57).other hg fun g e1 e2 => by have h1 := (Row.own_ltT HR7.out e1).1; have h2 := hlt4 g e2; have := HSZ.out; omega).slT HOK.out.2.2.1, by rw [cell_of (hcell w' hg)]; rfl⟩⟩
    | 2, hx =>
      rw [HP0.out.2.2.1] at hx; cases hx
      exact ⟨a8, 20, c8, HP0.out.2.2.2.2.1.symm, by omega, fun w' hg => ⟨((HR8.out.later B67).other hg fun g e1 e2 => by have h1 := (Row.own_ltT HR8.out e1).1; have h2 := hlt4 g e2; have := HSZ.out; omega).slT HOK.out.2.2.2.1, by rw [cell_of (hcell w' hg)]; rfl⟩⟩
    | n + 3, hx => have := (List.getElem?_eq_some_iff.1 hx).1; rw [HP0.out.2.2.2.1] at this; omega
  have HBS : Hid (w2.heap.size ≤ W7.heap.size) := HPR7.out.2.2.1.size
  have HPSL : Hid (∀ k, k ≤ 3 → (BD ++ ((PTS.take k).map sm).flatten).length ≤ 60000000) := fun k hk => by
    have hb1 := HLN.out.1
    have hb2 := HLN.out.2.1
    have hb3 := HLN.out.2.2
    have h0 := HL.out
    have e : PTS = [ID, FI, FO] := by
      apply List.ext_getElem?
      intro i
      match i with
      | 0 => exact HP0.out.1
      | 1 => exact HP0.out.2.1
      | 2 => exact HP0.out.2.2.1
      | n + 3 => rw [List.getElem?_eq_none (by rw [HP0.out.2.2.2.1]; omega)]; rfl
    have hft := HP0.out.2.2.2.2.1
    rw [e]
    match k, hk with
    | 0, _ => simp; omega
    | 1, _ => simp [sm_len]; omega
    | 2, _ => simp [sm_len]; omega
    | 3, _ => simp [sm_len]; omega
  have H0 : Hid (Row w2.heap.size W7 (.slice a4 BL c4) (BD ++ ((PTS.take 0).map sm).flatten) ∧ Grw W7 (.slice a4 BL c4) W7 (.slice a4 BL c4)) := ⟨by simpa using HPR7.out.1, Grw.refl (Below.refl _ _)⟩
  clear hwd r8 b6 B56 B67 B57 hblk7 hlt4
  go_wp2_with fail
  go_loopg [4, 10, 57] 3 (fun g v _ i wr => ∃ k : Nat, k + g = 3 ∧ i = .int .i64 (k : Int) ∧ Hid (Row w2.heap.size wr v (BD ++ ((PTS.take k).map sm).flatten) ∧ Grw W7 (.slice a4 BL c4) wr v))
  case atStart => exact ⟨0, by omega, rfl, H0⟩
  case round =>
    obtain ⟨k, hk, rfl, HK⟩ := hrel
    by_cases hkl : k < 3
    · have hkl' : (k : Int) < 3 := by omega
      obtain ⟨x, hx⟩ : ∃ x, PTS[k]? = some x := ⟨_, List.getElem?_eq_getElem (by rw [HP0.out.2.2.2.1]; exact hkl)⟩
      obtain ⟨a9, m9, c9, hm9, hm9b, h9⟩ := HPT.out k x hx
      have d9 := (h9 wr HK.out.2.1).2
      have hap := apsm_t (ys := x) HK.out.1 (Nat.le_trans HBS.out HK.out.2.1.size) (fun w' hg => (h9 w' (HK.out.2.step hg (.inl rfl)).1).1) (by have := HPSL.out k (by omega); omega) (by omega)
      have HX := hid (HPS.out k x hx)
      have HKG := hid HK.out.2
      have hk62 : k ≤ 2 ^ 61 := by omega
      obtain ⟨GK, HG⟩ : ∃ g, Hid (g < gk ∧ k + 1 + g = 3) := ⟨gk - 1, by omega, by omega⟩
      clear hk HK h9 hm9 hm9b hx
      go_wp2_with (go_at_call 34; refine hap.mono ?_; rintro e w9 ⟨v9, rfl, r9, g9⟩)
      have HN : Hid (Row w2.heap.size w9 v9 (BD ++ ((PTS.take (k + 1)).map sm).flatten) ∧ Grw W7 (.slice a4 BL c4) w9 v9) := ⟨by rw [HX.out]; exact r9, HKG.out.step g9.1 g9.2⟩
      go_roundg GK
      case measure => exact HG.out.1
      case rel => exact ⟨k + 1, HG.out.2, by go_num, HN⟩
    · have hkl' : (3 : Int) ≤ (k : Int) := by omega
      have hk3 : k = 3 := by omega
      have hrow := HK.out.1
      have HLL : Hid ((BD ++ (PTS.map sm).flatten).length ≤ 60000000) := by
        have := HPSL.out 3 (by omega)
        rw [List.take_of_length_le (by rw [HP0.out.2.2.2.1]; exact Nat.le_refl _)] at this
        exact this
      rw [hk3, List.take_of_length_le (by rw [HP0.out.2.2.2.1]; exact Nat.le_refl _)] at hrow
      have HBR : Hid (Below w2.heap.size w2 wr) := HPR7.out.2.2.1.trans (grown_below HPR7.out.1 HK.out.2.1 HPR7.out.2.2.1.size)
      have hsz := HBR.out.size
      clear hk hkl HK
      go_upto_region 17 with (at_builtin; refine wpList_str (B := w2.heap.size) (ys := magT) rfl (.tmp 65) (.const (.string ⟨#[104, 97, 108, 121, 97, 114, 100, 49]⟩)) rfl rfl hrow rfl (by rfl) (by have := HLL.out; have : magT.length = 8 := rfl; omega) hsz ?_; intro v9 w9 r9 g9)
      rw [← HTB.out] at r9
      have HBF := hid (HB2.out.trans ((HBR.out.trans (grown_below hrow g9 hsz)).mono HB2.out.size))
      obtain ⟨a9, c9, hv9, s9⟩ := Sl.ofRow r9 HOK.out.2.2.2.2
      subst hv9
      have HS9 := hid s9
      have hTL : TBL.length ≤ 100000000 := by rw [HTB.out, List.length_append]; have := HLL.out; have : magT.length = 8 := rfl; omega
      generalize hT : TBL.length = TL at hTL HCX ⊢
      have HTL := hid hT
      clear hrow r9 g9 s9 hT
      have hTL62 : TL ≤ 2 ^ 61 := by omega
      by_cases q : 4194304 < TL
      · have q' : (4194304 : Int) < (TL : Int) := by omega
        have HV : Hid (C = 8 ∧ X = []) := by have := HCX.out; rw [if_pos q, if_pos q] at this; exact this
        clear q HCX
        go_wp2_with fail
        exact bodyPost_ret (v := .tuple #[.slice none 0 0, .int .i64 8]) (by simp [results, Try.results9, go_sem]) rfl ⟨.slice none 0 0, by rw [HV.out.1], by rw [HV.out.2]; exact slv_nil _, HBF.out⟩
      · have q' : ¬ ((4194304 : Int) < (TL : Int)) := by omega
        have HV : Hid (C = 0 ∧ X = TBL) := by have := HCX.out; rw [if_neg q, if_neg q] at this; exact this
        clear q HCX
        go_wp2_with fail
        exact bodyPost_ret (v := .tuple #[.slice a9 TL c9, .int .i64 0]) (by simp [results, Try.results9, go_sem]) rfl ⟨.slice a9 TL c9, by rw [HV.out.1], by rw [HV.out.2, ← HTL.out]; exact ⟨a9, c9, rfl, HS9.out⟩, HBF.out⟩
theorem build_t {w : World} {ao : Option Addr} {len cap : Nat} {l : List EntV} (h : RS entE w ao len cap l) (hl : len ≤ 1000000) :
    Calls Try.prog 9 #[.slice ao len cap] w fun e w' => ∃ v, e = .returned (.tuple #[v, .int .i64 ((tblE l : Nat) : Int)]) ∧ SlV w' v (if tblE l = 0 then tblB l else []) ∧ Below w.heap.size w w' := by
  have hln : l.length = len := h.len.1
  by_cases q : len = 0 ∨ 4000 < len
  · have e : tblE l = 13 := by unfold tblE; rw [if_pos (by rw [hln]; exact q)]
    rw [e]
    exact (buildM_t q (by omega)).mono fun r w' ⟨h1, h2⟩ => ⟨_, h1, slv_nil _, h2⟩
  · by_cases q2 : l.all mayE = false ∨ ordB l = false
    · obtain ⟨c, hc⟩ : ∃ c : Int, c = if l.all mayE = false then 1 else 11 := ⟨_, rfl⟩
      have e : ((tblE l : Nat) : Int) = c ∧ tblE l ≠ 0 := by
        unfold tblE
        rw [if_neg (by rw [hln]; exact q)]
        by_cases q3 : l.all mayE = false
        · rw [if_pos q3]; rw [if_pos q3] at hc; exact ⟨hc.symm, by omega⟩
        · rw [if_neg q3, if_pos (by rcases q2 with z | z; exact absurd z q3; exact z)]; rw [if_neg q3] at hc; exact ⟨hc.symm, by omega⟩
      rw [e.1, if_neg e.2]
      exact (buildB_t h (by omega) (by omega) q2 hc).mono fun r w' ⟨h1, h2⟩ => ⟨_, h1, slv_nil _, h2⟩
    · simp only [not_or, Bool.not_eq_false] at q2
      have e : tblE l = if 4194304 < (tblB l).length then 8 else 0 := by
        unfold tblE
        rw [if_neg (by rw [hln]; exact q), if_neg (by rw [q2.1]; decide), if_neg (by rw [q2.2]; decide)]
      refine (buildG_t h (by omega) (by omega) q2.1 q2.2 rfl rfl).mono ?_
      rintro r w' ⟨v, h1, h2, h3⟩
      rw [e]
      by_cases q3 : 4194304 < (tblB l).length
      · rw [if_pos q3] at h1 h2 ⊢
        exact ⟨v, h1, h2, h3⟩
      · rw [if_neg q3] at h1 h2 ⊢
        exact ⟨v, h1, h2, h3⟩
end Go.Proofs.Ytfecopldepnicaa
