/- What the landed batch's Encode answers. -/
import Derived.Test.YtcielnkkbccldaaLbmay
import Derived.Test.YtcielnkkbccldaaBput
namespace Go.Proofs.Ytcielnkkbccldaa
open Go.RowKit
set_option linter.unusedVariables false
set_option linter.unusedSimpArgs false

/-- vint's Put and PutBytes of nothing. -/
theorem vput_nil {w : World} {n : Nat} (hn : n < 18446744073709551616) : Calls Try.prog 20 #[.slice none 0 0, .int .u64 (n : Int)] w fun e w' => ∃ v', e = .returned v' ∧ Row w.heap.size w' v' (uv n) ∧ Below w.heap.size w w' :=
  put_any none 0 0 n (xof []) w (fun k hk => by cases hk) (fun _ => ⟨rfl, rfl⟩) (by omega) hn
theorem vpby_nil {w : World} {so : Option Addr} {ls cs : Nat} {rs : List Int} (h : Sl w so ls cs rs) (hl : ls ≤ 140737488351232) : Calls Try.prog 38 #[.slice none 0 0, .slice so ls cs] w fun e w' => ∃ v', e = .returned v' ∧ Row w.heap.size w' v' (lb rs) ∧ Below w.heap.size w w' := by
  refine (pby_any none so 0 0 ls cs (xof []) (xof rs) w (fun k hk => by cases hk) (fun _ => ⟨rfl, rfl⟩) h.2.2.2.2.2 h.2.2.1 (by omega)).mono ?_
  rintro e w' ⟨v', rfl, h1, h2⟩
  rw [← h.1, bs_xof h.2.1] at h1
  exact ⟨v', rfl, h1, h2⟩
/-- Bytes behind a row of one's own, as a step of a region that draws. -/
theorem step_appl {ops : Array Oper} {w : World} {o : Oper} {a : Act} {K : Act → World → Prop} {Q : Exit → Act → World → Prop} {E : Prop} {B : Nat} {v : Value} {xs ys : List Int} {ao : Option Addr} {m c : Nat} (hgd : o.guard = none) (s x : Operand)
    (ho : o.op = .call { callee := .builtin .append, args := #[s, x], argTypes := #[27, 27] }) (hs : a.eval s = v) (hrow : Row B w v xs) (hx : a.eval x = .slice ao m c) (hsl : Sl w ao m c ys) (hb : xs.length + m ≤ 140737488355328) (hB : B ≤ w.heap.size)
    (h : ∀ v' w', Row B w' v' (xs ++ ys) → w.grownBy w' v.ownBlock → Moved w v v' → K (a.put o.dst v') w') :
    if Region.wanted o (yielded ops a.tmps) = true then Oper.wp Try.prog o a w K Q else E := by
  have hw : Region.wanted o (yielded ops a.tmps) = true := by simp [Region.wanted, hgd]
  rw [if_pos hw]
  obtain ⟨v', w', hr, h2, h3, h4⟩ := run_app B w o.type v xs hrow ao m c (xof ys) hsl.2.2.1 hsl.2.2.2.2.2 hb hB
  rw [← hsl.1, bs_xof hsl.2.1] at h2
  unfold Oper.wp execOp
  simp only [ho, resolve, invoke, builtin, Sem.run_bind, Sem.run_pure, Result.andThen_ok, List.map_toArray, List.map_cons, List.map_nil, hs, hx, hr]
  exact h _ _ h2 h3 h4
theorem wpList_appl {w : World} {ops : Array Oper} {rest : List Oper} {o : Oper} {a : Act} {Q : Exit → Act → World → Prop} {B : Nat} {v : Value} {xs ys : List Int} {ao : Option Addr} {m c : Nat} (hgd : o.guard = none) (s x : Operand)
    (ho : o.op = .call { callee := .builtin .append, args := #[s, x], argTypes := #[27, 27] }) (hs : a.eval s = v) (hrow : Row B w v xs) (hx : a.eval x = .slice ao m c) (hsl : Sl w ao m c ys) (hb : xs.length + m ≤ 140737488355328) (hB : B ≤ w.heap.size)
    (h : ∀ v' w', Row B w' v' (xs ++ ys) → w.grownBy w' v.ownBlock → Moved w v v' → wpList Try.prog ops Q rest (a.put o.dst v') w') : wpList Try.prog ops Q (o :: rest) a w :=
  wpList_plain hgd fun K hK => by
    obtain ⟨v', w', hr, h2, h3, h4⟩ := run_app B w o.type v xs hrow ao m c (xof ys) hsl.2.2.1 hsl.2.2.2.2.2 hb hB
    rw [← hsl.1, bs_xof hsl.2.1] at h2
    unfold Oper.wp execOp
    simp only [ho, resolve, invoke, builtin, Sem.run_bind, Sem.run_pure, Result.andThen_ok, List.map_toArray, List.map_cons, List.map_nil, hs, hx, hr]
    exact hK _ _ (h v' w' h2 h3 h4)
theorem Mid.later {W : World} {ob : Nat} {C : Array Value} {t : TypeId} {wx wy : World} {v : Value} {ys : List Int} (h : Mid W ob C t wx v ys) (hb : Below wx.heap.size wx wy) : Mid W ob C t wy v ys :=
  ⟨h.row.later hb, h.bel.trans (hb.mono h.bel.size), (hb.block ob (Array.getElem?_eq_some_iff.1 h.blk).1).trans h.blk, h.ne⟩

set_option maxHeartbeats 4000000 in
set_option maxRecDepth 100000 in
theorem bapp_any {W w : World} {v : Value} {xs : List Int} {ka va : Option Addr} {kc vc U : Nat} {gone : Bool} {key vl : List Int} (hrow : Row W.heap.size w v xs) (hW : Below W.heap.size W w) (hk : Sl W ka key.length kc key) (hv : Sl W va vl.length vc vl)
    (hkl : key.length ≤ 512) (hvl : vl.length ≤ 2048) (hU : U ≤ 4611686018427387904) (hx : xs.length ≤ 2700 * 400 + 20) :
    Calls Try.prog 21 #[v, .agg #[.slice ka key.length kc, .bool gone, .int .i64 (U : Int), .slice va vl.length vc]] w fun e w' => ∃ v', e = .returned v' ∧ Row W.heap.size w' v' (xs ++ enO ⟨key, gone, (U : Int), vl⟩) ∧ Below W.heap.size W w' := by
  have HB : Hid (Sl W ka key.length kc key ∧ Sl W va vl.length vc vl ∧ key.length ≤ 512 ∧ vl.length ≤ 2048 ∧ xs.length ≤ 2700 * 400 + 20 ∧ U < 18446744073709551616) := ⟨hk, hv, hkl, hvl, hx, by omega⟩
  have HOK : Hid (Okb (lb key) ∧ Okb (lb vl) ∧ Okb (uv U)) := ⟨okb_lb hk.2.1, okb_lb hv.2.1, okb_uv _⟩
  have HKL : Hid ((lb key).length ≤ 522 ∧ (lb vl).length ≤ 2058 ∧ (uv U).length ≤ 10) := ⟨by rw [lb_len]; have := uv_len64 (n := key.length) (by omega); omega, by rw [lb_len]; have := uv_len64 (n := vl.length) (by omega); omega, uv_len64 (by omega)⟩
  have M0 : Hid (Mid W w.heap.size #[.slice ka key.length kc, .bool gone, .int .i64 (U : Int), .slice va vl.length vc] 42 (w.alloc (.cells #[.slice ka key.length kc, .bool gone, .int .i64 (U : Int), .slice va vl.length vc] 42)) v xs) :=
    ⟨hrow.later ((Below.refl _ w).alloc (Nat.le_refl _) _), hW.alloc hW.size _, heap_alloc_new w _, fun e => by have := (World.ownsRow.lt hrow _ e).2; omega⟩
  have HPK : Hid (∀ {wx : World}, Below W.heap.size W wx → Calls Try.prog 38 #[.slice none 0 0, .slice ka key.length kc] wx fun e w' => ∃ a c, e = .returned (.slice a (lb key).length c) ∧ Sl w' a (lb key).length c (lb key) ∧ Below wx.heap.size wx w') := fun {wx} hb => by
    refine (vpby_nil (HB.out.1.later hb) (by have := HB.out; omega)).mono ?_
    rintro e w' ⟨v', rfl, r, b⟩
    obtain ⟨a, c, rfl, hs⟩ := Sl.ofRow r HOK.out.1
    exact ⟨a, c, rfl, hs, b⟩
  have HPV : Hid (∀ {wx : World}, Below W.heap.size W wx → Calls Try.prog 38 #[.slice none 0 0, .slice va vl.length vc] wx fun e w' => ∃ a c, e = .returned (.slice a (lb vl).length c) ∧ Sl w' a (lb vl).length c (lb vl) ∧ Below wx.heap.size wx w') := fun {wx} hb => by
    refine (vpby_nil (HB.out.2.1.later hb) (by have := HB.out; omega)).mono ?_
    rintro e w' ⟨v', rfl, r, b⟩
    obtain ⟨a, c, rfl, hs⟩ := Sl.ofRow r HOK.out.2.1
    exact ⟨a, c, rfl, hs, b⟩
  have HPU : Hid (∀ {wx : World}, Calls Try.prog 20 #[.slice none 0 0, .int .u64 (U : Int)] wx fun e w' => ∃ a c, e = .returned (.slice a (uv U).length c) ∧ Sl w' a (uv U).length c (uv U) ∧ Below wx.heap.size wx w') := fun {wx} => by
    refine (vput_nil HB.out.2.2.2.2.2).mono ?_
    rintro e w' ⟨v', rfl, r, b⟩
    obtain ⟨a, c, rfl, hs⟩ := Sl.ofRow r HOK.out.2.2
    exact ⟨a, c, rfl, hs, b⟩
  have hkey63 : key.length ≤ 2 ^ 62 := by omega
  have hval63 : vl.length ≤ 2 ^ 62 := by omega
  have hU63 : U ≤ 2 ^ 63 - 1 := by omega
  generalize hKL : (lb key).length = kl at HPK HKL
  generalize hVL : (lb vl).length = ll at HPV HKL
  generalize hUL : (uv U).length = ul at HPU HKL
  have hLs : Hid ((lb key).length = kl ∧ (lb vl).length = ll ∧ (uv U).length = ul) := ⟨hKL, hVL, hUL⟩
  clear hrow hW hk hv hkl hvl hU hx hKL hVL hUL
  cases gone with
  | true =>
    go_enter Try.func21, Try.ntmps21
    go_wp2_with fail
    obtain ⟨z0, z1, z2, z3⟩ := M0.out.cells
    go_region_held_law (fun w' => w'.cell? ⟨w.heap.size, 0, none⟩ = some (.slice ka key.length kc)) (first | exact z0 | exact M7.cells.1 | exact M6.cells.1 | exact M5.cells.1 | exact (M0.out.drew.alloc _).cells.1) (first | (refine step_app1 (B := W.heap.size) (c := 1) rfl (.tmp 7) (.tmp 8) rfl rfl (M0.out.drew.alloc _).row rfl (by simp) (by omega) (by have := HB.out; omega) (M0.out.drew.alloc _).bel.size ?_; intro v5 w5 r5 g5 m5; have M5 := (M0.out.drew.alloc _).step g5 m5 r5) | (go_at_call 38; refine (HPK.out M5.bel).mono ?_; rintro e w6 ⟨a6, c6, rfl, s6, b6⟩; have M6 := M5.later b6) | (refine step_appl (B := W.heap.size) rfl (.tmp 9) (.tmp 12) rfl rfl M6.row rfl s6 (by have := HB.out; have := HKL.out; simp; omega) M6.bel.size ?_; intro v7 w7 r7 g7 m7; have M7 := M6.step g7 m7 r7))
    go_wp2_with fail
    refine bodyPost_ret (v := v7) (by simp [results, Try.results21, go_sem]) rfl ⟨v7, rfl, ?_, M7.bel⟩
    have := M7.row
    simpa [enO, flg] using this
  | false =>
    go_enter Try.func21, Try.ntmps21
    go_wp2_with fail
    obtain ⟨z0, z1, z2, z3⟩ := M0.out.cells
    go_region_held_law (fun w' => w'.cell? ⟨w.heap.size, 0, none⟩ = some (.slice ka key.length kc)) (first | exact z0 | exact M7.cells.1 | exact M6.cells.1 | exact M5.cells.1 | exact (M0.out.drew.alloc _).cells.1) (first | (refine step_app1 (B := W.heap.size) (c := 0) rfl (.tmp 14) (.tmp 15) rfl rfl (M0.out.drew.alloc _).row rfl (by simp) (by omega) (by have := HB.out; omega) (M0.out.drew.alloc _).bel.size ?_; intro v5 w5 r5 g5 m5; have M5 := (M0.out.drew.alloc _).step g5 m5 r5) | (go_at_call 38; refine (HPK.out M5.bel).mono ?_; rintro e w6 ⟨a6, c6, rfl, s6, b6⟩; have M6 := M5.later b6) | (refine step_appl (B := W.heap.size) rfl (.tmp 16) (.tmp 19) rfl rfl M6.row rfl s6 (by have := HB.out; have := HKL.out; simp; omega) M6.bel.size ?_; intro v7 w7 r7 g7 m7; have M7 := M6.step g7 m7 r7))
    obtain ⟨y0, y1, y2, y3⟩ := M7.cells
    have H7 : Hid (Mid W w.heap.size #[.slice ka key.length kc, .bool false, .int .i64 (U : Int), .slice va vl.length vc] 42 w7 v7 (xs ++ [0] ++ lb key)) := M7
    clear M5 M6 M7 r5 g5 m5 s6 b6 r7 g7 m7 M0 z0 z1 z2 z3 HPK
    go_wp2_with (first | (go_at_call 20; refine HPU.out.mono ?_; rintro e w8 ⟨a8, c8, rfl, s8, b8⟩) | (at_builtin; refine wpList_appl (B := W.heap.size) rfl (.tmp 21) (.tmp 25) rfl rfl (H7.out.later b8).row rfl s8 (by have := HB.out; have := HKL.out; have := hLs.out; simp; omega) (H7.out.later b8).bel.size ?_; intro v9 w9 r9 g9 m9; have M9 := (H7.out.later b8).step g9 m9 r9; obtain ⟨x0, x1, x2, x3⟩ := M9.cells) | (go_at_call 38; refine (HPV.out M9.bel).mono ?_; rintro e w10 ⟨a10, c10, rfl, s10, b10⟩) | (at_builtin; refine wpList_appl (B := W.heap.size) rfl (.tmp 27) (.tmp 30) rfl rfl (M9.later b10).row rfl s10 (by have := HB.out; have := HKL.out; have := hLs.out; simp; omega) (M9.later b10).bel.size ?_; intro v11 w11 r11 g11 m11))
    have M11 := (M9.later b10).step g11 m11 r11
    refine bodyPost_ret (v := v11) (by simp [results, Try.results21, go_sem]) rfl ⟨v11, rfl, ?_, M11.bel⟩
    have := M11.row
    simpa [enO, flg] using this

set_option maxHeartbeats 4000000 in
set_option maxRecDepth 100000 in
theorem benc_any {w : World} {ao : Option Addr} {len cap : Nat} {s : Int} {os : List OpV} (h : RS opE w ao len cap os) (hs : In64 s) :
    Calls Try.prog 10 #[.agg #[.int .i64 s, .slice ao len cap]] w fun e w' => ∃ v, e = .returned (.tuple #[v, .int .i64 (mayB s os : Nat)]) ∧ Row w.heap.size w' v (enV s os) ∧ Below w.heap.size w w' := by
  have hl := h.len
  have hl63 : len ≤ 2 ^ 63 - 1 := by have := hl.2; unfold maxLen at this; omega
  obtain ⟨W, hW⟩ : ∃ W, W = w.alloc (.cells #[.int .i64 s, .slice ao len cap] 24) := ⟨_, rfl⟩
  have hWb : Below w.heap.size w W := by rw [hW]; exact (Below.refl _ w).alloc (Nat.le_refl _) _
  have hWs : W.heap.size = w.heap.size + 1 := by rw [hW]; simp
  have x0 : W.cell? ⟨w.heap.size, 0, none⟩ = some (.int .i64 s) := by rw [hW, cell_of (heap_alloc_new w _)]; rfl
  have x1 : W.cell? ⟨w.heap.size, 1, none⟩ = some (.slice ao len cap) := by rw [hW, cell_of (heap_alloc_new w _)]; rfl
  have hmay := bmay_any (h.later hWb) hs
  unfold enV
  by_cases q : mayB s os = 0
  · rw [if_pos q, q]
    rw [q] at hmay
    have hok := mayB_ok q
    obtain ⟨S, rfl⟩ := Int.eq_ofNat_of_zero_le (by omega : 0 ≤ s)
    have hS : S ≤ 2 ^ 63 - 1 := by omega
    have HS : Hid (RS opE w ao len cap os ∧ (∀ o ∈ os, may1 o = 0) ∧ len ≤ 400 ∧ os.length = len ∧ W = w.alloc (.cells #[.int .i64 (S : Int), .slice ao len cap] 24) ∧ Below w.heap.size w W ∧ W.heap.size = w.heap.size + 1) := ⟨h, hok.2.2.2.2, by omega, hl.1, hW, hWb, hWs⟩
    have hln := hl.1
    have hu1 := uv_len64 (n := S) (by omega)
    have hu2 := uv_len64 (n := len) (by omega)
    have HU : Hid ((uv S).length ≤ 10 ∧ (uv len).length ≤ 10 ∧ S < 18446744073709551616 ∧ len < 18446744073709551616) := ⟨hu1, hu2, by omega, by omega⟩
    have hpB : w.heap.size < W.heap.size := by omega
    have HX : Hid (∀ wx, Below W.heap.size W wx → wx.cell? ⟨w.heap.size, 0, none⟩ = some (.int .i64 (S : Int)) ∧ wx.cell? ⟨w.heap.size, 1, none⟩ = some (.slice ao len cap)) := fun wx hb => ⟨cell_below hb hpB x0, cell_below hb hpB x1⟩
    have HP1 : Hid (∀ {wx : World}, Calls Try.prog 20 #[.slice none 0 0, .int .u64 (S : Int)] wx fun e w' => ∃ v, e = .returned v ∧ Row wx.heap.size w' v (uv S) ∧ Below wx.heap.size wx w') := fun {wx} => vput_nil HU.out.2.2.1
    have HP2 : Hid (∀ {wx : World}, Calls Try.prog 20 #[.slice none 0 0, .int .u64 (len : Int)] wx fun e w' => ∃ a c, e = .returned (.slice a (uv len).length c) ∧ Sl w' a (uv len).length c (uv len) ∧ Below wx.heap.size wx w') := fun {wx} => by
      refine (vput_nil HU.out.2.2.2).mono ?_
      rintro e w' ⟨v', rfl, r, b⟩
      obtain ⟨a, c, rfl, hs⟩ := Sl.ofRow r (okb_uv _)
      exact ⟨a, c, rfl, hs, b⟩
    have hl62 : len ≤ 2 ^ 62 := by omega
    rw [hW] at hmay
    clear h hl hl63 hok hs q hWb hWs hu1 hu2 hW hpB x0 x1
    go_enter Try.func10, Try.ntmps10
    go_upto_region 4 with (go_at_call 14; refine hmay.mono ?_; rintro e w2 ⟨rfl, hb2⟩; rw [← HS.out.2.2.2.2.1] at hb2; obtain ⟨y0, y1⟩ := HX.out _ hb2)
    have HB2 : Hid (Below W.heap.size W w2) := hb2
    clear hb2 hmay
    go_upto_region 5 with (go_at_call 20; refine HP1.out.mono ?_; rintro e w3 ⟨v3, rfl, r3, b3⟩)
    have B3 := HB2.out.trans (b3.mono HB2.out.size)
    obtain ⟨z0, z1⟩ := HX.out _ B3
    have R3 := r3.base HB2.out.size
    have HB3 : Hid (Row W.heap.size w3 v3 (uv S) ∧ Below W.heap.size W w3) := ⟨R3, B3⟩
    clear b3 B3 r3 R3 HP1 y0 y1 HB2
    go_wp2_with (first | (go_at_call 20; refine HP2.out.mono ?_; rintro e w4 ⟨a4, c4, rfl, s4, b4⟩) | (at_builtin; refine wpList_appl (B := W.heap.size) rfl (.tmp 17) (.tmp 22) rfl rfl (HB3.out.1.later b4) rfl s4 (by have := HU.out; omega) (Nat.le_trans HB3.out.2.size b4.size) ?_; intro v5 w5 r5 g5 m5; have B5 := (HB3.out.2.trans (b4.mono HB3.out.2.size)).trans (grown_below (HB3.out.1.later b4) g5 (Nat.le_trans HB3.out.2.size b4.size)); obtain ⟨y0, y1⟩ := HX.out _ B5))
    have H0 : Hid (Row W.heap.size w5 v5 (uv S ++ uv len ++ enOs (os.take 0)) ∧ Below W.heap.size W w5) := ⟨by show Row _ _ _ (uv S ++ uv len ++ []); rw [List.append_nil]; exact r5, B5⟩
    clear z0 z1 HP2 HB3 r5 g5 m5 B5 s4 b4
    go_loopg [5, 7, 27] len (fun g v _ i wr => ∃ k : Nat, k + g = len ∧ i = .int .i64 (k : Int) ∧ Hid (Row W.heap.size wr v (uv S ++ uv len ++ enOs (os.take k)) ∧ Below W.heap.size W wr))
    case atStart => exact ⟨0, by omega, rfl, H0⟩
    case round =>
      obtain ⟨k, hk, rfl, HK⟩ := hrel
      by_cases hkl : k < len
      · have hkl' : (k : Int) < (len : Int) := by omega
        have hko : k < os.length := by omega
        have hox := List.getElem?_eq_getElem hko
        obtain ⟨b, off, ka, kc, va, vc, rfl, d0', d1', d2', d3', k1, k2, k3⟩ := RS.op (HS.out.1.later HS.out.2.2.2.2.2.1) hox
        have hbW : b < W.heap.size := World.block_lt_of_cell? _ _ d0'
        have d0 := cell_below HK.out.2 hbW d0'
        have d1 := cell_below HK.out.2 hbW d1'
        have d2 := cell_below HK.out.2 hbW d2'
        have d3 := cell_below HK.out.2 hbW d3'
        have hm1 := HS.out.2.1 _ (List.getElem_mem hko)
        have het := enOs_take hox
        have hlen1 := enOs_len (os := os.take k) (fun o ho => HS.out.2.1 o (List.mem_of_mem_take ho))
        generalize os[k] = o at d0 d1 d2 d3 k1 k2 k3 hm1 het
        clear d0' d1' d2' d3' hbW hox
        have hmo := may1_ok hm1
        obtain ⟨key, gone, till, vl⟩ := o
        simp only at d0 d1 d2 d3 k1 k2 k3 hmo
        obtain ⟨U, rfl⟩ := Int.eq_ofNat_of_zero_le hmo.2.2.1
        obtain ⟨xs, hxs⟩ : ∃ xs, xs = uv S ++ uv len ++ enOs (os.take k) := ⟨_, rfl⟩
        have hxl : xs.length ≤ 2700 * 400 + 20 := by
          rw [hxs, List.length_append, List.length_append]
          have := HU.out
          have := HS.out.2.2.1
          rw [List.length_take] at hlen1
          have : min k os.length ≤ 400 := by omega
          omega
        have hrow : Row W.heap.size wr u5 xs := by rw [hxs]; exact HK.out.1
        have HE : Hid (uv S ++ uv len ++ enOs (os.take (k + 1)) = xs ++ enO ⟨key, gone, (U : Int), vl⟩) := by show _ = _; rw [het, hxs]; simp only [List.append_assoc]
        have hbw1 : Below wr.heap.size wr (wr.alloc (.cells #[.slice ka key.length kc, .bool gone, .int .i64 (U : Int), .slice va vl.length vc] 42)) := (Below.refl _ _).alloc (Nat.le_refl _) _
        have hap := bapp_any (gone := gone) (hrow.later hbw1) (HK.out.2.trans (hbw1.mono HK.out.2.size)) k1 k2 hmo.2.1 hmo.2.2.2.2.1 (by omega : U ≤ 4611686018427387904) hxl
        have hk62 : k ≤ 2 ^ 62 := by have := HS.out.2.2.1; omega
        have hkey63 : key.length ≤ 2 ^ 62 := by omega
        have hval63 : vl.length ≤ 2 ^ 62 := by omega
        have hU63 : U ≤ 2 ^ 63 - 1 := by omega
        obtain ⟨GK, HG⟩ : ∃ g, Hid (g < gk ∧ k + 1 + g = len) := ⟨gk - 1, by omega, by omega⟩
        clear hk het hlen1 hm1 hmo k1 k2 k3 hxl hxs HK hrow hbw1
        go_wp2_with (go_at_call 21; refine hap.mono ?_; rintro e w6 ⟨v6, rfl, r6, b6⟩)
        go_roundg GK
        case measure => exact HG.out.1
        case rel => exact ⟨k + 1, HG.out.2, by go_num, by rw [HE.out]; exact r6, b6⟩
      · have hkl' : (len : Int) ≤ (k : Int) := by omega
        obtain rfl : k = len := by omega
        have HF : Hid (Row w.heap.size wr u5 (enB (S : Int) os) ∧ Below w.heap.size w wr) := by
          have hsz := HS.out.2.2.2.2.2.2
          refine ⟨?_, HS.out.2.2.2.2.2.1.trans (HK.out.2.mono (by omega))⟩
          have := HK.out.1.base (show w.heap.size ≤ W.heap.size by omega)
          rw [← hln, List.take_length] at this
          unfold enB
          rw [show ((S : Int)).toNat = S by omega, ← List.append_assoc]
          exact this
        clear hk HK hkl
        go_wp2_with fail
        exact bodyPost_ret (v := .tuple #[u5, .int .i64 0]) (by simp [results, Try.results10, go_sem]) rfl ⟨u5, rfl, HF.out.1, HF.out.2⟩
  · rw [if_neg q]
    rw [hW] at hmay hWb
    obtain ⟨m, hm⟩ : ∃ m, m = mayB s os := ⟨_, rfl⟩
    rw [← hm] at hmay q ⊢
    have hne : ((m : Int) != 0) = true := by simp; omega
    have HB : Hid (Below w.heap.size w (w.alloc (.cells #[.int .i64 s, .slice ao len cap] 24))) := hWb
    clear h hl hs x0 x1 hWb hWs hm q hW
    go_enter Try.func10, Try.ntmps10
    go_wp2_with (go_at_call 14; refine hmay.mono ?_; rintro e w2 ⟨rfl, hb2⟩)
    exact bodyPost_ret (v := .tuple #[.slice none 0 0, .int .i64 (m : Nat)]) (by simp [results, Try.results10, go_sem]) rfl ⟨_, rfl, Row.nil _ _, HB.out.trans (hb2.mono HB.out.size)⟩
end Go.Proofs.Ytcielnkkbccldaa
