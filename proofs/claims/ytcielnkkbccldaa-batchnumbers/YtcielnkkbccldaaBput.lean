/- The document's own Batch: a batch as bytes. -/
import Derived.Test.YtcielnkkbccldaaBel
import Derived.Test.YtcielnkkbccldaaRrd
import Derived.Test.YtcielnkkbccldaaPby
import Derived.Deep.RegionHeldLaw
namespace Go.Proofs.Ytcielnkkbccldaa
open Go.RowKit
set_option linter.unusedVariables false
set_option linter.unusedSimpArgs false

theorem undrew {w w2 : World} {r : Option Nat} (h : w.drew.grownBy w2 r) : w.grownBy w2 r := ⟨h.os, h.tape, h.output, h.size, h.block⟩
theorem Row.slice {B : Nat} {w : World} {v : Value} {xs : List Int} (h : Row B w v xs) : ∃ ao c, v = .slice ao xs.length c := by
  rcases h.2 with ⟨rfl, h0⟩ | ⟨g, cap, cur, rfl, _⟩
  · exact ⟨none, 0, by rw [h0]⟩
  · exact ⟨_, _, rfl⟩
theorem Row.drew {B : Nat} {w : World} {v : Value} {xs : List Int} (h : Row B w v xs) : Row B w.drew v xs := h
theorem wrap64u {n : Nat} (h : n < 18446744073709551616) : IntKind.u64.wrap (n : Int) = (n : Int) := by rw [IntKind.wrap_u64]; omega
/-- PutBytes of what was there at the beginning. -/
theorem rpb_l {W w : World} {B : Nat} {v : Value} {xs : List Int} {so : Option Addr} {ls cs : Nat} {rs : List Int} (hrow : Row B w v xs) (hWB : W.heap.size ≤ B) (hW : Below W.heap.size W w) (hB : B ≤ w.heap.size) (hs : Sl W so ls cs rs) (hl : xs.length + ls ≤ 140737488351232) :
    Calls Try.prog 23 #[v, .slice so ls cs] w fun e w' => ∃ v', e = .returned v' ∧ Row B w' v' (xs ++ lb rs) ∧ w.grownBy w' v.ownBlock ∧ Moved w v v' := by
  refine (rpby_any B v xs so ls cs (xof rs) w W hrow hB hWB hW hs.2.2.2.2.2 hs.2.2.1 hl).mono ?_
  rintro e w' ⟨v', rfl, h1, h2, h3⟩
  rw [← hs.1, bs_xof hs.2.1, List.append_assoc] at h1
  exact ⟨v', rfl, h1, h2, h3⟩
theorem rflag_one (g : Bool) (w : World) : Calls Try.prog 24 #[.bool g] w fun e w' => e = .returned (.int .u8 (flg g)) ∧ w' = w := by
  cases g with
  | true =>
    go_enter Try.func24, Try.ntmps24
    go_wp2_with fail
    exact bodyPost_ret (v := .int .u8 1) (by simp [results, Try.results24, go_sem]) rfl ⟨rfl, rfl⟩
  | false =>
    go_enter Try.func24, Try.ntmps24
    go_wp2_with fail
    exact bodyPost_ret (v := .int .u8 0) (by simp [results, Try.results24, go_sem]) rfl ⟨rfl, rfl⟩
/-- One byte behind a row of one's own, as a step of a region that draws. -/
theorem step_app1 {ops : Array Oper} {w : World} {o : Oper} {a : Act} {K : Act → World → Prop} {Q : Exit → Act → World → Prop} {E : Prop} {B N : Nat} {v : Value} {xs : List Int} {c : Int} (hgd : o.guard = none) (s x : Operand)
    (ho : o.op = .call { callee := .builtin .append, args := #[s, x], argTypes := #[27, 27] }) (hs : a.eval s = v) (hrow : Row B w v xs) (hx : a.eval x = .slice (some ⟨N, 0, none⟩) 1 1) (hc : w.cell? ⟨N, 0, none⟩ = some (.int .u8 c)) (hc8 : 0 ≤ c ∧ c < 256) (hb : xs.length + 1 ≤ 140737488355328) (hB : B ≤ w.heap.size)
    (h : ∀ v' w', Row B w' v' (xs ++ [c]) → w.grownBy w' v.ownBlock → Moved w v v' → K (a.put o.dst v') w') :
    if Region.wanted o (yielded ops a.tmps) = true then Oper.wp Try.prog o a w K Q else E := by
  have hw : Region.wanted o (yielded ops a.tmps) = true := by simp [Region.wanted, hgd]
  rw [if_pos hw]
  obtain ⟨n, rfl⟩ := Int.eq_ofNat_of_zero_le hc8.1
  obtain ⟨v', w', hr, h2, h3, h4⟩ := run_app B w o.type v xs hrow (some ⟨N, 0, none⟩) 1 1 (fun _ => n) (fun e => by cases e) (fun k hk => by
    obtain rfl : k = 0 := by omega
    exact ⟨by show n < 256; omega, N, 0, rfl, hc⟩) hb hB
  unfold Oper.wp execOp
  simp only [ho, resolve, invoke, builtin, Sem.run_bind, Sem.run_pure, Result.andThen_ok, List.map_toArray, List.map_cons, List.map_nil, hs, hx, hr]
  exact h _ _ h2 h3 h4
/-- A row of one's own, beside a block that is read. -/
structure Mid (W : World) (ob : Nat) (C : Array Value) (t : TypeId) (wx : World) (v : Value) (ys : List Int) : Prop where
  row : Row W.heap.size wx v ys
  bel : Below W.heap.size W wx
  blk : wx.heap[ob]? = some (.cells C t (0, 0))
  ne : v.ownBlock ≠ some ob
theorem Mid.step {W : World} {ob : Nat} {C : Array Value} {t : TypeId} {wx wy : World} {v v' : Value} {ys zs : List Int} (h : Mid W ob C t wx v ys) (hg : wx.grownBy wy v.ownBlock) (hm : Moved wx v v') (hr : Row W.heap.size wy v' zs) : Mid W ob C t wy v' zs := by
  have hlt := (Array.getElem?_eq_some_iff.1 h.blk).1
  refine ⟨hr, h.bel.trans (grown_below h.row hg h.bel.size), (hg.block ob hlt (Ne.symm h.ne)).trans h.blk, ?_⟩
  rcases hm with q | ⟨g, q1, q2⟩
  · rw [q]; exact h.ne
  · rw [q1]
    intro e
    simp only [Option.some.injEq] at e
    omega
theorem Mid.alloc {W : World} {ob : Nat} {C : Array Value} {t : TypeId} {wx : World} {v : Value} {ys : List Int} (h : Mid W ob C t wx v ys) (o : Obj) : Mid W ob C t (wx.alloc o) v ys := by
  have hb : Below wx.heap.size wx (wx.alloc o) := (Below.refl _ wx).alloc (Nat.le_refl _) _
  exact ⟨h.row.later hb, h.bel.trans (hb.mono h.bel.size), (hb.block ob (Array.getElem?_eq_some_iff.1 h.blk).1).trans h.blk, h.ne⟩
theorem Mid.drew {W : World} {ob : Nat} {C : Array Value} {t : TypeId} {wx : World} {v : Value} {ys : List Int} (h : Mid W ob C t wx v ys) : Mid W ob C t wx.drew v ys := ⟨h.row, h.bel.drew, h.blk, h.ne⟩
theorem Mid.cells {W : World} {ob : Nat} {c0 c1 c2 c3 : Value} {t : TypeId} {wx : World} {v : Value} {ys : List Int} (h : Mid W ob #[c0, c1, c2, c3] t wx v ys) : wx.cell? ⟨ob, 0, none⟩ = some c0 ∧ wx.cell? ⟨ob, 1, none⟩ = some c1 ∧ wx.cell? ⟨ob, 2, none⟩ = some c2 ∧ wx.cell? ⟨ob, 3, none⟩ = some c3 :=
  ⟨by rw [cell_of h.blk]; rfl, by rw [cell_of h.blk]; rfl, by rw [cell_of h.blk]; rfl, by rw [cell_of h.blk]; rfl⟩
def enV (s : Int) (os : List OpV) : List Int := if mayB s os = 0 then enB s os else []
theorem enOs_take {os : List OpV} {k : Nat} {o : OpV} (h : os[k]? = some o) : enOs (os.take (k + 1)) = enOs (os.take k) ++ enO o := by
  obtain ⟨hk, rfl⟩ := List.getElem?_eq_some_iff.1 h
  rw [List.take_add_one, List.getElem?_eq_getElem hk, enOs_app]
  show _ ++ (enO os[k] ++ []) = _
  rw [List.append_nil]

set_option maxHeartbeats 4000000 in
set_option maxRecDepth 100000 in
theorem rbatch_any {w : World} {ao : Option Addr} {len cap : Nat} {s : Int} {os : List OpV} (h : RS opE w ao len cap os) (hs : In64 s) :
    Calls Try.prog 11 #[.agg #[.int .i64 s, .slice ao len cap]] w fun e w' => ∃ v, e = .returned (.tuple #[v, .int .i64 (mayB s os : Nat)]) ∧ Row w.heap.size w' v (enV s os) ∧ Below w.heap.size w w' := by
  have hl := h.len
  have hl63 : len ≤ 2 ^ 63 - 1 := by have := hl.2; unfold maxLen at this; omega
  obtain ⟨W, hW⟩ : ∃ W, W = w.alloc (.cells #[.int .i64 s, .slice ao len cap] 24) := ⟨_, rfl⟩
  have hWb : Below w.heap.size w W := by rw [hW]; exact (Below.refl _ w).alloc (Nat.le_refl _) _
  have hWs : W.heap.size = w.heap.size + 1 := by rw [hW]; simp
  have x0 : W.cell? ⟨w.heap.size, 0, none⟩ = some (.int .i64 s) := by rw [hW, cell_of (heap_alloc_new w _)]; rfl
  have x1 : W.cell? ⟨w.heap.size, 1, none⟩ = some (.slice ao len cap) := by rw [hW, cell_of (heap_alloc_new w _)]; rfl
  have hmay := rmay_any (h.later hWb) hs
  unfold enV
  by_cases q : mayB s os = 0
  · rw [if_pos q, q]
    rw [q] at hmay
    have hok := mayB_ok q
    obtain ⟨S, rfl⟩ := Int.eq_ofNat_of_zero_le (by omega : 0 ≤ s)
    have hS : S ≤ 2 ^ 63 - 1 := by omega
    have HS : Hid (RS opE w ao len cap os ∧ (∀ o ∈ os, may1 o = 0) ∧ len ≤ 400 ∧ os.length = len ∧ W = w.alloc (.cells #[.int .i64 (S : Int), .slice ao len cap] 24) ∧ Below w.heap.size w W ∧ W.heap.size = w.heap.size + 1) := ⟨h, hok.2.2.2.2, by omega, hl.1, hW, hWb, hWs⟩
    have hln := hl.1
    have hu1 := uv_len64 (n := S) (by omega)
    have hu2 := uv_len64 (n := len) (by omega)
    have HU : Hid ((uv S).length ≤ 10 ∧ (uv len).length ≤ 10 ∧ S < 18446744073709551616 ∧ len < 18446744073709551616) := ⟨hu1, hu2, by omega, by omega⟩
    have x0' := x0
    have x1' := x1
    rw [hW] at x0' x1'
    rw [hW] at hmay
    clear h hl hl63 hok hs q hWb hWs hu1 hu2 hW
    go_enter Try.func11, Try.ntmps11
    go_wp2_with (go_at_call 15; refine hmay.mono ?_; rintro e w2 ⟨rfl, hb2⟩)
    rw [← HS.out.2.2.2.2.1] at hb2
    clear hmay x0' x1'
    have hpB : w.heap.size < W.heap.size := by have := HS.out.2.2.2.2.2.2; omega
    have z0 := cell_below hb2 hpB x0
    have z1 := cell_below hb2 hpB x1
    have HX : Hid (∀ wx, Below W.heap.size W wx → wx.cell? ⟨w.heap.size, 0, none⟩ = some (.int .i64 (S : Int)) ∧ wx.cell? ⟨w.heap.size, 1, none⟩ = some (.slice ao len cap)) := fun wx hb => ⟨cell_below hb hpB x0, cell_below hb hpB x1⟩
    have HP1 : Hid (∀ wx, Below W.heap.size W wx → Calls Try.prog 22 #[.slice none 0 0, .int .u64 (IntKind.u64.wrap (S : Int))] wx fun e w' => ∃ v', e = .returned v' ∧ Row W.heap.size w' v' (uv S) ∧ Below W.heap.size W w') := fun wx hb => by
      rw [wrap64u HU.out.2.2.1]
      refine (rput_any W.heap.size (.slice none 0 0) [] S wx (Row.nil _ _) hb.size (by have := HU.out; simp; omega) HU.out.2.2.1).mono ?_
      rintro e w' ⟨v', rfl, r, g, m⟩
      exact ⟨v', rfl, r, hb.trans (grown_below (Row.nil _ _) g hb.size)⟩
    have HP2 : Hid (∀ wx v, Row W.heap.size wx v (uv S) → Below W.heap.size W wx → Calls Try.prog 22 #[v, .int .u64 (IntKind.u64.wrap (len : Int))] wx fun e w' => ∃ v', e = .returned v' ∧ Row W.heap.size w' v' (uv S ++ uv len) ∧ Below W.heap.size W w') := fun wx v hr hb => by
      rw [wrap64u HU.out.2.2.2]
      refine (rput_any W.heap.size v (uv S) len wx hr hb.size (by have := HU.out; omega) HU.out.2.2.2).mono ?_
      rintro e w' ⟨v', rfl, r, g, m⟩
      exact ⟨v', rfl, r, hb.trans (grown_below hr g hb.size)⟩
    have HB2 : Hid (Below W.heap.size W w2) := hb2
    have hl62 : len ≤ 2 ^ 62 := by have := HS.out.2.2.1; omega
    clear hb2 x0 x1 hpB
    go_region_held_law (fun w' => w'.cell? ⟨w.heap.size, 0, none⟩ = some (.int .i64 (S : Int)) ∧ w'.cell? ⟨w.heap.size, 1, none⟩ = some (.slice ao len cap)) (first | exact ⟨z0, z1⟩ | exact HX.out _ b3 | exact HX.out _ b4) (first | (go_at_call 22; refine (HP2.out _ _ r3 b3).mono ?_; rintro e w4 ⟨v4, rfl, r4, b4⟩) | (go_at_call 22; refine (HP1.out _ (by exact HB2.out.drew)).mono ?_; rintro e w3 ⟨v3, rfl, r3, b3⟩))
    obtain ⟨y0, y1⟩ := HX.out _ b4
    have H0 : Hid (Row W.heap.size w4 v4 (uv S ++ uv len ++ enOs (os.take 0)) ∧ Below W.heap.size W w4) := ⟨by show Row _ _ _ (uv S ++ uv len ++ []); rw [List.append_nil]; exact r4, b4⟩
    clear z0 z1 HP1 HP2 HB2 r3 b3 r4 b4
    go_wp2_with fail
    go_loopg [5, 7, 25] len (fun g v _ i wr => ∃ k : Nat, k + g = len ∧ i = .int .i64 (k : Int) ∧ Hid (Row W.heap.size wr v (uv S ++ uv len ++ enOs (os.take k)) ∧ Below W.heap.size W wr))
    case atStart => exact ⟨0, by omega, rfl, H0⟩
    case round =>
      obtain ⟨k, hk, rfl, HK⟩ := hrel
      by_cases hkl : k < len
      · have hkl' : (k : Int) < (len : Int) := by omega
        have hko : k < os.length := by omega
        have hox := List.getElem?_eq_getElem hko
        have hWx : Below w.heap.size w wr := HS.out.2.2.2.2.2.1.trans (HK.out.2.mono (by have := HS.out.2.2.2.2.2.2; omega))
        obtain ⟨b, off, ka, kc, va, vc, rfl, d0, d1, d2, d3, _, _, _⟩ := RS.op (HS.out.1.later hWx) hox
        obtain ⟨b', off', ka', kc', va', vc', e', d0', d1', d2', d3', k1, k2, k3⟩ := RS.op (HS.out.1.later HS.out.2.2.2.2.2.1) hox
        simp only [Option.some.injEq, Addr.mk.injEq, and_true] at e'
        obtain ⟨rfl, rfl⟩ := e'
        have hbW : b < W.heap.size := World.block_lt_of_cell? _ _ d0'
        have t0 := cell_below HK.out.2 hbW d0'
        have t3 := cell_below HK.out.2 hbW d3'
        rw [d0] at t0
        rw [d3] at t3
        simp only [Option.some.injEq, Value.slice.injEq, true_and] at t0 t3
        obtain ⟨rfl, rfl⟩ := t0
        obtain ⟨rfl, rfl⟩ := t3
        have hm1 := HS.out.2.1 _ (List.getElem_mem hko)
        have het := enOs_take hox
        have hlen1 := enOs_len (os := os.take k) (fun o ho => HS.out.2.1 o (List.mem_of_mem_take ho))
        generalize os[k] = o at d0 d1 d2 d3 k1 k2 k3 hm1 het
        clear d0' d1' d2' d3' hbW hox
        have hmo := may1_ok hm1
        obtain ⟨key, gone, till, vl⟩ := o
        simp only at d0 d1 d2 d3 k1 k2 k3 hmo
        obtain ⟨U, rfl⟩ := Int.eq_ofNat_of_zero_le hmo.2.2.1
        obtain ⟨xs, hxs⟩ : ∃ xs, xs = uv S ++ uv len ++ enOs (os.take k) := ⟨_, rfl⟩
        have hxl : xs.length ≤ 2700 * 400 + 20 := by
          rw [hxs, List.length_append, List.length_append]
          have := HU.out
          have := HS.out.2.2.1
          rw [List.length_take] at hlen1
          have : min k os.length ≤ 400 := by omega
          omega
        have hrow : Row W.heap.size wr u5 xs := by rw [hxs]; exact HK.out.1
        have HE : Hid (uv S ++ uv len ++ enOs (os.take (k + 1)) = xs ++ enO ⟨key, gone, (U : Int), vl⟩) := by show _ = _; rw [het, hxs]; simp only [List.append_assoc]
        have HB : Hid (Below W.heap.size W wr ∧ xs.length ≤ 2700 * 400 + 20 ∧ Sl W ka key.length kc key ∧ Sl W va vl.length vc vl ∧ key.length ≤ 512 ∧ vl.length ≤ 2048 ∧ U < 18446744073709551616) := ⟨HK.out.2, hxl, k1, k2, hmo.2.1, hmo.2.2.2.2.1, by omega⟩
        have hk62 : k ≤ 2 ^ 62 := by have := HS.out.2.2.1; omega
        obtain ⟨GK, HG⟩ : ∃ g, Hid (g < gk ∧ k + 1 + g = len) := ⟨gk - 1, by omega, by omega⟩
        have M0 : Hid (Mid W wr.heap.size #[.slice ka key.length kc, .bool gone, .int .i64 (U : Int), .slice va vl.length vc] 42 (wr.alloc (.cells #[.slice ka key.length kc, .bool gone, .int .i64 (U : Int), .slice va vl.length vc] 42)) u5 xs) :=
          ⟨hrow.later ((Below.refl _ wr).alloc (Nat.le_refl _) _), HK.out.2.alloc HK.out.2.size _, heap_alloc_new wr _, fun e => by have := (World.ownsRow.lt hrow _ e).2; omega⟩
        have HPB : Hid (∀ {wx : World} {v : Value} {ys : List Int} {C : Array Value}, Mid W wr.heap.size C 42 wx v ys → ys.length ≤ 2700 * 400 + 3000 → Calls Try.prog 23 #[v, .slice ka key.length kc] wx fun e w' => ∃ v', e = .returned v' ∧ Mid W wr.heap.size C 42 w' v' (ys ++ lb key)) := fun {wx v ys C} hM hy => by
          refine (rpb_l hM.row (Nat.le_refl _) hM.bel hM.bel.size HB.out.2.2.1 (by have := HB.out; omega)).mono ?_
          rintro e w' ⟨v', rfl, r, g, m⟩
          exact ⟨v', rfl, hM.step g m r⟩
        have HPV : Hid (∀ {wx : World} {v : Value} {ys : List Int} {C : Array Value}, Mid W wr.heap.size C 42 wx v ys → ys.length ≤ 2700 * 400 + 3000 → Calls Try.prog 23 #[v, .slice va vl.length vc] wx fun e w' => ∃ v', e = .returned v' ∧ Mid W wr.heap.size C 42 w' v' (ys ++ lb vl)) := fun {wx v ys C} hM hy => by
          refine (rpb_l hM.row (Nat.le_refl _) hM.bel hM.bel.size HB.out.2.2.2.1 (by have := HB.out; omega)).mono ?_
          rintro e w' ⟨v', rfl, r, g, m⟩
          exact ⟨v', rfl, hM.step g m r⟩
        have HPU : Hid (∀ {wx : World} {v : Value} {ys : List Int} {C : Array Value}, Mid W wr.heap.size C 42 wx v ys → ys.length ≤ 2700 * 400 + 3000 → Calls Try.prog 22 #[v, .int .u64 (IntKind.u64.wrap (U : Int))] wx fun e w' => ∃ v', e = .returned v' ∧ Mid W wr.heap.size C 42 w' v' (ys ++ uv U)) := fun {wx v ys C} hM hy => by
          rw [wrap64u HB.out.2.2.2.2.2.2]
          refine (rput_any W.heap.size v ys U wx hM.row hM.bel.size (by have := uv_len64 HB.out.2.2.2.2.2.2; omega) HB.out.2.2.2.2.2.2).mono ?_
          rintro e w' ⟨v', rfl, r, g, m⟩
          exact ⟨v', rfl, hM.step g m r⟩
        have HKL : Hid ((lb key).length ≤ 522 ∧ (uv U).length ≤ 10) := ⟨by rw [lb_len]; have := uv_len64 (n := key.length) (by have := HB.out; omega); have := HB.out; omega, uv_len64 HB.out.2.2.2.2.2.2⟩
        have hkey63 : key.length ≤ 2 ^ 62 := by have := HB.out; omega
        have hval63 : vl.length ≤ 2 ^ 62 := by have := HB.out; omega
        have hU63 : U ≤ 2 ^ 63 - 1 := by omega
        obtain ⟨kl, hkl2⟩ : ∃ kl, Hid (kl = key.length) := ⟨_, rfl⟩
        clear hk het hlen1 hm1 hmo k1 k2 k3 hxl hxs HK hWx hrow
        have hflg := rflag_one gone
        have hf8 : 0 ≤ flg gone ∧ flg gone < 256 := by unfold flg; split <;> omega
        cases gone with
        | true =>
          go_wp2_with fail
          obtain ⟨z0, z1, z2, z3⟩ := M0.out.cells
          go_region_held_law (fun w' => w'.cell? ⟨wr.heap.size, 0, none⟩ = some (.slice ka key.length kc) ∧ w'.cell? ⟨wr.heap.size, 1, none⟩ = some (.bool true)) (first | exact ⟨z0, z1⟩ | exact ⟨M6.cells.1, M6.cells.2.1⟩ | exact ⟨M5.cells.1, M5.cells.2.1⟩ | exact ⟨(M0.out.drew.alloc _).cells.1, (M0.out.drew.alloc _).cells.2.1⟩) (first | (go_at_call 24; refine (hflg _).mono ?_; rintro e w5 ⟨rfl, hw⟩; obtain rfl := hw.symm) | (refine step_app1 (B := W.heap.size) rfl (.tmp 29) (.tmp 33) rfl rfl (M0.out.drew.alloc _).row rfl (by simp) hf8 (by have := HB.out; omega) (M0.out.drew.alloc _).bel.size ?_; intro v5 w5 r5 g5 m5; have M5 := (M0.out.drew.alloc _).step g5 m5 r5) | (go_at_call 23; refine (HPB.out M5 (by have := HB.out; simp; omega)).mono ?_; rintro e w6 ⟨v6, rfl, M6⟩))
          have HF : Hid (Row W.heap.size w6 v6 (uv S ++ uv len ++ enOs (os.take (k + 1))) ∧ Below W.heap.size W w6) := by
            refine ⟨?_, M6.bel⟩
            rw [HE.out]
            have := M6.row
            simpa [enO, flg] using this
          obtain ⟨t0, t1, t2, t3⟩ := M6.cells
          clear M5 M6 r5 g5 m5 M0
          go_wp2_with fail
          go_roundg GK
          case measure => exact HG.out.1
          case rel => exact ⟨k + 1, HG.out.2, by go_num, HF⟩
        | false =>
          go_wp2_with fail
          obtain ⟨z0, z1, z2, z3⟩ := M0.out.cells
          go_region_held_law (fun w' => w'.cell? ⟨wr.heap.size, 0, none⟩ = some (.slice ka key.length kc) ∧ w'.cell? ⟨wr.heap.size, 1, none⟩ = some (.bool false)) (first | exact ⟨z0, z1⟩ | exact ⟨M6.cells.1, M6.cells.2.1⟩ | exact ⟨M5.cells.1, M5.cells.2.1⟩ | exact ⟨(M0.out.drew.alloc _).cells.1, (M0.out.drew.alloc _).cells.2.1⟩) (first | (go_at_call 24; refine (hflg _).mono ?_; rintro e w5 ⟨rfl, hw⟩; obtain rfl := hw.symm) | (refine step_app1 (B := W.heap.size) rfl (.tmp 29) (.tmp 33) rfl rfl (M0.out.drew.alloc _).row rfl (by simp) hf8 (by have := HB.out; omega) (M0.out.drew.alloc _).bel.size ?_; intro v5 w5 r5 g5 m5; have M5 := (M0.out.drew.alloc _).step g5 m5 r5) | (go_at_call 23; refine (HPB.out M5 (by have := HB.out; simp; omega)).mono ?_; rintro e w6 ⟨v6, rfl, M6⟩))
          have HF6 : Hid (Mid W wr.heap.size #[.slice ka key.length kc, .bool false, .int .i64 (U : Int), .slice va vl.length vc] 42 w6 v6 (xs ++ [flg false] ++ lb key)) := M6
          obtain ⟨t0, t1, t2, t3⟩ := M6.cells
          clear M5 M6 r5 g5 m5 M0 z0 z1 z2 z3
          go_wp2_with fail
          go_region_held_law (fun w' => w'.cell? ⟨wr.heap.size, 2, none⟩ = some (.int .i64 (U : Int)) ∧ w'.cell? ⟨wr.heap.size, 3, none⟩ = some (.slice va vl.length vc)) (first | exact ⟨t2, t3⟩ | exact ⟨M8.cells.2.2.1, M8.cells.2.2.2⟩ | exact ⟨M7.cells.2.2.1, M7.cells.2.2.2⟩) (first | (go_at_call 23; refine (HPV.out M7 (by have := HB.out; have := HKL.out; simp; omega)).mono ?_; rintro e w8 ⟨v8, rfl, M8⟩) | (go_at_call 22; refine (HPU.out (HF6.out.drew) (by have := HB.out; have := HKL.out; simp; omega)).mono ?_; rintro e w7 ⟨v7, rfl, M7⟩))
          have HF : Hid (Row W.heap.size w8 v8 (uv S ++ uv len ++ enOs (os.take (k + 1))) ∧ Below W.heap.size W w8) := by
            refine ⟨?_, M8.bel⟩
            rw [HE.out]
            have := M8.row
            simpa [enO, flg] using this
          clear M7 M8 HF6
          go_wp2_with fail
          go_roundg GK
          case measure => exact HG.out.1
          case rel => exact ⟨k + 1, HG.out.2, by go_num, HF⟩
      · have hkl' : (len : Int) ≤ (k : Int) := by omega
        obtain rfl : k = len := by omega
        have HF : Hid (Row w.heap.size wr u5 (enB (S : Int) os) ∧ Below w.heap.size w wr) := by
          have hsz := HS.out.2.2.2.2.2.2
          refine ⟨?_, HS.out.2.2.2.2.2.1.trans (HK.out.2.mono (by omega))⟩
          have := HK.out.1.base (show w.heap.size ≤ W.heap.size by omega)
          rw [← hln, List.take_length] at this
          unfold enB
          rw [show ((S : Int)).toNat = S by omega, ← List.append_assoc]
          exact this
        clear hk HK hkl
        go_wp2_with fail
        exact bodyPost_ret (v := .tuple #[u5, .int .i64 0]) (by simp [results, Try.results11, go_sem]) rfl ⟨u5, rfl, HF.out.1, HF.out.2⟩
  · rw [if_neg q]
    rw [hW] at hmay hWb
    obtain ⟨m, hm⟩ : ∃ m, m = mayB s os := ⟨_, rfl⟩
    rw [← hm] at hmay q ⊢
    have hne : ((m : Int) != 0) = true := by simp; omega
    have HB : Hid (Below w.heap.size w (w.alloc (.cells #[.int .i64 s, .slice ao len cap] 24))) := hWb
    clear h hl hs x0 x1 hWb hWs hm q hW
    go_enter Try.func11, Try.ntmps11
    go_wp2_with (go_at_call 15; refine hmay.mono ?_; rintro e w2 ⟨rfl, hb2⟩)
    exact bodyPost_ret (v := .tuple #[.slice none 0 0, .int .i64 (m : Nat)]) (by simp [results, Try.results11, go_sem]) rfl ⟨_, rfl, Row.nil _ _, HB.out.trans (hb2.mono HB.out.size)⟩
end Go.Proofs.Ytcielnkkbccldaa
