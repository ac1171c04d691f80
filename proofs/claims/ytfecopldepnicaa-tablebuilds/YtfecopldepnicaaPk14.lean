import Derived.Deep.RegionHeldLaw
import Derived.Test.YtfecopldepnicaaPk05
import Derived.Test.YtfecopldepnicaaPk06
import Derived.Test.YtfecopldepnicaaPk12
import Derived.Test.YtfecopldepnicaaPk13
/- What PutBytes makes, and the document's own. -/
namespace Go.Proofs.Ytfecopldepnicaa
open Go.RowKit
set_option linter.unusedVariables false

theorem pby_any (ao so : Option Addr) (len cap ls cs : Nat) (X S : Nat → Nat) (w : World) (hb : Byt w ao len X) (hnil : ao = none → len = 0 ∧ cap = 0) (hsb : Byt w so ls S) (hsnil : so = none → ls = 0 ∧ cs = 0) (hl : len + ls ≤ 140737488351232) :
    Calls Try.prog 89 #[.slice ao len cap, .slice so ls cs] w fun e w' => ∃ v', e = .returned v' ∧ Row w.heap.size w' v' (bs X len ++ uv ls ++ bs S ls) ∧ Below w.heap.size w w' := by
  have hf := fresh_any ao len cap (10 + ls) X w hb hnil (by omega) (by omega)
  have hu := uv_len64 (n := ls) (by omega)
  have hs : ∀ v w1, Row w.heap.size w1 v (bs X len) → Below w.heap.size w w1 → Calls Try.prog 103 #[v, .int .u64 (ls : Int)] w1 fun e w' => ∃ v', e = .returned v' ∧ Row w.heap.size w' v' (bs X len ++ uv ls) ∧ Below w.heap.size w w' := fun v w1 h1 h2 =>
    (sevs_any w.heap.size v (bs X len) ls w1 h1 h2.size (by rw [bs_length]; omega) (by omega)).mono fun e w' ⟨v', he, hr, hg, _⟩ => ⟨v', he, hr, h2.trans (grown_below h1 hg h2.size)⟩
  have HS : Hid (Byt w so ls S ∧ (so = none → ls = 0 ∧ cs = 0) ∧ (bs X len ++ uv ls).length + ls ≤ 140737488355328) := ⟨hsb, hsnil, by rw [List.length_append, bs_length]; omega⟩
  have hw1 : ls ≤ 2 ^ 63 - 11 := by omega
  have e10 : ((10 + ls : Nat) : Int) = 10 + (ls : Int) := by omega
  rw [e10] at hf
  clear hb hnil hsb hsnil hl hu e10
  go_enter Try.func89, Try.ntmps89
  go_wp2_with (first | (go_at_call 92; refine hf.mono ?_; rintro e w1 ⟨v1, rfl, hr1, hb1⟩) | (go_at_call 103; refine (hs _ _ hr1 hb1).mono ?_; rintro e w2 ⟨v2, rfl, hr2, hb2⟩) | (at_builtin; refine wpList_app rfl (.tmp 15) (.tmp 16) rfl w.heap.size v2 _ rfl hr2 so ls cs S rfl HS.out.2.1 (HS.out.1.later hb2) HS.out.2.2 hb2.size ?_; intro v3 w3 hr3 hg3 hm3))
  exact bodyPost_ret (v := v3) (by simp [results, Try.results89, go_sem]) rfl ⟨v3, rfl, hr3, hb2.trans (grown_below hr2 hg3 hb2.size)⟩

/-- What is read elsewhere, of a slice that the row does not lie in. -/
theorem rpby_any (B : Nat) (v : Value) (xs : List Int) (so : Option Addr) (ls cs : Nat) (S : Nat → Nat) (w W : World) (hrow : Row B w v xs) (hB : B ≤ w.heap.size) (hWB : W.heap.size ≤ B) (hW : Below W.heap.size W w) (hsb : Byt W so ls S) (hsnil : so = none → ls = 0 ∧ cs = 0) (hl : xs.length + ls ≤ 140737488351232) :
    Calls Try.prog 39 #[v, .slice so ls cs] w fun e w' => ∃ v', e = .returned v' ∧ Row B w' v' (xs ++ uv ls ++ bs S ls) ∧ w.grownBy w' v.ownBlock ∧ Moved w v v' := by
  have hu := uv_len64 (n := ls) (by omega)
  have hs := rput_any B v xs ls w hrow hB (by omega) (by omega)
  have HS : Hid (Byt W so ls S ∧ (so = none → ls = 0 ∧ cs = 0) ∧ (xs ++ uv ls).length + ls ≤ 140737488355328 ∧ Row B w v xs ∧ B ≤ w.heap.size ∧ W.heap.size ≤ B ∧ Below W.heap.size W w) := ⟨hsb, hsnil, by rw [List.length_append]; omega, hrow, hB, hWB, hW⟩
  have hw1 : ls ≤ 2 ^ 63 - 11 := by omega
  clear hrow hB hWB hW hsb hsnil hl hu
  go_enter Try.func39, Try.ntmps39
  go_wp2_with (first | (go_at_call 40; refine hs.mono ?_; rintro e w1 ⟨v1, rfl, hr1, hg1, hm1⟩) | (at_builtin; refine wpList_app rfl (.tmp 9) (.tmp 10) rfl B v1 _ rfl hr1 so ls cs S rfl HS.out.2.1 (HS.out.1.later (HS.out.2.2.2.2.2.2.trans ((grown_below HS.out.2.2.2.1 hg1 HS.out.2.2.2.2.1).mono HS.out.2.2.2.2.2.1))) HS.out.2.2.1 (Nat.le_trans HS.out.2.2.2.2.1 hg1.size) ?_; intro v3 w3 hr3 hg3 hm3))
  exact bodyPost_ret (v := v3) (by simp [results, Try.results39, go_sem]) rfl ⟨v3, rfl, hr3, grow_trans hg1 hm1 hg3, hm1.trans hm3 hg1.size⟩
end Go.Proofs.Ytfecopldepnicaa

/- The document's own Batch: a batch as bytes. -/
namespace Go.Proofs.Ytfecopldepnicaa
open Go.RowKit
set_option linter.unusedVariables false
set_option linter.unusedSimpArgs false

theorem undrew {w w2 : World} {r : Option Nat} (h : w.drew.grownBy w2 r) : w.grownBy w2 r := ⟨h.os, h.tape, h.output, h.size, h.block⟩
theorem Row.slice {B : Nat} {w : World} {v : Value} {xs : List Int} (h : Row B w v xs) : ∃ ao c, v = .slice ao xs.length c := by
  rcases h.2 with ⟨rfl, h0⟩ | ⟨g, cap, cur, rfl, _⟩
  · exact ⟨none, 0, by rw [h0]⟩
  · exact ⟨_, _, rfl⟩
theorem Row.drew {B : Nat} {w : World} {v : Value} {xs : List Int} (h : Row B w v xs) : Row B w.drew v xs := h
theorem wrap64u {n : Nat} (h : n < 18446744073709551616) : IntKind.u64.wrap (n : Int) = (n : Int) := by rw [IntKind.wrap_u64]; omega
/-- PutBytes of what was there at the beginning. -/
theorem rpb_l {W w : World} {B : Nat} {v : Value} {xs : List Int} {so : Option Addr} {ls cs : Nat} {rs : List Int} (hrow : Row B w v xs) (hWB : W.heap.size ≤ B) (hW : Below W.heap.size W w) (hB : B ≤ w.heap.size) (hs : Sl W so ls cs rs) (hl : xs.length + ls ≤ 140737488351232) :
    Calls Try.prog 39 #[v, .slice so ls cs] w fun e w' => ∃ v', e = .returned v' ∧ Row B w' v' (xs ++ lb rs) ∧ w.grownBy w' v.ownBlock ∧ Moved w v v' := by
  refine (rpby_any B v xs so ls cs (xof rs) w W hrow hB hWB hW hs.2.2.2.2.2 hs.2.2.1 hl).mono ?_
  rintro e w' ⟨v', rfl, h1, h2, h3⟩
  rw [← hs.1, bs_xof hs.2.1, List.append_assoc] at h1
  exact ⟨v', rfl, h1, h2, h3⟩
/-- One byte behind a row of one's own, as a step of a region that draws. -/
theorem step_app1 {ops : Array Oper} {w : World} {o : Oper} {a : Act} {K : Act → World → Prop} {Q : Exit → Act → World → Prop} {E : Prop} {B N : Nat} {v : Value} {xs : List Int} {c : Int} (hgd : o.guard = none) (s x : Operand)
    (ho : o.op = .call { callee := .builtin .append, args := #[s, x], argTypes := #[25, 25] }) (hs : a.eval s = v) (hrow : Row B w v xs) (hx : a.eval x = .slice (some ⟨N, 0, none⟩) 1 1) (hc : w.cell? ⟨N, 0, none⟩ = some (.int .u8 c)) (hc8 : 0 ≤ c ∧ c < 256) (hb : xs.length + 1 ≤ 140737488355328) (hB : B ≤ w.heap.size)
    (h : ∀ v' w', Row B w' v' (xs ++ [c]) → w.grownBy w' v.ownBlock → Moved w v v' → K (a.put o.dst v') w') :
    if Region.wanted o (yielded ops a.tmps) = true then Oper.wp Try.prog o a w K Q else E := by
  have hw : Region.wanted o (yielded ops a.tmps) = true := by simp [Region.wanted, hgd]
  rw [if_pos hw]
  obtain ⟨n, rfl⟩ := Int.eq_ofNat_of_zero_le hc8.1
  obtain ⟨v', w', hr, h2, h3, h4⟩ := run_app B w o.type v xs hrow (some ⟨N, 0, none⟩) 1 1 (fun _ => n) (fun e => by cases e) (fun k hk => by
    obtain rfl : k = 0 := by omega
    exact ⟨by show n < 256; omega, N, 0, rfl, hc⟩) hb hB
  unfold Oper.wp execOp
  simp only [ho, resolve, invoke, builtin, Sem.run_bind, Sem.run_pure, Result.andThen_ok, List.map_toArray, List.map_cons, List.map_nil, hs, hx, hr]
  exact h _ _ h2 h3 h4
/-- A row of one's own, beside a block that is read. -/
structure Mid (W : World) (ob : Nat) (C : Array Value) (t : TypeId) (wx : World) (v : Value) (ys : List Int) : Prop where
  row : Row W.heap.size wx v ys
  bel : Below W.heap.size W wx
  blk : wx.heap[ob]? = some (.cells C t (0, 0))
  ne : v.ownBlock ≠ some ob
theorem Mid.step {W : World} {ob : Nat} {C : Array Value} {t : TypeId} {wx wy : World} {v v' : Value} {ys zs : List Int} (h : Mid W ob C t wx v ys) (hg : wx.grownBy wy v.ownBlock) (hm : Moved wx v v') (hr : Row W.heap.size wy v' zs) : Mid W ob C t wy v' zs := by
  have hlt := (Array.getElem?_eq_some_iff.1 h.blk).1
  refine ⟨hr, h.bel.trans (grown_below h.row hg h.bel.size), (hg.block ob hlt (Ne.symm h.ne)).trans h.blk, ?_⟩
  rcases hm with q | ⟨g, q1, q2⟩
  · rw [q]; exact h.ne
  · rw [q1]
    intro e
    simp only [Option.some.injEq] at e
    omega
theorem Mid.alloc {W : World} {ob : Nat} {C : Array Value} {t : TypeId} {wx : World} {v : Value} {ys : List Int} (h : Mid W ob C t wx v ys) (o : Obj) : Mid W ob C t (wx.alloc o) v ys := by
  have hb : Below wx.heap.size wx (wx.alloc o) := (Below.refl _ wx).alloc (Nat.le_refl _) _
  exact ⟨h.row.later hb, h.bel.trans (hb.mono h.bel.size), (hb.block ob (Array.getElem?_eq_some_iff.1 h.blk).1).trans h.blk, h.ne⟩
theorem Mid.drew {W : World} {ob : Nat} {C : Array Value} {t : TypeId} {wx : World} {v : Value} {ys : List Int} (h : Mid W ob C t wx v ys) : Mid W ob C t wx.drew v ys := ⟨h.row, h.bel.drew, h.blk, h.ne⟩
theorem Mid.cells {W : World} {ob : Nat} {c0 c1 c2 c3 : Value} {t : TypeId} {wx : World} {v : Value} {ys : List Int} (h : Mid W ob #[c0, c1, c2, c3] t wx v ys) : wx.cell? ⟨ob, 0, none⟩ = some c0 ∧ wx.cell? ⟨ob, 1, none⟩ = some c1 ∧ wx.cell? ⟨ob, 2, none⟩ = some c2 ∧ wx.cell? ⟨ob, 3, none⟩ = some c3 :=
  ⟨by rw [cell_of h.blk]; rfl, by rw [cell_of h.blk]; rfl, by rw [cell_of h.blk]; rfl, by rw [cell_of h.blk]; rfl⟩
def enV (s : Int) (os : List OpV) : List Int := if mayB s os = 0 then enB s os else []
theorem enOs_take {os : List OpV} {k : Nat} {o : OpV} (h : os[k]? = some o) : enOs (os.take (k + 1)) = enOs (os.take k) ++ enO o := by
  obtain ⟨hk, rfl⟩ := List.getElem?_eq_some_iff.1 h
  rw [List.take_add_one, List.getElem?_eq_getElem hk, enOs_app]
  show _ ++ (enO os[k] ++ []) = _
  rw [List.append_nil]

end Go.Proofs.Ytfecopldepnicaa

/- The document's own Block: what it refuses. -/
namespace Go.Proofs.Ytfecopldepnicaa
open Go.RowKit
set_option linter.unusedVariables false
set_option linter.unusedSimpArgs false

set_option maxHeartbeats 4000000 in
set_option maxRecDepth 100000 in
theorem rblk_many {w : World} {ao : Option Addr} {len cap : Nat} (h : len = 0 ∨ 400 < len) (hl : len ≤ 2 ^ 61) :
    Calls Try.prog 38 #[.slice ao len cap] w fun e w' => e = .returned (.tuple #[.slice none 0 0, .int .i64 13]) ∧ Below w.heap.size w w' := by
  rcases h with h | h
  · subst h
    go_enter Try.func38, Try.ntmps38
    go_wp2_with fail
    exact bodyPost_ret (v := .tuple #[.slice none 0 0, .int .i64 13]) (by simp [results, Try.results38, go_sem]) rfl ⟨rfl, Below.refl _ _⟩
  · have h0 : ¬ ((len : Int) = 0) := by omega
    have h1 : (400 : Int) < (len : Int) := by omega
    go_enter Try.func38, Try.ntmps38
    go_wp2_with fail
    exact bodyPost_ret (v := .tuple #[.slice none 0 0, .int .i64 13]) (by simp [results, Try.results38, go_sem]) rfl ⟨rfl, Below.refl _ _⟩
theorem all_takeM {l : List EntV} {k : Nat} (h : ∀ j (hj : j < l.length), j < k → mayE l[j] = true) (hk : l.length ≤ k) : l.all mayE = true := by
  rw [List.all_eq_true]
  intro x hx
  obtain ⟨j, hj, rfl⟩ := List.getElem_of_mem hx
  exact h j hj (by omega)
set_option maxHeartbeats 4000000 in
set_option maxRecDepth 100000 in
theorem rblk_bad {w : World} {ao : Option Addr} {len cap : Nat} {l : List EntV} (h : RS entE w ao len cap l) (h1 : 1 ≤ len) (h4 : len ≤ 400) (hm : l.all mayE = false ∨ ordB l = false) {c : Int} (hc : c = if l.all mayE = false then 1 else 11) :
    Calls Try.prog 38 #[.slice ao len cap] w fun e w' => e = .returned (.tuple #[.slice none 0 0, .int .i64 c]) ∧ Below w.heap.size w w' := by
  have hl0 : ¬ ((len : Int) = 0) := by omega
  have hl4 : ¬ ((400 : Int) < (len : Int)) := by omega
  have hl62 : len ≤ 2 ^ 61 := by omega
  have hln : l.length = len := h.len.1
  have HS : Hid (RS entE w ao len cap l ∧ (l.all mayE = false ∨ ordB l = false) ∧ len ≤ 1000000) := ⟨h, hm, by omega⟩
  have HC := hid hc
  clear h hm h1 h4 hc
  go_enter Try.func38, Try.ntmps38
  go_wp2_with fail
  go_loopg [5, 21] len (fun g _ i wr => ∃ k : Nat, k + g = len ∧ i = .int .i64 (k : Int) ∧ Hid ((∀ j (hj : j < l.length), j < k → mayE l[j] = true) ∧ Below w.heap.size w wr))
  case atStart => exact ⟨0, by omega, rfl, fun j _ h => absurd h (by omega), Below.refl _ _⟩
  case round =>
    obtain ⟨k, hk, rfl, HK⟩ := hrel
    by_cases hkl : k < len
    · have hkl' : (k : Int) < (len : Int) := by omega
      have hkx : k < l.length := by omega
      have bel := HK.out.2
      obtain ⟨b, off, ka, kc, va, vc, rfl, d0, d1, d2, d3, d4, sk, sv, i1, i2⟩ := RS.ent (HS.out.1.later bel) (List.getElem?_eq_getElem hkx)
      have HN : Hid (mayE l[k] = false → l.all mayE = false) := fun q => List.all_eq_false.2 ⟨l[k], List.getElem_mem hkx, by rw [q]; decide⟩
      have HP : Hid (mayE l[k] = true → ∀ j (hj : j < l.length), j < k + 1 → mayE l[j] = true) := fun q j hj hjk => if e : j = k then by subst e; exact q else HK.out.1 j hj (by omega)
      generalize l[k] = o at d0 d1 d2 d3 d4 HN HP
      have hk62 : k ≤ 2 ^ 61 := by omega
      obtain ⟨GK, HG⟩ : ∃ g, Hid (g < gk ∧ k + 1 + g = len) := ⟨gk - 1, by omega, by omega⟩
      obtain ⟨W1, hW1⟩ : ∃ W1, W1 = wr.alloc (.cells #[.slice ka o.key.length kc, .int .i64 o.seq, .bool o.gone, .int .i64 o.till, .slice va o.val.length vc] 34) := ⟨_, rfl⟩
      have b1 : Below wr.heap.size wr W1 := by rw [hW1]; exact (Below.refl _ _).alloc (Nat.le_refl _) _
      have hbx : ∀ wx, Below W1.heap.size W1 wx → _ := fun wx hb => box_cells wr (.slice ka o.key.length kc) (.int .i64 o.seq) (.bool o.gone) (.int .i64 o.till) (.slice va o.val.length vc) 34 (wx := wx) (by rw [← hW1]; exact hb)
      have HBX := hid hbx
      have HBw : Hid (∀ wx, Below W1.heap.size W1 wx → Below w.heap.size w wx) := fun wx hb => bel.trans ((b1.trans (hb.mono b1.size)).mono bel.size)
      have HM1 : Hid (∀ wx, Calls Try.prog 35 #[entA ka kc va vc o] wx fun r w' => r = .returned (.bool (mayE o)) ∧ Below wx.heap.size wx w') := fun wx => rmayE_any
      have HW1 := hid hW1
      unfold entA at HM1
      clear sk sv i1 i2 hbx hW1 hk bel b1
      go_upto_region 6 with fail
      rw [← HW1.out]
      obtain ⟨y0, y1, y2, y3, y4⟩ := HBX.out _ (Below.refl _ _)
      clear d0 d1 d2 d3 d4
      cases hmo : mayE o with
      | true =>
        rw [hmo] at HM1
        go_wp2_with (go_at_call 35; refine (HM1.out _).mono ?_; rintro e w2 ⟨rfl, b2⟩)
        go_roundg GK
        case measure => exact HG.out.1
        case rel => exact ⟨k + 1, HG.out.2, by go_num, HP.out hmo, HBw.out _ b2⟩
      | false =>
        rw [hmo] at HM1
        go_wp2_with (go_at_call 35; refine (HM1.out _).mono ?_; rintro e w2 ⟨rfl, b2⟩)
        exact bodyPost_ret (v := .tuple #[.slice none 0 0, .int .i64 1]) (by simp [results, Try.results38, go_sem]) rfl ⟨by rw [HC.out, if_pos (HN.out hmo)], HBw.out _ b2⟩
    · have hkl' : (len : Int) ≤ (k : Int) := by omega
      have hall : l.all mayE = true := all_takeM HK.out.1 (by omega)
      have ho : ordB l = false := HS.out.2.1.resolve_left (by rw [hall]; decide)
      have hO := rord_any (HS.out.1.later HK.out.2) HS.out.2.2
      rw [ho] at hO
      have HA := hid hall
      clear hk hkl hall ho
      go_wp2_with (go_at_call 36; refine hO.mono ?_; rintro e w2 ⟨rfl, b2⟩)
      exact bodyPost_ret (v := .tuple #[.slice none 0 0, .int .i64 11]) (by simp [results, Try.results38, go_sem]) rfl ⟨by rw [HC.out, HA.out]; rfl, HK.out.2.trans (b2.mono HK.out.2.size)⟩
end Go.Proofs.Ytfecopldepnicaa
