/- What the landed batch's Entries answers. -/
import Derived.Test.YtcielnkkbccldaaLbmay
import Derived.Test.YtcielnkkbccldaaLbop
import Derived.Test.YtcielnkkbccldaaLbenc
import Derived.Test.YtcielnkkbccldaaBent
import Derived.Deep.RegionHeldLaw
namespace Go.Proofs.Ytcielnkkbccldaa
open Go.RowKit
set_option linter.unusedVariables false
set_option linter.unusedSimpArgs false

set_option maxHeartbeats 1000000 in
set_option maxRecDepth 100000 in
theorem clone_l {w : World} {ao : Option Addr} {len cap : Nat} {xs : List Int} (h : Sl w ao len cap xs) (hl : len ≤ 140737488355328) :
    Calls Try.prog 25 #[.slice ao len cap] w fun e w' => ∃ v, e = .returned v ∧ Row w.heap.size w' v xs ∧ Below w.heap.size w w' := by
  have q22 : ∀ (w : World) (a : Option Addr) (n c n' c' : Nat), (binOp .eql 27 (.slice a n c) (.slice none n' c')).run Try.prog w = .ok (.bool a.isNone) w := fun w a n c n' c' => Lib.run_eql_slice_nil w _ _ a n c n' c' Try.underlying27
  cases ao with
  | none =>
    obtain ⟨rfl, rfl⟩ := h.2.2.1 rfl
    have hx : xs = [] := List.eq_nil_of_length_eq_zero h.1
    subst hx
    clear h hl
    go_enter Try.func25, Try.ntmps25
    go_wp2_with fail
    exact bodyPost_ret (v := .slice none 0 0) (by simp [results, Try.results25, go_sem]) rfl ⟨_, rfl, Row.nil _ _, Below.refl _ _⟩
  | some a =>
    have b1 : Below w.heap.size w (w.alloc (.cells #[] 5)) := (Below.refl _ _).alloc (Nat.le_refl _) _
    have HS : Hid (Sl (w.alloc (.cells #[] 5)) (some a) len cap xs ∧ len ≤ 140737488355328 ∧ Below w.heap.size w (w.alloc (.cells #[] 5)) ∧ Row w.heap.size (w.alloc (.cells #[] 5)) (.slice (some ⟨w.heap.size, 0, none⟩) 0 0) []) := ⟨h.later b1, hl, b1, World.ownsRow_made w #[] 0 (Nat.le_refl _) (Nat.zero_le _) rfl⟩
    clear h hl b1
    go_enter Try.func25, Try.ntmps25
    go_wp2_with (at_builtin; refine wpList_appl (B := w.heap.size) rfl (.tmp 5) (.tmp 6) rfl rfl HS.out.2.2.2 rfl HS.out.1 (by have := HS.out.2.1; simp; omega) HS.out.2.2.1.size ?_; intro v2 w2 r2 g2 m2)
    exact bodyPost_ret (v := v2) (by simp [results, Try.results25, go_sem]) rfl ⟨v2, rfl, r2, HS.out.2.2.1.trans (grown_below HS.out.2.2.2 g2 HS.out.2.2.1.size)⟩

/-- An element behind a row of one's own, as a step of a region that draws. -/
theorem step_appS {α : Type} (E : El α) {t : TypeId} {z : Value} {bytes : Nat} (ht : Try.prog.underlying t = some (.slice E.ty)) (hinfo : (Try.prog.info? E.ty).map (fun i => (i.zero, i.size, i.bytes)) = some (some z, E.size, bytes)) (hz1 : z.cells.size = E.size) (hp : 0 < E.size)
    {ops : Array Oper} {w : World} {o : Oper} {a : Act} {K : Act → World → Prop} {Q : Exit → Act → World → Prop} {G : Prop} (hgd : o.guard = none) (s x : Operand)
    (ho : o.op = .call { callee := .builtin .append, args := #[s, x], argTypes := #[t, t] }) {B : Nat} {v : Value} {xs ys : List α} (hs : a.eval s = v) (hrow : RowS E B w v xs) {ao : Option Addr} {m c : Nat} {us : List Value} (hx : a.eval x = .slice ao m c)
    (hr : RSu E w ao m c us ys) (hsep : ∀ u ∈ us, ∀ b, Refs u b → v.ownBlock ≠ some b) (h63 : xs.length + m ≤ 140737488355328) (hb : (xs.length + m) * bytes ≤ 140737488355328) (hbase : B ≤ w.heap.size)
    (h : ∀ v' w', RowS E B w' v' (xs ++ ys) → w.grownBy w' v.ownBlock → Moved w v v' → K (a.put o.dst v') w') :
    if Region.wanted o (yielded ops a.tmps) = true then Oper.wp Try.prog o a w K Q else G := by
  have hw : Region.wanted o (yielded ops a.tmps) = true := by simp [Region.wanted, hgd]
  rw [if_pos hw]
  obtain ⟨v', w', hr, h2, h3, h4⟩ := run_appS E t z bytes ht hinfo hz1 hp o.type hrow hr hsep h63 hb hbase
  unfold Oper.wp execOp
  simp only [ho, resolve, invoke, builtin, Sem.run_bind, Sem.run_pure, Result.andThen_ok, List.map_toArray, List.map_cons, List.map_nil, hs, hx, hr]
  exact h _ _ h2 h3 h4
/-- A row of entries of one's own, beside a change that is read and a batch's number. -/
structure ME (W : World) (p ob : Nat) (s : Int) (C : Array Value) (wx : World) (v : Value) (xs : List EntV) : Prop where
  row : RowS entE W.heap.size wx v xs
  bel : Below W.heap.size W wx
  blk : wx.heap[ob]? = some (.cells C 42 (0, 0))
  ne : v.ownBlock ≠ some ob
  sq : wx.cell? ⟨p, 0, none⟩ = some (.int .i64 s)
theorem ME.later {W : World} {p ob : Nat} {s : Int} {C : Array Value} {wx wy : World} {v : Value} {xs : List EntV} (h : ME W p ob s C wx v xs) (hb : Below wx.heap.size wx wy) : ME W p ob s C wy v xs :=
  ⟨h.row.later hb, h.bel.trans (hb.mono h.bel.size), (hb.block ob (Array.getElem?_eq_some_iff.1 h.blk).1).trans h.blk, h.ne, cell_later hb h.sq⟩
theorem ME.alloc {W : World} {p ob : Nat} {s : Int} {C : Array Value} {wx : World} {v : Value} {xs : List EntV} (h : ME W p ob s C wx v xs) (o : Obj) : ME W p ob s C (wx.alloc o) v xs := h.later ((Below.refl _ wx).alloc (Nat.le_refl _) _)
theorem ME.drew {W : World} {p ob : Nat} {s : Int} {C : Array Value} {wx : World} {v : Value} {xs : List EntV} (h : ME W p ob s C wx v xs) : ME W p ob s C wx.drew v xs := h.later (Below.refl _ wx).drew
/-- What the region reads. -/
def Rdz (p ob : Nat) (s : Int) (c0 c1 c2 c3 : Value) (w : World) : Prop := w.cell? ⟨ob, 0, none⟩ = some c0 ∧ w.cell? ⟨ob, 1, none⟩ = some c1 ∧ w.cell? ⟨ob, 2, none⟩ = some c2 ∧ w.cell? ⟨ob, 3, none⟩ = some c3 ∧ w.cell? ⟨p, 0, none⟩ = some (.int .i64 s)
theorem ME.cells {W : World} {p ob : Nat} {s : Int} {c0 c1 c2 c3 : Value} {wx : World} {v : Value} {xs : List EntV} (h : ME W p ob s #[c0, c1, c2, c3] wx v xs) : wx.cell? ⟨ob, 0, none⟩ = some c0 ∧ wx.cell? ⟨ob, 1, none⟩ = some c1 ∧ wx.cell? ⟨ob, 2, none⟩ = some c2 ∧ wx.cell? ⟨ob, 3, none⟩ = some c3 ∧ wx.cell? ⟨p, 0, none⟩ = some (.int .i64 s) :=
  ⟨by rw [cell_of h.blk]; rfl, by rw [cell_of h.blk]; rfl, by rw [cell_of h.blk]; rfl, by rw [cell_of h.blk]; rfl, h.sq⟩
/-- The entry is put behind the others. -/
theorem ME.step {W : World} {p ob : Nat} {s : Int} {c0 c1 c2 c3 : Value} {wx wy : World} {v : Value} {xs : List EntV} (h : ME W p ob s #[c0, c1, c2, c3] wx v xs) (hp : p < W.heap.size) (hg : wx.grownBy wy v.ownBlock) : (wy.cell? ⟨ob, 0, none⟩ = some c0 ∧ wy.cell? ⟨ob, 1, none⟩ = some c1 ∧ wy.cell? ⟨ob, 2, none⟩ = some c2 ∧ wy.cell? ⟨ob, 3, none⟩ = some c3 ∧ wy.cell? ⟨p, 0, none⟩ = some (.int .i64 s)) ∧ Below W.heap.size W wy := by
  have e : wy.heap[ob]? = some (.cells #[c0, c1, c2, c3] 42 (0, 0)) := (hg.block ob (Array.getElem?_eq_some_iff.1 h.blk).1 (Ne.symm h.ne)).trans h.blk
  have hb := h.row.below hg h.bel.size
  exact ⟨⟨by rw [cell_of e]; rfl, by rw [cell_of e]; rfl, by rw [cell_of e]; rfl, by rw [cell_of e]; rfl, cell_below hb hp h.sq⟩, h.bel.trans hb⟩

set_option maxHeartbeats 4000000 in
set_option maxRecDepth 100000 in
theorem bents_any {w : World} {ao : Option Addr} {len cap : Nat} {s : Int} {os : List OpV} (h : RS opE w ao len cap os) (hs : In64 s) :
    Calls Try.prog 12 #[.agg #[.int .i64 s, .slice ao len cap]] w fun e w' => ∃ v, e = .returned (.tuple #[v, .int .i64 (mayB s os : Nat)]) ∧ RowS entE w.heap.size w' v (entV s os) ∧ Below w.heap.size w w' := by
  have hl := h.len
  have hl63 : len ≤ 2 ^ 63 - 1 := by have := hl.2; unfold maxLen at this; omega
  obtain ⟨W, hW⟩ : ∃ W, W = w.alloc (.cells #[.int .i64 s, .slice ao len cap] 24) := ⟨_, rfl⟩
  have hWb : Below w.heap.size w W := by rw [hW]; exact (Below.refl _ w).alloc (Nat.le_refl _) _
  have hWs : W.heap.size = w.heap.size + 1 := by rw [hW]; simp
  have x0 : W.cell? ⟨w.heap.size, 0, none⟩ = some (.int .i64 s) := by rw [hW, cell_of (heap_alloc_new w _)]; rfl
  have x1 : W.cell? ⟨w.heap.size, 1, none⟩ = some (.slice ao len cap) := by rw [hW, cell_of (heap_alloc_new w _)]; rfl
  have hmay := bmay_any (h.later hWb) hs
  unfold entV
  by_cases q : mayB s os = 0
  · rw [if_pos q, q]
    rw [q] at hmay
    have hok := mayB_ok q
    have HS : Hid (RS opE w ao len cap os ∧ len ≤ 400 ∧ W = w.alloc (.cells #[.int .i64 s, .slice ao len cap] 24) ∧ Below w.heap.size w W ∧ W.heap.size = w.heap.size + 1 ∧ 1 ≤ s ∧ s ≤ 4611686018427387904 ∧ ∀ o ∈ os, may1 o = 0) := ⟨h, by omega, hW, hWb, hWs, hok.2.2.1, by omega, hok.2.2.2.2⟩
    have hln := hl.1
    have hpB : w.heap.size < W.heap.size := by omega
    have HX : Hid (∀ wx, Below W.heap.size W wx → wx.cell? ⟨w.heap.size, 0, none⟩ = some (.int .i64 s) ∧ wx.cell? ⟨w.heap.size, 1, none⟩ = some (.slice ao len cap)) := fun wx hb => ⟨cell_below hb hpB x0, cell_below hb hpB x1⟩
    rw [hW] at hmay
    clear h hl hl63 hok hs q hWb hWs hW x0 x1
    go_enter Try.func12, Try.ntmps12
    obtain ⟨i0, hi, hz, hsize, hbytes⟩ := info_parts entE_info
    have hl62 : len ≤ 2 ^ 62 := by have := HS.out.2.1; omega
    go_wp2_with (first | (go_at_call 14; refine hmay.mono ?_; rintro e w2 ⟨rfl, hb2⟩; rw [← HS.out.2.2.1] at hb2; obtain ⟨y0, y1⟩ := HX.out _ hb2) | (at_make; refine wpList_make_own w2 rfl _ _ 31 rfl W.heap.size 46 i0 (.agg #[.slice none 0 0, .int .i64 0, .bool false, .int .i64 0, .slice none 0 0]) 5 Try.underlying31 hi hz hsize .i64 .i64 _ len rfl rfl (by omega) (by rw [hbytes]; have := HS.out.2.1; omega) (by have := HS.out.2.1; simp only [maxLen]; omega) hb2.size ?_; intro w3 hr3 hg3; have hb3 : Below W.heap.size W w3 := Below.grown hb2 hg3 hb2.size (fun k hk => by cases hk); obtain ⟨z0, z1⟩ := HX.out _ hb3))
    have H0 : Hid (RowS entE W.heap.size w3 (.slice (some ⟨w2.heap.size, 0, none⟩) 0 len) (ents s (os.take 0)) ∧ Below W.heap.size W w3) := ⟨⟨[], hr3, rfl, fun u hu => by cases hu⟩, hb3⟩
    clear hmay hb2 hb3 hr3 hg3 y0 y1
    go_loopg [5, 6, 7, 20] len (fun g v _ _ i wr => ∃ k : Nat, k + g = len ∧ i = .int .i64 (k : Int) ∧ Hid (RowS entE W.heap.size wr v (ents s (os.take k)) ∧ Below W.heap.size W wr))
    case atStart => exact ⟨0, by omega, rfl, H0⟩
    case round =>
      obtain ⟨k, hk, rfl, HK⟩ := hrel
      by_cases hkl : k < len
      · have hkl' : (k : Int) < (len : Int) := by omega
        have hko : k < os.length := by omega
        have hox := List.getElem?_eq_getElem hko
        obtain ⟨b, off, ka, kc, va, vc, rfl, e0, e1, e2, e3, l1, l2, k3⟩ := RS.op (HS.out.1.later HS.out.2.2.2.1) hox
        have hbW : b < W.heap.size := World.block_lt_of_cell? _ _ e0
        have d0 := cell_below HK.out.2 hbW e0
        have d1 := cell_below HK.out.2 hbW e1
        have d2 := cell_below HK.out.2 hbW e2
        have d3 := cell_below HK.out.2 hbW e3
        have k1 := l1.later HK.out.2
        have k2 := l2.later HK.out.2
        have hr0 := HK.out.1
        clear e0 e1 e2 e3
        obtain ⟨z0, z1⟩ := HX.out _ (HK.out.2.alloc HK.out.2.size (.cells #[.slice ka os[k].key.length kc, .bool os[k].gone, .int .i64 os[k].till, .slice va os[k].val.length vc] 42))
        have het := ents_take (s := s) hox
        have hm1 := HS.out.2.2.2.2.2.2.2 _ (List.getElem_mem hko)
        generalize os[k] = o at d0 d1 d2 d3 k1 k2 k3 het z0 z1 l1 l2 hm1
        have hmo := may1_ok hm1
        obtain ⟨key, gone, till, vl⟩ := o
        simp only at d0 d1 d2 d3 k1 k2 k3 het z0 z1 l1 l2 hmo
        have hin : In64 (s + (k : Int)) := ⟨by have := HS.out.2.2.2.2.2.1; omega, by have := HS.out.2.2.2.2.2.2.1; have := HS.out.2.1; omega⟩
        have hsk : IntKind.i64.wrap (s + (k : Int)) = s + (k : Int) := by rw [IntKind.wrap_i64]; have := HS.out.2.2.2.2.2.1; have := HS.out.2.2.2.2.2.2.1; have := HS.out.2.1; omega
        have hsk' : wrap64 (s + (k : Int)) = s + (k : Int) := by unfold wrap64; have := HS.out.2.2.2.2.2.1; have := HS.out.2.2.2.2.2.2.1; have := HS.out.2.1; omega
        have hb1 : Below wr.heap.size wr (wr.alloc (.cells #[.slice ka key.length kc, .bool gone, .int .i64 till, .slice va vl.length vc] 42)) := (Below.refl _ _).alloc (Nat.le_refl _) _
        have M0 : Hid (ME W w.heap.size wr.heap.size s #[.slice ka key.length kc, .bool gone, .int .i64 till, .slice va vl.length vc] (wr.alloc (.cells #[.slice ka key.length kc, .bool gone, .int .i64 till, .slice va vl.length vc] 42)) u5 (ents s (os.take k))) :=
          ⟨HK.out.1.later hb1, HK.out.2.trans (hb1.mono HK.out.2.size), heap_alloc_new wr _, fun e => by have := (HK.out.1.own_lt e).2; omega, z0⟩
        have hln400 : (ents s (os.take k)).length ≤ 400 := by rw [ents_len, List.length_take]; have := HS.out.2.1; omega
        have HL : Hid ((ents s (os.take k)).length ≤ 400 ∧ Sl W ka key.length kc key ∧ Sl W va vl.length vc vl ∧ key.length ≤ 512 ∧ vl.length ≤ 2048 ∧ w.heap.size < W.heap.size ∧ In64 (s + (k : Int)) ∧ In64 till ∧ ∀ b, u5.ownBlock = some b → b < wr.heap.size) := ⟨hln400, l1, l2, hmo.2.1, hmo.2.2.2.2.1, by have := HS.out.2.2.2.2.1; omega, hin, k3, fun b e => (HK.out.1.own_lt e).2⟩
        have HCK : Hid (∀ {wx : World} {v : Value} {xs : List EntV} {C : Array Value}, ME W w.heap.size wr.heap.size s C wx v xs → Calls Try.prog 25 #[.slice ka key.length kc] wx fun e w' => ∃ a c, e = .returned (.slice a key.length c) ∧ Sb wr.heap.size w' a c key ∧ Below wx.heap.size wx w') := fun {wx v xs C} M => by
          refine (clone_l (HL.out.2.1.later M.bel) (by have := HL.out; omega)).mono ?_
          rintro e w' ⟨v', rfl, r, b⟩
          obtain ⟨a, c, rfl, hs⟩ := sb_row r (Array.getElem?_eq_some_iff.1 M.blk).1 HL.out.2.1.2.1
          exact ⟨a, c, rfl, hs, b⟩
        have HCV : Hid (∀ {wx : World} {v : Value} {xs : List EntV} {C : Array Value}, ME W w.heap.size wr.heap.size s C wx v xs → Calls Try.prog 25 #[.slice va vl.length vc] wx fun e w' => ∃ a c, e = .returned (.slice a vl.length c) ∧ Sb wr.heap.size w' a c vl ∧ Below wx.heap.size wx w') := fun {wx v xs C} M => by
          refine (clone_l (HL.out.2.2.1.later M.bel) (by have := HL.out; omega)).mono ?_
          rintro e w' ⟨v', rfl, r, b⟩
          obtain ⟨a, c, rfl, hs⟩ := sb_row r (Array.getElem?_eq_some_iff.1 M.blk).1 HL.out.2.2.1.2.1
          exact ⟨a, c, rfl, hs, b⟩
        have HSK : Hid (IntKind.i64.wrap (s + (k : Int)) = s + (k : Int)) := hsk
        have HEN : Hid (∀ {wx : World} {a7 a8 : Option Addr} {c7 c8 : Nat}, Sb wr.heap.size wx a7 c7 key → Sb wr.heap.size wx a8 c8 vl → RSu entE (wx.alloc (.cells #[.slice a7 key.length c7, .int .i64 (IntKind.i64.wrap (s + (k : Int))), .bool gone, .int .i64 till, .slice a8 vl.length c8] 46)) (some ⟨wx.heap.size, 0, none⟩) 1 1 [.slice a7 key.length c7, .int .i64 (IntKind.i64.wrap (s + (k : Int))), .bool gone, .int .i64 till, .slice a8 vl.length c8] [⟨key, s + (k : Int), gone, till, vl⟩] ∧ ∀ u ∈ [Value.slice a7 key.length c7, .int .i64 (IntKind.i64.wrap (s + (k : Int))), .bool gone, .int .i64 till, .slice a8 vl.length c8], ∀ b, Refs u b → u5.ownBlock ≠ some b) := fun {wx a7 a8 c7 c8} h7 h8 => by
          rw [HSK.out]
          have hM : EntM wx [.slice a7 key.length c7, .int .i64 (s + (k : Int)), .bool gone, .int .i64 till, .slice a8 vl.length c8] ⟨key, s + (k : Int), gone, till, vl⟩ := ⟨a7, c7, a8, c8, rfl, h7.1, h8.1, HL.out.2.2.2.2.2.2.1, HL.out.2.2.2.2.2.2.2.1⟩
          refine ⟨rs_one (E := entE) hM, fun u hu b hr e => ?_⟩
          have hge := HL.out.2.2.2.2.2.2.2.2 b e
          simp only [List.mem_cons, List.not_mem_nil, or_false] at hu
          rcases hu with rfl | rfl | rfl | rfl | rfl
          · have := h7.2 b hr; omega
          · exact refs_int hr
          · exact refs_bool hr
          · exact refs_int hr
          · have := h8.2 b hr; omega
        have HT : Hid _ := Hid.mk' het
        have HLL : Hid ((ents s (os.take k)).length + 1 ≤ 140737488355328 ∧ ((ents s (os.take k)).length + 1) * 72 ≤ 140737488355328) := ⟨by omega, by omega⟩
        have hk62 : k ≤ 2 ^ 62 := by have := HS.out.2.1; omega
        have hkey63 : key.length ≤ 2 ^ 62 := by omega
        have hval63 : vl.length ≤ 2 ^ 62 := by omega
        obtain ⟨GK, HG⟩ : ∃ g, Hid (g < gk ∧ k + 1 + g = len) := ⟨gk - 1, by omega, by omega⟩
        obtain ⟨q0, q1, q2, q3, q4⟩ := M0.out.cells
        clear hk het hb1 hln400 HK k1 k2 k3 hox l1 l2 hr0 hin hbW hsk hmo z0 z1 hm1
        go_wp2_with fail
        go_region_held_law (fun w' => w'.cell? ⟨wr.heap.size, 0, none⟩ = some (.slice ka key.length kc) ∧ w'.cell? ⟨wr.heap.size, 1, none⟩ = some (.bool gone) ∧ w'.cell? ⟨wr.heap.size, 2, none⟩ = some (.int .i64 till) ∧ w'.cell? ⟨wr.heap.size, 3, none⟩ = some (.slice va vl.length vc) ∧ w'.cell? ⟨w.heap.size, 0, none⟩ = some (.int .i64 s)) (first | exact ⟨q0, q1, q2, q3, q4⟩ | exact S9 | exact (M6.alloc _).cells | exact M6.cells | exact M5.cells) (first | (go_at_call 25; refine (HCK.out M0.out.drew).mono ?_; rintro e w5 ⟨a5, c5, rfl, s5, b5⟩; have M5 := M0.out.drew.later b5) | (go_at_call 25; refine (HCV.out M5).mono ?_; rintro e w6 ⟨a6, c6, rfl, s6, b6⟩; have M6 := M5.later b6; have s5' := s5.later b6) | (refine step_appS (v := u5) entE (t := 31) (z := .agg #[.slice none 0 0, .int .i64 0, .bool false, .int .i64 0, .slice none 0 0]) (bytes := 72) Try.underlying31 entE_info rfl (by decide) (by rfl) (.tmp 25) (.tmp 41) (by rfl) (by rfl) (M6.alloc _).row (by rfl) (HEN.out s5' s6).1 (HEN.out s5' s6).2 HLL.out.1 HLL.out.2 (M6.alloc _).bel.size ?_; intro v9 w9 r9 g9 m9; obtain ⟨S9, B9⟩ := (M6.alloc _).step HL.out.2.2.2.2.2.1 g9))
        have HF : Hid (RowS entE W.heap.size w9 v9 (ents s (os.take (k + 1))) ∧ Below W.heap.size W w9) := ⟨by rw [HT.out]; exact r9, B9⟩
        clear r9 B9 S9 g9 m9 M5 M6 s5 s6 s5' b5 b6
        go_wp2_with fail
        go_roundg GK
        case measure => exact HG.out.1
        case rel => exact ⟨k + 1, HG.out.2, by go_num, HF⟩
      · have hkl' : (len : Int) ≤ (k : Int) := by omega
        obtain rfl : k = len := by omega
        have HF : Hid (RowS entE w.heap.size wr u5 (ents s os) ∧ Below w.heap.size w wr) := by
          have hsz := HS.out.2.2.2.2.1
          refine ⟨?_, HS.out.2.2.2.1.trans (HK.out.2.mono (by omega))⟩
          have := HK.out.1.base (show w.heap.size ≤ W.heap.size by omega)
          rw [← hln, List.take_length] at this
          exact this
        clear hk HK hkl
        go_wp2_with fail
        exact bodyPost_ret (v := .tuple #[u5, .int .i64 0]) (by simp [results, Try.results12, go_sem]) rfl ⟨u5, rfl, HF.out.1, HF.out.2⟩
  · rw [if_neg q]
    rw [hW] at hmay hWb
    obtain ⟨m, hm⟩ : ∃ m, m = mayB s os := ⟨_, rfl⟩
    rw [← hm] at hmay q ⊢
    have hne : ((m : Int) != 0) = true := by simp; omega
    have HB : Hid (Below w.heap.size w (w.alloc (.cells #[.int .i64 s, .slice ao len cap] 24))) := hWb
    clear h hl hs x0 x1 hWb hWs hm q hW
    go_enter Try.func12, Try.ntmps12
    go_wp2_with (go_at_call 14; refine hmay.mono ?_; rintro e w2 ⟨rfl, hb2⟩)
    exact bodyPost_ret (v := .tuple #[.slice none 0 0, .int .i64 (m : Nat)]) (by simp [results, Try.results12, go_sem]) rfl ⟨_, rfl, RowS.nil _ _, HB.out.trans (hb2.mono HB.out.size)⟩
end Go.Proofs.Ytcielnkkbccldaa
