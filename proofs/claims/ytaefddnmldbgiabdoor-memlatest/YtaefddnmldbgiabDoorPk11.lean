import Derived.Test.YtaefddnmldbgiabDoorPk07
import Derived.Test.YtaefddnmldbgiabDoorPk08
import Derived.Test.YtaefddnmldbgiabDoorPk10
/- The document's own SameOps, SameBatch, SameEntry, SameEntries, of what is the same. -/
namespace Go.Proofs.YtaefddnmldbgiabDoor
open Go.RowKit
set_option linter.unusedVariables false
set_option linter.unusedSimpArgs false

set_option maxHeartbeats 2000000 in
set_option maxRecDepth 100000 in
theorem rsameE1_eq {w : World} {ka kc va vc ka' kc' va' vc' : _} {key vl : List Int} {seq till : Int} {gone : Bool} (k1 : Sl w ka key.length kc key) (k2 : Sl w va vl.length vc vl) (l1 : Sl w ka' key.length kc' key) (l2 : Sl w va' vl.length vc' vl) :
    Calls Tryd.prog 22 #[.agg #[.slice ka key.length kc, .int .i64 seq, .bool gone, .int .i64 till, .slice va vl.length vc], .agg #[.slice ka' key.length kc', .int .i64 seq, .bool gone, .int .i64 till, .slice va' vl.length vc']] w fun e w' => e = .returned (.bool true) ∧ Below w.heap.size w w' := by
  have hbb : Below w.heap.size w ((w.alloc (.cells #[.slice ka key.length kc, .int .i64 seq, .bool gone, .int .i64 till, .slice va vl.length vc] 28)).alloc (.cells #[.slice ka' key.length kc', .int .i64 seq, .bool gone, .int .i64 till, .slice va' vl.length vc'] 28)) := ((Below.refl _ _).alloc (Nat.le_refl _) _).alloc (by simp) _
  have g1 := str_l (k1.later hbb)
  have g2 := str_l (k2.later hbb)
  have g3 := str_l (l1.later hbb)
  have g4 := str_l (l2.later hbb)
  have HB : Hid _ := hbb
  have n1 : ((strOfNums key).toList == (strOfNums key).toList) = true := by simp
  have n2 : ((strOfNums vl).toList == (strOfNums vl).toList) = true := by simp
  have n3 : (till == till) = true := by simp
  have n5 : (seq == seq) = true := by simp
  have n4 : (gone == gone) = true := by cases gone <;> rfl
  generalize strOfNums key = s1 at g1 g3 n1
  generalize strOfNums vl = s2 at g2 g4 n2
  clear k1 k2 l1 l2 hbb
  go_enter Tryd.func22, Tryd.ntmps22
  go_wp2_with fail
  exact bodyPost_ret (v := .bool true) (by simp [results, Tryd.results22, go_sem]) rfl ⟨rfl, HB.out⟩

set_option maxHeartbeats 4000000 in
set_option maxRecDepth 100000 in
theorem rsameE_eq {w : World} {a1 a2 : Option Addr} {len c1 c2 : Nat} {os : List EntV} (h1 : RS entE w a1 len c1 os) (h2 : RS entE w a2 len c2 os) :
    Calls Tryd.prog 11 #[.slice a1 len c1, .slice a2 len c2] w fun e w' => e = .returned (.bool true) ∧ Below w.heap.size w w' := by
  have hl := h1.len
  have hl63 : len ≤ 2 ^ 63 - 1 := by have := hl.2; unfold maxLen at this; omega
  have HS : Hid (RS entE w a1 len c1 os ∧ RS entE w a2 len c2 os) := ⟨h1, h2⟩
  have hln := hl.1
  have hne : ((len : Int) != (len : Int)) = false := by simp
  clear h1 h2 hl
  go_enter Tryd.func11, Tryd.ntmps11
  go_wp2_with fail
  go_loopg [5, 13] len (fun g _ i wr => ∃ k : Nat, k + g = len ∧ i = .int .i64 (k : Int) ∧ Hid (Below w.heap.size w wr))
  case atStart => exact ⟨0, by omega, rfl, Below.refl _ _⟩
  case round =>
    obtain ⟨k, hk, rfl, HK⟩ := hrel
    by_cases hkl : k < len
    · have hkl' : (k : Int) < (len : Int) := by omega
      have hko : k < os.length := by omega
      have hox := List.getElem?_eq_getElem hko
      obtain ⟨b, off, ka, kc, va, vc, rfl, d0, d1, d2, d3, d4, k1, k2, k3⟩ := RS.ent (HS.out.1.later HK.out) hox
      obtain ⟨b', off', ka', kc', va', vc', rfl, e0, e1, e2, e3, e4, l1, l2, l3⟩ := RS.ent (HS.out.2.later HK.out) hox
      generalize os[k] = o at d0 d1 d2 d3 d4 k1 k2 k3 e0 e1 e2 e3 e4 l1 l2 l3
      obtain ⟨key, seq, gone, till, vl⟩ := o
      simp only at d0 d1 d2 d3 d4 k1 k2 k3 e0 e1 e2 e3 e4 l1 l2 l3
      have hE := rsameE1_eq (seq := seq) (till := till) (gone := gone) (k1.drewN 1) (k2.drewN 1) (l1.drewN 1) (l2.drewN 1)
      have hk62 : k ≤ 2 ^ 63 - 2 := by omega
      obtain ⟨GK, HG⟩ : ∃ g, Hid (g < gk ∧ k + 1 + g = len) := ⟨gk - 1, by omega, by omega⟩
      generalize key.length = kl at d0 e0 hE
      generalize vl.length = ln at d4 e4 hE
      clear k1 k2 k3 l1 l2 l3 hk hox
      go_wp2_with fail
      go_region_held_law (fun w' => (w'.cell? ⟨b, off + k * 5, none⟩ = some (.slice ka kl kc) ∧ w'.cell? ⟨b, off + k * 5 + 1, none⟩ = some (.int .i64 seq) ∧ w'.cell? ⟨b, off + k * 5 + 2, none⟩ = some (.bool gone) ∧ w'.cell? ⟨b, off + k * 5 + 3, none⟩ = some (.int .i64 till) ∧ w'.cell? ⟨b, off + k * 5 + 4, none⟩ = some (.slice va ln vc)) ∧ (w'.cell? ⟨b', off' + k * 5, none⟩ = some (.slice ka' kl kc') ∧ w'.cell? ⟨b', off' + k * 5 + 1, none⟩ = some (.int .i64 seq) ∧ w'.cell? ⟨b', off' + k * 5 + 2, none⟩ = some (.bool gone) ∧ w'.cell? ⟨b', off' + k * 5 + 3, none⟩ = some (.int .i64 till) ∧ w'.cell? ⟨b', off' + k * 5 + 4, none⟩ = some (.slice va' ln vc'))) (first | exact ⟨⟨d0, d1, d2, d3, d4⟩, ⟨e0, e1, e2, e3, e4⟩⟩ | exact ⟨⟨cell_later hb5 d0, cell_later hb5 d1, cell_later hb5 d2, cell_later hb5 d3, cell_later hb5 d4⟩, ⟨cell_later hb5 e0, cell_later hb5 e1, cell_later hb5 e2, cell_later hb5 e3, cell_later hb5 e4⟩⟩) (first | (go_at_call 22; refine hE.mono ?_; rintro e w5 ⟨rfl, hb5⟩))
      have HW : Hid (Below w.heap.size w w5) := (below_drewN HK.out 1).trans (hb5.mono (below_drewN HK.out 1).size)
      clear hE hb5 HK
      go_wp2_with fail
      go_roundg GK
      case measure => exact HG.out.1
      case rel => exact ⟨k + 1, HG.out.2, by go_num, HW⟩
    · have hkl' : (len : Int) ≤ (k : Int) := by omega
      have HW : Hid (Below w.heap.size w wr) := HK.out
      clear hk HK
      go_wp2_with fail
      exact bodyPost_ret (v := .bool true) (by simp [results, Tryd.results11, go_sem]) rfl ⟨rfl, HW.out⟩
end Go.Proofs.YtaefddnmldbgiabDoor

/- The document's own Put: an entry into a row in order. -/
namespace Go.Proofs.YtaefddnmldbgiabDoor
open Go.RowKit
set_option linter.unusedVariables false
set_option linter.unusedSimpArgs false

/-- Where a row of structs begins that is cut at i. -/
def cutS (ao : Option Addr) (cap i sz : Nat) : Option Addr := if cap - i = 0 then ao else ao.map (fun a => a.add (i * sz))
theorem sliced_cutS (ao : Option Addr) (cap i j sz : Nat) (h : i ≤ cap) : sliced ao i j cap sz = .slice (cutS ao cap i sz) (j - i) (cap - i) := by
  unfold sliced cutS
  congr 1
  by_cases q : cap = i
  · rw [if_pos q, if_pos (by omega)]
  · rw [if_neg q, if_neg (by omega)]
theorem elem22 : Tryd.prog.elem 22 = 28 := by kernel_rfl
theorem under22 : Tryd.prog.underlying 22 = some (.slice (Tryd.prog.elem 22)) := by rw [elem22]; exact Tryd.underlying22
theorem run_headE (w : World) (ao : Option Addr) (len cap j : Nat) (h2 : j ≤ cap) : (Instr.slice 22 (.slice ao len cap) none (some (.int .i64 (j : Int))) none).run Tryd.prog w = .ok (.slice (cutS ao cap 0 5) j cap) w := by
  rw [run_slice_h (P := Tryd.prog) (w := w) 22 ao len cap under22 .i64 (j : Int) (by omega) (by omega), elem22, Tryd.sizeOf28]
  simp only [Result.andThen, Int.toNat_natCast]
  rw [sliced_cutS _ _ _ _ _ (by omega)]
  rfl
theorem run_fromE (w : World) (ao : Option Addr) (len cap i : Nat) (h1 : i ≤ len) (h2 : len ≤ cap) : (Instr.slice 22 (.slice ao len cap) (some (.int .i64 (i : Int))) none none).run Tryd.prog w = .ok (.slice (cutS ao cap i 5) (len - i) (cap - i)) w := by
  rw [run_slice_l (P := Tryd.prog) (w := w) 22 ao len cap under22 .i64 (i : Int) (by omega) (by omega), elem22, Tryd.sizeOf28]
  simp only [Result.andThen, Int.toNat_natCast]
  rw [sliced_cutS _ _ _ _ _ (by omega)]
/-- Elements appended to a row of one's own, where an order is drawn. -/
theorem step_appG {α : Type} (E : El α) {t : TypeId} {z : Value} {bytes : Nat} (ht : Tryd.prog.underlying t = some (.slice E.ty)) (hinfo : (Tryd.prog.info? E.ty).map (fun i => (i.zero, i.size, i.bytes)) = some (some z, E.size, bytes)) (hz1 : z.cells.size = E.size) (hp : 0 < E.size)
    {ops : Array Oper} {w : World} {o : Oper} {a : Act} {K : Act → World → Prop} {Q : Exit → Act → World → Prop} {EE : Prop} (hgd : o.guard = none) (s x : Operand)
    (ho : o.op = .call { callee := .builtin .append, args := #[s, x], argTypes := #[t, t] }) {B : Nat} {v : Value} {xs ys : List α} (hs : a.eval s = v) {G : Nat → Prop} (hrow : RowF E B G w v xs) {ao : Option Addr} {m c : Nat} (hx : a.eval x = .slice ao m c)
    (hr : RSG E G w ao m c ys) (hG : ∀ b, G b → b < B) (hb : (xs.length + m) * bytes ≤ 140737488355328) (h63 : xs.length + m ≤ 140737488355328) (hbase : B ≤ w.heap.size)
    (h : ∀ v' w', RowF E B G w' v' (xs ++ ys) → w.grownBy w' v.ownBlock → Below B w w' → K (a.put o.dst v') w') : if Region.wanted o (yielded ops a.tmps) = true then Oper.wp Tryd.prog o a w K Q else EE := by
  have hw : Region.wanted o (yielded ops a.tmps) = true := by simp [Region.wanted, hgd]
  rw [if_pos hw]
  obtain ⟨us, hru, hug⟩ := hr
  obtain ⟨v', w', hr, h2, h3, h4⟩ := run_appF E t z bytes ht hinfo hz1 hp o.type hrow hru (fun u hu b hrb e => by have := hG b (hug u hu b hrb); have := (hrow.own_lt e).1; omega) hug h63 hb hbase
  unfold Oper.wp execOp
  simp only [ho, resolve, invoke, builtin, Sem.run_bind, Sem.run_pure, Result.andThen_ok, List.map_toArray, List.map_cons, List.map_nil, hs, hx, hr]
  exact h _ _ h2 h3 (hrow.s.below h3 hbase)
theorem rsg_one {α : Type} {E : El α} {G : Nat → Prop} {w : World} {vs : List Value} {x : α} (h : E.M w vs x) (hg : ∀ u ∈ vs, ∀ b, Refs u b → G b) : RSG E G (w.alloc (.cells vs.toArray E.ty)) (some ⟨w.heap.size, 0, none⟩) 1 1 [x] := ⟨vs, rs_one h, hg⟩
theorem RowF.base {α : Type} {E : El α} {B B' : Nat} {F : Nat → Prop} {w : World} {v : Value} {xs : List α} (h : RowF E B F w v xs) (hB : B' ≤ B) : RowF E B' F w v xs := by
  obtain ⟨us, hown, h2, h3, h4⟩ := h
  refine ⟨us, ⟨hown.1, ?_⟩, h2, h3, h4⟩
  rcases hown.2 with q | ⟨g, cap, cur, q1, q2, q3⟩
  · exact .inl q
  · exact .inr ⟨g, cap, cur, q1, by omega, q3⟩
theorem below_nil {w w' : World} (h : w.grownBy w' (Value.slice none 0 0).ownBlock) : Below w.heap.size w w' := Below.grown (Below.refl _ w) h (Nat.le_refl _) (fun k hk => by cases hk)
theorem RowF.alloc {α : Type} {E : El α} {B : Nat} {F : Nat → Prop} {w : World} {v : Value} {xs : List α} (h : RowF E B F w v xs) (o : Obj) : RowF E B F (w.alloc o) v xs := h.later ((Below.refl _ _).alloc (Nat.le_refl _) _)

end Go.Proofs.YtaefddnmldbgiabDoor

/- The document's own List, Seen, Latest and Get. -/
namespace Go.Proofs.YtaefddnmldbgiabDoor
open Go.RowKit
set_option linter.unusedVariables false
set_option linter.unusedSimpArgs false

theorem wpList_appG {α : Type} (E : El α) {t : TypeId} {z : Value} {bytes : Nat} (ht : Tryd.prog.underlying t = some (.slice E.ty)) (hinfo : (Tryd.prog.info? E.ty).map (fun i => (i.zero, i.size, i.bytes)) = some (some z, E.size, bytes)) (hz1 : z.cells.size = E.size) (hp : 0 < E.size)
    {w : World} {ops : Array Oper} {rest : List Oper} {o : Oper} {a : Act} {Q : Exit → Act → World → Prop} (hgd : o.guard = none) (s x : Operand)
    (ho : o.op = .call { callee := .builtin .append, args := #[s, x], argTypes := #[t, t] }) {B : Nat} {v : Value} {xs ys : List α} (hs : a.eval s = v) {G : Nat → Prop} (hrow : RowF E B G w v xs) {ao : Option Addr} {m c : Nat} (hx : a.eval x = .slice ao m c)
    (hr : RSG E G w ao m c ys) (hG : ∀ b, G b → b < B) (hb : (xs.length + m) * bytes ≤ 140737488355328) (h63 : xs.length + m ≤ 140737488355328) (hbase : B ≤ w.heap.size)
    (h : ∀ v' w', RowF E B G w' v' (xs ++ ys) → Below B w w' → wpList Tryd.prog ops Q rest (a.put o.dst v') w') : wpList Tryd.prog ops Q (o :: rest) a w := by
  obtain ⟨us, hru, hug⟩ := hr
  exact wpList_appF E ht hinfo hz1 hp hgd s x ho hs hrow hx hru (fun u hu b hrb e => by have := hG b (hug u hu b hrb); have := (hrow.own_lt e).1; omega) hug h63 hb hbase fun v' w' h2 h3 _ => h v' w' h2 (hrow.s.below h3 hbase)
/-- An entry of a row that leans on G: its cells, and what they lean on. -/
theorem RSG.ent {G : Nat → Prop} {w : World} {ao : Option Addr} {len cap : Nat} {os : List EntV} (h : RSG entE G w ao len cap os) {i : Nat} {o : EntV} (hx : os[i]? = some o) :
    ∃ b off ka kc va vc, ao = some ⟨b, off, none⟩ ∧ w.cell? ⟨b, off + i * 5, none⟩ = some (.slice ka o.key.length kc) ∧ w.cell? ⟨b, off + i * 5 + 1, none⟩ = some (.int .i64 o.seq) ∧ w.cell? ⟨b, off + i * 5 + 2, none⟩ = some (.bool o.gone) ∧ w.cell? ⟨b, off + i * 5 + 3, none⟩ = some (.int .i64 o.till) ∧ w.cell? ⟨b, off + i * 5 + 4, none⟩ = some (.slice va o.val.length vc) ∧
      EntM w [.slice ka o.key.length kc, .int .i64 o.seq, .bool o.gone, .int .i64 o.till, .slice va o.val.length vc] o ∧ Sl w ka o.key.length kc o.key ∧ ∀ u ∈ [Value.slice ka o.key.length kc, .int .i64 o.seq, .bool o.gone, .int .i64 o.till, .slice va o.val.length vc], ∀ b, Refs u b → G b := by
  obtain ⟨us, ⟨h1, h2, h3, h4, h5, h6⟩, hg⟩ := h
  obtain ⟨vs, g1, gm, g2⟩ := h5.at hx
  have g1' := g1
  obtain ⟨ka, kc, va, vc, rfl, s1, s2, s3, s4⟩ := g1'
  obtain ⟨b, off, e, _⟩ := h6 _ _ (g2 0 _ rfl)
  have hc : ∀ (j : Nat) (v : Value), [Value.slice ka o.key.length kc, .int .i64 o.seq, .bool o.gone, .int .i64 o.till, .slice va o.val.length vc][j]? = some v → w.cell? ⟨b, off + (i * 5 + j), none⟩ = some v := fun j v hv => by
    obtain ⟨b', off', e', hc⟩ := h6 _ _ (g2 j v hv)
    rw [e] at e'
    simp only [Option.some.injEq, Addr.mk.injEq, and_true] at e'
    obtain ⟨rfl, rfl⟩ := e'
    exact hc
  exact ⟨b, off, ka, kc, va, vc, e, hc 0 _ rfl, hc 1 _ rfl, hc 2 _ rfl, hc 3 _ rfl, hc 4 _ rfl, g1, s1, fun u hu b hr => hg u (gm u hu) b hr⟩
theorem box_cells (w : World) (a b c d e : Value) (t : TypeId) {wx : World} (hb : Below (w.alloc (.cells #[a, b, c, d, e] t)).heap.size (w.alloc (.cells #[a, b, c, d, e] t)) wx) :
    wx.cell? ⟨w.heap.size, 0, none⟩ = some a ∧ wx.cell? ⟨w.heap.size, 1, none⟩ = some b ∧ wx.cell? ⟨w.heap.size, 2, none⟩ = some c ∧ wx.cell? ⟨w.heap.size, 3, none⟩ = some d ∧ wx.cell? ⟨w.heap.size, 4, none⟩ = some e := by
  refine ⟨cell_later hb ?_, cell_later hb ?_, cell_later hb ?_, cell_later hb ?_, cell_later hb ?_⟩ <;> rw [cell_of (heap_alloc_new w _)] <;> rfl

end Go.Proofs.YtaefddnmldbgiabDoor
