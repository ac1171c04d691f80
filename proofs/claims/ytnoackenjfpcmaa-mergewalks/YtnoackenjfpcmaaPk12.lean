import Derived.Test.YtnoackenjfpcmaaPk09
import Derived.Test.YtnoackenjfpcmaaPk11
/- The document's own Put: an entry into a row in order. -/
namespace Go.Proofs.Ytnoackenjfpcmaa
open Go.RowKit
set_option linter.unusedVariables false
set_option linter.unusedSimpArgs false

/-- Where a row of structs begins that is cut at i. -/
def cutS (ao : Option Addr) (cap i sz : Nat) : Option Addr := if cap - i = 0 then ao else ao.map (fun a => a.add (i * sz))
theorem sliced_cutS (ao : Option Addr) (cap i j sz : Nat) (h : i ≤ cap) : sliced ao i j cap sz = .slice (cutS ao cap i sz) (j - i) (cap - i) := by
  unfold sliced cutS
  congr 1
  by_cases q : cap = i
  · rw [if_pos q, if_pos (by omega)]
  · rw [if_neg q, if_neg (by omega)]
theorem elem27 : Try.prog.elem 27 = 35 := by kernel_rfl
theorem under27 : Try.prog.underlying 27 = some (.slice (Try.prog.elem 27)) := by rw [elem27]; exact Try.underlying27
theorem run_headE (w : World) (ao : Option Addr) (len cap j : Nat) (h2 : j ≤ cap) : (Instr.slice 27 (.slice ao len cap) none (some (.int .i64 (j : Int))) none).run Try.prog w = .ok (.slice (cutS ao cap 0 5) j cap) w := by
  rw [run_slice_h (P := Try.prog) (w := w) 27 ao len cap under27 .i64 (j : Int) (by omega) (by omega), elem27, Try.sizeOf35]
  simp only [Result.andThen, Int.toNat_natCast]
  rw [sliced_cutS _ _ _ _ _ (by omega)]
  rfl
theorem run_fromE (w : World) (ao : Option Addr) (len cap i : Nat) (h1 : i ≤ len) (h2 : len ≤ cap) : (Instr.slice 27 (.slice ao len cap) (some (.int .i64 (i : Int))) none none).run Try.prog w = .ok (.slice (cutS ao cap i 5) (len - i) (cap - i)) w := by
  rw [run_slice_l (P := Try.prog) (w := w) 27 ao len cap under27 .i64 (i : Int) (by omega) (by omega), elem27, Try.sizeOf35]
  simp only [Result.andThen, Int.toNat_natCast]
  rw [sliced_cutS _ _ _ _ _ (by omega)]
/-- Elements appended to a row of one's own, where an order is drawn. -/
theorem step_appG {α : Type} (E : El α) {t : TypeId} {z : Value} {bytes : Nat} (ht : Try.prog.underlying t = some (.slice E.ty)) (hinfo : (Try.prog.info? E.ty).map (fun i => (i.zero, i.size, i.bytes)) = some (some z, E.size, bytes)) (hz1 : z.cells.size = E.size) (hp : 0 < E.size)
    {ops : Array Oper} {w : World} {o : Oper} {a : Act} {K : Act → World → Prop} {Q : Exit → Act → World → Prop} {EE : Prop} (hgd : o.guard = none) (s x : Operand)
    (ho : o.op = .call { callee := .builtin .append, args := #[s, x], argTypes := #[t, t] }) {B : Nat} {v : Value} {xs ys : List α} (hs : a.eval s = v) {G : Nat → Prop} (hrow : RowF E B G w v xs) {ao : Option Addr} {m c : Nat} (hx : a.eval x = .slice ao m c)
    (hr : RSG E G w ao m c ys) (hG : ∀ b, G b → b < B) (hb : (xs.length + m) * bytes ≤ 140737488355328) (h63 : xs.length + m ≤ 140737488355328) (hbase : B ≤ w.heap.size)
    (h : ∀ v' w', RowF E B G w' v' (xs ++ ys) → w.grownBy w' v.ownBlock → Below B w w' → K (a.put o.dst v') w') : if Region.wanted o (yielded ops a.tmps) = true then Oper.wp Try.prog o a w K Q else EE := by
  have hw : Region.wanted o (yielded ops a.tmps) = true := by simp [Region.wanted, hgd]
  rw [if_pos hw]
  obtain ⟨us, hru, hug⟩ := hr
  obtain ⟨v', w', hr, h2, h3, h4⟩ := run_appF E t z bytes ht hinfo hz1 hp o.type hrow hru (fun u hu b hrb e => by have := hG b (hug u hu b hrb); have := (hrow.own_lt e).1; omega) hug h63 hb hbase
  unfold Oper.wp execOp
  simp only [ho, resolve, invoke, builtin, Sem.run_bind, Sem.run_pure, Result.andThen_ok, List.map_toArray, List.map_cons, List.map_nil, hs, hx, hr]
  exact h _ _ h2 h3 (hrow.s.below h3 hbase)
theorem rsg_one {α : Type} {E : El α} {G : Nat → Prop} {w : World} {vs : List Value} {x : α} (h : E.M w vs x) (hg : ∀ u ∈ vs, ∀ b, Refs u b → G b) : RSG E G (w.alloc (.cells vs.toArray E.ty)) (some ⟨w.heap.size, 0, none⟩) 1 1 [x] := ⟨vs, rs_one h, hg⟩
theorem RowF.base {α : Type} {E : El α} {B B' : Nat} {F : Nat → Prop} {w : World} {v : Value} {xs : List α} (h : RowF E B F w v xs) (hB : B' ≤ B) : RowF E B' F w v xs := by
  obtain ⟨us, hown, h2, h3, h4⟩ := h
  refine ⟨us, ⟨hown.1, ?_⟩, h2, h3, h4⟩
  rcases hown.2 with q | ⟨g, cap, cur, q1, q2, q3⟩
  · exact .inl q
  · exact .inr ⟨g, cap, cur, q1, by omega, q3⟩
theorem below_nil {w w' : World} (h : w.grownBy w' (Value.slice none 0 0).ownBlock) : Below w.heap.size w w' := Below.grown (Below.refl _ w) h (Nat.le_refl _) (fun k hk => by cases hk)
theorem RowF.alloc {α : Type} {E : El α} {B : Nat} {F : Nat → Prop} {w : World} {v : Value} {xs : List α} (h : RowF E B F w v xs) (o : Obj) : RowF E B F (w.alloc o) v xs := h.later ((Below.refl _ _).alloc (Nat.le_refl _) _)

set_option maxHeartbeats 4000000 in
set_option maxRecDepth 100000 in
/-- The row in which an entry stands where it belongs; its elements lean on what they leant on. -/
theorem rputE_any {w : World} {ao : Option Addr} {len cap : Nat} {l : List EntV} {G : Nat → Prop} {kb vb : Option Addr} {kd vd : Nat} {e : EntV} (h : RSG entE G w ao len cap l) (he : EntM w [.slice kb e.key.length kd, .int .i64 e.seq, .bool e.gone, .int .i64 e.till, .slice vb e.val.length vd] e) (hG : ∀ b, G b → b < w.heap.size) (heG : ∀ u ∈ [Value.slice kb e.key.length kd, .int .i64 e.seq, .bool e.gone, .int .i64 e.till, .slice vb e.val.length vd], ∀ b, Refs u b → G b) (hl : len ≤ 1000000) (ho : ordE l) :
    Calls Try.prog 24 #[.slice ao len cap, entA kb kd vb vd e] w fun r w' => Below w.heap.size w w' ∧ ((hasE l e = true ∧ r = .returned (.tuple #[.slice ao len cap, .bool false])) ∨ (hasE l e = false ∧ ∃ v, r = .returned (.tuple #[v, .bool true]) ∧ RowF entE w.heap.size G w' v (putE l e))) := by
  obtain ⟨W, hW⟩ : ∃ W, W = w.alloc (.cells #[.slice kb e.key.length kd, .int .i64 e.seq, .bool e.gone, .int .i64 e.till, .slice vb e.val.length vd] 35) := ⟨_, rfl⟩
  have b1 : Below w.heap.size w W := by rw [hW]; exact (Below.refl _ w).alloc (Nat.le_refl _) _
  have hWs : W.heap.size = w.heap.size + 1 := by rw [hW]; simp
  have hln : l.length = len := h.rs.len.1
  obtain ⟨_, _, _, _, ev, sk, sv, i1, i2⟩ := he
  simp only [List.cons.injEq, Value.slice.injEq, and_true, true_and] at ev
  obtain ⟨⟨rfl, rfl⟩, ⟨rfl, rfl⟩⟩ := ev
  have x0 : W.cell? ⟨w.heap.size, 0, none⟩ = some (.slice kb e.key.length kd) := by rw [hW]; simp
  have x1 : W.cell? ⟨w.heap.size, 1, none⟩ = some (.int .i64 e.seq) := by rw [hW]; simp
  have x2 : W.cell? ⟨w.heap.size, 2, none⟩ = some (.bool e.gone) := by rw [hW]; simp
  have x3 : W.cell? ⟨w.heap.size, 3, none⟩ = some (.int .i64 e.till) := by rw [hW]; simp
  have x4 : W.cell? ⟨w.heap.size, 4, none⟩ = some (.slice vb e.val.length vd) := by rw [hW]; simp
  have HX : Hid (∀ wx, Below W.heap.size W wx → wx.cell? ⟨w.heap.size, 0, none⟩ = some (.slice kb e.key.length kd) ∧ wx.cell? ⟨w.heap.size, 1, none⟩ = some (.int .i64 e.seq) ∧ wx.cell? ⟨w.heap.size, 2, none⟩ = some (.bool e.gone) ∧ wx.cell? ⟨w.heap.size, 3, none⟩ = some (.int .i64 e.till) ∧ wx.cell? ⟨w.heap.size, 4, none⟩ = some (.slice vb e.val.length vd)) := fun wx hb => ⟨cell_later hb x0, cell_later hb x1, cell_later hb x2, cell_later hb x3, cell_later hb x4⟩
  have HA : Hid (∀ (k : Nat) (hk : k < l.length) (ka va : Option Addr) (kc vc : Nat) wx, Below W.heap.size W wx → Sl wx ka l[k].key.length kc l[k].key → Calls Try.prog 22 #[entA ka kc va vc l[k], entA kb kd vb vd e] wx fun r w' => r = .returned (.int .i64 (ahead l[k] e)) ∧ Below wx.heap.size wx w') := fun k hk ka va kc vc wx hb hsl => rahead_any hsl ((sk.later b1).later hb)
  have HS : Hid (RSG entE G W ao len cap l ∧ Below w.heap.size w W ∧ len ≤ 1000000 ∧ ordE l ∧ W.heap.size = w.heap.size + 1 ∧ (∀ b, G b → b < w.heap.size)) := ⟨h.later b1, b1, hl, ho, hWs, hG⟩
  have HEM : Hid (∀ wx, Below W.heap.size W wx → EntM wx [.slice kb e.key.length kd, .int .i64 e.seq, .bool e.gone, .int .i64 e.till, .slice vb e.val.length vd] e) := fun wx hb => ⟨kb, kd, vb, vd, rfl, (sk.later b1).later hb, (sv.later b1).later hb, i1, i2⟩
  have HEG := hid heG
  have hcap : len ≤ cap := h.rs.len.2.1
  have HW := hid hW
  unfold entA at HA ⊢
  clear hW x0 x1 x2 x3 x4 heG sk sv i1 i2
  generalize e.key.length = kl2 at HX HA HEM HEG HW ⊢
  generalize e.val.length = ln2 at HX HA HEM HEG HW ⊢
  generalize e.seq = seq2 at HX HA HEM HEG HW ⊢
  generalize e.gone = gone2 at HX HA HEM HEG HW ⊢
  generalize e.till = till2 at HX HA HEM HEG HW ⊢
  obtain ⟨A, hA⟩ : ∃ A, A = atE l e := ⟨_, rfl⟩
  have hAle : A ≤ l.length := by rw [hA]; exact atE_le l e
  have HAB : Hid ((∀ k (hk : k < l.length), k < A → ahead l[k] e < 0) ∧ (∀ hk : A < l.length, ¬ ahead l[A] e < 0)) := ⟨fun k hk h => atE_before (by omega) hk, fun hk => by subst hA; exact atE_at hk⟩
  have HHA : Hid (A = atE l e) := hA
  have hl62 : len ≤ 2 ^ 62 := by omega
  have hAl : A ≤ len := by omega
  clear h b1 hG hl ho hWs hA
  go_enter Try.func24, Try.ntmps24
  go_upto_block 0 with fail
  rw [← HW.out]
  go_cut [6] from 7 to 21 (fun s6 wx => s6 = .int .i64 (A : Int) ∧ Hid (Below W.heap.size W wx))
  case first =>
    go_wp2_with fail
    go_loopg [6] len (fun g i wr => ∃ k : Nat, k + g = len ∧ i = .int .i64 (k : Int) ∧ Hid (k ≤ A ∧ Below W.heap.size W wr))
    case atStart => exact ⟨0, by omega, rfl, Nat.zero_le _, Below.refl _ _⟩
    case round =>
      obtain ⟨k, hk, rfl, HK⟩ := hrel
      by_cases hkl : k < len
      · have hkl' : (k : Int) < (len : Int) := by omega
        have hdl : decide ((k : Int) < (len : Int)) = true := by simpa using hkl'
        have hkx : k < l.length := by omega
        have hox := List.getElem?_eq_getElem hkx
        obtain ⟨b, off, ka, kc, va, vc, rfl, d0, d1, d2, d3, d4, k1, k2, k3⟩ := RS.ent (HS.out.1.rs.later HK.out.2) hox
        obtain ⟨y0, y1, y2, y3, y4⟩ := HX.out _ HK.out.2
        have hAk := HA.out k hkx ka va kc vc wr.drew HK.out.2.drew (k1.drewN 1)
        have HKB : Hid (∀ wx, Below wr.drew.heap.size wr.drew wx → Below W.heap.size W wx) := fun wx hb => HK.out.2.drew.trans (hb.mono HK.out.2.drew.size)
        have hlt : k < A ↔ ahead l[k] e < 0 := ⟨fun q => HAB.out.1 k hkx q, fun q => by
          rcases Nat.lt_or_ge k A with p | p
          · exact p
          · have : k = A := by have := HK.out.1; omega
            subst this
            have := HAB.out.2 hkx
            omega⟩
        generalize ahead l[k] e = c at hAk hlt
        generalize l[k] = o at d0 d1 d2 d3 d4 k1 k2 k3 hAk
        obtain ⟨key, seq, gone, till, vl⟩ := o
        simp only at d0 d1 d2 d3 d4 k1 k2 k3 hAk
        generalize key.length = kl at d0 hAk k1
        generalize vl.length = ln at d4 hAk k2
        have hk62 : k ≤ 2 ^ 61 := by have := HS.out.2.2.1; omega
        clear k1 k2 k3 hox
        by_cases hc : c < 0
        · have hc' : decide (c < 0) = true := by simpa using hc
          have HN : Hid (k + 1 ≤ A) := hlt.2 hc
          obtain ⟨GK, HG⟩ : ∃ g, Hid (g < gk ∧ k + 1 + g = len) := ⟨gk - 1, by omega, by omega⟩
          clear hlt hk
          go_wp2_with fail
          go_region_held_law (fun w' => (w'.cell? ⟨b, off + k * 5, none⟩ = some (.slice ka kl kc) ∧ w'.cell? ⟨b, off + k * 5 + 1, none⟩ = some (.int .i64 seq) ∧ w'.cell? ⟨b, off + k * 5 + 2, none⟩ = some (.bool gone) ∧ w'.cell? ⟨b, off + k * 5 + 3, none⟩ = some (.int .i64 till) ∧ w'.cell? ⟨b, off + k * 5 + 4, none⟩ = some (.slice va ln vc)) ∧ (w'.cell? ⟨w.heap.size, 0, none⟩ = some (.slice kb kl2 kd) ∧ w'.cell? ⟨w.heap.size, 1, none⟩ = some (.int .i64 seq2) ∧ w'.cell? ⟨w.heap.size, 2, none⟩ = some (.bool gone2) ∧ w'.cell? ⟨w.heap.size, 3, none⟩ = some (.int .i64 till2) ∧ w'.cell? ⟨w.heap.size, 4, none⟩ = some (.slice vb ln2 vd))) (first | exact ⟨⟨d0, d1, d2, d3, d4⟩, ⟨y0, y1, y2, y3, y4⟩⟩ | exact ⟨⟨cell_later hb5 d0, cell_later hb5 d1, cell_later hb5 d2, cell_later hb5 d3, cell_later hb5 d4⟩, ⟨cell_later hb5 y0, cell_later hb5 y1, cell_later hb5 y2, cell_later hb5 y3, cell_later hb5 y4⟩⟩) (first | (go_at_call 22; refine hAk.mono ?_; rintro e w5 ⟨rfl, hb5⟩))
          go_wp2_with fail
          go_roundg GK
          case measure => exact HG.out.1
          case rel => exact ⟨k + 1, HG.out.2, by go_num, HN.out, HKB.out _ hb5⟩
        · have hc' : decide (c < 0) = false := by simpa using hc
          have HN : Hid (k = A) := by have := HK.out.1; have : ¬ k < A := fun q => hc (hlt.1 q); show k = A; omega
          clear hlt hk
          go_wp2_with fail
          go_region_held_law (fun w' => (w'.cell? ⟨b, off + k * 5, none⟩ = some (.slice ka kl kc) ∧ w'.cell? ⟨b, off + k * 5 + 1, none⟩ = some (.int .i64 seq) ∧ w'.cell? ⟨b, off + k * 5 + 2, none⟩ = some (.bool gone) ∧ w'.cell? ⟨b, off + k * 5 + 3, none⟩ = some (.int .i64 till) ∧ w'.cell? ⟨b, off + k * 5 + 4, none⟩ = some (.slice va ln vc)) ∧ (w'.cell? ⟨w.heap.size, 0, none⟩ = some (.slice kb kl2 kd) ∧ w'.cell? ⟨w.heap.size, 1, none⟩ = some (.int .i64 seq2) ∧ w'.cell? ⟨w.heap.size, 2, none⟩ = some (.bool gone2) ∧ w'.cell? ⟨w.heap.size, 3, none⟩ = some (.int .i64 till2) ∧ w'.cell? ⟨w.heap.size, 4, none⟩ = some (.slice vb ln2 vd))) (first | exact ⟨⟨d0, d1, d2, d3, d4⟩, ⟨y0, y1, y2, y3, y4⟩⟩ | exact ⟨⟨cell_later hb5 d0, cell_later hb5 d1, cell_later hb5 d2, cell_later hb5 d3, cell_later hb5 d4⟩, ⟨cell_later hb5 y0, cell_later hb5 y1, cell_later hb5 y2, cell_later hb5 y3, cell_later hb5 y4⟩⟩) (first | (go_at_call 22; refine hAk.mono ?_; rintro e w5 ⟨rfl, hb5⟩))
          go_wp2_with fail
          go_meet
          exact ⟨by rw [HN.out], HKB.out _ hb5⟩
      · have hkl' : (len : Int) ≤ (k : Int) := by omega
        have hdl : decide ((k : Int) < (len : Int)) = false := by simp; omega
        have hdl2 : decide (k < len) = false := by simp; omega
        have HN : Hid (k = A) := by have := HK.out.1; show k = A; omega
        have HKB := hid HK.out.2
        clear hk hkl
        go_wp2_with fail
        go_quiet (fail)
        go_wp2_with fail
        go_meet
        exact ⟨by rw [HN.out], below_drewN HKB.out _⟩
  case rest =>
    obtain ⟨rfl, HK⟩ := hcut
    have HP : Hid (∀ wx, Below W.heap.size W wx → Below w.heap.size w wx) := fun wx hb => HS.out.2.1.trans (hb.mono HS.out.2.1.size)
    have hhas : hasE l e = true ↔ ∃ h : A < l.length, ahead l[A] e = 0 := by
      have := hasE_at HS.out.2.2.2.1 e
      rw [← HHA.out] at this
      exact this
    have hput : putE l e = l.take A ++ [e] ++ l.drop A := by unfold putE; rw [← HHA.out]; simp
    have HPUT := hid hput
    clear hput
    have hL1 : ∀ wx, Below W.heap.size W wx → RSG entE G wx (cutS ao cap 0 5) A cap (l.take A) := fun wx hb => by
      have := (HS.out.1.later hb).cut (by decide) 0 A (Nat.zero_le _) hAl
      rw [Nat.sub_zero, Nat.sub_zero, List.drop_zero] at this
      exact this
    have hL2 : ∀ wx, Below W.heap.size W wx → RSG entE G wx (cutS ao cap A 5) (len - A) (cap - A) (l.drop A) := fun wx hb => by
      have := (HS.out.1.later hb).cut (by decide) A len hAl (Nat.le_refl _)
      rw [List.take_of_length_le (by rw [List.length_drop]; omega)] at this
      exact this
    have hr1 := fun w => run_headE w ao len cap A (by omega)
    have hr2 := fun w => run_fromE w ao len cap A hAl hcap
    have HL1 := hid hL1
    have HL2 := hid hL2
    have HTL : Hid ((l.take A).length = A ∧ (l.drop A).length = len - A ∧ len ≤ 1000000 ∧ A ≤ len) := ⟨by rw [List.length_take]; omega, by rw [List.length_drop]; omega, HS.out.2.2.1, hAl⟩
    have HGB : Hid (∀ b, G b → b < W.heap.size) := fun b hb => by have := HS.out.2.2.2.2.2 b hb; have := HS.out.2.2.2.2.1; omega
    by_cases hAx : A < len
    · have hAx' : (A : Int) < (len : Int) := by omega
      have hdl : decide ((A : Int) < (len : Int)) = true := by simpa using hAx'
      have hkx : A < l.length := by omega
      have hox := List.getElem?_eq_getElem hkx
      obtain ⟨b, off, ka, kc, va, vc, rfl, d0, d1, d2, d3, d4, k1, k2, k3⟩ := RS.ent (HS.out.1.rs.later HK.out) hox
      obtain ⟨y0, y1, y2, y3, y4⟩ := HX.out _ HK.out
      have hAk := HA.out A hkx ka va kc vc wc.drew HK.out.drew (k1.drewN 1)
      have hh : hasE l e = true ↔ ahead l[A] e = 0 := ⟨fun h => (hhas.1 h).2, fun h => hhas.2 ⟨hkx, h⟩⟩
      generalize ahead l[A] e = c at hAk hh
      generalize l[A] = o at d0 d1 d2 d3 d4 k1 k2 k3 hAk
      obtain ⟨key, seq, gone, till, vl⟩ := o
      simp only at d0 d1 d2 d3 d4 k1 k2 k3 hAk
      generalize key.length = kl at d0 hAk k1
      generalize vl.length = ln at d4 hAk k2
      have HKB : Hid (∀ wx, Below wc.drew.heap.size wc.drew wx → Below W.heap.size W wx) := fun wx hb => HK.out.drew.trans (hb.mono HK.out.drew.size)
      clear k1 k2 k3 hox hhas HAB
      by_cases hc : c = 0
      · have hc' : (c == 0) = true := by simpa using hc
        have HH : Hid (hasE l e = true) := hh.2 hc
        clear hh hc
        go_wp2_with fail
        go_region_held_law (fun w' => (w'.cell? ⟨b, off + A * 5, none⟩ = some (.slice ka kl kc) ∧ w'.cell? ⟨b, off + A * 5 + 1, none⟩ = some (.int .i64 seq) ∧ w'.cell? ⟨b, off + A * 5 + 2, none⟩ = some (.bool gone) ∧ w'.cell? ⟨b, off + A * 5 + 3, none⟩ = some (.int .i64 till) ∧ w'.cell? ⟨b, off + A * 5 + 4, none⟩ = some (.slice va ln vc)) ∧ (w'.cell? ⟨w.heap.size, 0, none⟩ = some (.slice kb kl2 kd) ∧ w'.cell? ⟨w.heap.size, 1, none⟩ = some (.int .i64 seq2) ∧ w'.cell? ⟨w.heap.size, 2, none⟩ = some (.bool gone2) ∧ w'.cell? ⟨w.heap.size, 3, none⟩ = some (.int .i64 till2) ∧ w'.cell? ⟨w.heap.size, 4, none⟩ = some (.slice vb ln2 vd))) (first | exact ⟨⟨d0, d1, d2, d3, d4⟩, ⟨y0, y1, y2, y3, y4⟩⟩ | exact ⟨⟨cell_later hb5 d0, cell_later hb5 d1, cell_later hb5 d2, cell_later hb5 d3, cell_later hb5 d4⟩, ⟨cell_later hb5 y0, cell_later hb5 y1, cell_later hb5 y2, cell_later hb5 y3, cell_later hb5 y4⟩⟩) (first | (go_at_call 22; refine hAk.mono ?_; rintro e w5 ⟨rfl, hb5⟩))
        go_wp2_with fail
        exact bodyPost_ret (v := .tuple #[.slice (some ⟨b, off, none⟩) len cap, .bool false]) (by simp [results, Try.results24, go_sem]) rfl ⟨HP.out _ (HKB.out _ hb5), .inl ⟨HH.out, rfl⟩⟩
      · have hc' : (c == 0) = false := by simpa using hc
        have HH : Hid (hasE l e = false) := by
          show _ = _
          rw [Bool.eq_false_iff]
          exact fun h => hc (hh.1 h)
        clear hh hc
        go_wp2_with fail
        go_region_held_law (fun w' => (w'.cell? ⟨b, off + A * 5, none⟩ = some (.slice ka kl kc) ∧ w'.cell? ⟨b, off + A * 5 + 1, none⟩ = some (.int .i64 seq) ∧ w'.cell? ⟨b, off + A * 5 + 2, none⟩ = some (.bool gone) ∧ w'.cell? ⟨b, off + A * 5 + 3, none⟩ = some (.int .i64 till) ∧ w'.cell? ⟨b, off + A * 5 + 4, none⟩ = some (.slice va ln vc)) ∧ (w'.cell? ⟨w.heap.size, 0, none⟩ = some (.slice kb kl2 kd) ∧ w'.cell? ⟨w.heap.size, 1, none⟩ = some (.int .i64 seq2) ∧ w'.cell? ⟨w.heap.size, 2, none⟩ = some (.bool gone2) ∧ w'.cell? ⟨w.heap.size, 3, none⟩ = some (.int .i64 till2) ∧ w'.cell? ⟨w.heap.size, 4, none⟩ = some (.slice vb ln2 vd))) (first | exact ⟨⟨d0, d1, d2, d3, d4⟩, ⟨y0, y1, y2, y3, y4⟩⟩ | exact ⟨⟨cell_later hb5 d0, cell_later hb5 d1, cell_later hb5 d2, cell_later hb5 d3, cell_later hb5 d4⟩, ⟨cell_later hb5 y0, cell_later hb5 y1, cell_later hb5 y2, cell_later hb5 y3, cell_later hb5 y4⟩⟩) (first | (go_at_call 22; refine hAk.mono ?_; rintro e w5 ⟨rfl, hb5⟩))
        go_upto_region 6 with fail
        have HQ : Hid (Below W.heap.size W w5) := HKB.out _ hb5
        clear hAk hb5 d0 d1 d2 d3 d4 y0 y1 y2 y3 y4 HKB
        obtain ⟨wq, hwq⟩ : ∃ x, x = w5 := ⟨_, rfl⟩
        rw [← hwq] at HQ ⊢
        clear hwq
        go_wp2_with fail
        go_region_held_law (fun w' => w'.cell? ⟨w.heap.size, 0, none⟩ = some (.slice kb kl2 kd) ∧ w'.cell? ⟨w.heap.size, 1, none⟩ = some (.int .i64 seq2) ∧ w'.cell? ⟨w.heap.size, 2, none⟩ = some (.bool gone2) ∧ w'.cell? ⟨w.heap.size, 3, none⟩ = some (.int .i64 till2) ∧ w'.cell? ⟨w.heap.size, 4, none⟩ = some (.slice vb ln2 vd)) (first | exact HX.out _ HQ.out.drew | exact HX.out _ (HQ.out.alloc HQ.out.size _).drew | exact HX.out _ (c2.trans b3) | exact HX.out _ c2 | exact HX.out _ c1 | exact HX.out _ (c1.alloc c1.size _)) (first | (refine step_appG entE (t := 27) (z := .agg #[.slice none 0 0, .int .i64 0, .bool false, .int .i64 0, .slice none 0 0]) (bytes := 72) (B := W.heap.size) Try.underlying27 entE_info rfl (by decide) rfl (.const (.slice none 0 0)) (.tmp 38) rfl rfl (RowF.nil _ G _) rfl (HL1.out _ (by first | exact HQ.out.drew | exact (HQ.out.alloc HQ.out.size _).drew)) HGB.out (by have := HTL.out; simp; omega) (by have := HTL.out; simp; omega) (by first | exact HQ.out.drew.size | exact (HQ.out.alloc HQ.out.size _).drew.size) ?_; intro v1 w1 r1 g1 b0; have b1 := below_nil g1; have c1 : Below W.heap.size W w1 := (by first | exact HQ.out.drew.trans (b1.mono HQ.out.drew.size) | exact ((HQ.out.alloc HQ.out.size _).drew).trans (b1.mono ((HQ.out.alloc HQ.out.size _).drew).size))) | (refine step_appG entE (t := 27) (z := .agg #[.slice none 0 0, .int .i64 0, .bool false, .int .i64 0, .slice none 0 0]) (bytes := 72) (B := W.heap.size) Try.underlying27 entE_info rfl (by decide) rfl (.tmp 39) (.tmp 41) rfl rfl (by first | exact r1 | exact r1.alloc _) rfl (by first | exact rsg_one (HEM.out _ c1) HEG.out | exact ((rsg_one (HEM.out _ HQ.out) HEG.out).later (Below.refl _ _).drew).later b1) HGB.out (by have := HTL.out; simp; omega) (by have := HTL.out; simp; omega) (by first | exact c1.size | exact (c1.alloc c1.size _).size) ?_; intro v2 w2 r2 g2 b2; have c2 : Below W.heap.size W w2 := (by first | exact c1.trans b2 | exact (c1.alloc c1.size _).trans b2)) | (refine step_appG entE (t := 27) (z := .agg #[.slice none 0 0, .int .i64 0, .bool false, .int .i64 0, .slice none 0 0]) (bytes := 72) (B := W.heap.size) Try.underlying27 entE_info rfl (by decide) rfl (.tmp 42) (.tmp 45) rfl rfl r2 rfl (HL2.out _ c2) HGB.out (by have := HTL.out; simp; omega) (by have := HTL.out; simp; omega) c2.size ?_; intro v3 w3 r3 g3 b3))
        all_goals
          go_wp2_with fail
          refine bodyPost_ret (v := .tuple #[v3, .bool true]) (by simp [results, Try.results24, go_sem]) rfl ⟨HP.out _ (c2.trans b3), .inr ⟨HH.out, v3, rfl, ?_⟩⟩
          rw [HPUT.out]
          exact r3.base HS.out.2.1.size
    · have hdl : decide ((A : Int) < (len : Int)) = false := by simp; omega
      have hdl2 : decide (A < len) = false := by simp; omega
      have HH : Hid (hasE l e = false) := by
        show _ = _
        rw [Bool.eq_false_iff]
        intro h
        obtain ⟨h, _⟩ := hhas.1 h
        omega
      clear hhas hAx
      go_wp2_with fail
      go_quiet (fail)
      go_upto_region 6 with fail
      have HQ : Hid (Below W.heap.size W (wc.drewN nq)) := below_drewN HK.out _
      generalize wc.drewN nq = wq at HQ ⊢
      go_wp2_with fail
      go_region_held_law (fun w' => w'.cell? ⟨w.heap.size, 0, none⟩ = some (.slice kb kl2 kd) ∧ w'.cell? ⟨w.heap.size, 1, none⟩ = some (.int .i64 seq2) ∧ w'.cell? ⟨w.heap.size, 2, none⟩ = some (.bool gone2) ∧ w'.cell? ⟨w.heap.size, 3, none⟩ = some (.int .i64 till2) ∧ w'.cell? ⟨w.heap.size, 4, none⟩ = some (.slice vb ln2 vd)) (first | exact HX.out _ HQ.out.drew | exact HX.out _ (HQ.out.alloc HQ.out.size _).drew | exact HX.out _ (c2.trans b3) | exact HX.out _ c2 | exact HX.out _ c1 | exact HX.out _ (c1.alloc c1.size _)) (first | (refine step_appG entE (t := 27) (z := .agg #[.slice none 0 0, .int .i64 0, .bool false, .int .i64 0, .slice none 0 0]) (bytes := 72) (B := W.heap.size) Try.underlying27 entE_info rfl (by decide) rfl (.const (.slice none 0 0)) (.tmp 38) rfl rfl (RowF.nil _ G _) rfl (HL1.out _ (by first | exact HQ.out.drew | exact (HQ.out.alloc HQ.out.size _).drew)) HGB.out (by have := HTL.out; simp; omega) (by have := HTL.out; simp; omega) (by first | exact HQ.out.drew.size | exact (HQ.out.alloc HQ.out.size _).drew.size) ?_; intro v1 w1 r1 g1 b0; have b1 := below_nil g1; have c1 : Below W.heap.size W w1 := (by first | exact HQ.out.drew.trans (b1.mono HQ.out.drew.size) | exact ((HQ.out.alloc HQ.out.size _).drew).trans (b1.mono ((HQ.out.alloc HQ.out.size _).drew).size))) | (refine step_appG entE (t := 27) (z := .agg #[.slice none 0 0, .int .i64 0, .bool false, .int .i64 0, .slice none 0 0]) (bytes := 72) (B := W.heap.size) Try.underlying27 entE_info rfl (by decide) rfl (.tmp 39) (.tmp 41) rfl rfl (by first | exact r1 | exact r1.alloc _) rfl (by first | exact rsg_one (HEM.out _ c1) HEG.out | exact ((rsg_one (HEM.out _ HQ.out) HEG.out).later (Below.refl _ _).drew).later b1) HGB.out (by have := HTL.out; simp; omega) (by have := HTL.out; simp; omega) (by first | exact c1.size | exact (c1.alloc c1.size _).size) ?_; intro v2 w2 r2 g2 b2; have c2 : Below W.heap.size W w2 := (by first | exact c1.trans b2 | exact (c1.alloc c1.size _).trans b2)) | (refine step_appG entE (t := 27) (z := .agg #[.slice none 0 0, .int .i64 0, .bool false, .int .i64 0, .slice none 0 0]) (bytes := 72) (B := W.heap.size) Try.underlying27 entE_info rfl (by decide) rfl (.tmp 42) (.tmp 45) rfl rfl r2 rfl (HL2.out _ c2) HGB.out (by have := HTL.out; simp; omega) (by have := HTL.out; simp; omega) c2.size ?_; intro v3 w3 r3 g3 b3))
      all_goals
        go_wp2_with fail
        refine bodyPost_ret (v := .tuple #[v3, .bool true]) (by simp [results, Try.results24, go_sem]) rfl ⟨HP.out _ (c2.trans b3), .inr ⟨HH.out, v3, rfl, ?_⟩⟩
        rw [HPUT.out]
        exact r3.base HS.out.2.1.size
end Go.Proofs.Ytnoackenjfpcmaa

/- The document's own List, Seen, Latest and Get. -/
namespace Go.Proofs.Ytnoackenjfpcmaa
open Go.RowKit
set_option linter.unusedVariables false
set_option linter.unusedSimpArgs false

theorem wpList_appG {α : Type} (E : El α) {t : TypeId} {z : Value} {bytes : Nat} (ht : Try.prog.underlying t = some (.slice E.ty)) (hinfo : (Try.prog.info? E.ty).map (fun i => (i.zero, i.size, i.bytes)) = some (some z, E.size, bytes)) (hz1 : z.cells.size = E.size) (hp : 0 < E.size)
    {w : World} {ops : Array Oper} {rest : List Oper} {o : Oper} {a : Act} {Q : Exit → Act → World → Prop} (hgd : o.guard = none) (s x : Operand)
    (ho : o.op = .call { callee := .builtin .append, args := #[s, x], argTypes := #[t, t] }) {B : Nat} {v : Value} {xs ys : List α} (hs : a.eval s = v) {G : Nat → Prop} (hrow : RowF E B G w v xs) {ao : Option Addr} {m c : Nat} (hx : a.eval x = .slice ao m c)
    (hr : RSG E G w ao m c ys) (hG : ∀ b, G b → b < B) (hb : (xs.length + m) * bytes ≤ 140737488355328) (h63 : xs.length + m ≤ 140737488355328) (hbase : B ≤ w.heap.size)
    (h : ∀ v' w', RowF E B G w' v' (xs ++ ys) → Below B w w' → wpList Try.prog ops Q rest (a.put o.dst v') w') : wpList Try.prog ops Q (o :: rest) a w := by
  obtain ⟨us, hru, hug⟩ := hr
  exact wpList_appF E ht hinfo hz1 hp hgd s x ho hs hrow hx hru (fun u hu b hrb e => by have := hG b (hug u hu b hrb); have := (hrow.own_lt e).1; omega) hug h63 hb hbase fun v' w' h2 h3 _ => h v' w' h2 (hrow.s.below h3 hbase)
/-- An entry of a row that leans on G: its cells, and what they lean on. -/
theorem RSG.ent {G : Nat → Prop} {w : World} {ao : Option Addr} {len cap : Nat} {os : List EntV} (h : RSG entE G w ao len cap os) {i : Nat} {o : EntV} (hx : os[i]? = some o) :
    ∃ b off ka kc va vc, ao = some ⟨b, off, none⟩ ∧ w.cell? ⟨b, off + i * 5, none⟩ = some (.slice ka o.key.length kc) ∧ w.cell? ⟨b, off + i * 5 + 1, none⟩ = some (.int .i64 o.seq) ∧ w.cell? ⟨b, off + i * 5 + 2, none⟩ = some (.bool o.gone) ∧ w.cell? ⟨b, off + i * 5 + 3, none⟩ = some (.int .i64 o.till) ∧ w.cell? ⟨b, off + i * 5 + 4, none⟩ = some (.slice va o.val.length vc) ∧
      EntM w [.slice ka o.key.length kc, .int .i64 o.seq, .bool o.gone, .int .i64 o.till, .slice va o.val.length vc] o ∧ Sl w ka o.key.length kc o.key ∧ ∀ u ∈ [Value.slice ka o.key.length kc, .int .i64 o.seq, .bool o.gone, .int .i64 o.till, .slice va o.val.length vc], ∀ b, Refs u b → G b := by
  obtain ⟨us, ⟨h1, h2, h3, h4, h5, h6⟩, hg⟩ := h
  obtain ⟨vs, g1, gm, g2⟩ := h5.at hx
  have g1' := g1
  obtain ⟨ka, kc, va, vc, rfl, s1, s2, s3, s4⟩ := g1'
  obtain ⟨b, off, e, _⟩ := h6 _ _ (g2 0 _ rfl)
  have hc : ∀ (j : Nat) (v : Value), [Value.slice ka o.key.length kc, .int .i64 o.seq, .bool o.gone, .int .i64 o.till, .slice va o.val.length vc][j]? = some v → w.cell? ⟨b, off + (i * 5 + j), none⟩ = some v := fun j v hv => by
    obtain ⟨b', off', e', hc⟩ := h6 _ _ (g2 j v hv)
    rw [e] at e'
    simp only [Option.some.injEq, Addr.mk.injEq, and_true] at e'
    obtain ⟨rfl, rfl⟩ := e'
    exact hc
  exact ⟨b, off, ka, kc, va, vc, e, hc 0 _ rfl, hc 1 _ rfl, hc 2 _ rfl, hc 3 _ rfl, hc 4 _ rfl, g1, s1, fun u hu b hr => hg u (gm u hu) b hr⟩
theorem box_cells (w : World) (a b c d e : Value) (t : TypeId) {wx : World} (hb : Below (w.alloc (.cells #[a, b, c, d, e] t)).heap.size (w.alloc (.cells #[a, b, c, d, e] t)) wx) :
    wx.cell? ⟨w.heap.size, 0, none⟩ = some a ∧ wx.cell? ⟨w.heap.size, 1, none⟩ = some b ∧ wx.cell? ⟨w.heap.size, 2, none⟩ = some c ∧ wx.cell? ⟨w.heap.size, 3, none⟩ = some d ∧ wx.cell? ⟨w.heap.size, 4, none⟩ = some e := by
  refine ⟨cell_later hb ?_, cell_later hb ?_, cell_later hb ?_, cell_later hb ?_, cell_later hb ?_⟩ <;> rw [cell_of (heap_alloc_new w _)] <;> rfl

end Go.Proofs.Ytnoackenjfpcmaa

/- The document's own Seen. -/
namespace Go.Proofs.Ytnoackenjfpcmaa
open Go.RowKit
set_option linter.unusedVariables false
set_option linter.unusedSimpArgs false

theorem seen1_yes {s : Int} {out : List EntV} {e : EntV} (h1 : e.seq ≤ s) (h2 : out = [] ∨ ∃ x, out.getLast? = some x ∧ cmp x.key e.key ≠ 0) : seen1 s out e = out ++ [e] := by unfold seen1; rw [if_pos ⟨h1, h2⟩]
theorem seen1_old {s : Int} {out : List EntV} {e : EntV} (h1 : ¬ e.seq ≤ s) : seen1 s out e = out := by unfold seen1; rw [if_neg (fun h => h1 h.1)]
theorem seen1_like {s : Int} {out : List EntV} {e x : EntV} (hx : out.getLast? = some x) (h : cmp x.key e.key = 0) : seen1 s out e = out := by
  unfold seen1
  rw [if_neg]
  rintro ⟨_, h2 | ⟨y, hy, hn⟩⟩
  · rw [h2] at hx; cases hx
  · rw [hx] at hy
    simp only [Option.some.injEq] at hy
    subst hy
    exact hn h
end Go.Proofs.Ytnoackenjfpcmaa
