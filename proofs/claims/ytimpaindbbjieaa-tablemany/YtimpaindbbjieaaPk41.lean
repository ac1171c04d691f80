import Derived.Deep.RegionHeldLaw
import Derived.Test.YtimpaindbbjieaaPk07
import Derived.Test.YtimpaindbbjieaaPk18
import Derived.Test.YtimpaindbbjieaaPk25
import Derived.Test.YtimpaindbbjieaaPk36
import Derived.Test.YtimpaindbbjieaaPk39
import Derived.Test.YtimpaindbbjieaaPk40
/- What the landed batch takes from bytes: a change. -/
namespace Go.Proofs.Ytimpaindbbjieaa
open Go.RowKit
set_option linter.unusedVariables false
set_option linter.unusedSimpArgs false

/-- The answer is laid. -/
def lay4 (w wx : World) (x0 x1 x2 x3 : Value) : World := (((wx.setCell ⟨w.heap.size, 0, none⟩ x0).setCell ⟨w.heap.size, 1, none⟩ x1).setCell ⟨w.heap.size, 2, none⟩ x2).setCell ⟨w.heap.size, 3, none⟩ x3
theorem lay4_grown (w wx : World) (x0 x1 x2 x3 : Value) : wx.grownBy (lay4 w wx x0 x1 x2 x3) (some w.heap.size) :=
  grown_trans (grown_trans (grown_trans (grown_set _ _ _ _) (grown_set _ _ _ _)) (grown_set _ _ _ _)) (grown_set _ _ _ _)
theorem Sb.later {ob : Nat} {w w' : World} {a : Option Addr} {c : Nat} {xs : List Int} (h : Sb ob w a c xs) (hb : Below w.heap.size w w') : Sb ob w' a c xs := ⟨h.1.later hb, h.2⟩
theorem tb_ok {d : List Int} {most : Nat} (h : Okb d) : Okb (tb d most).2.1 := by
  unfold tb
  split
  · exact fun x hx => by cases hx
  · split
    · exact fun x hx => by cases hx
    · split
      · exact fun x hx => by cases hx
      · exact fun x hx => h x (List.mem_of_mem_drop (List.mem_of_mem_take hx))
theorem rdB_ok {most : Nat} {d key : List Int} {st : Rd} (h : rdB most (d, 0) = (key, st)) (hd : Okb d) : Okb key := by
  have e : (rdB most (d, 0)).1 = key := by rw [h]
  rw [← e]
  unfold rdB
  simp only [ne_eq, not_true_eq_false, if_false]
  split
  · exact fun x hx => by cases hx
  · exact tb_ok hd
theorem rdB_okr {most : Nat} {d key l : List Int} {er : Nat} (h : rdB most (d, 0) = (key, l, er)) (hd : Okb d) : Okb l := by
  have e : (rdB most (d, 0)).2.1 = l := by rw [h]
  rw [← e]
  unfold rdB
  simp only [ne_eq, not_true_eq_false, if_false]
  split
  · exact hd
  · exact fun x hx => hd x (List.mem_of_mem_drop hx)
/-- A change, taken; none where something is wrong. -/
def noOp : OpV := ⟨[], false, 0, []⟩
def tkO (d : List Int) : OpV := if (deO (d, 0)).2.2 ≠ 0 then noOp else (deO (d, 0)).1

end Go.Proofs.Ytimpaindbbjieaa

/- What the landed batch's Entries answers. -/
namespace Go.Proofs.Ytimpaindbbjieaa
open Go.RowKit
set_option linter.unusedVariables false
set_option linter.unusedSimpArgs false

set_option maxHeartbeats 1000000 in
set_option maxRecDepth 100000 in
theorem clone_l {w : World} {ao : Option Addr} {len cap : Nat} {xs : List Int} (h : Sl w ao len cap xs) (hl : len ≤ 140737488355328) :
    Calls Try.prog 52 #[.slice ao len cap] w fun e w' => ∃ v, e = .returned v ∧ Row w.heap.size w' v xs ∧ Below w.heap.size w w' := by
  have q22 : ∀ (w : World) (a : Option Addr) (n c n' c' : Nat), (binOp .eql 25 (.slice a n c) (.slice none n' c')).run Try.prog w = .ok (.bool a.isNone) w := fun w a n c n' c' => Lib.run_eql_slice_nil w _ _ a n c n' c' Try.underlying25
  cases ao with
  | none =>
    obtain ⟨rfl, rfl⟩ := h.2.2.1 rfl
    have hx : xs = [] := List.eq_nil_of_length_eq_zero h.1
    subst hx
    clear h hl
    go_enter Try.func52, Try.ntmps52
    go_wp2_with fail
    exact bodyPost_ret (v := .slice none 0 0) (by simp [results, Try.results52, go_sem]) rfl ⟨_, rfl, Row.nil _ _, Below.refl _ _⟩
  | some a =>
    have b1 : Below w.heap.size w (w.alloc (.cells #[] 5)) := (Below.refl _ _).alloc (Nat.le_refl _) _
    have HS : Hid (Sl (w.alloc (.cells #[] 5)) (some a) len cap xs ∧ len ≤ 140737488355328 ∧ Below w.heap.size w (w.alloc (.cells #[] 5)) ∧ Row w.heap.size (w.alloc (.cells #[] 5)) (.slice (some ⟨w.heap.size, 0, none⟩) 0 0) []) := ⟨h.later b1, hl, b1, World.ownsRow_made w #[] 0 (Nat.le_refl _) (Nat.zero_le _) rfl⟩
    clear h hl b1
    go_enter Try.func52, Try.ntmps52
    go_wp2_with (at_builtin; refine wpList_appl (B := w.heap.size) rfl (.tmp 5) (.tmp 6) rfl rfl HS.out.2.2.2 rfl HS.out.1 (by have := HS.out.2.1; simp; omega) HS.out.2.2.1.size ?_; intro v2 w2 r2 g2 m2)
    exact bodyPost_ret (v := v2) (by simp [results, Try.results52, go_sem]) rfl ⟨v2, rfl, r2, HS.out.2.2.1.trans (grown_below HS.out.2.2.2 g2 HS.out.2.2.1.size)⟩

/-- An element behind a row of one's own, as a step of a region that draws. -/
theorem step_appS {α : Type} (E : El α) {t : TypeId} {z : Value} {bytes : Nat} (ht : Try.prog.underlying t = some (.slice E.ty)) (hinfo : (Try.prog.info? E.ty).map (fun i => (i.zero, i.size, i.bytes)) = some (some z, E.size, bytes)) (hz1 : z.cells.size = E.size) (hp : 0 < E.size)
    {ops : Array Oper} {w : World} {o : Oper} {a : Act} {K : Act → World → Prop} {Q : Exit → Act → World → Prop} {G : Prop} (hgd : o.guard = none) (s x : Operand)
    (ho : o.op = .call { callee := .builtin .append, args := #[s, x], argTypes := #[t, t] }) {B : Nat} {v : Value} {xs ys : List α} (hs : a.eval s = v) (hrow : RowS E B w v xs) {ao : Option Addr} {m c : Nat} {us : List Value} (hx : a.eval x = .slice ao m c)
    (hr : RSu E w ao m c us ys) (hsep : ∀ u ∈ us, ∀ b, Refs u b → v.ownBlock ≠ some b) (h63 : xs.length + m ≤ 140737488355328) (hb : (xs.length + m) * bytes ≤ 140737488355328) (hbase : B ≤ w.heap.size)
    (h : ∀ v' w', RowS E B w' v' (xs ++ ys) → w.grownBy w' v.ownBlock → Moved w v v' → K (a.put o.dst v') w') :
    if Region.wanted o (yielded ops a.tmps) = true then Oper.wp Try.prog o a w K Q else G := by
  have hw : Region.wanted o (yielded ops a.tmps) = true := by simp [Region.wanted, hgd]
  rw [if_pos hw]
  obtain ⟨v', w', hr, h2, h3, h4⟩ := run_appS E t z bytes ht hinfo hz1 hp o.type hrow hr hsep h63 hb hbase
  unfold Oper.wp execOp
  simp only [ho, resolve, invoke, builtin, Sem.run_bind, Sem.run_pure, Result.andThen_ok, List.map_toArray, List.map_cons, List.map_nil, hs, hx, hr]
  exact h _ _ h2 h3 h4
/-- What the region reads. -/
def Rdz (p ob : Nat) (s : Int) (c0 c1 c2 c3 : Value) (w : World) : Prop := w.cell? ⟨ob, 0, none⟩ = some c0 ∧ w.cell? ⟨ob, 1, none⟩ = some c1 ∧ w.cell? ⟨ob, 2, none⟩ = some c2 ∧ w.cell? ⟨ob, 3, none⟩ = some c3 ∧ w.cell? ⟨p, 0, none⟩ = some (.int .i64 s)
end Go.Proofs.Ytimpaindbbjieaa

/- The landed table: Most, May. -/
namespace Go.Proofs.Ytimpaindbbjieaa
open Go.RowKit
set_option linter.unusedVariables false
set_option linter.unusedSimpArgs false

theorem rowsT_some {l : List EntV} (h : tblE l = 0) : 1 ≤ (rowsT l).length ∧ (rowsT l).length ≤ 4000 := by
  obtain ⟨h1, h2, h3, h4, h5⟩ := tblE_ok h
  unfold rowsT
  rw [rowsB_len]
  have hf := cutT_flat l
  refine ⟨?_, ?_⟩
  · cases hc : cutT l with
    | nil => rw [hc] at hf; rw [← hf] at h1; simp at h1
    | cons c r => simp
  · have : ∀ bs : List (List EntV), (∀ c ∈ bs, c ≠ []) → bs.length ≤ bs.flatten.length := fun bs => by
      induction bs with
      | nil => intro _; simp
      | cons c r ih =>
        intro hn
        have h1 := ih fun x hx => hn x (by simp [hx])
        have h2 := hn c (by simp)
        cases c with
        | nil => exact absurd rfl h2
        | cons e t => simp at h1 ⊢; omega
    have h6 := this (cutT l) (cutB_ne l 0 [])
    rw [hf] at h6
    omega
set_option maxHeartbeats 2000000 in
set_option maxRecDepth 100000 in
theorem most_t {w : World} {p : Nat} {l : List EntV} (h : RTb w p l) : Calls Try.prog 18 #[.pointer (some ⟨p, 0, none⟩)] w fun r w' => ∃ v, r = .returned v ∧ SlV w' v (lastK [] l) ∧ Below w.heap.size w w' := by
  obtain ⟨wa, wc, ra, rc, c0, c1, c2, c3, c4, s4, r5⟩ := h.facts
  obtain ⟨n1, n2⟩ := rowsT_some h.ok
  obtain ⟨N, hN⟩ : ∃ N, (rowsT l).length = N + 1 := ⟨(rowsT l).length - 1, by omega⟩
  have hx : N < (rowsT l).length := by omega
  have hlast : (rowsT l)[N].last = lastK [] l := by
    have := rowsB_last (bs := cutT l) (pos := 0) (r := (rowsT l)[N]) (cutB_ne l 0 []) (by
      show (rowsT l).getLast? = _
      rw [List.getLast?_eq_getElem?, show (rowsT l).length - 1 = N by omega, List.getElem?_eq_getElem hx])
    rw [cutT_flat] at this
    exact this
  obtain ⟨b, off, la, lc, rfl, d0, d1, d2, sk⟩ := RS.row r5 (List.getElem?_eq_getElem hx)
  rw [hlast] at d2 sk
  have hkl : (lastK [] l).length ≤ 512 := by
    obtain ⟨e, he, hk⟩ := lastK_mem (c := l) (prev := []) (fun z => by have := (tblE_ok h.ok).1; rw [z] at this; simp at this)
    rw [hk]
    exact (mayE_ok ((tblE_ok h.ok).2.2.1 e he)).2.1
  obtain ⟨NL, hNL⟩ : ∃ n, n = (rowsT l).length := ⟨_, rfl⟩
  rw [← hNL] at c1 n2 hN
  have HCL : Hid (∀ wx, Below w.heap.size w wx → Calls Try.prog 52 #[.slice la (lastK [] l).length lc] wx fun e w' => ∃ v, e = .returned v ∧ SlV w' v (lastK [] l) ∧ Below wx.heap.size wx w') := fun wx hb => (clone_l (sk.later hb) (by omega)).mono fun e w' ⟨v, h1, h2, h3⟩ => ⟨v, h1, SlV.ofRow h2 sk.2.1, h3⟩
  have HC : Hid (∀ wx, Below w.heap.size w wx → wx.cell? ⟨p, 1, none⟩ = some (.slice (some ⟨b, off, none⟩) NL rc) ∧ wx.cell? ⟨b, off + N * 3 + 2, none⟩ = some (.slice la (lastK [] l).length lc)) := fun wx hb => ⟨cell_later hb c1, cell_later hb d2⟩
  have HBD : Hid (Below w.heap.size w w.drew) := (Below.refl _ w).drew
  generalize lastK [] l = key at HCL HC d2 ⊢
  generalize key.length = kl at HCL HC d2
  have hN62 : N ≤ 2 ^ 60 := by omega
  have hN2 : ¬ ((NL : Int) = 0) := by omega
  have hN3 : ((NL : Int) == 0) = false := by simpa using hN2
  have e1 : (NL : Int) - 1 = (N : Int) := by omega
  have e2 : wrap64 ((NL : Int) - 1) = (N : Int) := by unfold wrap64; omega
  have e3 : IntKind.i64.wrap ((NL : Int) - 1) = (N : Int) := by rw [IntKind.wrap_i64]; omega
  have e4 : IntKind.i64.wrap (N : Int) = (N : Int) := by rw [IntKind.wrap_i64]; omega
  have e5 : wrap64 (N : Int) = (N : Int) := by unfold wrap64; omega
  have hi1 : (N : Int) < (NL : Int) := by omega
  have hi3 : N < NL := by omega
  have hNL62 : NL ≤ 2 ^ 60 := by omega
  clear hkl hNL
  clear h s4 r5 n1 n2 hN hx hlast sk d0 d1 c0 c2 c3 c4
  go_enter Try.func18, Try.ntmps18
  go_upto_region 3 with fail
  go_region_held_law (fun w' => w'.cell? ⟨p, 1, none⟩ = some (.slice (some ⟨b, off, none⟩) NL rc) ∧ w'.cell? ⟨b, off + N * 3 + 2, none⟩ = some (.slice la kl lc)) (first | exact ⟨c1, d2⟩ | exact HC.out _ HBD.out | exact HC.out _ B5) (first | (go_at_call 52; refine (HCL.out _ HBD.out).mono ?_; rintro e w5 ⟨v5, rfl, s5, b5⟩; have B5 := HBD.out.trans (b5.mono HBD.out.size); clear b5))
  all_goals
    go_wp2_with fail
    exact bodyPost_ret (v := v5) (by simp [results, Try.results18, go_sem]) rfl ⟨v5, rfl, s5, B5⟩
set_option maxHeartbeats 2000000 in
set_option maxRecDepth 100000 in
theorem may_t {w : World} {p : Nat} {l : List EntV} {ka : Option Addr} {kl kc : Nat} {key : List Int} (h : RTb w p l) (hk : Sl w ka kl kc key) : Calls Try.prog 23 #[.pointer (some ⟨p, 0, none⟩), .slice ka kl kc] w fun r w' => r = .returned (.bool (has (filT l) key)) ∧ Below w.heap.size w w' := by
  obtain ⟨wa, wc, ra, rc, c0, c1, c2, c3, c4, s4, r5⟩ := h.facts
  have hin : (flS l).1 + (flS l).2 + 4 ≤ (tblB l).length := by
    have h1 := (ftE_tbl h.ok h.oke).1
    exact (ftE_in h1).2.2
  have h5 := (tblE_ok h.ok).2.2.2.2
  have hof : ofS (tblB l) (flS l) = filT l := (ftE_tbl h.ok h.oke).2.2.2.2
  have hwc := s4.2.2.2.1
  have hcut := s4.cut (flS l).1 ((flS l).1 + (flS l).2) (by omega) (by omega)
  rw [show (flS l).1 + (flS l).2 - (flS l).1 = (flS l).2 by omega, show ((tblB l).drop (flS l).1).take (flS l).2 = filT l from hof] at hcut
  have HHA : Hid (∀ wx, Below w.heap.size w wx → Calls Try.prog 56 #[.slice (cutA wa wc (flS l).1) (flS l).2 (wc - (flS l).1), .slice ka kl kc] wx fun e w' => e = .returned (.bool (has (filT l) key)) ∧ Below wx.heap.size wx w') := fun wx hb => bhas_any (hcut.later hb) (hk.later hb)
  have HOF : Hid (∀ wx, Calls Try.prog 47 #[.agg #[.int .i64 ((flS l).1 : Int), .int .i64 ((flS l).2 : Int)], .slice wa (tblB l).length wc] wx fun e w' => e = .returned (.slice (cutA wa wc (flS l).1) (flS l).2 (wc - (flS l).1)) ∧ Below wx.heap.size wx w') := fun wx => spof_t (by omega) (by omega) (by omega)
  have HBD : Hid (Below w.heap.size w w.drew) := (Below.refl _ w).drew
  generalize cutA wa wc (flS l).1 = a1 at HHA HOF
  generalize wc - (flS l).1 = c9 at HHA HOF
  generalize (flS l).1 = F0 at HHA HOF c2
  generalize (flS l).2 = F1 at HHA HOF c3
  generalize (tblB l).length = TL at HOF c0
  generalize has (filT l) key = B at HHA ⊢
  have HC : Hid (∀ wx, Below w.heap.size w wx → wx.cell? ⟨p, 0, none⟩ = some (.slice wa TL wc) ∧ wx.cell? ⟨p, 2, none⟩ = some (.int .i64 (F0 : Int)) ∧ wx.cell? ⟨p, 3, none⟩ = some (.int .i64 (F1 : Int))) := fun wx hb => ⟨cell_later hb c0, cell_later hb c2, cell_later hb c3⟩
  clear h hk hin h5 hof hwc hcut s4 r5 c1 c4
  go_enter Try.func23, Try.ntmps23
  go_wp2_with fail
  go_region_held_law (fun w' => w'.cell? ⟨p, 0, none⟩ = some (.slice wa TL wc) ∧ w'.cell? ⟨p, 2, none⟩ = some (.int .i64 (F0 : Int)) ∧ w'.cell? ⟨p, 3, none⟩ = some (.int .i64 (F1 : Int))) (first | exact ⟨c0, c2, c3⟩ | exact HC.out _ HBD.out | exact HC.out _ B5 | exact HC.out _ B6) (first | (go_at_call 47; refine (HOF.out _).mono ?_; rintro e w5 ⟨rfl, b5⟩; have B5 := HBD.out.trans (b5.mono HBD.out.size); clear b5) | (go_at_call 56; refine (HHA.out _ B5).mono ?_; rintro e w6 ⟨rfl, b6⟩; have B6 := B5.trans (b6.mono B5.size); clear b6))
  all_goals
    go_wp2_with fail
    exact bodyPost_ret (v := .bool B) (by simp [results, Try.results23, go_sem]) rfl ⟨rfl, B6⟩
end Go.Proofs.Ytimpaindbbjieaa
