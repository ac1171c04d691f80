import Derived.Deep.RegionHeldLaw
import Derived.Test.YtfecopldepnicaaPk07
import Derived.Test.YtfecopldepnicaaPk29
import Derived.Test.YtfecopldepnicaaPk34
import Derived.Test.YtfecopldepnicaaPk42
import Derived.Test.YtfecopldepnicaaPk43
/- What the landed batch's Entries answers. -/
namespace Go.Proofs.Ytfecopldepnicaa
open Go.RowKit
set_option linter.unusedVariables false
set_option linter.unusedSimpArgs false

set_option maxHeartbeats 1000000 in
set_option maxRecDepth 100000 in
theorem clone_l {w : World} {ao : Option Addr} {len cap : Nat} {xs : List Int} (h : Sl w ao len cap xs) (hl : len ≤ 140737488355328) :
    Calls Try.prog 52 #[.slice ao len cap] w fun e w' => ∃ v, e = .returned v ∧ Row w.heap.size w' v xs ∧ Below w.heap.size w w' := by
  have q22 : ∀ (w : World) (a : Option Addr) (n c n' c' : Nat), (binOp .eql 25 (.slice a n c) (.slice none n' c')).run Try.prog w = .ok (.bool a.isNone) w := fun w a n c n' c' => Lib.run_eql_slice_nil w _ _ a n c n' c' Try.underlying25
  cases ao with
  | none =>
    obtain ⟨rfl, rfl⟩ := h.2.2.1 rfl
    have hx : xs = [] := List.eq_nil_of_length_eq_zero h.1
    subst hx
    clear h hl
    go_enter Try.func52, Try.ntmps52
    go_wp2_with fail
    exact bodyPost_ret (v := .slice none 0 0) (by simp [results, Try.results52, go_sem]) rfl ⟨_, rfl, Row.nil _ _, Below.refl _ _⟩
  | some a =>
    have b1 : Below w.heap.size w (w.alloc (.cells #[] 5)) := (Below.refl _ _).alloc (Nat.le_refl _) _
    have HS : Hid (Sl (w.alloc (.cells #[] 5)) (some a) len cap xs ∧ len ≤ 140737488355328 ∧ Below w.heap.size w (w.alloc (.cells #[] 5)) ∧ Row w.heap.size (w.alloc (.cells #[] 5)) (.slice (some ⟨w.heap.size, 0, none⟩) 0 0) []) := ⟨h.later b1, hl, b1, World.ownsRow_made w #[] 0 (Nat.le_refl _) (Nat.zero_le _) rfl⟩
    clear h hl b1
    go_enter Try.func52, Try.ntmps52
    go_wp2_with (at_builtin; refine wpList_appl (B := w.heap.size) rfl (.tmp 5) (.tmp 6) rfl rfl HS.out.2.2.2 rfl HS.out.1 (by have := HS.out.2.1; simp; omega) HS.out.2.2.1.size ?_; intro v2 w2 r2 g2 m2)
    exact bodyPost_ret (v := v2) (by simp [results, Try.results52, go_sem]) rfl ⟨v2, rfl, r2, HS.out.2.2.1.trans (grown_below HS.out.2.2.2 g2 HS.out.2.2.1.size)⟩

/-- An element behind a row of one's own, as a step of a region that draws. -/
theorem step_appS {α : Type} (E : El α) {t : TypeId} {z : Value} {bytes : Nat} (ht : Try.prog.underlying t = some (.slice E.ty)) (hinfo : (Try.prog.info? E.ty).map (fun i => (i.zero, i.size, i.bytes)) = some (some z, E.size, bytes)) (hz1 : z.cells.size = E.size) (hp : 0 < E.size)
    {ops : Array Oper} {w : World} {o : Oper} {a : Act} {K : Act → World → Prop} {Q : Exit → Act → World → Prop} {G : Prop} (hgd : o.guard = none) (s x : Operand)
    (ho : o.op = .call { callee := .builtin .append, args := #[s, x], argTypes := #[t, t] }) {B : Nat} {v : Value} {xs ys : List α} (hs : a.eval s = v) (hrow : RowS E B w v xs) {ao : Option Addr} {m c : Nat} {us : List Value} (hx : a.eval x = .slice ao m c)
    (hr : RSu E w ao m c us ys) (hsep : ∀ u ∈ us, ∀ b, Refs u b → v.ownBlock ≠ some b) (h63 : xs.length + m ≤ 140737488355328) (hb : (xs.length + m) * bytes ≤ 140737488355328) (hbase : B ≤ w.heap.size)
    (h : ∀ v' w', RowS E B w' v' (xs ++ ys) → w.grownBy w' v.ownBlock → Moved w v v' → K (a.put o.dst v') w') :
    if Region.wanted o (yielded ops a.tmps) = true then Oper.wp Try.prog o a w K Q else G := by
  have hw : Region.wanted o (yielded ops a.tmps) = true := by simp [Region.wanted, hgd]
  rw [if_pos hw]
  obtain ⟨v', w', hr, h2, h3, h4⟩ := run_appS E t z bytes ht hinfo hz1 hp o.type hrow hr hsep h63 hb hbase
  unfold Oper.wp execOp
  simp only [ho, resolve, invoke, builtin, Sem.run_bind, Sem.run_pure, Result.andThen_ok, List.map_toArray, List.map_cons, List.map_nil, hs, hx, hr]
  exact h _ _ h2 h3 h4
/-- What the region reads. -/
def Rdz (p ob : Nat) (s : Int) (c0 c1 c2 c3 : Value) (w : World) : Prop := w.cell? ⟨ob, 0, none⟩ = some c0 ∧ w.cell? ⟨ob, 1, none⟩ = some c1 ∧ w.cell? ⟨ob, 2, none⟩ = some c2 ∧ w.cell? ⟨ob, 3, none⟩ = some c3 ∧ w.cell? ⟨p, 0, none⟩ = some (.int .i64 s)
end Go.Proofs.Ytfecopldepnicaa

/- The landed table: Most, May. -/
namespace Go.Proofs.Ytfecopldepnicaa
open Go.RowKit
set_option linter.unusedVariables false
set_option linter.unusedSimpArgs false

theorem rowsT_some {l : List EntV} (h : tblE l = 0) : 1 ≤ (rowsT l).length ∧ (rowsT l).length ≤ 4000 := by
  obtain ⟨h1, h2, h3, h4, h5⟩ := tblE_ok h
  unfold rowsT
  rw [rowsB_len]
  have hf := cutT_flat l
  refine ⟨?_, ?_⟩
  · cases hc : cutT l with
    | nil => rw [hc] at hf; rw [← hf] at h1; simp at h1
    | cons c r => simp
  · have : ∀ bs : List (List EntV), (∀ c ∈ bs, c ≠ []) → bs.length ≤ bs.flatten.length := fun bs => by
      induction bs with
      | nil => intro _; simp
      | cons c r ih =>
        intro hn
        have h1 := ih fun x hx => hn x (by simp [hx])
        have h2 := hn c (by simp)
        cases c with
        | nil => exact absurd rfl h2
        | cons e t => simp at h1 ⊢; omega
    have h6 := this (cutT l) (cutB_ne l 0 [])
    rw [hf] at h6
    omega
set_option maxHeartbeats 2000000 in
set_option maxRecDepth 100000 in
theorem most_t {w : World} {p : Nat} {l : List EntV} (h : RTb w p l) : Calls Try.prog 18 #[.pointer (some ⟨p, 0, none⟩)] w fun r w' => ∃ v, r = .returned v ∧ SlV w' v (lastK [] l) ∧ Below w.heap.size w w' := by
  obtain ⟨wa, wc, ra, rc, c0, c1, c2, c3, c4, s4, r5⟩ := h.facts
  obtain ⟨n1, n2⟩ := rowsT_some h.ok
  obtain ⟨N, hN⟩ : ∃ N, (rowsT l).length = N + 1 := ⟨(rowsT l).length - 1, by omega⟩
  have hx : N < (rowsT l).length := by omega
  have hlast : (rowsT l)[N].last = lastK [] l := by
    have := rowsB_last (bs := cutT l) (pos := 0) (r := (rowsT l)[N]) (cutB_ne l 0 []) (by
      show (rowsT l).getLast? = _
      rw [List.getLast?_eq_getElem?, show (rowsT l).length - 1 = N by omega, List.getElem?_eq_getElem hx])
    rw [cutT_flat] at this
    exact this
  obtain ⟨b, off, la, lc, rfl, d0, d1, d2, sk⟩ := RS.row r5 (List.getElem?_eq_getElem hx)
  rw [hlast] at d2 sk
  have hkl : (lastK [] l).length ≤ 512 := by
    obtain ⟨e, he, hk⟩ := lastK_mem (c := l) (prev := []) (fun z => by have := (tblE_ok h.ok).1; rw [z] at this; simp at this)
    rw [hk]
    exact (mayE_ok ((tblE_ok h.ok).2.2.1 e he)).2.1
  obtain ⟨NL, hNL⟩ : ∃ n, n = (rowsT l).length := ⟨_, rfl⟩
  rw [← hNL] at c1 n2 hN
  have HCL : Hid (∀ wx, Below w.heap.size w wx → Calls Try.prog 52 #[.slice la (lastK [] l).length lc] wx fun e w' => ∃ v, e = .returned v ∧ SlV w' v (lastK [] l) ∧ Below wx.heap.size wx w') := fun wx hb => (clone_l (sk.later hb) (by omega)).mono fun e w' ⟨v, h1, h2, h3⟩ => ⟨v, h1, SlV.ofRow h2 sk.2.1, h3⟩
  have HC : Hid (∀ wx, Below w.heap.size w wx → wx.cell? ⟨p, 1, none⟩ = some (.slice (some ⟨b, off, none⟩) NL rc) ∧ wx.cell? ⟨b, off + N * 3 + 2, none⟩ = some (.slice la (lastK [] l).length lc)) := fun wx hb => ⟨cell_later hb c1, cell_later hb d2⟩
  have HBD : Hid (Below w.heap.size w w.drew) := (Below.refl _ w).drew
  generalize lastK [] l = key at HCL HC d2 ⊢
  generalize key.length = kl at HCL HC d2
  have hN62 : N ≤ 2 ^ 60 := by omega
  have hN2 : ¬ ((NL : Int) = 0) := by omega
  have hN3 : ((NL : Int) == 0) = false := by simpa using hN2
  have e1 : (NL : Int) - 1 = (N : Int) := by omega
  have e2 : wrap64 ((NL : Int) - 1) = (N : Int) := by unfold wrap64; omega
  have e3 : IntKind.i64.wrap ((NL : Int) - 1) = (N : Int) := by rw [IntKind.wrap_i64]; omega
  have e4 : IntKind.i64.wrap (N : Int) = (N : Int) := by rw [IntKind.wrap_i64]; omega
  have e5 : wrap64 (N : Int) = (N : Int) := by unfold wrap64; omega
  have hi1 : (N : Int) < (NL : Int) := by omega
  have hi3 : N < NL := by omega
  have hNL62 : NL ≤ 2 ^ 60 := by omega
  clear hkl hNL
  clear h s4 r5 n1 n2 hN hx hlast sk d0 d1 c0 c2 c3 c4
  go_enter Try.func18, Try.ntmps18
  go_upto_region 3 with fail
  go_region_held_law (fun w' => w'.cell? ⟨p, 1, none⟩ = some (.slice (some ⟨b, off, none⟩) NL rc) ∧ w'.cell? ⟨b, off + N * 3 + 2, none⟩ = some (.slice la kl lc)) (first | exact ⟨c1, d2⟩ | exact HC.out _ HBD.out | exact HC.out _ B5) (first | (go_at_call 52; refine (HCL.out _ HBD.out).mono ?_; rintro e w5 ⟨v5, rfl, s5, b5⟩; have B5 := HBD.out.trans (b5.mono HBD.out.size); clear b5))
  all_goals
    go_wp2_with fail
    exact bodyPost_ret (v := v5) (by simp [results, Try.results18, go_sem]) rfl ⟨v5, rfl, s5, B5⟩
set_option maxHeartbeats 2000000 in
set_option maxRecDepth 100000 in
theorem may_t {w : World} {p : Nat} {l : List EntV} {ka : Option Addr} {kl kc : Nat} {key : List Int} (h : RTb w p l) (hk : Sl w ka kl kc key) : Calls Try.prog 23 #[.pointer (some ⟨p, 0, none⟩), .slice ka kl kc] w fun r w' => r = .returned (.bool (has (filT l) key)) ∧ Below w.heap.size w w' := by
  obtain ⟨wa, wc, ra, rc, c0, c1, c2, c3, c4, s4, r5⟩ := h.facts
  have hin : (flS l).1 + (flS l).2 + 4 ≤ (tblB l).length := by
    have h1 := (ftE_tbl h.ok h.oke).1
    exact (ftE_in h1).2.2
  have h5 := (tblE_ok h.ok).2.2.2.2
  have hof : ofS (tblB l) (flS l) = filT l := (ftE_tbl h.ok h.oke).2.2.2.2
  have hwc := s4.2.2.2.1
  have hcut := s4.cut (flS l).1 ((flS l).1 + (flS l).2) (by omega) (by omega)
  rw [show (flS l).1 + (flS l).2 - (flS l).1 = (flS l).2 by omega, show ((tblB l).drop (flS l).1).take (flS l).2 = filT l from hof] at hcut
  have HHA : Hid (∀ wx, Below w.heap.size w wx → Calls Try.prog 56 #[.slice (cutA wa wc (flS l).1) (flS l).2 (wc - (flS l).1), .slice ka kl kc] wx fun e w' => e = .returned (.bool (has (filT l) key)) ∧ Below wx.heap.size wx w') := fun wx hb => bhas_any (hcut.later hb) (hk.later hb)
  have HOF : Hid (∀ wx, Calls Try.prog 47 #[.agg #[.int .i64 ((flS l).1 : Int), .int .i64 ((flS l).2 : Int)], .slice wa (tblB l).length wc] wx fun e w' => e = .returned (.slice (cutA wa wc (flS l).1) (flS l).2 (wc - (flS l).1)) ∧ Below wx.heap.size wx w') := fun wx => spof_t (by omega) (by omega) (by omega)
  have HBD : Hid (Below w.heap.size w w.drew) := (Below.refl _ w).drew
  generalize cutA wa wc (flS l).1 = a1 at HHA HOF
  generalize wc - (flS l).1 = c9 at HHA HOF
  generalize (flS l).1 = F0 at HHA HOF c2
  generalize (flS l).2 = F1 at HHA HOF c3
  generalize (tblB l).length = TL at HOF c0
  generalize has (filT l) key = B at HHA ⊢
  have HC : Hid (∀ wx, Below w.heap.size w wx → wx.cell? ⟨p, 0, none⟩ = some (.slice wa TL wc) ∧ wx.cell? ⟨p, 2, none⟩ = some (.int .i64 (F0 : Int)) ∧ wx.cell? ⟨p, 3, none⟩ = some (.int .i64 (F1 : Int))) := fun wx hb => ⟨cell_later hb c0, cell_later hb c2, cell_later hb c3⟩
  clear h hk hin h5 hof hwc hcut s4 r5 c1 c4
  go_enter Try.func23, Try.ntmps23
  go_wp2_with fail
  go_region_held_law (fun w' => w'.cell? ⟨p, 0, none⟩ = some (.slice wa TL wc) ∧ w'.cell? ⟨p, 2, none⟩ = some (.int .i64 (F0 : Int)) ∧ w'.cell? ⟨p, 3, none⟩ = some (.int .i64 (F1 : Int))) (first | exact ⟨c0, c2, c3⟩ | exact HC.out _ HBD.out | exact HC.out _ B5 | exact HC.out _ B6) (first | (go_at_call 47; refine (HOF.out _).mono ?_; rintro e w5 ⟨rfl, b5⟩; have B5 := HBD.out.trans (b5.mono HBD.out.size); clear b5) | (go_at_call 56; refine (HHA.out _ B5).mono ?_; rintro e w6 ⟨rfl, b6⟩; have B6 := B5.trans (b6.mono B5.size); clear b6))
  all_goals
    go_wp2_with fail
    exact bodyPost_ret (v := .bool B) (by simp [results, Try.results23, go_sem]) rfl ⟨rfl, B6⟩
end Go.Proofs.Ytfecopldepnicaa

/- The landed block: the search by halves between restarts. -/
namespace Go.Proofs.Ytfecopldepnicaa
open Go.RowKit
set_option linter.unusedVariables false
set_option linter.unusedSimpArgs false

set_option maxHeartbeats 1000000 in
set_option maxRecDepth 100000 in
theorem srch_k {w : World} {n : Nat} (hn : n ≤ 1000000) {p0 p1 p2 p3 : Value} {F : Nat → Bool}
    (HF0 : ∀ wx, Below w.heap.size w wx → ∀ i, i < n → Calls Try.prog 108 #[.int .i64 (i : Int), p0, p1, p2, p3] wx fun e w' => e = .returned (.bool (F i)) ∧ Below wx.heap.size wx w') :
    Calls Try.prog 78 #[.int .i64 (n : Int), .func (.func 108) #[] #[p0, p1, p2, p3]] w fun e w' => ∃ r : Nat, r ≤ n ∧ e = .returned (.int .i64 (r : Int)) ∧ (r = 0 ∨ F (r - 1) = false) ∧ Below w.heap.size w w' := by
  have HF := hid HF0
  clear HF0
  go_enter Try.func78, Try.ntmps78
  go_wp2_with fail
  go_loopg [5, 6, 7] n (fun g i j _ wr => ∃ a b : Nat, b = a + g ∧ b ≤ n ∧ i = .int .i64 (a : Int) ∧ j = .int .i64 (b : Int) ∧ Hid ((a = 0 ∨ F (a - 1) = false) ∧ Below w.heap.size w wr))
  case atStart => exact ⟨0, n, by omega, Nat.le_refl _, rfl, rfl, .inl rfl, Below.refl _ _⟩
  case round =>
    obtain ⟨a, b, hg, hbn, rfl, rfl, HK⟩ := hrel
    by_cases hab : a < b
    · have hab' : (a : Int) < (b : Int) := by omega
      obtain ⟨m, hm⟩ : ∃ m, m = (a + b) / 2 := ⟨_, rfl⟩
      have hdiv : ((a : Int) + (b : Int)) / 2 = (m : Int) := by omega
      have HM : Hid (a ≤ m ∧ m < b ∧ m < n) := ⟨by omega, by omega, by omega⟩
      have hm62 : m ≤ 2 ^ 61 := by omega
      have ha62 : a ≤ 2 ^ 61 := by omega
      have hb62 : b ≤ 2 ^ 61 := by omega
      have HG : Hid (b = a + gk ∧ b ≤ n) := ⟨hg, hbn⟩
      have hc := HF.out wr HK.out.2 m HM.out.2.2
      have HB := hid HK.out
      clear hm hg hbn hab HK
      cases hF : F m with
      | false =>
        rw [hF] at hc
        go_wp2_with (go_at_call 108; refine hc.mono ?_; rintro e w1 ⟨rfl, b1⟩)
        go_roundg (b - (m + 1))
        case measure => have := HM.out; have := HG.out; omega
        case rel => exact ⟨m + 1, b, by have := HM.out; omega, HG.out.2, by go_num, rfl, .inr (by rw [Nat.add_sub_cancel]; exact hF), HB.out.2.trans (b1.mono HB.out.2.size)⟩
      | true =>
        rw [hF] at hc
        go_wp2_with (go_at_call 108; refine hc.mono ?_; rintro e w1 ⟨rfl, b1⟩)
        go_roundg (m - a)
        case measure => have := HM.out; have := HG.out; omega
        case rel => exact ⟨a, m, by have := HM.out; omega, by have := HM.out; omega, rfl, rfl, HB.out.1, HB.out.2.trans (b1.mono HB.out.2.size)⟩
    · have hab' : ¬ ((a : Int) < (b : Int)) := by omega
      have HA : Hid (a ≤ n) := by show _ ≤ _; omega
      clear hg hab
      go_wp2_with fail
      exact bodyPost_ret (v := .int .i64 (a : Int)) (by simp [results, Try.results78, go_sem]) rfl ⟨a, HA.out, rfl, HK.out.1, HK.out.2⟩

set_option maxHeartbeats 1000000 in
set_option maxRecDepth 100000 in
theorem plc_k {w : World} {ao : Option Addr} {len cap : Nat} {P : List Int} (h : Sl w ao len cap P) {i V : Nat} (hi : 4 * i + 4 ≤ len) (hl : len ≤ 2000000) (hV : fv (xof (P.drop (4 * i))) 4 = V) (hV2 : V ≤ 2000000) :
    Calls Try.prog 109 #[.slice ao len cap, .int .i64 (i : Int)] w fun e w' => e = .returned (.int .i64 (V : Int)) ∧ w' = w := by
  have hcap := h.2.2.2.1
  have hr := read_any (cutA ao cap (4 * i)) (len - 4 * i) (cap - 4 * i) (xof (P.drop (4 * i))) 4 w (h.from (4 * i) (by omega)).2.2.2.2.2 (by omega)
  unfold readV at hr
  rw [if_pos (by unfold InSize; omega), if_neg (by omega)] at hr
  rw [show (4 : Int).toNat = 4 from rfl, hV] at hr
  have hcf := fun w => run_from w ao len cap (4 * i) (by omega) hcap
  have hi4 : ((4 * i : Nat) : Int) = (i : Int) * 4 := by omega
  simp only [hi4] at hcf
  have hi62 : i ≤ 2 ^ 60 := by omega
  have hV62 : V ≤ 2 ^ 61 := by omega
  have hw4 : wrap64 ((i : Int) * 4) = (i : Int) * 4 := by unfold wrap64; omega
  generalize cutA ao cap (4 * i) = a1 at hr hcf
  generalize len - 4 * i = l1 at hr hcf
  generalize cap - 4 * i = c1 at hr hcf
  clear h hi hl hV hV2 hcap hi4
  go_enter Try.func109, Try.ntmps109
  go_wp2_with (go_at_call 96; refine hr.mono ?_; rintro e w' ⟨rfl, hw⟩; obtain rfl := hw.symm)
  exact bodyPost_ret (v := .int .i64 (V : Int)) (by simp [results, Try.results109, go_sem]) rfl ⟨rfl, rfl⟩

set_option maxHeartbeats 1000000 in
set_option maxRecDepth 100000 in
theorem clo_k {w : World} {b0 b1 b2 b3 : Nat} {ba pa ka : Option Addr} {bl bc pl pc kl kc i V : Nat} {s : Int} {B P key t : List Int} {o : EntV}
    (c0 : w.cell? ⟨b0, 0, none⟩ = some (.slice ba bl bc)) (c1 : w.cell? ⟨b1, 0, none⟩ = some (.slice pa pl pc)) (c2 : w.cell? ⟨b2, 0, none⟩ = some (.slice ka kl kc)) (c3 : w.cell? ⟨b3, 0, none⟩ = some (.int .i64 s))
    (hB : Sl w ba bl bc B) (hP : Sl w pa pl pc P) (hK : Sl w ka kl kc key) (hi : 4 * i + 4 ≤ pl) (hpl : pl ≤ 2000000) (hbl : bl ≤ 2000000) (hV : fv (xof (P.drop (4 * i))) 4 = V) (hV2 : V ≤ bl) (ht : tE [] (B.drop V) = (0, o, t)) :
    Calls Try.prog 108 #[.int .i64 (i : Int), .pointer (some ⟨b0, 0, none⟩), .pointer (some ⟨b1, 0, none⟩), .pointer (some ⟨b2, 0, none⟩), .pointer (some ⟨b3, 0, none⟩)] w fun e w' => e = .returned (.bool (!ahK o key s)) ∧ Below w.heap.size w w' := by
  have HPL : Hid (∀ wx, Below w.heap.size w wx → Calls Try.prog 109 #[.slice pa pl pc, .int .i64 (i : Int)] wx fun e w' => e = .returned (.int .i64 (V : Int)) ∧ w' = wx) := fun wx hb => plc_k (hP.later hb) hi hpl hV (by omega)
  have hcf := fun w => run_from w ba bl bc V hV2 hB.2.2.2.1
  have HTE : Hid (∀ wx, Below w.heap.size w wx → Calls Try.prog 100 #[.slice (cutA ba bc V) (bl - V) (bc - V), .slice none 0 0] wx fun r w' => ∃ ka kc va vc rv, r = .returned (.tuple #[.agg #[.slice ka o.key.length kc, .int .i64 o.seq, .bool o.gone, .int .i64 o.till, .slice va o.val.length vc], rv, .int .i64 0]) ∧ Sg (fun b => wx.heap.size ≤ b) w' ka kc o.key ∧ Below wx.heap.size wx w') := fun wx hb => by
    refine (tent_k ((hB.from V hV2).later hb) (by omega) (Sl.nil wx) (by omega)).mono ?_
    rintro r w' ⟨ka, kc, va, vc, rv, he, K1, K2, I1, I2, s1, b1⟩
    rw [ht] at he K1
    exact ⟨ka, kc, va, vc, rv, he, K1, b1⟩
  have HAK : Hid (∀ {wx ka' kc' va' vc'}, Sl wx ka' o.key.length kc' o.key → Below w.heap.size w wx → Calls Try.prog 60 #[.agg #[.slice ka' o.key.length kc', .int .i64 o.seq, .bool o.gone, .int .i64 o.till, .slice va' o.val.length vc'], .slice ka kl kc, .int .i64 s] wx fun r w' => r = .returned (.bool (ahK o key s)) ∧ Below wx.heap.size wx w') := fun {wx ka' kc' va' vc'} hs hb => ahd_k hs (hK.later hb)
  have HC : Hid (∀ wx, Below w.heap.size w wx → wx.cell? ⟨b0, 0, none⟩ = some (.slice ba bl bc) ∧ wx.cell? ⟨b1, 0, none⟩ = some (.slice pa pl pc) ∧ wx.cell? ⟨b2, 0, none⟩ = some (.slice ka kl kc) ∧ wx.cell? ⟨b3, 0, none⟩ = some (.int .i64 s)) := fun wx hb => ⟨cell_later hb c0, cell_later hb c1, cell_later hb c2, cell_later hb c3⟩
  generalize cutA ba bc V = a5 at hcf HTE
  generalize bl - V = l5 at hcf HTE
  generalize bc - V = c5 at hcf HTE
  generalize ahK o key s = A at HAK ⊢
  have hV62 : V ≤ 2 ^ 61 := by omega
  clear hB hP hK hi hpl hbl hV hV2 ht
  have HBD : Hid (Below w.heap.size w w.drew) := (Below.refl _ _).drew
  have HBA : Hid (Below w.heap.size w (w.alloc (.cells #[.slice none 0 0, .int .i64 0, .bool false, .int .i64 0, .slice none 0 0] 34))) := (Below.refl _ _).alloc (Nat.le_refl _) _
  have HBE : Hid (Below w.heap.size w (w.alloc (.cells #[.slice none 0 0, .int .i64 0, .bool false, .int .i64 0, .slice none 0 0] 34)).drew) := HBA.out.drew
  have HZ : Hid (∀ w2, Below (w.alloc (.cells #[.slice none 0 0, .int .i64 0, .bool false, .int .i64 0, .slice none 0 0] 34)).drew.heap.size (w.alloc (.cells #[.slice none 0 0, .int .i64 0, .bool false, .int .i64 0, .slice none 0 0] 34)).drew w2 → w2.heap[w.heap.size]? = some (.cells #[.slice none 0 0, .int .i64 0, .bool false, .int .i64 0, .slice none 0 0] 34 (0, 0))) := fun w2 hb => by
    have hs : w.heap.size < (w.alloc (.cells #[.slice none 0 0, .int .i64 0, .bool false, .int .i64 0, .slice none 0 0] 34)).heap.size := by simp
    have h1 : w2.heap[w.heap.size]? = (w.alloc (.cells #[.slice none 0 0, .int .i64 0, .bool false, .int .i64 0, .slice none 0 0] 34)).heap[w.heap.size]? := hb.block _ hs
    rw [h1]
    exact heap_alloc_new w _
  go_enter Try.func108, Try.ntmps108
  go_wp2_with fail
  go_region_held_law (fun w' => w'.cell? ⟨b0, 0, none⟩ = some (.slice ba bl bc) ∧ w'.cell? ⟨b1, 0, none⟩ = some (.slice pa pl pc)) (first | with_reducible exact ⟨c0, c1⟩ | with_reducible exact ⟨(HC.out _ HBD.out).1, (HC.out _ HBD.out).2.1⟩ | with_reducible exact ⟨(HC.out _ HBE.out).1, (HC.out _ HBE.out).2.1⟩ | with_reducible exact ⟨(HC.out _ HBA.out).1, (HC.out _ HBA.out).2.1⟩ | with_reducible exact ⟨(HC.out _ B2).1, (HC.out _ B2).2.1⟩ | with_reducible exact ⟨(HC.out _ (B2.alloc B2.size _)).1, (HC.out _ (B2.alloc B2.size _)).2.1⟩ | with_reducible exact ⟨(HC.out _ BL).1, (HC.out _ BL).2.1⟩) (first | (with_reducible refine step_fn 109 (args := #[.slice pa pl pc, .int .i64 (i : Int)]) rfl rfl (by simp [Act.eval, Act.put]) (by kernel_rfl) (HPL.out _ (by first | with_reducible exact HBD.out | with_reducible exact HBE.out)) ?_; rintro e w1 ⟨rfl, hw1⟩; subst hw1; refine ⟨_, rfl, ?_⟩) | (with_reducible refine step_fn 100 (args := #[.slice a5 l5 c5, .slice none 0 0]) rfl rfl (by simp [Act.eval, Act.put]) (by kernel_rfl) (HTE.out _ HBD.out) ?_; rintro e w2 ⟨ka2, kc2, va2, vc2, rv2, rfl, k2, bb2⟩; have B2 := HBD.out.trans (bb2.mono HBD.out.size); refine ⟨_, rfl, ?_⟩) | (with_reducible refine step_fn 100 (args := #[.slice a5 l5 c5, .slice none 0 0]) rfl rfl (by simp [Act.eval, Act.put]) (by kernel_rfl) (HTE.out _ HBE.out) ?_; rintro e w2 ⟨ka2, kc2, va2, vc2, rv2, rfl, k2, bb2⟩; have B2 := HBE.out.trans (bb2.mono HBE.out.size); have hz := HZ.out _ bb2; have z0 := (cell_of hz 0).trans rfl; have z1 := (cell_of hz 1).trans rfl; have z2 := (cell_of hz 2).trans rfl; have z3 := (cell_of hz 3).trans rfl; have z4 := (cell_of hz 4).trans rfl; have f0 := frozen_of hz 0; have f1 := frozen_of hz 1; have f2 := frozen_of hz 2; have f3 := frozen_of hz 3; have f4 := frozen_of hz 4; have BL : Below w.heap.size w (lay5 w.heap.size w2 (.slice ka2 o.key.length kc2) (.int .i64 o.seq) (.bool o.gone) (.int .i64 o.till) (.slice va2 o.val.length vc2)) := Below.grown B2 (lay5_grown _ _ _ _ _ _ _) B2.size (fun k e => by simp only [Option.some.injEq] at e; omega); unfold lay5 at BL; refine ⟨_, rfl, ?_⟩))
  all_goals first
    | (have hs : w.heap.size < (w.alloc (.cells #[.slice none 0 0, .int .i64 0, .bool false, .int .i64 0, .slice none 0 0] 34)).drew.heap.size := by show _ < (w.alloc _).heap.size; simp
       have hk2 := k2.grown (lay5_grown w.heap.size w2 (.slice ka2 o.key.length kc2) (.int .i64 o.seq) (.bool o.gone) (.int .i64 o.till) (.slice va2 o.val.length vc2)) (fun b hb e => by simp only [Option.some.injEq] at e; subst e; exact absurd hb (Nat.not_le_of_lt hs))
       have hl5 := lay5_block hz (.slice ka2 o.key.length kc2) (.int .i64 o.seq) (.bool o.gone) (.int .i64 o.till) (.slice va2 o.val.length vc2)
       have BL2 : Below w.heap.size w (lay5 w.heap.size w2 (.slice ka2 o.key.length kc2) (.int .i64 o.seq) (.bool o.gone) (.int .i64 o.till) (.slice va2 o.val.length vc2)) := BL
       obtain ⟨WF, hWF⟩ : ∃ WF, WF = lay5 w.heap.size w2 (.slice ka2 o.key.length kc2) (.int .i64 o.seq) (.bool o.gone) (.int .i64 o.till) (.slice va2 o.val.length vc2) := ⟨_, rfl⟩
       rw [← hWF] at hk2 hl5 BL2
       unfold lay5 at hWF
       rw [← hWF]
       have x0 := (cell_of hl5 0).trans rfl
       have x1 := (cell_of hl5 1).trans rfl
       have x2 := (cell_of hl5 2).trans rfl
       have x3 := (cell_of hl5 3).trans rfl
       have x4 := (cell_of hl5 4).trans rfl
       obtain ⟨y0, y1, y2, y3⟩ := HC.out _ BL2
       have hk := HAK.out (va' := va2) (vc' := vc2) hk2.1 BL2
       clear z0 z1 z2 z3 z4 f0 f1 f2 f3 f4 hz BL hWF hl5 hk2 k2 bb2 B2 c0 c1 c2 c3
       go_wp2_with (go_at_call 60; refine hk.mono ?_; rintro e w5 ⟨rfl, b5⟩)
       exact bodyPost_ret (v := .bool (!A)) (by simp [results, Try.results108, go_sem]) rfl ⟨rfl, BL2.trans (b5.mono BL2.size)⟩)
    | (have BF := B2.alloc B2.size (.cells #[.slice ka2 o.key.length kc2, .int .i64 o.seq, .bool o.gone, .int .i64 o.till, .slice va2 o.val.length vc2] 34)
       obtain ⟨y0, y1, y2, y3⟩ := HC.out _ BF
       have hk := HAK.out (va' := va2) (vc' := vc2) (k2.later ((Below.refl _ w2).alloc (Nat.le_refl _) (.cells #[.slice ka2 o.key.length kc2, .int .i64 o.seq, .bool o.gone, .int .i64 o.till, .slice va2 o.val.length vc2] 34))).1 BF
       clear k2 bb2 B2 c0 c1 c2 c3
       go_wp2_with (go_at_call 60; refine hk.mono ?_; rintro e w5 ⟨rfl, b5⟩)
       exact bodyPost_ret (v := .bool (!A)) (by simp [results, Try.results108, go_sem]) rfl ⟨rfl, BF.trans (b5.mono BF.size)⟩)
end Go.Proofs.Ytfecopldepnicaa
