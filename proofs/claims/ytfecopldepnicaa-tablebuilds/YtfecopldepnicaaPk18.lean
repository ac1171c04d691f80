import Derived.Test.YtfecopldepnicaaPk03
import Derived.Test.YtfecopldepnicaaPk12
import Derived.Test.YtfecopldepnicaaPk14
import Derived.Test.YtfecopldepnicaaPk17
/- The document's own Table: what it refuses. -/
namespace Go.Proofs.Ytfecopldepnicaa
open Go.RowKit
set_option linter.unusedVariables false
set_option linter.unusedSimpArgs false


set_option maxHeartbeats 40000000 in
set_option maxRecDepth 100000 in
theorem rtbl_many {w : World} {ao : Option Addr} {len cap : Nat} (h : len = 0 ∨ 4000 < len) (hl : len ≤ 2 ^ 61) :
    Calls Try.prog 10 #[.slice ao len cap] w fun e w' => e = .returned (.tuple #[.slice none 0 0, .int .i64 13]) ∧ Below w.heap.size w w' := by
  rcases h with h | h
  · subst h
    go_enter Try.func10, Try.ntmps10
    go_wp2_with fail
    exact bodyPost_ret (v := .tuple #[.slice none 0 0, .int .i64 13]) (by simp [results, Try.results10, go_sem]) rfl ⟨rfl, Below.refl _ _⟩
  · have h0 : ¬ ((len : Int) = 0) := by omega
    have h1 : (4000 : Int) < (len : Int) := by omega
    go_enter Try.func10, Try.ntmps10
    go_wp2_with fail
    exact bodyPost_ret (v := .tuple #[.slice none 0 0, .int .i64 13]) (by simp [results, Try.results10, go_sem]) rfl ⟨rfl, Below.refl _ _⟩
set_option maxHeartbeats 40000000 in
set_option maxRecDepth 100000 in
theorem rtbl_bad {w : World} {ao : Option Addr} {len cap : Nat} {l : List EntV} (h : RS entE w ao len cap l) (h1 : 1 ≤ len) (h4 : len ≤ 4000) (hm : l.all mayE = false ∨ ordB l = false) {c : Int} (hc : c = if l.all mayE = false then 1 else 11) :
    Calls Try.prog 10 #[.slice ao len cap] w fun e w' => e = .returned (.tuple #[.slice none 0 0, .int .i64 c]) ∧ Below w.heap.size w w' := by
  have hl0 : ¬ ((len : Int) = 0) := by omega
  have hl4 : ¬ ((4000 : Int) < (len : Int)) := by omega
  have hl62 : len ≤ 2 ^ 61 := by omega
  have hln : l.length = len := h.len.1
  have HS : Hid (RS entE w ao len cap l ∧ (l.all mayE = false ∨ ordB l = false) ∧ len ≤ 1000000) := ⟨h, hm, by omega⟩
  have HC := hid hc
  clear h hm h1 h4 hc
  go_enter Try.func10, Try.ntmps10
  go_wp2_with fail
  go_loopg [5, 30] len (fun g _ i wr => ∃ k : Nat, k + g = len ∧ i = .int .i64 (k : Int) ∧ Hid ((∀ j (hj : j < l.length), j < k → mayE l[j] = true) ∧ Below w.heap.size w wr))
  case atStart => exact ⟨0, by omega, rfl, fun j _ h => absurd h (by omega), Below.refl _ _⟩
  case round =>
    obtain ⟨k, hk, rfl, HK⟩ := hrel
    by_cases hkl : k < len
    · have hkl' : (k : Int) < (len : Int) := by omega
      have hkx : k < l.length := by omega
      have bel := HK.out.2
      obtain ⟨b, off, ka, kc, va, vc, rfl, d0, d1, d2, d3, d4, sk, sv, i1, i2⟩ := RS.ent (HS.out.1.later bel) (List.getElem?_eq_getElem hkx)
      have HN : Hid (mayE l[k] = false → l.all mayE = false) := fun q => List.all_eq_false.2 ⟨l[k], List.getElem_mem hkx, by rw [q]; decide⟩
      have HP : Hid (mayE l[k] = true → ∀ j (hj : j < l.length), j < k + 1 → mayE l[j] = true) := fun q j hj hjk => if e : j = k then by subst e; exact q else HK.out.1 j hj (by omega)
      generalize l[k] = o at d0 d1 d2 d3 d4 HN HP
      have hk62 : k ≤ 2 ^ 61 := by omega
      obtain ⟨GK, HG⟩ : ∃ g, Hid (g < gk ∧ k + 1 + g = len) := ⟨gk - 1, by omega, by omega⟩
      obtain ⟨W1, hW1⟩ : ∃ W1, W1 = wr.alloc (.cells #[.slice ka o.key.length kc, .int .i64 o.seq, .bool o.gone, .int .i64 o.till, .slice va o.val.length vc] 34) := ⟨_, rfl⟩
      have b1 : Below wr.heap.size wr W1 := by rw [hW1]; exact (Below.refl _ _).alloc (Nat.le_refl _) _
      have hbx : ∀ wx, Below W1.heap.size W1 wx → _ := fun wx hb => box_cells wr (.slice ka o.key.length kc) (.int .i64 o.seq) (.bool o.gone) (.int .i64 o.till) (.slice va o.val.length vc) 34 (wx := wx) (by rw [← hW1]; exact hb)
      have HBX := hid hbx
      have HBw : Hid (∀ wx, Below W1.heap.size W1 wx → Below w.heap.size w wx) := fun wx hb => bel.trans ((b1.trans (hb.mono b1.size)).mono bel.size)
      have HM1 : Hid (∀ wx, Calls Try.prog 35 #[entA ka kc va vc o] wx fun r w' => r = .returned (.bool (mayE o)) ∧ Below wx.heap.size wx w') := fun wx => rmayE_any
      have HW1 := hid hW1
      unfold entA at HM1
      clear sk sv i1 i2 hbx hW1 hk bel b1
      go_upto_region 6 with fail
      rw [← HW1.out]
      obtain ⟨y0, y1, y2, y3, y4⟩ := HBX.out _ (Below.refl _ _)
      clear d0 d1 d2 d3 d4
      cases hmo : mayE o with
      | true =>
        rw [hmo] at HM1
        go_wp2_with (go_at_call 35; refine (HM1.out _).mono ?_; rintro e w2 ⟨rfl, b2⟩)
        go_roundg GK
        case measure => exact HG.out.1
        case rel => exact ⟨k + 1, HG.out.2, by go_num, HP.out hmo, HBw.out _ b2⟩
      | false =>
        rw [hmo] at HM1
        go_wp2_with (go_at_call 35; refine (HM1.out _).mono ?_; rintro e w2 ⟨rfl, b2⟩)
        exact bodyPost_ret (v := .tuple #[.slice none 0 0, .int .i64 1]) (by simp [results, Try.results10, go_sem]) rfl ⟨by rw [HC.out, if_pos (HN.out hmo)], HBw.out _ b2⟩
    · have hkl' : (len : Int) ≤ (k : Int) := by omega
      have hall : l.all mayE = true := all_takeM HK.out.1 (by omega)
      have ho : ordB l = false := HS.out.2.1.resolve_left (by rw [hall]; decide)
      have hO := rord_any (HS.out.1.later HK.out.2) HS.out.2.2
      rw [ho] at hO
      have HA := hid hall
      clear hk hkl hall ho
      go_wp2_with (go_at_call 36; refine hO.mono ?_; rintro e w2 ⟨rfl, b2⟩)
      exact bodyPost_ret (v := .tuple #[.slice none 0 0, .int .i64 11]) (by simp [results, Try.results10, go_sem]) rfl ⟨by rw [HC.out, HA.out]; rfl, HK.out.2.trans (b2.mono HK.out.2.size)⟩
end Go.Proofs.Ytfecopldepnicaa

/- bytes.Clone. -/
namespace Go.Proofs.Ytfecopldepnicaa
open Go.RowKit
set_option linter.unusedVariables false
set_option linter.unusedSimpArgs false

theorem wpList_applN {w : World} {ops : Array Oper} {rest : List Oper} {o : Oper} {a : Act} {Q : Exit → Act → World → Prop} {B : Nat} {v : Value} {xs ys : List Int} {ao : Option Addr} {m c : Nat} (hgd : o.guard = none) (s x : Operand)
    (ho : o.op = .call { callee := .builtin .append, args := #[s, x], argTypes := #[25, 25] }) (hs : a.eval s = v) (hrow : Row B w v xs) (hx : a.eval x = .slice ao m c) (hsl : Sl w ao m c ys) (hb : xs.length + m ≤ 140737488355328) (hB : B ≤ w.heap.size)
    (h : ∀ v' w', Row B w' v' (xs ++ ys) → w.grownBy w' v.ownBlock → Moved w v v' → wpList Try.prog ops Q rest (a.put o.dst v') w') : wpList Try.prog ops Q (o :: rest) a w :=
  wpList_plain hgd fun K hK => by
    obtain ⟨v', w', hr, h2, h3, h4⟩ := run_app B w o.type v xs hrow ao m c (xof ys) hsl.2.2.1 hsl.2.2.2.2.2 hb hB
    rw [← hsl.1, bs_xof hsl.2.1] at h2
    unfold Oper.wp execOp
    simp only [ho, resolve, invoke, builtin, Sem.run_bind, Sem.run_pure, Result.andThen_ok, List.map_toArray, List.map_cons, List.map_nil, hs, hx, hr]
    exact hK _ _ (h v' w' h2 h3 h4)
set_option maxHeartbeats 1000000 in
set_option maxRecDepth 100000 in
theorem clone_n {w : World} {ao : Option Addr} {len cap : Nat} {xs : List Int} (h : Sl w ao len cap xs) (hl : len ≤ 140737488355328) :
    Calls Try.prog 52 #[.slice ao len cap] w fun e w' => ∃ v, e = .returned v ∧ Row w.heap.size w' v xs ∧ Below w.heap.size w w' := by
  have q22 : ∀ (w : World) (a : Option Addr) (n c n' c' : Nat), (binOp .eql 25 (.slice a n c) (.slice none n' c')).run Try.prog w = .ok (.bool a.isNone) w := fun w a n c n' c' => Lib.run_eql_slice_nil w _ _ a n c n' c' Try.underlying25
  cases ao with
  | none =>
    obtain ⟨rfl, rfl⟩ := h.2.2.1 rfl
    have hx : xs = [] := List.eq_nil_of_length_eq_zero h.1
    subst hx
    clear h hl
    go_enter Try.func52, Try.ntmps52
    go_wp2_with fail
    exact bodyPost_ret (v := .slice none 0 0) (by simp [results, Try.results52, go_sem]) rfl ⟨_, rfl, Row.nil _ _, Below.refl _ _⟩
  | some a =>
    have b1 : Below w.heap.size w (w.alloc (.cells #[] 5)) := (Below.refl _ _).alloc (Nat.le_refl _) _
    have HS : Hid (Sl (w.alloc (.cells #[] 5)) (some a) len cap xs ∧ len ≤ 140737488355328 ∧ Below w.heap.size w (w.alloc (.cells #[] 5)) ∧ Row w.heap.size (w.alloc (.cells #[] 5)) (.slice (some ⟨w.heap.size, 0, none⟩) 0 0) []) := ⟨h.later b1, hl, b1, World.ownsRow_made w #[] 0 (Nat.le_refl _) (Nat.zero_le _) rfl⟩
    clear h hl b1
    go_enter Try.func52, Try.ntmps52
    go_wp2_with (at_builtin; refine wpList_applN (B := w.heap.size) rfl (.tmp 5) (.tmp 6) rfl rfl HS.out.2.2.2 rfl HS.out.1 (by have := HS.out.2.1; simp; omega) HS.out.2.2.1.size ?_; intro v2 w2 r2 g2 m2)
    exact bodyPost_ret (v := v2) (by simp [results, Try.results52, go_sem]) rfl ⟨v2, rfl, r2, HS.out.2.2.1.trans (grown_below HS.out.2.2.2 g2 HS.out.2.2.1.size)⟩

end Go.Proofs.Ytfecopldepnicaa

/- What is left of bytes that are read: slices of slices, in any world. -/
namespace Go.Proofs.Ytfecopldepnicaa
open Go.RowKit
set_option linter.unusedVariables false
set_option linter.unusedSimpArgs false

/-- What is left, where nothing is wrong. -/
def rst (s : Rd) : List Int := if s.2 ≠ 0 then [] else s.1
/-- A slice of a slice: what it holds, in any world. -/
def Rests (ao : Option Addr) (len cap : Nat) (d : List Int) (r : Value) (xs : List Int) : Prop := ∀ w, Sl w ao len cap d → SlV w r xs
theorem SlV.sl {w : World} {a : Option Addr} {n c : Nat} {xs : List Int} (h : SlV w (.slice a n c) xs) : Sl w a n c xs := by
  obtain ⟨a', c', e, hs⟩ := h
  simp only [Value.slice.injEq] at e
  obtain ⟨rfl, rfl, rfl⟩ := e
  exact hs
theorem Rests.trans {ao a : Option Addr} {len cap n c : Nat} {d xs ys : List Int} {r : Value} (h : Rests ao len cap d (.slice a n c) xs) (g : Rests a n c xs r ys) : Rests ao len cap d r ys := fun w hw => g w (h w hw).sl
theorem Rests.nil (ao : Option Addr) (len cap : Nat) (d : List Int) : Rests ao len cap d (.slice none 0 0) [] := fun w _ => slv_nil w
theorem Rests.from {ao : Option Addr} {len cap : Nat} {d : List Int} (i : Nat) (hi : i ≤ len) (hd : d.length = len) : Rests ao len cap d (.slice (cutA ao cap i) (len - i) (cap - i)) (d.drop i) := fun w h => by
  have e : (d.drop i).length = len - i := by rw [List.length_drop, hd]
  exact ⟨_, _, by rw [e], by rw [e]; exact h.from i hi⟩
end Go.Proofs.Ytfecopldepnicaa
