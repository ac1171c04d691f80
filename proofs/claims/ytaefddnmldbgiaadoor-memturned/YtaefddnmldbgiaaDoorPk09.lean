import Derived.Lib.SlBytesConst
import Derived.Test.YtaefddnmldbgiaaDoorPk04
import Derived.Test.YtaefddnmldbgiaaDoorPk07
import Derived.Test.YtaefddnmldbgiaaDoorPk08
/- The law's own mem that every program must know. -/
namespace Go.Proofs.YtaefddnmldbgiaaDoor
open Go.RowKit
set_option linter.unusedVariables false
set_option linter.unusedSimpArgs false

theorem sl_byte (w : World) (c : Nat) (hc : c < 256) : Sl (w.alloc (.cells #[.int .u8 (c : Int)] 5 (1, 2))) (some ⟨w.heap.size, 0, none⟩) 1 1 [(c : Int)] := by
  refine ⟨rfl, fun x hx => by simp at hx; omega, (fun e => by cases e), Nat.le_refl _, by unfold maxLen; omega, fun k hk => ?_⟩
  obtain rfl : k = 0 := by omega
  refine ⟨by simpa [xof] using hc, w.heap.size, 0, rfl, ?_⟩
  have e : (w.alloc (.cells #[.int .u8 (c : Int)] 5 (1, 2))).heap[w.heap.size]? = some (.cells #[.int .u8 (c : Int)] 5 (1, 2)) := heap_alloc_new w _
  unfold World.cell?
  rw [e]
  simp [xof]
def eA : EntV := ⟨[97], 5, false, 0, [120]⟩
def eB : EntV := ⟨[97], 7, true, 0, []⟩
theorem add_a : addE [] eA = (0, [eA]) := by simp [addE, mayE, hasE, putE, atE, eA]
theorem ahead_ab : ahead eA eB = 1 := by simp [ahead, eA, eB, cmp]
theorem add_b : addE [eA] eB = (0, [eB, eA]) := by simp [addE, mayE, hasE, putE, atE, ahead_ab]; simp [eB]
theorem get_ab : getE [eB, eA] [97] 6 = some eA := by simp [getE, eA, eB, cmp]
theorem ord_nil : ordE [] := List.Pairwise.nil
theorem ok_nil : okE [] := fun e he => by cases he
theorem ord_a : ordE [eA] := List.pairwise_singleton _ _
theorem ok_a : okE [eA] := by have := addE_ok ok_nil eA; rw [add_a] at this; exact this
theorem ord_ab : ordE [eB, eA] := by have := addE_ord ord_a eB; rw [add_b] at this; exact this
theorem ok_ab : okE [eB, eA] := by have := addE_ok ok_a eB; rw [add_b] at this; exact this
theorem in64_of {n : Int} (h1 : -9223372036854775808 ≤ n) (h2 : n ≤ 9223372036854775807) : In64 n := ⟨h1, h2⟩
theorem refs_pair {a b : Nat} {k v : Value} {s t : Int} {g : Bool} (hk : ∀ x, Refs k x → x = a) (hv : ∀ x, Refs v x → x = b) : ∀ u ∈ [k, .int .i64 s, .bool g, .int .i64 t, v], ∀ x, Refs u x → x = a ∨ x = b := fun u hu x hx => by
  simp only [List.mem_cons, List.not_mem_nil, or_false] at hu
  rcases hu with rfl | rfl | rfl | rfl | rfl
  · exact .inl (hk x hx)
  · exact (refs_int hx).elim
  · exact (refs_bool hx).elim
  · exact (refs_int hx).elim
  · exact .inr (hv x hx)
theorem refs_at {a l c x : Nat} (h : Refs (.slice (some ⟨a, 0, none⟩) l c) x) : x = a := by
  obtain ⟨off, l', c', e, _⟩ := h
  simp only [Value.slice.injEq, Option.some.injEq, Addr.mk.injEq, and_true] at e
  exact e.1.1.symm
theorem refs_none {a x : Nat} (h : Refs (.slice none 0 0) x) : x = a := by
  obtain ⟨off, l', c', e, _⟩ := h
  cases e

set_option maxHeartbeats 2000000 in
set_option maxRecDepth 100000 in
theorem awake9_any (D : PM) (w : World) (hG : D.G w) : Calls Tryd.prog 15 #[] w fun e w' => e = .returned (.bool true) ∧ Below w.heap.size w w' := by
  have hnew := D.new hG
  have hcv2 : ∀ (w : World) X, (convert 26 26 (.slice (some ⟨w.heap.size + 1, 0, none⟩) 1 1)).run Tryd.prog ((w.alloc X).alloc (.cells #[.int .u8 120] 5)) = .ok (.slice (some ⟨w.heap.size + 1, 0, none⟩) 1 1) ((w.alloc X).alloc (.cells #[.int .u8 120] 5 (1, 2))) := fun w X => by
    have := Lib.run_convert_bytes_const (P := Tryd.prog) (w.alloc X) 26 5 #[.int .u8 120] 1 1 Tryd.underlying26 Tryd.underlying5
    simpa using this
  have hcv := fun (w : World) a l c => Lib.run_convert_bytes_const (P := Tryd.prog) w 26 5 a l c Tryd.underlying26 Tryd.underlying5
  go_enter Tryd.func15, Tryd.ntmps15
  go_wp2_with fail
  refine hnew.mono ?_
  rintro e w1 ⟨p, F, rfl, r0, hF, b1⟩
  clear hnew
  obtain ⟨W3, hW3⟩ : ∃ W, W = (w1.alloc (.cells #[.int .u8 97] 5 (1, 2))).alloc (.cells #[.int .u8 120] 5 (1, 2)) := ⟨_, rfl⟩
  have b2 : Below w1.heap.size w1 W3 := by rw [hW3]; exact ((Below.refl _ w1).alloc (Nat.le_refl _) _).alloc (by simp) _
  have s1 : Sl W3 (some ⟨w1.heap.size, 0, none⟩) 1 1 [97] := by rw [hW3]; exact (sl_byte w1 97 (by decide)).later ((Below.refl _ _).alloc (Nat.le_refl _) _)
  have s2 : Sl W3 (some ⟨w1.heap.size + 1, 0, none⟩) 1 1 [120] := by
    have := sl_byte (w1.alloc (.cells #[.int .u8 97] 5 (1, 2))) 120 (by decide)
    rw [hW3]
    simpa using this
  have r1 := PM.later r0 b2
  have hr1 := D.lt r0
  have ha1 : Calls Tryd.prog 23 #[pm p, .agg #[.slice (some ⟨w1.heap.size, 0, none⟩) 1 1, .int .i64 5, .bool false, .int .i64 0, .slice (some ⟨w1.heap.size + 1, 0, none⟩) 1 1]] W3 fun r w' => r = .returned (.int .i64 0) ∧ ∃ F', D.R w' p [eA] F' ∧ Kept F W3 w' ∧ ∀ k, F' k → F k ∨ W3.heap.size ≤ k := by
    have := D.add (e := eA) (ka := some ⟨w1.heap.size, 0, none⟩) (kc := 1) (va := some ⟨w1.heap.size + 1, 0, none⟩) (vc := 1) r1 ord_nil ok_nil (by simp) ⟨_, _, _, _, rfl, s1, s2, in64_of (by decide) (by decide), in64_of (by decide) (by decide)⟩ (fun u hu x hx hFx => by
      have := hr1 x hFx
      rcases refs_pair (a := w1.heap.size) (b := w1.heap.size + 1) (fun x => refs_at) (fun x => refs_at) u hu x hx with q | q <;> omega) (by decide) (by decide)
    rw [add_a] at this
    exact this
  have HB : Hid (Below w.heap.size w w1 ∧ Below w1.heap.size w1 W3 ∧ (∀ k, F k → w.heap.size ≤ k)) := ⟨b1, b2, hF⟩
  rw [hW3] at ha1
  have HW3 := hid hW3
  clear s1 s2 r0 r1 hr1 b1 b2 hF hW3
  go_wp2_with fail
  refine ha1.mono ?_
  rintro e w2 ⟨rfl, F1, r2, k2, f2⟩
  rw [← HW3.out] at k2 f2
  have hF1 : ∀ k, F1 k → w.heap.size ≤ k := fun k hk => by
    have := HB.out.1.size
    have := HB.out.2.1.size
    rcases f2 k hk with q | q
    · exact HB.out.2.2 k q
    · omega
  have c2 : Below w.heap.size w w2 := (HB.out.1.trans (HB.out.2.1.mono HB.out.1.size)).trans (k2.below (Nat.le_trans HB.out.1.size HB.out.2.1.size) HB.out.2.2)
  obtain ⟨W4, hW4⟩ : ∃ W, W = w2.alloc (.cells #[.int .u8 97] 5 (1, 2)) := ⟨_, rfl⟩
  have b4 : Below w2.heap.size w2 W4 := by rw [hW4]; exact (Below.refl _ w2).alloc (Nat.le_refl _) _
  have s4 : Sl W4 (some ⟨w2.heap.size, 0, none⟩) 1 1 [97] := by rw [hW4]; exact sl_byte w2 97 (by decide)
  have hr2 := D.lt r2
  have ha2 : Calls Tryd.prog 23 #[pm p, .agg #[.slice (some ⟨w2.heap.size, 0, none⟩) 1 1, .int .i64 7, .bool true, .int .i64 0, .slice none 0 0]] W4 fun r w' => r = .returned (.int .i64 0) ∧ ∃ F', D.R w' p [eB, eA] F' ∧ Kept F1 W4 w' ∧ ∀ k, F' k → F1 k ∨ W4.heap.size ≤ k := by
    have := D.add (e := eB) (ka := some ⟨w2.heap.size, 0, none⟩) (kc := 1) (va := none) (vc := 0) (PM.later r2 b4) ord_a ok_a (by simp) ⟨_, _, _, _, rfl, s4, Sl.nil _, in64_of (by decide) (by decide), in64_of (by decide) (by decide)⟩ (fun u hu x hx hFx => by
      have := hr2 x hFx
      rcases refs_pair (a := w2.heap.size) (b := w2.heap.size) (fun x => refs_at) (fun x => refs_none) u hu x hx with q | q <;> omega) (by decide) (by decide)
    rw [add_b] at this
    exact this
  have HC : Hid (Below w.heap.size w W4 ∧ (∀ k, F1 k → w.heap.size ≤ k)) := ⟨c2.trans (b4.mono c2.size), hF1⟩
  rw [hW4] at ha2
  have HW4 := hid hW4
  clear s4 r2 hr2 b4 hW4 c2 hF1 k2 f2 ha1 HB
  go_wp2_with fail
  refine ha2.mono ?_
  rintro e w3 ⟨rfl, F2, r3, k3, f3⟩
  rw [← HW4.out] at k3 f3
  have c3 : Below w.heap.size w w3 := HC.out.1.trans (k3.below HC.out.1.size HC.out.2)
  obtain ⟨W5, hW5⟩ : ∃ W, W = w3.alloc (.cells #[.int .u8 97] 5 (1, 2)) := ⟨_, rfl⟩
  have b5 : Below w3.heap.size w3 W5 := by rw [hW5]; exact (Below.refl _ w3).alloc (Nat.le_refl _) _
  have s5 : Sl W5 (some ⟨w3.heap.size, 0, none⟩) 1 1 [97] := by rw [hW5]; exact sl_byte w3 97 (by decide)
  have hg := D.get (PM.later r3 b5) ord_ab ok_ab (by simp) s5 (s := 6) (in64_of (by decide) (by decide))
  rw [get_ab] at hg
  have HD : Hid (Below w.heap.size w W5) := c3.trans (b5.mono c3.size)
  rw [hW5] at hg
  have HW5 := hid hW5
  clear s5 r3 b5 hW5 c3 k3 f3 ha2 HC
  go_wp2_with fail
  refine hg.mono ?_
  rintro e w6 ⟨hgot, b6⟩
  rcases hgot with ⟨q, _⟩ | ⟨x, ka, kc, va, vc, hx, rfl, hem, _⟩
  · cases q
  · obtain rfl : eA = x := by simpa using hx
    obtain ⟨_, _, _, _, ev, t1, t2, _⟩ := hem
    unfold entL at ev
    simp only [List.cons.injEq, Value.slice.injEq, and_true, true_and] at ev
    obtain ⟨⟨rfl, rfl⟩, ⟨rfl, rfl⟩⟩ := ev
    rw [← HW5.out] at b6
    have HE : Hid (Below w.heap.size w w6) := HD.out.trans (b6.mono HD.out.size)
    have hst := fun C => str_l (t2.later ((Below.refl _ w6).alloc (Nat.le_refl _) C))
    have e1 : strOfNums eA.val = ⟨#[120]⟩ := rfl
    rw [e1] at hst
    unfold entA
    have l1 : eA.key.length = 1 := rfl
    have l2 : eA.val.length = 1 := rfl
    have l3 : eA.seq = 5 := rfl
    have l4 : eA.gone = false := rfl
    have l5 : eA.till = 0 := rfl
    rw [l1, l2, l3, l4, l5]
    rw [l2] at hst
    clear hg hx t1 t2 b6 HD HW3 HW4 HW5 l1 l2 l3 l4 l5 e1
    go_wp2_with fail
    go_ret
    exact ⟨rfl, HE.out.alloc HE.out.size _⟩
end Go.Proofs.YtaefddnmldbgiaaDoor

/- Slices of bytes as lists, beside the keys' theory. -/
namespace Go.Proofs.YtaefddnmldbgiaaDoor
end Go.Proofs.YtaefddnmldbgiaaDoor

/- The document's own parts of keys: Part, TakePart. -/
namespace Go.Proofs.YtaefddnmldbgiaaDoor
open Go.RowKit
set_option linter.unusedVariables false
set_option linter.unusedSimpArgs false

/-- One byte appended to a row of one's own. -/
theorem wpList_app1 {w : World} {ops : Array Oper} {rest : List Oper} {o : Oper} {a : Act} {Q : Exit → Act → World → Prop} {s x : Operand} {B : Nat} {v : Value} {xs : List Int} {c : Nat} (hgd : o.guard = none)
    (ho : o.op = .call { callee := .builtin .append, args := #[s, x], argTypes := #[26, 26] }) (hs : a.eval s = v) (hx : a.eval x = .slice (some ⟨w.heap.size, 0, none⟩) 1 1) (hrow : Row B w v xs) (hc : c < 256) (hb : xs.length + 1 ≤ 140737488355328) (hB : B ≤ w.heap.size)
    (h : ∀ v' w', Row B w' v' (xs ++ [(c : Int)]) → Below B w w' → (∀ {W0 : World} {v0 : Value}, W0.grownBy w v0.ownBlock → Moved W0 v0 v → W0.grownBy w' v0.ownBlock ∧ Moved W0 v0 v') → wpList Tryd.prog ops Q rest (a.put o.dst v') w') : wpList Tryd.prog ops Q (o :: rest) a (w.alloc (.cells #[.int .u8 (c : Int)] 5)) := by
  have hb0 : Below B w (w.alloc (.cells #[.int .u8 (c : Int)] 5)) := (Below.refl _ _).alloc hB _
  refine wpList_app hgd s x ho B v xs hs (hrow.alloc _) (some ⟨w.heap.size, 0, none⟩) 1 1 (fun _ => c) hx (fun e => by cases e) (byt_one w c hc) hb (Nat.le_trans hB hb0.size) fun v' w' q1 q2 q3 => h v' w' ?_ ?_ (fun g1 g2 => app_step g1 g2 q2 q3)
  · have e : bs (fun _ => c) 1 = [(c : Int)] := rfl
    rw [e] at q1
    exact q1
  · exact hb0.trans (grown_below (hrow.alloc _) q2 (Nat.le_trans hB hb0.size))
/-- Two bytes appended. -/
theorem wpList_app2 {w : World} {ops : Array Oper} {rest : List Oper} {o : Oper} {a : Act} {Q : Exit → Act → World → Prop} {s x : Operand} {B : Nat} {v : Value} {xs : List Int} {c d : Nat} (hgd : o.guard = none)
    (ho : o.op = .call { callee := .builtin .append, args := #[s, x], argTypes := #[26, 26] }) (hs : a.eval s = v) (hx : a.eval x = .slice (some ⟨w.heap.size, 0, none⟩) 2 2) (hrow : Row B w v xs) (hc : c < 256) (hd : d < 256) (hb : xs.length + 2 ≤ 140737488355328) (hB : B ≤ w.heap.size)
    (h : ∀ v' w', Row B w' v' (xs ++ [(c : Int), (d : Int)]) → Below B w w' → (∀ {W0 : World} {v0 : Value}, W0.grownBy w v0.ownBlock → Moved W0 v0 v → W0.grownBy w' v0.ownBlock ∧ Moved W0 v0 v') → wpList Tryd.prog ops Q rest (a.put o.dst v') w') : wpList Tryd.prog ops Q (o :: rest) a (w.alloc (.cells #[.int .u8 (c : Int), .int .u8 (d : Int)] 5)) := by
  have hb0 : Below B w (w.alloc (.cells #[.int .u8 (c : Int), .int .u8 (d : Int)] 5)) := (Below.refl _ _).alloc hB _
  refine wpList_app hgd s x ho B v xs hs (hrow.alloc _) (some ⟨w.heap.size, 0, none⟩) 2 2 (fun k => if k = 0 then c else d) hx (fun e => by cases e) (fun k hk => ?_) hb (Nat.le_trans hB hb0.size) fun v' w' q1 q2 q3 => h v' w' ?_ ?_ (fun g1 g2 => app_step g1 g2 q2 q3)
  · have : k = 0 ∨ k = 1 := by omega
    rcases this with e | e <;> subst e
    · exact ⟨hc, w.heap.size, 0, rfl, by simp⟩
    · exact ⟨hd, w.heap.size, 0, rfl, by simp⟩
  · have e : bs (fun k => if k = 0 then c else d) 2 = [(c : Int), (d : Int)] := rfl
    rw [e] at q1
    exact q1
  · exact hb0.trans (grown_below (hrow.alloc _) q2 (Nat.le_trans hB hb0.size))

theorem esc_app : ∀ a b : List Int, esc (a ++ b) = esc a ++ esc b
  | [], _ => rfl
  | x :: r, b => by
    rw [List.cons_append, esc, esc, esc_app r b]
    split <;> rfl
theorem esc_take {ps : List Int} {k : Nat} (h : k < ps.length) : esc (ps.take (k + 1)) = esc (ps.take k) ++ (if ps[k] = 0 then [0, 255] else [ps[k]]) := by
  rw [List.take_add_one, List.getElem?_eq_getElem h, esc_app]
  simp only [Option.toList_some, esc]
theorem xof_at {xs : List Int} (h : Okb xs) {k : Nat} (hk : k < xs.length) : xs[k] = (xof xs k : Int) := by
  have := h xs[k] (List.getElem_mem hk)
  simp [xof, List.getElem?_eq_getElem hk]
  omega

end Go.Proofs.YtaefddnmldbgiaaDoor
