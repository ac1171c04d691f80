/- The document's own parts of keys: Part, TakePart. -/
import Derived.Test.YtgfkjbckhgndcaaKslc
namespace Go.Proofs.Ytgfkjbckhgndcaa
open Go.RowKit
set_option linter.unusedVariables false
set_option linter.unusedSimpArgs false

/-- One byte appended to a row of one's own. -/
theorem wpList_app1 {w : World} {ops : Array Oper} {rest : List Oper} {o : Oper} {a : Act} {Q : Exit → Act → World → Prop} {s x : Operand} {B : Nat} {v : Value} {xs : List Int} {c : Nat} (hgd : o.guard = none)
    (ho : o.op = .call { callee := .builtin .append, args := #[s, x], argTypes := #[22, 22] }) (hs : a.eval s = v) (hx : a.eval x = .slice (some ⟨w.heap.size, 0, none⟩) 1 1) (hrow : Row B w v xs) (hc : c < 256) (hb : xs.length + 1 ≤ 140737488355328) (hB : B ≤ w.heap.size)
    (h : ∀ v' w', Row B w' v' (xs ++ [(c : Int)]) → Below B w w' → (∀ {W0 : World} {v0 : Value}, W0.grownBy w v0.ownBlock → Moved W0 v0 v → W0.grownBy w' v0.ownBlock ∧ Moved W0 v0 v') → wpList Try.prog ops Q rest (a.put o.dst v') w') : wpList Try.prog ops Q (o :: rest) a (w.alloc (.cells #[.int .u8 (c : Int)] 5)) := by
  have hb0 : Below B w (w.alloc (.cells #[.int .u8 (c : Int)] 5)) := (Below.refl _ _).alloc hB _
  refine wpList_app hgd s x ho B v xs hs (hrow.alloc _) (some ⟨w.heap.size, 0, none⟩) 1 1 (fun _ => c) hx (fun e => by cases e) (byt_one w c hc) hb (Nat.le_trans hB hb0.size) fun v' w' q1 q2 q3 => h v' w' ?_ ?_ (fun g1 g2 => app_step g1 g2 q2 q3)
  · have e : bs (fun _ => c) 1 = [(c : Int)] := rfl
    rw [e] at q1
    exact q1
  · exact hb0.trans (grown_below (hrow.alloc _) q2 (Nat.le_trans hB hb0.size))
/-- Two bytes appended. -/
theorem wpList_app2 {w : World} {ops : Array Oper} {rest : List Oper} {o : Oper} {a : Act} {Q : Exit → Act → World → Prop} {s x : Operand} {B : Nat} {v : Value} {xs : List Int} {c d : Nat} (hgd : o.guard = none)
    (ho : o.op = .call { callee := .builtin .append, args := #[s, x], argTypes := #[22, 22] }) (hs : a.eval s = v) (hx : a.eval x = .slice (some ⟨w.heap.size, 0, none⟩) 2 2) (hrow : Row B w v xs) (hc : c < 256) (hd : d < 256) (hb : xs.length + 2 ≤ 140737488355328) (hB : B ≤ w.heap.size)
    (h : ∀ v' w', Row B w' v' (xs ++ [(c : Int), (d : Int)]) → Below B w w' → (∀ {W0 : World} {v0 : Value}, W0.grownBy w v0.ownBlock → Moved W0 v0 v → W0.grownBy w' v0.ownBlock ∧ Moved W0 v0 v') → wpList Try.prog ops Q rest (a.put o.dst v') w') : wpList Try.prog ops Q (o :: rest) a (w.alloc (.cells #[.int .u8 (c : Int), .int .u8 (d : Int)] 5)) := by
  have hb0 : Below B w (w.alloc (.cells #[.int .u8 (c : Int), .int .u8 (d : Int)] 5)) := (Below.refl _ _).alloc hB _
  refine wpList_app hgd s x ho B v xs hs (hrow.alloc _) (some ⟨w.heap.size, 0, none⟩) 2 2 (fun k => if k = 0 then c else d) hx (fun e => by cases e) (fun k hk => ?_) hb (Nat.le_trans hB hb0.size) fun v' w' q1 q2 q3 => h v' w' ?_ ?_ (fun g1 g2 => app_step g1 g2 q2 q3)
  · have : k = 0 ∨ k = 1 := by omega
    rcases this with e | e <;> subst e
    · exact ⟨hc, w.heap.size, 0, rfl, by simp⟩
    · exact ⟨hd, w.heap.size, 0, rfl, by simp⟩
  · have e : bs (fun k => if k = 0 then c else d) 2 = [(c : Int), (d : Int)] := rfl
    rw [e] at q1
    exact q1
  · exact hb0.trans (grown_below (hrow.alloc _) q2 (Nat.le_trans hB hb0.size))

theorem esc_app : ∀ a b : List Int, esc (a ++ b) = esc a ++ esc b
  | [], _ => rfl
  | x :: r, b => by
    rw [List.cons_append, esc, esc, esc_app r b]
    split <;> rfl
theorem esc_take {ps : List Int} {k : Nat} (h : k < ps.length) : esc (ps.take (k + 1)) = esc (ps.take k) ++ (if ps[k] = 0 then [0, 255] else [ps[k]]) := by
  rw [List.take_add_one, List.getElem?_eq_getElem h, esc_app]
  simp only [Option.toList_some, esc]
theorem xof_at {xs : List Int} (h : Okb xs) {k : Nat} (hk : k < xs.length) : xs[k] = (xof xs k : Int) := by
  have := h xs[k] (List.getElem_mem hk)
  simp [xof, List.getElem?_eq_getElem hk]
  omega

set_option maxHeartbeats 1000000 in
set_option maxRecDepth 100000 in
theorem rpart_any {W w : World} {so : Option Addr} {ls cs : Nat} {ps xs : List Int} {v : Value} (hp : Sl W so ls cs ps) (hb : Below W.heap.size W w) (hr : Row W.heap.size w v xs) (hl : xs.length + 2 * ls + 2 ≤ 140737488355000) :
    Calls Try.prog 12 #[v, .slice so ls cs] w fun e w' => ∃ v', e = .returned v' ∧ Row W.heap.size w' v' (xs ++ pt ps) ∧ w.grownBy w' v.ownBlock ∧ Moved w v v' := by
  have HP : Hid (Sl W so ls cs ps ∧ xs.length + 2 * ls + 2 ≤ 140737488355000) := ⟨hp, hl⟩
  have H0 : Hid (Row W.heap.size w v (xs ++ esc (ps.take 0)) ∧ Below W.heap.size W w ∧ w.grownBy w v.ownBlock ∧ Moved w v v) := ⟨by simpa [esc] using hr, hb, grow_refl _ _, Moved.refl _ _⟩
  have hmax : ls ≤ 2 ^ 63 - 1 := by omega
  clear hp hb hr hl
  go_enter Try.func12, Try.ntmps12
  go_wp2_with fail
  go_loopg [0, 6, 9] ls (fun g b _ i wr => ∃ k : Nat, k + g = ls ∧ i = .int .i64 (k : Int) ∧ Hid (Row W.heap.size wr b (xs ++ esc (ps.take k)) ∧ Below W.heap.size W wr ∧ w.grownBy wr v.ownBlock ∧ Moved w v b))
  case atStart => exact ⟨0, by omega, rfl, H0⟩
  case round =>
    obtain ⟨k, hk, rfl, HK⟩ := hrel
    have hel : (xs ++ esc (ps.take k)).length + 2 ≤ 140737488355010 := by
      have h1 := esc_len (ps.take k)
      have h2 := HP.out.2
      rw [List.length_take] at h1
      rw [List.length_append]
      have := HP.out.1.1
      omega
    have HLEN : Hid ((xs ++ esc (ps.take k)).length + 2 ≤ 140737488355010) := hel
    clear hel
    by_cases hkl : k < ls
    · have hkl' : (k : Int) < (ls : Int) := by omega
      have hkp : k < ps.length := by have := HP.out.1.1; omega
      obtain ⟨h8, b, off, rfl, hc0⟩ := HP.out.1.2.2.2.2.2 k hkl
      have hc := cell_later HK.out.2.1 hc0
      have he := esc_take hkp
      rw [xof_at HP.out.1.2.1 hkp] at he
      obtain ⟨c, hcc⟩ : ∃ c, c = xof ps k := ⟨_, rfl⟩
      rw [← hcc] at hc he h8
      have H8 : Hid (c < 256) := h8
      have hk62 : k ≤ 2 ^ 62 := by have := HP.out.2; omega
      obtain ⟨GK, HG⟩ : ∃ g, Hid (g < gk ∧ k + 1 + g = ls) := ⟨gk - 1, by omega, by omega⟩
      clear hk hcc hc0 h8
      by_cases z : c = 0
      · subst z
        have HE : Hid (xs ++ esc (ps.take (k + 1)) = xs ++ esc (ps.take k) ++ [((0 : Nat) : Int)] ++ [((255 : Nat) : Int)]) := by
          show _ = _
          rw [he]
          simp
        clear he
        go_wp2_with (first | (at_builtin; refine wpList_app1 (w := wr) (c := 0) (s := .tmp 13) (x := .tmp 15) rfl rfl rfl rfl HK.out.1 (by decide) (by have := HLEN.out; omega) HK.out.2.1.size ?_; intro v1 w1 hr1 hb1 gm1) | (at_builtin; refine wpList_app1 (w := w1) (c := 255) (s := .tmp 19) (x := .tmp 20) rfl rfl rfl rfl hr1 (by decide) (by have := HLEN.out; simp only [List.length_append, List.length_cons, List.length_nil] at this ⊢; omega) (Nat.le_trans HK.out.2.1.size hb1.size) ?_; intro v2 w2 hr2 hb2 gm2))
        go_roundg GK
        case measure => exact HG.out.1
        case rel => exact ⟨k + 1, HG.out.2, by go_num, by rw [HE.out]; exact hr2, (HK.out.2.1.trans hb1).trans hb2, gm2 (gm1 HK.out.2.2.1 HK.out.2.2.2).1 (gm1 HK.out.2.2.1 HK.out.2.2.2).2⟩
      · have z' : ((c : Int) == 0) = false := by simp; omega
        have HE : Hid (xs ++ esc (ps.take (k + 1)) = xs ++ esc (ps.take k) ++ [(c : Int)]) := by
          show _ = _
          rw [he, if_neg (by omega)]
          simp
        clear he z
        go_wp2_with (at_builtin; refine wpList_app1 (w := wr) (c := c) (s := .tmp 13) (x := .tmp 15) rfl rfl rfl rfl HK.out.1 H8.out (by have := HLEN.out; omega) HK.out.2.1.size ?_; intro v1 w1 hr1 hb1 gm1)
        go_roundg GK
        case measure => exact HG.out.1
        case rel => exact ⟨k + 1, HG.out.2, by go_num, by rw [HE.out]; exact hr1, HK.out.2.1.trans hb1, gm1 HK.out.2.2.1 HK.out.2.2.2⟩
    · have hkl' : (ls : Int) ≤ (k : Int) := by omega
      have HE : Hid (ps.take k = ps) := List.take_of_length_le (by have := HP.out.1.1; omega)
      clear hk hkl
      go_wp2_with (at_builtin; refine wpList_app2 (w := wr) (c := 0) (d := 1) (s := .tmp 23) (x := .tmp 24) rfl rfl rfl rfl HK.out.1 (by decide) (by decide) (by have := HLEN.out; omega) HK.out.2.1.size ?_; intro v1 w1 hr1 hb1 gm1)
      refine bodyPost_ret (v := v1) (by simp [results, Try.results12, go_sem]) rfl ⟨v1, rfl, ?_, gm1 HK.out.2.2.1 HK.out.2.2.2⟩
      rw [HE.out, List.append_assoc] at hr1
      exact hr1
end Go.Proofs.Ytgfkjbckhgndcaa
