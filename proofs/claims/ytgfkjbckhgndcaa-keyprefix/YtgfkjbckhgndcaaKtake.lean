/- The document's own TakePart. -/
import Derived.Test.YtgfkjbckhgndcaaKpart
namespace Go.Proofs.Ytgfkjbckhgndcaa
open Go.RowKit
set_option linter.unusedVariables false
set_option linter.unusedSimpArgs false

theorem tp_err : ∀ (n : Nat) (xs : List Int), xs.length ≤ n → (tp xs).1 ≠ 0 → tp xs = ((tp xs).1, [], 0)
  | 0, xs, h, h0 => by
    have e : xs = [] := List.length_eq_zero_iff.1 (by omega)
    subst e
    simp [tp]
  | n + 1, xs, h, h0 => by
    match xs, h, h0 with
    | [], _, h0 => simp [tp]
    | [x], _, h0 => simp [tp]
    | x :: y :: r, h, h0 =>
      by_cases q : x = 0
      · subst q
        by_cases y1 : y = 1
        · subst y1
          rw [tp_end] at h0
          simp at h0
        · by_cases y2 : y = 255
          · subst y2
            rw [tp_zero] at h0 ⊢
            by_cases t : (tp r).1 = 0
            · rw [if_pos t] at h0
              simp at h0
            · rw [if_neg t]
          · rw [tp_bad y1 y2]
      · rw [tp_plain q] at h0 ⊢
        by_cases t : (tp (y :: r)).1 = 0
        · rw [if_pos t] at h0
          simp at h0
        · rw [if_neg t]
theorem okb_tp : ∀ (n : Nat) (xs : List Int), xs.length ≤ n → Okb xs → Okb (tp xs).2.1
  | 0, xs, h, _ => by
    have e : xs = [] := List.length_eq_zero_iff.1 (by omega)
    subst e
    exact fun x hx => by simp [tp] at hx
  | n + 1, xs, h, hk => by
    match xs, h, hk with
    | [], _, _ => exact fun x hx => by simp [tp] at hx
    | [y], _, _ => exact fun x hx => by simp [tp] at hx
    | x :: y :: r, h, hk =>
      simp at h
      by_cases q : x = 0
      · subst q
        by_cases y1 : y = 1
        · subst y1
          rw [tp_end]
          exact fun x hx => by cases hx
        · by_cases y2 : y = 255
          · subst y2
            rw [tp_zero]
            by_cases t : (tp r).1 = 0
            · rw [if_pos t]
              intro z hz
              rcases List.mem_cons.1 hz with e | e
              · omega
              · exact okb_tp n r (by omega) hk.tail.tail z e
            · rw [if_neg t]
              exact fun x hx => by cases hx
          · rw [tp_bad y1 y2]
            exact fun x hx => by cases hx
      · rw [tp_plain q]
        by_cases t : (tp (y :: r)).1 = 0
        · rw [if_pos t]
          intro z hz
          rcases List.mem_cons.1 hz with e | e
          · rw [e]; exact hk.head
          · exact okb_tp n (y :: r) (by simp; omega) hk.tail z e
        · rw [if_neg t]
          exact fun x hx => by cases hx
/-- What was found so far, and what is still to be read. -/
def J (xs out : List Int) (i : Nat) : Prop := tp xs = if (tp (xs.drop i)).1 = 0 then (0, out ++ (tp (xs.drop i)).2.1, i + (tp (xs.drop i)).2.2) else ((tp (xs.drop i)).1, [], 0)
theorem J.zero (xs : List Int) : J xs [] 0 := by
  unfold J
  rw [List.drop_zero]
  by_cases t : (tp xs).1 = 0
  · rw [if_pos t, List.nil_append, Nat.zero_add, ← t]
  · rw [if_neg t]
    exact tp_err _ xs (Nat.le_refl _) t
theorem J.plain {xs out : List Int} {i : Nat} (h : J xs out i) (hi : i < xs.length) (hc : xs[i] ≠ 0) : J xs (out ++ [xs[i]]) (i + 1) := by
  unfold J at h ⊢
  rw [List.drop_eq_getElem_cons hi, tp_plain hc] at h
  by_cases t : (tp (xs.drop (i + 1))).1 = 0
  · rw [if_pos t] at h ⊢
    rw [h]
    simp
    omega
  · rw [if_neg t] at h ⊢
    rw [h]
    simp [t]
theorem J.esc {xs out : List Int} {i : Nat} (h : J xs out i) (hi : i + 1 < xs.length) (h0 : xs[i] = 0) (hc : xs[i + 1] = 255) : J xs (out ++ [0]) (i + 1 + 1) := by
  unfold J at h ⊢
  rw [List.drop_eq_getElem_cons (by omega), List.drop_eq_getElem_cons hi, h0, hc, tp_zero] at h
  by_cases t : (tp (xs.drop (i + 1 + 1))).1 = 0
  · rw [if_pos t] at h ⊢
    rw [h]
    simp
    omega
  · rw [if_neg t] at h ⊢
    rw [h]
    simp [t]
theorem J.end {xs out : List Int} {i : Nat} (h : J xs out i) (hi : i + 1 < xs.length) (h0 : xs[i] = 0) (hc : xs[i + 1] = 1) : tp xs = (0, out, i + 1 + 1) := by
  unfold J at h
  rw [List.drop_eq_getElem_cons (by omega), List.drop_eq_getElem_cons hi, h0, hc, tp_end] at h
  rw [h]
  simp
theorem J.bad {xs out : List Int} {i : Nat} (h : J xs out i) (hi : i + 1 < xs.length) (h0 : xs[i] = 0) (h1 : xs[i + 1] ≠ 1) (h2 : xs[i + 1] ≠ 255) : tp xs = (3, [], 0) := by
  unfold J at h
  rw [List.drop_eq_getElem_cons (by omega), List.drop_eq_getElem_cons hi, h0, tp_bad h1 h2] at h
  rw [h]
  simp
theorem J.lone {xs out : List Int} {i : Nat} (h : J xs out i) (hi : i + 1 = xs.length) (h0 : xs[i] = 0) : tp xs = (5, [], 0) := by
  unfold J at h
  rw [List.drop_eq_getElem_cons (by omega), h0, List.drop_of_length_le (by omega), tp_lone] at h
  rw [h]
  simp
theorem J.out {xs out : List Int} {i : Nat} (h : J xs out i) (hi : xs.length ≤ i) : tp xs = (5, [], 0) := by
  unfold J at h
  rw [List.drop_of_length_le hi, tp_nil] at h
  rw [h]
  simp

/-- What is told of a part. -/
def Tp (xs : List Int) (B : Nat) (e : Ending) (w' : World) : Prop := ∃ v, e = .returned (.tuple #[v, .int .i64 ((tp xs).2.2 : Int), .int .i64 ((tp xs).1 : Int)]) ∧ Row B w' v (tp xs).2.1

set_option maxHeartbeats 2000000 in
set_option maxRecDepth 100000 in
theorem rtp_any {w : World} {ao : Option Addr} {len cap : Nat} {xs : List Int} (h : Sl w ao len cap xs) (hl : len ≤ 140737488355000) :
    Calls Try.prog 10 #[.slice ao len cap] w fun e w' => Tp xs w.heap.size e w' ∧ Below w.heap.size w w' := by
  have HS : Hid (Sl w ao len cap xs ∧ len ≤ 140737488355000) := ⟨h, hl⟩
  have hmax : len ≤ 2 ^ 63 - 1 := by omega
  have hmax2 : len ≤ 2 ^ 62 := by omega
  clear h hl
  go_enter Try.func10, Try.ntmps10
  go_wp2_with fail
  go_loopg [5, 6] len (fun g o i wr => ∃ (k : Nat) (out : List Int), k + g = len ∧ i = .int .i64 (k : Int) ∧ Hid (Row w.heap.size wr o out ∧ Below w.heap.size w wr ∧ J xs out k ∧ out.length ≤ k))
  case atStart => exact ⟨0, [], by omega, rfl, Row.nil _ _, Below.refl _ _, J.zero xs, Nat.le_refl _⟩
  case round =>
    obtain ⟨k, out, hk, rfl, HK⟩ := hrel
    by_cases hkl : k < len
    · have hkl' : (k : Int) < (len : Int) := by omega
      have hkx : k < xs.length := by have := HS.out.1.1; omega
      obtain ⟨h8, b, off, rfl, hc0⟩ := HS.out.1.2.2.2.2.2 k hkl
      have hc := cell_later HK.out.2.1 hc0
      have hx := xof_at HS.out.1.2.1 hkx
      obtain ⟨c, hcc⟩ : ∃ c, c = xof xs k := ⟨_, rfl⟩
      rw [← hcc] at hc hx h8
      have H8 : Hid (c < 256) := h8
      by_cases z : c = 0
      · subst z
        by_cases hlast : k + 1 = len
        · have hlast' : ((k : Int) + 1 == (len : Int)) = true := by simp; omega
          have hT := HK.out.2.2.1.lone (by have := HS.out.1.1; omega) (by rw [hx]; rfl)
          have HT : Hid (tp xs = (5, [], 0)) := hT
          clear hT hk hx hcc hc0 h8 hlast
          go_wp2_with fail
          exact bodyPost_ret (v := .tuple #[.slice none 0 0, .int .i64 0, .int .i64 5]) (by simp [results, Try.results10, go_sem]) rfl ⟨⟨_, by rw [HT.out]; rfl, by rw [HT.out]; exact Row.nil _ _⟩, HK.out.2.1⟩
        · have hlast' : ((k : Int) + 1 == (len : Int)) = false := by simp; omega
          have hk1 : k + 1 < len := by omega
          have hk1' : (k : Int) + 1 < (len : Int) := by omega
          have hkx1 : k + 1 < xs.length := by have := HS.out.1.1; omega
          obtain ⟨h8', b', off', e', hc1⟩ := HS.out.1.2.2.2.2.2 (k + 1) hk1
          simp only [Option.some.injEq, Addr.mk.injEq, and_true] at e'
          obtain ⟨rfl, rfl⟩ := e'
          have hc' := cell_later HK.out.2.1 hc1
          have hx1 := xof_at HS.out.1.2.1 hkx1
          obtain ⟨d, hdd⟩ : ∃ d, d = xof xs (k + 1) := ⟨_, rfl⟩
          rw [← hdd] at hc' hx1 h8'
          by_cases d1 : d = 1
          · subst d1
            have HT : Hid (tp xs = (0, out, k + 1 + 1)) := HK.out.2.2.1.end hkx1 (by rw [hx]; rfl) (by rw [hx1]; rfl)
            clear hk hx hcc hc0 h8 hlast hx1 hdd hc1 h8' hk1
            go_wp2_with fail
            refine bodyPost_ret (v := .tuple #[u5, .int .i64 ((k + 1 + 1 : Nat) : Int), .int .i64 0]) (by simp [results, Try.results10, go_sem]) rfl ⟨⟨u5, by rw [HT.out]; rfl, by rw [HT.out]; exact HK.out.1⟩, HK.out.2.1⟩
          · have d1b : ((d : Int) == 1) = false := by simp; omega
            by_cases d2 : d = 255
            · subst d2
              have HN : Hid (J xs (out ++ [((0 : Nat) : Int)]) (k + 1 + 1) ∧ (out ++ [((0 : Nat) : Int)]).length ≤ k + 1 + 1) := ⟨HK.out.2.2.1.esc hkx1 (by rw [hx]; rfl) (by rw [hx1]; rfl), by have := HK.out.2.2.2; simp; omega⟩
              obtain ⟨GK, HG⟩ : ∃ g, Hid (g < gk ∧ k + 1 + 1 + g = len) := ⟨gk - 2, by omega, by omega⟩
              have HO : Hid (out.length + 1 ≤ 140737488355328) := by have := HK.out.2.2.2; have := HS.out.2; show _ ≤ _; omega
              clear hk hx hcc hc0 h8 hlast hx1 hdd hc1 h8' hk1 d1
              go_wp2_with (at_builtin; refine wpList_app1 (w := wr) (c := 0) (s := .tmp 43) (x := .tmp 44) rfl rfl rfl rfl HK.out.1 (by decide) HO.out HK.out.2.1.size ?_; intro v1 w1 hr1 hb1 _)
              go_roundg GK
              case measure => exact HG.out.1
              case rel => exact ⟨k + 1 + 1, _, HG.out.2, by go_num, hr1, HK.out.2.1.trans hb1, HN.out.1, HN.out.2⟩
            · have d2b : ((d : Int) == 255) = false := by simp; omega
              have HT : Hid (tp xs = (3, [], 0)) := HK.out.2.2.1.bad hkx1 (by rw [hx]; rfl) (by rw [hx1]; omega) (by rw [hx1]; omega)
              clear hk hx hcc hc0 h8 hlast hx1 hdd hc1 h8' hk1 d1 d2
              go_wp2_with fail
              exact bodyPost_ret (v := .tuple #[.slice none 0 0, .int .i64 0, .int .i64 3]) (by simp [results, Try.results10, go_sem]) rfl ⟨⟨_, by rw [HT.out]; rfl, by rw [HT.out]; exact Row.nil _ _⟩, HK.out.2.1⟩
      · have z' : ((c : Int) == 0) = false := by simp; omega
        have z2 : ((c : Int) != 0) = true := by simp; omega
        have HN : Hid (J xs (out ++ [(c : Int)]) (k + 1) ∧ (out ++ [(c : Int)]).length ≤ k + 1) := by
          refine ⟨?_, by have := HK.out.2.2.2; simp; omega⟩
          rw [← hx]
          exact HK.out.2.2.1.plain hkx (by rw [hx]; omega)
        obtain ⟨GK, HG⟩ : ∃ g, Hid (g < gk ∧ k + 1 + g = len) := ⟨gk - 1, by omega, by omega⟩
        have HO : Hid (out.length + 1 ≤ 140737488355328) := by have := HK.out.2.2.2; have := HS.out.2; show _ ≤ _; omega
        clear hk hx hcc hc0 h8 z
        go_wp2_with (at_builtin; refine wpList_app1 (w := wr) (c := c) (s := .tmp 18) (x := .tmp 23) rfl rfl rfl rfl HK.out.1 H8.out HO.out HK.out.2.1.size ?_; intro v1 w1 hr1 hb1 _)
        go_roundg GK
        case measure => exact HG.out.1
        case rel => exact ⟨k + 1, _, HG.out.2, by go_num, hr1, HK.out.2.1.trans hb1, HN.out.1, HN.out.2⟩
    · have hkl' : (len : Int) ≤ (k : Int) := by omega
      have HT : Hid (tp xs = (5, [], 0)) := HK.out.2.2.1.out (by have := HS.out.1.1; omega)
      clear hk hkl
      go_wp2_with fail
      exact bodyPost_ret (v := .tuple #[.slice none 0 0, .int .i64 0, .int .i64 5]) (by simp [results, Try.results10, go_sem]) rfl ⟨⟨_, by rw [HT.out]; rfl, by rw [HT.out]; exact Row.nil _ _⟩, HK.out.2.1⟩
end Go.Proofs.Ytgfkjbckhgndcaa
