/- The law that bytes keep the order of parts and numbers. -/
import Derived.Test.YtgfkjbckhgndcaaKlaw
import Derived.RegionTactic
import Derived.BigQuiet
namespace Go.Proofs.Ytgfkjbckhgndcaa
open Go.RowKit
set_option linter.unusedVariables false
set_option linter.unusedSimpArgs false

/-- What is known of the order of two rows of parts when k of each have been looked at. -/
def Or (a b : List (List Int)) (k : Nat) (v : Int) : Prop := (v ≠ 0 ∧ cmpR a b = v) ∨ (v = 0 ∧ cmpR a b = cmpR (a.drop k) (b.drop k))
theorem Or.zero (a b : List (List Int)) : Or a b 0 0 := .inr ⟨rfl, rfl⟩
theorem Or.on {a b : List (List Int)} {k : Nat} {v : Int} (h : Or a b k v) (hv : v ≠ 0) : Or a b (k + 1) v := .inl (h.elim id fun q => absurd q.1 hv)
theorem Or.less {a b : List (List Int)} {k : Nat} (h : Or a b k 0) (ha : a.length ≤ k) (hb : k < b.length) : Or a b (k + 1) (-1) := by
  rcases h with ⟨q, _⟩ | ⟨_, q⟩
  · exact absurd rfl q
  · rw [List.drop_of_length_le ha, List.drop_eq_getElem_cons hb] at q
    exact .inl ⟨by decide, q⟩
theorem Or.more {a b : List (List Int)} {k : Nat} (h : Or a b k 0) (ha : k < a.length) (hb : b.length ≤ k) : Or a b (k + 1) 1 := by
  rcases h with ⟨q, _⟩ | ⟨_, q⟩
  · exact absurd rfl q
  · rw [List.drop_of_length_le hb, List.drop_eq_getElem_cons ha] at q
    exact .inl ⟨by decide, q⟩
theorem Or.both {a b : List (List Int)} {k : Nat} (h : Or a b k 0) (ha : k < a.length) (hb : k < b.length) : Or a b (k + 1) (cmp a[k] b[k]) := by
  rcases h with ⟨q, _⟩ | ⟨_, q⟩
  · exact absurd rfl q
  · rw [List.drop_eq_getElem_cons ha, List.drop_eq_getElem_cons hb, cmpR] at q
    by_cases z : cmp a[k] b[k] = 0
    · rw [if_pos z] at q
      exact .inr ⟨z, q⟩
    · rw [if_neg z] at q
      exact .inl ⟨z, q⟩
theorem Or.end {a b : List (List Int)} {k : Nat} {v : Int} (h : Or a b k v) (ha : a.length ≤ k) (hb : b.length ≤ k) : v = cmpR a b := by
  rcases h with ⟨_, q⟩ | ⟨z, q⟩
  · exact q.symm
  · rw [List.drop_of_length_le ha, List.drop_of_length_le hb] at q
    rw [q, z]
    rfl
/-- Few, and short. -/
def Few (rs : List (List Int)) (k : Nat) : Prop := ∀ j r, j < k → rs[j]? = some r → r.length ≤ 300
theorem Few.succ {rs : List (List Int)} {k : Nat} (h : Few rs k) (hk : ∀ r, rs[k]? = some r → r.length ≤ 300) : Few rs (k + 1) := fun j r hj hr => by
  rcases Nat.lt_or_ge j k with q | q
  · exact h j r q hr
  · obtain rfl : j = k := by omega
    exact hk r hr
theorem Few.none {rs : List (List Int)} {k : Nat} (h : Few rs k) (hk : rs.length ≤ k) : Few rs (k + 1) := h.succ fun r hr => by
  rw [List.getElem?_eq_none hk] at hr
  cases hr
theorem pts_small : ∀ (l : List (List Int)), (∀ r ∈ l, r.length ≤ 300) → (pts l).length ≤ 602 * l.length
  | [], _ => Nat.le_refl _
  | r :: l, h => by
    have h1 := pts_small l fun s hs => h s (List.mem_cons_of_mem _ hs)
    have h2 := h r (List.mem_cons_self ..)
    have h3 := pt_len r
    rw [pts, List.length_append, List.length_cons]
    omega
theorem pts_take {rs : List (List Int)} {k : Nat} (h : k < rs.length) : pts (rs.take (k + 1)) = pts (rs.take k) ++ pt rs[k] := by
  rw [List.take_add_one, List.getElem?_eq_getElem h, pts_app]
  simp [pts]
theorem okb_pts : ∀ {l : List (List Int)}, (∀ r ∈ l, Okb r) → Okb (pts l)
  | [], _ => fun x hx => by cases hx
  | r :: l, h => (okb_pt (h r (List.mem_cons_self ..))).app (okb_pts fun s hs => h s (List.mem_cons_of_mem _ hs))
theorem Few.all {rs : List (List Int)} (h : Few rs rs.length) : ∀ r ∈ rs, r.length ≤ 300 := fun r hr => by
  obtain ⟨i, hi, rfl⟩ := List.getElem_of_mem hr
  exact h i _ hi (List.getElem?_eq_getElem hi)
/-- Numbers as bytes keep their order. -/
theorem cmp_num {m n : Int} (hm : InI m) (hn : InI n) : cmp (fx (turned m) 8) (fx (turned n) 8) = if m < n then -1 else if n < m then 1 else 0 := by
  have h1 := turned_lt hm
  have h2 := turned_lt hn
  have e : (256 : Nat) ^ 8 = 18446744073709551616 := rfl
  rw [cmp_fx, e, Nat.mod_eq_of_lt h1, Nat.mod_eq_of_lt h2]
  unfold turned InI at *
  rcases Int.lt_trichotomy m n with q | q | q
  · rw [if_pos (by omega), if_pos q]
  · rw [if_neg (by omega), if_neg (by omega), if_neg (by omega), if_neg (by omega)]
  · rw [if_neg (by omega), if_pos (by omega), if_neg (by omega), if_pos q]

/-- The worlds that hold all that W held. -/
def Later (W : World) : Type := { w : World // Below W.heap.size W w }
theorem wp_region_later {P : Program} {id : Nat} {Q : Exit → Act → World → Prop} {a : Act} {w : World} {l : List Oper} (hm : P.follows .mixedOrders = true) (hB : Region.lexB .any l.toArray = true)
    (h : wpQuiet P l.toArray (fun w' => ∃ x : Later w, w' = x.val) (fun a' => ∀ w', (∃ x : Later w, w' = x.val) → Q .normal a' w') l a) : (Code.region id l.toArray true).wp P Q a w :=
  wp_region_quiet (C := fun w' => ∃ x : Later w, w' = x.val) hm hB ⟨⟨w.drew, (Below.refl _ _).drew⟩, rfl⟩ (by simpa using h)
theorem later_at {P : Program} {f : FuncId} {args : Array Value} {W : World} {v : Value} (h : ∀ z : Later W, Calls P f args z.val fun e w' => e = .returned v ∧ Below z.val.heap.size z.val w') (x : Later W) :
    Calls P f args x.val fun e w'' => e = .returned v ∧ ∃ y : Later W, w'' = y.val :=
  (h x).mono fun _ w' ⟨he, hw⟩ => ⟨he, ⟨w', x.2.trans (hw.mono x.2.size)⟩, rfl⟩

set_option maxHeartbeats 4000000 in
set_option maxRecDepth 100000 in
theorem order_any (D : PK) {w : World} {ao bo : Option Addr} {la ca lb cb : Nat} {rs qs : List (List Int)} {m n : Int} (ha : RB w ao la ca rs) (hb : RB w bo lb cb qs) (hm : Hid (InI m)) (hn : Hid (InI n)) :
    Calls Try.prog 7 #[.slice ao la ca, .slice bo lb cb, .int .i64 m, .int .i64 n] w fun e w' => e = .returned (.bool true) ∧ Below w.heap.size w w' := by
  have HS : Hid (RB w ao la ca rs ∧ RB w bo lb cb qs) := ⟨ha, hb⟩
  have la62 : la ≤ 2 ^ 63 - 1 := by have := ha.2.2; unfold maxLen at this; omega
  have lb62 : lb ≤ 2 ^ 63 - 1 := by have := hb.2.2; unfold maxLen at this; omega
  have HAW : Hid (∀ wx, Calls Try.prog 13 #[] wx fun e w' => e = .returned (.bool true) ∧ Below wx.heap.size wx w') := awake7_any D
  clear ha hb
  go_enter Try.func7, Try.ntmps7
  go_upto_block 0 with fail
  go_cut [9, 10] from 18 to 81 (fun s9 s10 wx => s9 = .int .i64 (cmpR rs qs) ∧ Hid (Below w.heap.size w wx ∧ la ≤ 20 ∧ lb ≤ 20 ∧ Few rs la ∧ Few qs lb))
  case first =>
    go_wp2_with fail
    go_loopg [9, 10] (la + lb) (fun g v i wr => ∃ (k : Nat) (c : Int), k + g = la + lb ∧ i = .int .i64 (k : Int) ∧ v = .int .i64 c ∧ Hid (Below w.heap.size w wr ∧ k ≤ 20 ∧ Few rs k ∧ Few qs k ∧ Or rs qs k c ∧ (k ≤ la ∨ k ≤ lb)))
    case atStart => exact ⟨0, 0, by omega, rfl, rfl, Below.refl _ _, by omega, (fun j r hj => by cases hj), (fun j r hj => by cases hj), Or.zero _ _, .inl (Nat.zero_le _)⟩
    case round =>
      obtain ⟨k, c, hk, rfl, rfl, HK⟩ := hrel
      have hk62 : k ≤ 2 ^ 62 := by have := HK.out.2.1; omega
      by_cases hA : k < la
      · have hA' : (k : Int) < (la : Int) := by omega
        have hAr : k < rs.length := by have := HS.out.1.1; omega
        obtain ⟨GK, HG⟩ : ∃ g, Hid (g < gk ∧ k + 1 + g = la + lb) := ⟨gk - 1, by omega, by omega⟩
        obtain ⟨bA, oA, aA, cA, hao, hcA0, hsA0⟩ := HS.out.1.2.2.2.2 k rs[k] (List.getElem?_eq_getElem hAr)
        subst hao
        have hcA := cell_later HK.out.1 hcA0
        obtain ⟨r, hr⟩ : ∃ r, r = rs[k] := ⟨_, rfl⟩
        rw [← hr] at hcA hsA0
        obtain ⟨nA, hnA⟩ : ∃ n, n = r.length := ⟨_, rfl⟩
        rw [← hnA] at hcA hsA0
        have nA62 : nA ≤ 2 ^ 63 - 1 := by have := hsA0.2.2.2; unfold maxLen at this; omega
        have HSA : Hid (Sl w aA nA cA r) := hsA0
        clear hk hsA0 hcA0
        by_cases h20 : 20 ≤ k
        · have h20' : (20 : Int) ≤ (k : Int) := by omega
          clear hr hnA
          have haw := HAW.out wr
          go_wp2_with (go_at_call 13; refine haw.mono ?_; rintro e w4 ⟨rfl, hb4⟩)
          exact bodyPost_ret (v := .bool true) (by simp [results, Try.results7, go_sem]) rfl ⟨rfl, HK.out.1.trans (hb4.mono HK.out.1.size)⟩
        · have h20' : (k : Int) < 20 := by omega
          by_cases h3 : 300 < nA
          · have h3' : (300 : Int) < (nA : Int) := by omega
            clear hr hnA
            have haw := HAW.out wr
            go_wp2_with (go_at_call 13; refine haw.mono ?_; rintro e w4 ⟨rfl, hb4⟩)
            exact bodyPost_ret (v := .bool true) (by simp [results, Try.results7, go_sem]) rfl ⟨rfl, HK.out.1.trans (hb4.mono HK.out.1.size)⟩
          · have h3' : (nA : Int) ≤ 300 := by omega
            have hFA : Few rs (k + 1) := HK.out.2.2.1.succ fun r' h' => by
              rw [List.getElem?_eq_getElem hAr, Option.some.injEq, ← hr] at h'
              subst h'
              omega
            by_cases hB : k < lb
            · have hB' : (k : Int) < (lb : Int) := by omega
              have hBr : k < qs.length := by have := HS.out.2.1; omega
              obtain ⟨bB, oB, aB, cB, hbo, hcB0, hsB0⟩ := HS.out.2.2.2.2.2 k qs[k] (List.getElem?_eq_getElem hBr)
              subst hbo
              have hcB := cell_later HK.out.1 hcB0
              obtain ⟨q, hq⟩ : ∃ q, q = qs[k] := ⟨_, rfl⟩
              rw [← hq] at hcB hsB0
              obtain ⟨nB, hnB⟩ : ∃ n, n = q.length := ⟨_, rfl⟩
              rw [← hnB] at hcB hsB0
              have nB62 : nB ≤ 2 ^ 63 - 1 := by have := hsB0.2.2.2; unfold maxLen at this; omega
              have HSB : Hid (Sl w aB nB cB q) := hsB0
              clear hsB0 hcB0
              by_cases h4 : 300 < nB
              · have h4' : (300 : Int) < (nB : Int) := by omega
                clear hr hnA hq hnB
                have haw := HAW.out wr
                go_wp2_with (go_at_call 13; refine haw.mono ?_; rintro e w4 ⟨rfl, hb4⟩)
                exact bodyPost_ret (v := .bool true) (by simp [results, Try.results7, go_sem]) rfl ⟨rfl, HK.out.1.trans (hb4.mono HK.out.1.size)⟩
              · have h4' : (nB : Int) ≤ 300 := by omega
                have hFB : Few qs (k + 1) := HK.out.2.2.2.1.succ fun r' h' => by
                  rw [List.getElem?_eq_getElem hBr, Option.some.injEq, ← hq] at h'
                  subst h'
                  omega
                by_cases z : c = 0
                · subst z
                  have z0 : ((0 : Int) != 0) = false := rfl
                  have hOr := HK.out.2.2.2.2.1.both hAr hBr
                  rw [← hr, ← hq] at hOr
                  have hcm : ∀ zz : Later wr, Calls Try.prog 21 #[.slice aA nA cA, .slice aB nB cB] zz.val fun e w' => e = .returned (.int .i64 (cmp r q)) ∧ Below zz.val.heap.size zz.val w' := fun zz => rcmp_any ((HSA.out.later HK.out.1).later zz.2) ((HSB.out.later HK.out.1).later zz.2)
                  generalize cmp r q = d at hOr hcm
                  have HN : Hid (k + 1 ≤ 20 ∧ Few rs (k + 1) ∧ Few qs (k + 1) ∧ Or rs qs (k + 1) d ∧ (k + 1 ≤ la ∨ k + 1 ≤ lb)) := ⟨by omega, hFA, hFB, hOr, by omega⟩
                  have zA : ∀ zz : Later wr, zz.val.cell? ⟨bA, oA + k, none⟩ = some (.slice aA nA cA) := fun zz => cell_later zz.2 hcA
                  have zB : ∀ zz : Later wr, zz.val.cell? ⟨bB, oB + k, none⟩ = some (.slice aB nB cB) := fun zz => cell_later zz.2 hcB
                  clear hr hnA hq hnB hFA hFB hOr
                  go_wp2_with fail
                  refine wp_region_later (by kernel_rfl) (by kernel_rfl) ?_
                  repeat (go_big_quiet_step (first | exact rfl | (go_at_call 21; exact later_at hcm _)))
                  refine wpQuiet_nil ?_
                  rintro w5 ⟨z5, hz5⟩
                  have hb5 : Below wr.heap.size wr w5 := by rw [hz5]; exact z5.2
                  clear hz5 hcm zA zB
                  go_wp2_with fail
                  go_roundg GK
                  case measure => exact HG.out.1
                  case rel => exact ⟨k + 1, d, HG.out.2, by go_num, rfl, HK.out.1.trans (hb5.mono HK.out.1.size), HN.out⟩
                · have z0 : (c != 0) = true := by simp; exact z
                  have HN : Hid (k + 1 ≤ 20 ∧ Few rs (k + 1) ∧ Few qs (k + 1) ∧ Or rs qs (k + 1) c ∧ (k + 1 ≤ la ∨ k + 1 ≤ lb)) := ⟨by omega, hFA, hFB, HK.out.2.2.2.2.1.on z, by omega⟩
                  clear hr hnA hq hnB hFA hFB z
                  go_wp2_with fail
                  go_roundg GK
                  case measure => exact HG.out.1
                  case rel => exact ⟨k + 1, c, HG.out.2, by go_num, rfl, HK.out.1, HN.out⟩
            · have hB' : (lb : Int) ≤ (k : Int) := by omega
              have hFB : Few qs (k + 1) := HK.out.2.2.2.1.none (by have := HS.out.2.1; omega)
              by_cases z : c = 0
              · subst z
                have z0 : ((0 : Int) != 0) = false := rfl
                have HN : Hid (k + 1 ≤ 20 ∧ Few rs (k + 1) ∧ Few qs (k + 1) ∧ Or rs qs (k + 1) 1 ∧ (k + 1 ≤ la ∨ k + 1 ≤ lb)) := ⟨by omega, hFA, hFB, HK.out.2.2.2.2.1.more hAr (by have := HS.out.2.1; omega), by omega⟩
                clear hr hnA hFA hFB
                go_wp2_with fail
                go_roundg GK
                case measure => exact HG.out.1
                case rel => exact ⟨k + 1, 1, HG.out.2, by go_num, rfl, HK.out.1, HN.out⟩
              · have z0 : (c != 0) = true := by simp; exact z
                have HN : Hid (k + 1 ≤ 20 ∧ Few rs (k + 1) ∧ Few qs (k + 1) ∧ Or rs qs (k + 1) c ∧ (k + 1 ≤ la ∨ k + 1 ≤ lb)) := ⟨by omega, hFA, hFB, HK.out.2.2.2.2.1.on z, by omega⟩
                clear hr hnA hFA hFB z
                go_wp2_with fail
                go_roundg GK
                case measure => exact HG.out.1
                case rel => exact ⟨k + 1, c, HG.out.2, by go_num, rfl, HK.out.1, HN.out⟩
      · have hA' : (la : Int) ≤ (k : Int) := by omega
        by_cases hB : k < lb
        · have hB' : (k : Int) < (lb : Int) := by omega
          have hBr : k < qs.length := by have := HS.out.2.1; omega
          obtain ⟨GK, HG⟩ : ∃ g, Hid (g < gk ∧ k + 1 + g = la + lb) := ⟨gk - 1, by omega, by omega⟩
          have hFA : Few rs (k + 1) := HK.out.2.2.1.none (by have := HS.out.1.1; omega)
          obtain ⟨bB, oB, aB, cB, hbo, hcB0, hsB0⟩ := HS.out.2.2.2.2.2 k qs[k] (List.getElem?_eq_getElem hBr)
          subst hbo
          have hcB := cell_later HK.out.1 hcB0
          obtain ⟨q, hq⟩ : ∃ q, q = qs[k] := ⟨_, rfl⟩
          rw [← hq] at hcB hsB0
          obtain ⟨nB, hnB⟩ : ∃ n, n = q.length := ⟨_, rfl⟩
          rw [← hnB] at hcB hsB0
          have nB62 : nB ≤ 2 ^ 63 - 1 := by have := hsB0.2.2.2; unfold maxLen at this; omega
          clear hk hsB0 hcB0
          by_cases h20 : 20 ≤ k
          · have h20' : (20 : Int) ≤ (k : Int) := by omega
            clear hq hnB
            have haw := HAW.out wr
            go_wp2_with (go_at_call 13; refine haw.mono ?_; rintro e w4 ⟨rfl, hb4⟩)
            exact bodyPost_ret (v := .bool true) (by simp [results, Try.results7, go_sem]) rfl ⟨rfl, HK.out.1.trans (hb4.mono HK.out.1.size)⟩
          · have h20' : (k : Int) < 20 := by omega
            by_cases h4 : 300 < nB
            · have h4' : (300 : Int) < (nB : Int) := by omega
              clear hq hnB
              have haw := HAW.out wr
              go_wp2_with (go_at_call 13; refine haw.mono ?_; rintro e w4 ⟨rfl, hb4⟩)
              exact bodyPost_ret (v := .bool true) (by simp [results, Try.results7, go_sem]) rfl ⟨rfl, HK.out.1.trans (hb4.mono HK.out.1.size)⟩
            · have h4' : (nB : Int) ≤ 300 := by omega
              have hFB : Few qs (k + 1) := HK.out.2.2.2.1.succ fun r' h' => by
                rw [List.getElem?_eq_getElem hBr, Option.some.injEq, ← hq] at h'
                subst h'
                omega
              by_cases z : c = 0
              · subst z
                have z0 : ((0 : Int) != 0) = false := rfl
                have HN : Hid (k + 1 ≤ 20 ∧ Few rs (k + 1) ∧ Few qs (k + 1) ∧ Or rs qs (k + 1) (-1) ∧ (k + 1 ≤ la ∨ k + 1 ≤ lb)) := ⟨by omega, hFA, hFB, HK.out.2.2.2.2.1.less (by have := HS.out.1.1; omega) hBr, by omega⟩
                clear hq hnB hFA hFB
                go_wp2_with fail
                go_roundg GK
                case measure => exact HG.out.1
                case rel => exact ⟨k + 1, -1, HG.out.2, by go_num, rfl, HK.out.1, HN.out⟩
              · have z0 : (c != 0) = true := by simp; exact z
                have HN : Hid (k + 1 ≤ 20 ∧ Few rs (k + 1) ∧ Few qs (k + 1) ∧ Or rs qs (k + 1) c ∧ (k + 1 ≤ la ∨ k + 1 ≤ lb)) := ⟨by omega, hFA, hFB, HK.out.2.2.2.2.1.on z, by omega⟩
                clear hq hnB hFA hFB z
                go_wp2_with fail
                go_roundg GK
                case measure => exact HG.out.1
                case rel => exact ⟨k + 1, c, HG.out.2, by go_num, rfl, HK.out.1, HN.out⟩
        · have hB' : (lb : Int) ≤ (k : Int) := by omega
          have HN : Hid (c = cmpR rs qs ∧ la ≤ 20 ∧ lb ≤ 20 ∧ Few rs la ∧ Few qs lb) := by
            have h1 := HS.out.1.1
            have h2 := HS.out.2.1
            have h3 := HK.out.2.1
            exact ⟨HK.out.2.2.2.2.1.end (by omega) (by omega), by omega, by omega, fun j r hj => HK.out.2.2.1 j r (by omega), fun j r hj => HK.out.2.2.2.1 j r (by omega)⟩
          clear hk
          go_wp2_with fail
          go_meet
          exact ⟨by rw [HN.out.1], HK.out.1, HN.out.2⟩
  case rest =>
    obtain ⟨rfl, HC⟩ := hcut
    go_wp2_with fail
    go_loopg [11, 14, 84] la (fun g x _ i wr => ∃ k : Nat, k + g = la ∧ i = .int .i64 (k : Int) ∧ Hid (SlV wr x (pts (rs.take k)) ∧ Below w.heap.size w wr))
    case atStart => exact ⟨0, by omega, rfl, slv_nil _, HC.out.1⟩
    case round =>
      obtain ⟨k, hk, rfl, HK⟩ := hrel
      have hk62 : k ≤ 2 ^ 62 := by have := HC.out.2.1; omega
      by_cases hA : k < la
      · have hA' : (k : Int) < (la : Int) := by omega
        have hAr : k < rs.length := by have := HS.out.1.1; omega
        obtain ⟨GK, HG⟩ : ∃ g, Hid (g < gk ∧ k + 1 + g = la) := ⟨gk - 1, by omega, by omega⟩
        obtain ⟨bA, oA, aA, cA, hao, hcA0, hsA0⟩ := HS.out.1.2.2.2.2 k rs[k] (List.getElem?_eq_getElem hAr)
        subst hao
        have hcA := cell_later HK.out.2 hcA0
        have hsA := hsA0.later HK.out.2
        obtain ⟨a5, c5, hv5, hs5⟩ := HK.out.1
        subst hv5
        have hsz : (pts (rs.take k)).length ≤ 20000 := by
          have h1 := pts_small (rs.take k) fun r hr => by
            have hF := HC.out.2.2.2.1
            rw [← HS.out.1.1] at hF
            exact hF.all r (List.mem_of_mem_take hr)
          rw [List.length_take] at h1
          have := HC.out.2.1
          omega
        have h300 : rs[k].length ≤ 300 := HC.out.2.2.2.1 k _ hA (List.getElem?_eq_getElem hAr)
        have kb := D.bytes hs5 hsA (by omega)
        rw [← pts_take hAr] at kb
        have hok : Okb (pts (rs.take (k + 1))) := okb_pts fun r hr => HS.out.1.okb r (List.mem_of_mem_take hr)
        obtain ⟨P, hP⟩ : ∃ P, P = pts (rs.take (k + 1)) := ⟨_, rfl⟩
        rw [← hP] at kb hok
        have HP : Hid (P = pts (rs.take (k + 1))) := hP
        clear hk hcA0 hsA0 hsA hs5 hsz h300 hP
        go_wp2_with fail
        refine kb.mono ?_
        rintro e w1 ⟨v1, rfl, hr1, hb1⟩
        clear kb
        go_wp2_with fail
        go_roundg GK
        case measure => exact HG.out.1
        case rel => exact ⟨k + 1, HG.out.2, by go_num, by rw [← HP.out]; exact SlV.ofRow hr1 hok, HK.out.2.trans (hb1.mono HK.out.2.size)⟩
      · have hA' : (la : Int) ≤ (k : Int) := by omega
        have hAd : decide (k < la) = false := by simp; omega
        have hAe : decide ((k : Int) < (la : Int)) = false := by simp; omega
        have hX : SlV wr u11 (pts rs) := by
          have := HK.out.1
          rw [List.take_of_length_le (by have := HS.out.1.1; omega)] at this
          exact this
        obtain ⟨aX, cX, hvX, hsX⟩ := hX
        subst hvX
        have H2 : Hid (Sl wr aX (pts rs).length cX (pts rs) ∧ Below w.heap.size w wr) := ⟨hsX, HK.out.2⟩
        clear hk hA HK hsX hk62
        generalize hlX : (pts rs).length = lX at H2 ⊢
        go_wp2_with fail
        go_loopg [12, 16, 94] lb (fun g x _ i wr2 => ∃ k : Nat, k + g = lb ∧ i = .int .i64 (k : Int) ∧ Hid (SlV wr2 x (pts (qs.take k)) ∧ Below w.heap.size w wr2 ∧ Sl wr2 aX lX cX (pts rs)))
        case atStart => exact ⟨0, by omega, rfl, slv_nil _, H2.out.2, H2.out.1⟩
        case round =>
          obtain ⟨k, hk, rfl, HK⟩ := hrel
          have hk62 : k ≤ 2 ^ 62 := by have := HC.out.2.2.1; omega
          by_cases hB : k < lb
          · have hB' : (k : Int) < (lb : Int) := by omega
            have hBr : k < qs.length := by have := HS.out.2.1; omega
            obtain ⟨GK, HG⟩ : ∃ g, Hid (g < gk ∧ k + 1 + g = lb) := ⟨gk - 1, by omega, by omega⟩
            obtain ⟨bB, oB, aB, cB, hbo, hcB0, hsB0⟩ := HS.out.2.2.2.2.2 k qs[k] (List.getElem?_eq_getElem hBr)
            subst hbo
            have hcB := cell_later HK.out.2.1 hcB0
            have hsB := hsB0.later HK.out.2.1
            obtain ⟨a5, c5, hv5, hs5⟩ := HK.out.1
            subst hv5
            have hsz : (pts (qs.take k)).length ≤ 20000 := by
              have h1 := pts_small (qs.take k) fun r hr => by
                have hF := HC.out.2.2.2.2
                rw [← HS.out.2.1] at hF
                exact hF.all r (List.mem_of_mem_take hr)
              rw [List.length_take] at h1
              have := HC.out.2.2.1
              omega
            have h300 : qs[k].length ≤ 300 := HC.out.2.2.2.2 k _ hB (List.getElem?_eq_getElem hBr)
            have kb := D.bytes hs5 hsB (by omega)
            rw [← pts_take hBr] at kb
            have hok : Okb (pts (qs.take (k + 1))) := okb_pts fun r hr => HS.out.2.okb r (List.mem_of_mem_take hr)
            obtain ⟨P, hP⟩ : ∃ P, P = pts (qs.take (k + 1)) := ⟨_, rfl⟩
            rw [← hP] at kb hok
            have HP : Hid (P = pts (qs.take (k + 1))) := hP
            clear hk hcB0 hsB0 hsB hs5 hsz h300 hP
            go_wp2_with fail
            refine kb.mono ?_
            rintro e w1 ⟨v1, rfl, hr1, hb1⟩
            clear kb
            go_wp2_with fail
            go_roundg GK
            case measure => exact HG.out.1
            case rel => exact ⟨k + 1, HG.out.2, by go_num, by rw [← HP.out]; exact SlV.ofRow hr1 hok, HK.out.2.1.trans (hb1.mono HK.out.2.1.size), HK.out.2.2.later hb1⟩
          · have hB' : (lb : Int) ≤ (k : Int) := by omega
            have hY : SlV wr u12 (pts qs) := by
              have := HK.out.1
              rw [List.take_of_length_le (by have := HS.out.2.1; omega)] at this
              exact this
            obtain ⟨aY, cY, hvY, hsY⟩ := hY
            subst hvY
            have kc := D.compare HK.out.2.2 hsY
            have hcp := cmp_pts rs qs HS.out.1.okb HS.out.2.okb
            rw [hcp] at kc
            have HK2 : Hid (∀ wz, Below wr.heap.size wr wz → Calls Try.prog 20 #[.slice aY (pts qs).length cY, .slice aX lX cX] wz fun e w' => e = .returned (.int .i64 (- cmpR rs qs)) ∧ Below wz.heap.size wz w') := fun wz h => by
              have := D.compare (hsY.later h) (HK.out.2.2.later h)
              rw [cmp_neg (pts rs) (pts qs), hcp] at this
              exact this
            have hvals : cmpR rs qs = -1 ∨ cmpR rs qs = 0 ∨ cmpR rs qs = 1 := by rw [← hcp]; exact cmp_vals _ _
            have HN : Hid (∀ wz, Calls Try.prog 16 #[.slice none 0 0, .int .i64 m] wz fun e w' => ∃ v, e = .returned v ∧ Row wz.heap.size w' v (fx (turned m) 8) ∧ Below wz.heap.size wz w') := fun wz => by
              have := D.number (Sl.nil wz) hm (by decide)
              rw [List.nil_append] at this
              exact this
            have HN2 : Hid (∀ wz, Calls Try.prog 16 #[.slice none 0 0, .int .i64 n] wz fun e w' => ∃ v, e = .returned v ∧ Row wz.heap.size w' v (fx (turned n) 8) ∧ Below wz.heap.size wz w') := fun wz => by
              have := D.number (Sl.nil wz) hn (by decide)
              rw [List.nil_append] at this
              exact this
            have HB : Hid (Below w.heap.size w wr) := HK.out.2.1
            have hnum := cmp_num hm.out hn.out
            generalize (pts qs).length = lY at kc HK2 ⊢
            generalize cmpR rs qs = c at kc HK2 hvals ⊢
            have hcc : (c != c) = false := by simp
            clear hk hB HK hsY hcp H2 HC hk62
            go_wp2_with fail
            refine kc.mono ?_
            rintro e w1 ⟨rfl, hb1⟩
            clear kc
            have HB1 : Hid (Below wr.heap.size wr w1) := hb1
            clear hb1
            obtain ⟨d, hd⟩ : ∃ d, d = cmp (fx (turned m) 8) (fx (turned n) 8) := ⟨_, rfl⟩
            rw [← hd] at hnum
            have HD : Hid (d = cmp (fx (turned m) 8) (fx (turned n) 8)) := hd
            clear hd
            rcases Int.lt_trichotomy m n with q | q | q
            · obtain rfl : d = -1 := by rw [hnum, if_pos q]
              rcases hvals with e | e | e <;> subst e
              all_goals
                clear hnum
                go_wp2_with fail
                refine (HN.out w1).mono ?_
                rintro e w2 ⟨v2, rfl, hr2, hb2⟩
                obtain ⟨a2, c2, rfl, hs2⟩ := SlV.ofRow hr2 (okb_fx _ 8)
                go_wp2_with fail
                refine (HN2.out w2).mono ?_
                rintro e w3 ⟨v3, rfl, hr3, hb3⟩
                obtain ⟨a3, c3, rfl, hs3⟩ := SlV.ofRow hr3 (okb_fx _ 8)
                have kd := D.compare (hs2.later hb3) hs3
                rw [← HD.out] at kd
                have HB3 : Hid (Below wr.heap.size wr w3) := (HB1.out.trans (hb2.mono HB1.out.size)).trans (hb3.mono (HB1.out.trans (hb2.mono HB1.out.size)).size)
                simp only [fx_length] at kd
                simp only [fx_length]
                clear hr2 hs2 hb2 hr3 hs3 hb3
                go_wp2_with fail
                refine kd.mono ?_
                rintro e w4 ⟨rfl, hb4⟩
                have B4 := HB3.out.trans (hb4.mono HB3.out.size)
                have ke := HK2.out w4 B4
                clear kd
                go_wp2_with fail
                refine ke.mono ?_
                rintro e w5 ⟨rfl, hb5⟩
                have B5 := B4.trans (hb5.mono B4.size)
                have B6 := HB.out.trans (B5.mono HB.out.size)
                have haw := HAW.out w5
                clear ke
                go_wp2_with fail
                refine haw.mono ?_
                rintro e w6 ⟨rfl, hb6⟩
                go_wp2_with fail
                exact bodyPost_ret (v := .bool true) (by simp [results, Try.results7, go_sem]) rfl ⟨rfl, B6.trans (hb6.mono B6.size)⟩
            · obtain rfl : d = 0 := by rw [hnum, if_neg (by omega), if_neg (by omega)]
              subst q
              rcases hvals with e | e | e <;> subst e
              all_goals
                clear hnum
                go_wp2_with fail
                refine (HN.out w1).mono ?_
                rintro e w2 ⟨v2, rfl, hr2, hb2⟩
                obtain ⟨a2, c2, rfl, hs2⟩ := SlV.ofRow hr2 (okb_fx _ 8)
                go_wp2_with fail
                refine (HN2.out w2).mono ?_
                rintro e w3 ⟨v3, rfl, hr3, hb3⟩
                obtain ⟨a3, c3, rfl, hs3⟩ := SlV.ofRow hr3 (okb_fx _ 8)
                have kd := D.compare (hs2.later hb3) hs3
                rw [← HD.out] at kd
                have HB3 : Hid (Below wr.heap.size wr w3) := (HB1.out.trans (hb2.mono HB1.out.size)).trans (hb3.mono (HB1.out.trans (hb2.mono HB1.out.size)).size)
                simp only [fx_length] at kd
                simp only [fx_length]
                clear hr2 hs2 hb2 hr3 hs3 hb3
                go_wp2_with fail
                refine kd.mono ?_
                rintro e w4 ⟨rfl, hb4⟩
                have B4 := HB3.out.trans (hb4.mono HB3.out.size)
                have ke := HK2.out w4 B4
                clear kd
                go_wp2_with fail
                refine ke.mono ?_
                rintro e w5 ⟨rfl, hb5⟩
                have B5 := B4.trans (hb5.mono B4.size)
                have B6 := HB.out.trans (B5.mono HB.out.size)
                have haw := HAW.out w5
                clear ke
                go_wp2_with fail
                refine haw.mono ?_
                rintro e w6 ⟨rfl, hb6⟩
                go_wp2_with fail
                exact bodyPost_ret (v := .bool true) (by simp [results, Try.results7, go_sem]) rfl ⟨rfl, B6.trans (hb6.mono B6.size)⟩
            · obtain rfl : d = 1 := by rw [hnum, if_neg (by omega), if_pos q]
              have q2 : ¬ m < n := by omega
              rcases hvals with e | e | e <;> subst e
              all_goals
                clear hnum
                go_wp2_with fail
                refine (HN.out w1).mono ?_
                rintro e w2 ⟨v2, rfl, hr2, hb2⟩
                obtain ⟨a2, c2, rfl, hs2⟩ := SlV.ofRow hr2 (okb_fx _ 8)
                go_wp2_with fail
                refine (HN2.out w2).mono ?_
                rintro e w3 ⟨v3, rfl, hr3, hb3⟩
                obtain ⟨a3, c3, rfl, hs3⟩ := SlV.ofRow hr3 (okb_fx _ 8)
                have kd := D.compare (hs2.later hb3) hs3
                rw [← HD.out] at kd
                have HB3 : Hid (Below wr.heap.size wr w3) := (HB1.out.trans (hb2.mono HB1.out.size)).trans (hb3.mono (HB1.out.trans (hb2.mono HB1.out.size)).size)
                simp only [fx_length] at kd
                simp only [fx_length]
                clear hr2 hs2 hb2 hr3 hs3 hb3
                go_wp2_with fail
                refine kd.mono ?_
                rintro e w4 ⟨rfl, hb4⟩
                have B4 := HB3.out.trans (hb4.mono HB3.out.size)
                have ke := HK2.out w4 B4
                clear kd
                go_wp2_with fail
                refine ke.mono ?_
                rintro e w5 ⟨rfl, hb5⟩
                have B5 := B4.trans (hb5.mono B4.size)
                have B6 := HB.out.trans (B5.mono HB.out.size)
                have haw := HAW.out w5
                clear ke
                go_wp2_with fail
                refine haw.mono ?_
                rintro e w6 ⟨rfl, hb6⟩
                go_wp2_with fail
                exact bodyPost_ret (v := .bool true) (by simp [results, Try.results7, go_sem]) rfl ⟨rfl, B6.trans (hb6.mono B6.size)⟩
end Go.Proofs.Ytgfkjbckhgndcaa
