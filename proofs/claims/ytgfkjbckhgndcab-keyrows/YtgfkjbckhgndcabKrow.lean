/- The law on rows of parts and a number, of any keys. -/
import Derived.Test.YtgfkjbckhgndcabKpur
namespace Go.Proofs.Ytgfkjbckhgndcab
open Go.RowKit
set_option linter.unusedVariables false
set_option linter.unusedSimpArgs false

structure PK : Prop where
  bytes : ∀ {w : World} {ao so : Option Addr} {len cap ls cs : Nat} {xs ps : List Int}, Sl w ao len cap xs → Sl w so ls cs ps → len + 2 * ls ≤ 140737488355000 →
    Calls Try.prog 5 #[.slice ao len cap, .slice so ls cs] w fun e w' => ∃ v, e = .returned v ∧ Row w.heap.size w' v (xs ++ pt ps) ∧ Below w.heap.size w w'
  number : ∀ {w : World} {ao : Option Addr} {len cap : Nat} {xs : List Int} {n : Int}, Sl w ao len cap xs → Hid (InI n) → len ≤ 140737488355000 →
    Calls Try.prog 6 #[.slice ao len cap, .int .i64 n] w fun e w' => ∃ v, e = .returned v ∧ Row w.heap.size w' v (xs ++ fx (turned n) 8) ∧ Below w.heap.size w w'
  take : ∀ {w : World} {ao : Option Addr} {len cap : Nat} {xs : List Int}, Sl w ao len cap xs → len ≤ 140737488355000 →
    Calls Try.prog 7 #[.slice ao len cap] w fun e w' => ∃ v, e = .returned (.tuple #[v, .int .i64 ((tp xs).2.2 : Int), .int .i64 ((tp xs).1 : Int)]) ∧ SlV w' v (tp xs).2.1 ∧ Below w.heap.size w w'
  takeN : ∀ {w : World} {ao : Option Addr} {len cap : Nat} {xs : List Int}, Sl w ao len cap xs →
    Calls Try.prog 8 #[.slice ao len cap] w fun e w' => e = .returned (.tuple #[.int .i64 (tn xs).2, .int .i64 ((tn xs).1 : Int)]) ∧ Below w.heap.size w w'

theorem okb_a0 : Okb [97, 0] := fun x hx => by simp at hx; omega
theorem sl_a0 (w : World) : Sl (w.alloc (.cells #[.int .u8 97, .int .u8 0] 5)) (some ⟨w.heap.size, 0, none⟩) 2 2 [97, 0] := by
  refine ⟨rfl, okb_a0, (fun e => by cases e), Nat.le_refl _, by decide, fun k hk => ?_⟩
  have e : (w.alloc (.cells #[.int .u8 97, .int .u8 0] 5)).heap[w.heap.size]? = some (.cells #[.int .u8 97, .int .u8 0] 5 (0, 0)) := heap_alloc_new w _
  have : k = 0 ∨ k = 1 := by omega
  rcases this with q | q <;> subst q
  · refine ⟨by decide, w.heap.size, 0, rfl, ?_⟩
    unfold World.cell?
    rw [e]
    rfl
  · refine ⟨by decide, w.heap.size, 0, rfl, ?_⟩
    unfold World.cell?
    rw [e]
    rfl
set_option maxHeartbeats 1000000 in
set_option maxRecDepth 100000 in
theorem awake7_any (D : PK) (w : World) : Calls Try.prog 4 #[] w fun e w' => e = .returned (.bool true) ∧ Below w.heap.size w w' := by
  have hp := D.bytes (Sl.nil (w.alloc (.cells #[.int .u8 97, .int .u8 0] 5))) (sl_a0 w) (by decide)
  have hb0 : Below w.heap.size w (w.alloc (.cells #[.int .u8 97, .int .u8 0] 5)) := (Below.refl _ _).alloc (Nat.le_refl _) _
  have e5 : ([] : List Int) ++ pt [97, 0] = [97, 0, 255, 0, 1] := rfl
  have h5 : Okb [97, 0, 255, 0, 1] := fun x hx => by simp at hx; omega
  rw [e5] at hp
  have HB : Hid (Below w.heap.size w (w.alloc (.cells #[.int .u8 97, .int .u8 0] 5))) := hb0
  clear hb0 e5
  go_enter Try.func4, Try.ntmps4
  go_wp2_with fail
  refine hp.mono ?_
  rintro e w1 ⟨v1, rfl, hr1, hb1⟩
  obtain ⟨a1, c1, rfl, hs1⟩ := SlV.ofRow hr1 h5
  have hst := str_l hs1
  have hs5 : strOfNums [97, 0, 255, 0, 1] = ⟨#[97, 0, 255, 0, 1]⟩ := rfl
  have hl5 : ([97, 0, 255, 0, 1] : List Int).length = 5 := rfl
  rw [hs5] at hst
  rw [hl5] at hst ⊢
  clear hp hr1 hs1
  go_wp2_with fail
  go_ret
  exact ⟨rfl, HB.out.trans (hb1.mono HB.out.size)⟩

theorem pts_drop {rs : List (List Int)} {k : Nat} (h : k < rs.length) : pts (rs.drop k) = pt rs[k] ++ pts (rs.drop (k + 1)) := by
  rw [List.drop_eq_getElem_cons h, pts]
theorem pts_drop_len {rs : List (List Int)} (h : ∀ r ∈ rs, r.length ≤ 300) (hl : rs.length ≤ 20) (k : Nat) : (pts (rs.drop k)).length ≤ 20000 := by
  have h1 := pts_small (rs.drop k) fun r hr => h r (List.mem_of_mem_drop hr)
  rw [List.length_drop] at h1
  omega

set_option maxHeartbeats 4000000 in
set_option maxRecDepth 100000 in
theorem rows_any (D : PK) {w : World} {ao : Option Addr} {la ca : Nat} {rs : List (List Int)} {n : Int} (ha : RB w ao la ca rs) (hn : Hid (InI n)) :
    Calls Try.prog 3 #[.slice ao la ca, .int .i64 n] w fun e w' => e = .returned (.bool true) ∧ Below w.heap.size w w' := by
  have HS : Hid (RB w ao la ca rs) := ha
  have la62 : la ≤ 2 ^ 63 - 1 := by have := ha.2.2; unfold maxLen at this; omega
  have HAW : Hid (∀ wx, Calls Try.prog 4 #[] wx fun e w' => e = .returned (.bool true) ∧ Below wx.heap.size wx w') := awake7_any D
  clear ha
  go_enter Try.func3, Try.ntmps3
  go_wp2_with fail
  go_loopg [5, 6, 7, 23] la (fun g x _ _ i wr => ∃ k : Nat, k + g = la ∧ i = .int .i64 (k : Int) ∧ Hid (SlV wr x (pts (rs.take k)) ∧ Below w.heap.size w wr ∧ k ≤ 20 ∧ Few rs k))
  case atStart => exact ⟨0, by omega, rfl, slv_nil _, Below.refl _ _, by omega, (fun j r hj => by cases hj)⟩
  case round =>
    obtain ⟨k, hk, rfl, HK⟩ := hrel
    have hk62 : k ≤ 2 ^ 62 := by have := HK.out.2.2.1; omega
    by_cases hA : k < la
    · have hA' : (k : Int) < (la : Int) := by omega
      have hAr : k < rs.length := by have := HS.out.1; omega
      obtain ⟨GK, HG⟩ : ∃ g, Hid (g < gk ∧ k + 1 + g = la) := ⟨gk - 1, by omega, by omega⟩
      obtain ⟨bA, oA, aA, cA, hao, hcA0, hsA0⟩ := HS.out.2.2.2.2 k rs[k] (List.getElem?_eq_getElem hAr)
      subst hao
      have hcA := cell_later HK.out.2.1 hcA0
      have hsA := hsA0.later HK.out.2.1
      obtain ⟨r, hr⟩ : ∃ r, r = rs[k] := ⟨_, rfl⟩
      rw [← hr] at hcA hsA
      obtain ⟨nA, hnA⟩ : ∃ n, n = r.length := ⟨_, rfl⟩
      rw [← hnA] at hcA hsA
      have nA62 : nA ≤ 2 ^ 63 - 1 := by have := hsA.2.2.2; unfold maxLen at this; omega
      clear hk hsA0 hcA0
      by_cases h20 : 20 ≤ k
      · have h20' : (20 : Int) ≤ (k : Int) := by omega
        have haw := HAW.out wr
        clear hr hnA hsA
        go_wp2_with (go_at_call 4; refine haw.mono ?_; rintro e w4 ⟨rfl, hb4⟩)
        exact bodyPost_ret (v := .bool true) (by simp [results, Try.results3, go_sem]) rfl ⟨rfl, HK.out.2.1.trans (hb4.mono HK.out.2.1.size)⟩
      · have h20' : (k : Int) < 20 := by omega
        by_cases h3 : 300 < nA
        · have h3' : (300 : Int) < (nA : Int) := by omega
          have haw := HAW.out wr
          clear hr hnA hsA
          go_wp2_with (go_at_call 4; refine haw.mono ?_; rintro e w4 ⟨rfl, hb4⟩)
          exact bodyPost_ret (v := .bool true) (by simp [results, Try.results3, go_sem]) rfl ⟨rfl, HK.out.2.1.trans (hb4.mono HK.out.2.1.size)⟩
        · have h3' : (nA : Int) ≤ 300 := by omega
          have hFA : Few rs (k + 1) := HK.out.2.2.2.succ fun r' h' => by
            rw [List.getElem?_eq_getElem hAr, Option.some.injEq, ← hr] at h'
            subst h'
            omega
          obtain ⟨a5, c5, hv5, hs5⟩ := HK.out.1
          subst hv5
          have hsz : (pts (rs.take k)).length ≤ 20000 := by
            have h1 := pts_small (rs.take k) fun s hs => by
              obtain ⟨i, hi, rfl⟩ := List.getElem_of_mem hs
              rw [List.length_take] at hi
              rw [List.getElem_take]
              exact HK.out.2.2.2 i _ (by omega) (List.getElem?_eq_getElem (by omega))
            rw [List.length_take] at h1
            have := HK.out.2.2.1
            omega
          have kb := D.bytes hs5 hsA (by omega)
          rw [hr, ← pts_take hAr] at kb
          have hok : Okb (pts (rs.take (k + 1))) := okb_pts fun s hs => HS.out.okb s (List.mem_of_mem_take hs)
          obtain ⟨P, hP⟩ : ∃ P, P = pts (rs.take (k + 1)) := ⟨_, rfl⟩
          rw [← hP] at kb hok
          have HP : Hid (P = pts (rs.take (k + 1)) ∧ k + 1 ≤ 20 ∧ Few rs (k + 1)) := ⟨hP, by omega, hFA⟩
          clear hsA hs5 hsz hP hr hnA hFA
          go_wp2_with fail
          refine kb.mono ?_
          rintro e w1 ⟨v1, rfl, hr1, hb1⟩
          clear kb
          go_wp2_with fail
          go_roundg GK
          case measure => exact HG.out.1
          case rel => exact ⟨k + 1, HG.out.2, by go_num, by rw [← HP.out.1]; exact SlV.ofRow hr1 hok, HK.out.2.1.trans (hb1.mono HK.out.2.1.size), HP.out.2⟩
    · have hA' : (la : Int) ≤ (k : Int) := by omega
      have hAd : decide (k < la) = false := by simp; omega
      have hAe : decide ((k : Int) < (la : Int)) = false := by simp; omega
      have hke : la ≤ k := by omega
      have hrl := HS.out.1
      have hF : ∀ r ∈ rs, r.length ≤ 300 := Few.all fun j r hj => HK.out.2.2.2 j r (by omega)
      have h20 : rs.length ≤ 20 := by have := HK.out.2.2.1; omega
      have hX : SlV wr u5 (pts rs) := by
        have := HK.out.1
        rw [List.take_of_length_le (by omega)] at this
        exact this
      obtain ⟨aX, cX, hvX, hsX⟩ := hX
      subst hvX
      have hszX := pts_drop_len hF h20 0
      rw [List.drop_zero] at hszX
      have kn := D.number hsX hn (by omega)
      have HF : Hid ((∀ r ∈ rs, r.length ≤ 300) ∧ rs.length ≤ 20 ∧ Below w.heap.size w wr ∧ (∀ r ∈ rs, Okb r)) := ⟨hF, h20, HK.out.2.1, HS.out.okb⟩
      clear hk hA HK hsX hk62 hke hrl hF h20 hszX
      go_wp2_with fail
      refine kn.mono ?_
      rintro e w1 ⟨v1, rfl, hr1, hb1⟩
      have hX2 := SlV.ofRow hr1 ((okb_pts HF.out.2.2.2).app (okb_fx _ 8))
      have H1 : Hid (SlV w1 v1 (pts (rs.drop 0) ++ fx (turned n) 8) ∧ Below w.heap.size w w1) := ⟨hX2, HF.out.2.2.1.trans (hb1.mono HF.out.2.2.1.size)⟩
      clear kn hr1 hb1 hX2
      go_wp2_with fail
      go_loopg [5, 9, 10, 11, 12, 45] la (fun g x _ _ _ _ i wr2 => ∃ k : Nat, k + g = la ∧ i = .int .i64 (k : Int) ∧ Hid (SlV wr2 x (pts (rs.drop k) ++ fx (turned n) 8) ∧ Below w.heap.size w wr2))
      case atStart => exact ⟨0, by omega, rfl, H1.out⟩
      case round =>
        obtain ⟨k2, hk, rfl, HK⟩ := hrel
        have hk62 : k2 ≤ 2 ^ 62 := by have := HF.out.2.1; have := HS.out.1; omega
        by_cases hB : k2 < la
        · have hB' : (k2 : Int) < (la : Int) := by omega
          have hBr : k2 < rs.length := by have := HS.out.1; omega
          obtain ⟨GK, HG⟩ : ∃ g, Hid (g < gk ∧ k2 + 1 + g = la) := ⟨gk - 1, by omega, by omega⟩
          obtain ⟨bA, oA, aA, cA, hao, hcA0, hsA0⟩ := HS.out.2.2.2.2 k2 rs[k2] (List.getElem?_eq_getElem hBr)
          subst hao
          have hcA := cell_later HK.out.2 hcA0
          have hsA := hsA0.later HK.out.2
          obtain ⟨aB, cB, hvB, hsB⟩ := HK.out.1
          subst hvB
          rw [pts_drop hBr, List.append_assoc] at hsB ⊢
          have hszR := pts_drop_len HF.out.1 HF.out.2.1 (k2 + 1)
          obtain ⟨R, hR⟩ : ∃ R, R = pts (rs.drop (k2 + 1)) ++ fx (turned n) 8 := ⟨_, rfl⟩
          have hRl : R.length ≤ 20008 := by rw [hR, List.length_append, fx_length]; omega
          rw [← hR] at hsB ⊢
          obtain ⟨r, hr⟩ : ∃ r, r = rs[k2] := ⟨_, rfl⟩
          rw [← hr] at hcA hsA hsB ⊢
          have hptl : (pt r).length ≤ 602 := by
            have h1 := pt_len r
            have h2 := HF.out.1 rs[k2] (List.getElem_mem hBr)
            rw [← hr] at h2
            omega
          have hpt2 := pt_pos r
          have kt := D.take hsB (by rw [List.length_append]; omega)
          rw [tp_pt r R] at kt
          simp only at kt
          have hdrop : (pt r ++ R).drop (pt r).length = R := by rw [List.drop_append_of_le_length (Nat.le_refl _), List.drop_of_length_le (Nat.le_refl _)]; rfl
          have hfr := hsB.from (pt r).length (by rw [List.length_append]; omega)
          rw [hdrop] at hfr
          obtain ⟨LB, hLB⟩ : ∃ LB, LB = (pt r ++ R).length := ⟨_, rfl⟩
          obtain ⟨U, hU⟩ : ∃ U, U = (pt r).length := ⟨_, rfl⟩
          have hRL : LB - U = R.length := by rw [hLB, hU, List.length_append]; omega
          have hUL : U ≤ LB := by rw [hLB, hU, List.length_append]; omega
          rw [← hLB] at hsB kt hfr ⊢
          rw [← hU] at kt hfr hpt2
          have hf := fun w => run_from w aB LB cB U hUL hsB.2.2.2.1
          rw [hRL] at hf hfr
          have HR2 : Hid (Sl wr (cutA aB cB U) R.length (cB - U) R ∧ R = pts (rs.drop (k2 + 1)) ++ fx (turned n) 8 ∧ Sl wr aA r.length cA r) := ⟨hfr, hR, hsA⟩
          have hLB62 : LB ≤ 2 ^ 62 := by rw [hLB, List.length_append]; omega
          have hU62 : U ≤ 2 ^ 62 := by omega
          have u1 : (2 : Int) ≤ (U : Int) := by omega
          have u2 : (U : Int) ≤ (LB : Int) := by omega
          have e0 : ((0 : Int) != 0) = false := rfl
          clear hk hcA0 hsA0 hsA hsB hszR hR hRl hptl hdrop hfr hLB hU hRL hr
          go_wp2_with fail
          refine kt.mono ?_
          rintro e w3 ⟨v3, rfl, ⟨a3, c3, rfl, hs3⟩, hb3⟩
          have hx := str_l hs3
          have hy := str_l (HR2.out.2.2.later hb3)
          have heq : ((strOfNums r).toList == (strOfNums r).toList) = true := by simp
          have HB3 : Hid (Below wr.heap.size wr w3) := hb3
          generalize strOfNums r = S at hx hy heq
          generalize r.length = nr at hx hy hcA ⊢
          clear kt hs3 hb3
          go_wp2_with fail
          go_roundg GK
          case measure => exact HG.out.1
          case rel => exact ⟨k2 + 1, HG.out.2, by go_num, by rw [← HR2.out.2.1]; exact ⟨_, _, rfl, HR2.out.1.later HB3.out⟩, HK.out.2.trans (HB3.out.mono HK.out.2.size)⟩
        · have hB' : (la : Int) ≤ (k2 : Int) := by omega
          have hBd : decide (k2 < la) = false := by simp; omega
          have hBe : decide ((k2 : Int) < (la : Int)) = false := by simp; omega
          have hX : SlV wr u5 (fx (turned n) 8) := by
            have := HK.out.1
            rw [List.drop_of_length_le (by have := HS.out.1; omega)] at this
            exact this
          obtain ⟨a5, c5, hv5, hs5⟩ := hX
          subst hv5
          have kn := D.takeN hs5
          have etn := tn_fx hn.out [] (fun x hx => by cases hx)
          rw [List.append_nil] at etn
          rw [etn] at kn
          simp only at kn
          rw [fx_length] at kn ⊢
          have HB2 : Hid (Below w.heap.size w wr) := HK.out.2
          have e0 : ((0 : Int) != 0) = false := rfl
          have e8 : ((8 : Int) != 8) = false := rfl
          have enn : (n != n) = false := by simp
          clear hk hB HK hs5 etn hk62
          go_wp2_with fail
          refine kn.mono ?_
          rintro e w4 ⟨rfl, hb4⟩
          have HB4 : Hid (Below w.heap.size w w4) := HB2.out.trans (hb4.mono HB2.out.size)
          clear kn hb4
          go_wp2_with fail
          go_loopg [15, 16, 17, 18, 19, 20, 97] la (fun g _ _ _ _ _ _ i wr3 => ∃ k : Nat, k + g = la ∧ i = .int .i64 (k : Int) ∧ Hid (Below w.heap.size w wr3))
          case atStart => exact ⟨0, by omega, rfl, HB4.out⟩
          case round =>
            obtain ⟨i3, hi3, rfl, HK⟩ := hrel
            have hi62 : i3 ≤ 2 ^ 62 := by have := HF.out.2.1; have := HS.out.1; omega
            by_cases hC : i3 < la
            · have hC' : (i3 : Int) < (la : Int) := by omega
              have hCr : i3 < rs.length := by have := HS.out.1; omega
              obtain ⟨GK, HG⟩ : ∃ g, Hid (g < gk ∧ i3 + 1 + g = la) := ⟨gk - 1, by omega, by omega⟩
              obtain ⟨bA, oA, aA, cA, hao, hcA0, hsA0⟩ := HS.out.2.2.2.2 i3 rs[i3] (List.getElem?_eq_getElem hCr)
              subst hao
              have hcA := cell_later HK.out hcA0
              obtain ⟨r, hr⟩ : ∃ r, r = rs[i3] := ⟨_, rfl⟩
              rw [← hr] at hcA hsA0
              have h300 : r.length ≤ 300 := by rw [hr]; exact HF.out.1 _ (List.getElem_mem hCr)
              obtain ⟨nA, hnA⟩ : ∃ n, n = r.length := ⟨_, rfl⟩
              rw [← hnA] at hcA hsA0 h300
              have HP : Hid (Sl w aA nA cA r ∧ nA ≤ 300) := ⟨hsA0, h300⟩
              clear hi3 hcA0 hsA0 hr hnA h300
              go_wp2_with fail
              go_loopg [17, 18, 19, 20, 104] la (fun g _ _ _ _ j wr4 => ∃ k : Nat, k + g = la ∧ j = .int .i64 (k : Int) ∧ Hid (Below w.heap.size w wr4))
              case atStart => exact ⟨0, by omega, rfl, HK.out⟩
              case round =>
                obtain ⟨k4, hk4, rfl, HK4⟩ := hrel
                have hk62 : k4 ≤ 2 ^ 62 := by have := HF.out.2.1; have := HS.out.1; omega
                by_cases hE : k4 < la
                · have hE' : (k4 : Int) < (la : Int) := by omega
                  have hEr : k4 < rs.length := by have := HS.out.1; omega
                  obtain ⟨GK4, HG4⟩ : ∃ g, Hid (g < gk ∧ k4 + 1 + g = la) := ⟨gk - 1, by omega, by omega⟩
                  obtain ⟨bB, oB, aB, cB, hbo, hcB0, hsB0⟩ := HS.out.2.2.2.2 k4 rs[k4] (List.getElem?_eq_getElem hEr)
                  simp only [Option.some.injEq, Addr.mk.injEq, and_true] at hbo
                  obtain ⟨rfl, rfl⟩ := hbo
                  have hcB := cell_later HK4.out hcB0
                  obtain ⟨q, hq⟩ : ∃ q, q = rs[k4] := ⟨_, rfl⟩
                  rw [← hq] at hcB hsB0
                  have h300 : q.length ≤ 300 := by rw [hq]; exact HF.out.1 _ (List.getElem_mem hEr)
                  obtain ⟨nB, hnB⟩ : ∃ n, n = q.length := ⟨_, rfl⟩
                  rw [← hnB] at hcB hsB0 h300
                  have k5 := D.bytes (Sl.nil wr) (HP.out.1.later HK4.out) (by have := HP.out.2; omega)
                  rw [List.nil_append] at k5
                  have HQ : Hid (Sl w aB nB cB q ∧ nB ≤ 300) := ⟨hsB0, h300⟩
                  clear hk4 hcB0 hsB0 hq hnB h300
                  go_wp2_with fail
                  refine k5.mono ?_
                  rintro e w5 ⟨v5, rfl, hr5, hb5⟩
                  obtain ⟨aX, cX, rfl, hsX⟩ := SlV.ofRow hr5 (okb_pt HP.out.1.2.1)
                  have B5 := HK4.out.trans (hb5.mono HK4.out.size)
                  have k6 := D.bytes (Sl.nil w5) (HQ.out.1.later B5) (by have := HQ.out.2; omega)
                  rw [List.nil_append] at k6
                  clear k5 hr5
                  go_wp2_with fail
                  refine k6.mono ?_
                  rintro e w6 ⟨v6, rfl, hr6, hb6⟩
                  obtain ⟨aY, cY, rfl, hsY⟩ := SlV.ofRow hr6 (okb_pt HQ.out.1.2.1)
                  have B6 := B5.trans (hb6.mono B5.size)
                  have H6 : Hid (Sl w6 aX (pt r).length cX (pt r) ∧ Sl w6 aY (pt q).length cY (pt q) ∧ Sl w6 aA nA cA r ∧ Sl w6 aB nB cB q ∧ Below w.heap.size w w6) := ⟨hsX.later hb6, hsY, HP.out.1.later B6, HQ.out.1.later B6, B6⟩
                  have hLX : (pt r).length ≤ 602 := by have := pt_len r; have := HP.out; have := HP.out.1.1; omega
                  have hLY : (pt q).length ≤ 602 := by have := pt_len q; have := HQ.out; have := HQ.out.1.1; omega
                  obtain ⟨LX, hX⟩ : ∃ L, L = (pt r).length := ⟨_, rfl⟩
                  obtain ⟨LY, hY⟩ : ∃ L, L = (pt q).length := ⟨_, rfl⟩
                  rw [← hX, ← hY] at H6 ⊢
                  rw [← hX] at hLX
                  rw [← hY] at hLY
                  have HXY : Hid (LX = (pt r).length ∧ LY = (pt q).length) := ⟨hX, hY⟩
                  clear k6 hr6 hb6 hsX hsY B5 B6 hb5 hX hY
                  go_upto_region 28 with fail
                  go_cut [139] from 113 to 139 (fun s wx => s = .bool false ∧ Hid (Below w.heap.size w wx))
                  case first =>
                    by_cases hik : i3 = k4
                    · have hb : ((i3 : Int) != (k4 : Int)) = false := by simp [hik]
                      clear hik
                      go_quiet (fail)
                      go_wp2_with fail
                      go_meet
                      exact ⟨rfl, below_drewN H6.out.2.2.2.2 _⟩
                    · have hb : ((i3 : Int) != (k4 : Int)) = true := by simp; omega
                      have g1 := fun j => str_l (H6.out.2.2.1.drewN j)
                      have g2 := fun j => str_l (H6.out.2.2.2.1.drewN j)
                      have heq := str_eq H6.out.2.2.1.2.1 H6.out.2.2.2.1.2.1
                      clear hik
                      by_cases hpq : r = q
                      · have he : ((strOfNums r).toList == (strOfNums q).toList) = true := by rw [heq]; simpa using hpq
                        clear heq hpq
                        generalize strOfNums r = S1 at g1 he
                        generalize strOfNums q = S2 at g2 he
                        go_quiet (fail)
                        go_wp2_with fail
                        go_meet
                        exact ⟨rfl, below_drewN H6.out.2.2.2.2 _⟩
                      · have he : ((strOfNums r).toList == (strOfNums q).toList) = false := by rw [heq]; simpa using hpq
                        by_cases hle : LX ≤ LY
                        · have hle' : (LX : Int) ≤ (LY : Int) := by omega
                          have hld : decide (LX ≤ LY) = true := by simp; exact hle
                          have hh := fun w => run_head23 w aY LY cY LX (by have := H6.out.2.1.2.2.2.1; omega)
                          have hs := H6.out.2.1.head LX hle
                          have g3 := fun j => str_l (hs.drewN j)
                          have g4 := fun j => str_l (H6.out.1.drewN j)
                          have he2 : ((strOfNums ((pt q).take LX)).toList == (strOfNums (pt r)).toList) = false := by
                            rw [str_eq hs.2.1 H6.out.1.2.1, decide_eq_false_iff_not]
                            intro hc
                            apply hpq
                            refine pt_begins (t := (pt q).drop LX) ?_
                            rw [← hc, List.take_append_drop]
                          clear heq hpq hs
                          generalize strOfNums r = S1 at g1 he
                          generalize strOfNums q = S2 at g2 he
                          generalize strOfNums ((pt q).take LX) = S3 at g3 he2
                          generalize strOfNums (pt r) = S4 at g4 he2
                          go_quiet (fail)
                          go_wp2_with fail
                          go_meet
                          exact ⟨rfl, below_drewN H6.out.2.2.2.2 _⟩
                        · have hle' : (LY : Int) < (LX : Int) := by omega
                          have hld : decide (LX ≤ LY) = false := by simp; omega
                          clear heq hpq
                          generalize strOfNums r = S1 at g1 he
                          generalize strOfNums q = S2 at g2 he
                          go_quiet (fail)
                          go_wp2_with fail
                          go_meet
                          exact ⟨rfl, below_drewN H6.out.2.2.2.2 _⟩
                  case rest =>
                    obtain ⟨rfl, HB7⟩ := hcut
                    go_wp2_with fail
                    go_roundg GK4
                    case measure => exact HG4.out.1
                    case rel => exact ⟨k4 + 1, HG4.out.2, by go_num, HB7.out⟩
                · have hE' : (la : Int) ≤ (k4 : Int) := by omega
                  have hEd : decide (k4 < la) = false := by simp; omega
                  have hEe : decide ((k4 : Int) < (la : Int)) = false := by simp; omega
                  clear hk4 hE
                  go_wp2_with fail
                  go_roundg GK
                  case measure => exact HG.out.1
                  case rel => exact ⟨i3 + 1, HG.out.2, by go_num, HK4.out⟩
            · have hC' : (la : Int) ≤ (i3 : Int) := by omega
              have haw := HAW.out wr
              clear hi3 hC
              go_wp2_with (go_at_call 4; refine haw.mono ?_; rintro e w9 ⟨rfl, hb9⟩)
              exact bodyPost_ret (v := .bool true) (by simp [results, Try.results3, go_sem]) rfl ⟨rfl, HK.out.trans (hb9.mono HK.out.size)⟩
end Go.Proofs.Ytgfkjbckhgndcab
