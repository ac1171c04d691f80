import Derived.Test.YtaefddnmldbgiabDoorPk14
import Derived.Test.YtaefddnmldbgiabDoorPk15
/- What is newest at a number is what Get tells of each key. -/
namespace Go.Proofs.YtaefddnmldbgiabDoor
set_option linter.unusedVariables false
set_option linter.unusedSimpArgs false

theorem seen1_app {s : Int} {out a : List EntV} (ha : a ≠ []) (e : EntV) : seen1 s (out ++ a) e = out ++ seen1 s a e := by
  obtain ⟨x, hx⟩ : ∃ x, a.getLast? = some x := by
    cases h : a.getLast? with
    | none => rw [List.getLast?_eq_none_iff] at h; exact absurd h ha
    | some x => exact ⟨x, rfl⟩
  have hl : (out ++ a).getLast? = some x := by rw [List.getLast?_append, hx]; rfl
  have hn : out ++ a ≠ [] := by simp [ha]
  unfold seen1
  rw [hl, hx]
  by_cases q : e.seq ≤ s ∧ cmp x.key e.key ≠ 0
  · rw [if_pos ⟨q.1, .inr ⟨x, rfl, q.2⟩⟩, if_pos ⟨q.1, .inr ⟨x, rfl, q.2⟩⟩, List.append_assoc]
  · rw [if_neg, if_neg]
    · rintro ⟨h1, h2 | ⟨y, hy, h2⟩⟩
      · exact ha h2
      · simp only [Option.some.injEq] at hy; subst hy; exact q ⟨h1, h2⟩
    · rintro ⟨h1, h2 | ⟨y, hy, h2⟩⟩
      · exact hn h2
      · simp only [Option.some.injEq] at hy; subst hy; exact q ⟨h1, h2⟩
theorem seen1_ne {s : Int} {a : List EntV} (ha : a ≠ []) (e : EntV) : seen1 s a e ≠ [] := by
  unfold seen1
  split
  · simp
  · exact ha
theorem fold_app (s : Int) (out : List EntV) : ∀ (t a : List EntV), a ≠ [] → t.foldl (seen1 s) (out ++ a) = out ++ t.foldl (seen1 s) a
  | [], a, _ => rfl
  | e :: t, a, ha => by
    rw [List.foldl_cons, List.foldl_cons, seen1_app ha]
    exact fold_app s out t _ (seen1_ne ha e)
theorem fold_new (s : Int) {out : List EntV} {k : List Int} (hk : ∀ x, out.getLast? = some x → x.key = k) : ∀ (R : List EntV), (∀ y ∈ R, k ≠ y.key) → R.foldl (seen1 s) out = out ++ R.foldl (seen1 s) []
  | [], _ => by simp
  | y :: t, h => by
    have hy := h y (List.mem_cons_self ..)
    have ht : ∀ z ∈ t, k ≠ z.key := fun z hz => h z (List.mem_cons_of_mem _ hz)
    rw [List.foldl_cons, List.foldl_cons]
    by_cases q : y.seq ≤ s
    · have e1 : seen1 s out y = out ++ [y] := by
        unfold seen1
        rw [if_pos]
        refine ⟨q, ?_⟩
        cases hl : out.getLast? with
        | none => rw [List.getLast?_eq_none_iff] at hl; exact .inl hl
        | some x => exact .inr ⟨x, rfl, fun hc => hy ((hk x hl).symm.trans (cmp_zero.1 hc))⟩
      have e2 : seen1 s [] y = [y] := by unfold seen1; rw [if_pos ⟨q, .inl rfl⟩]; rfl
      rw [e1, e2]
      exact fold_app s out t [y] (by simp)
    · have e1 : seen1 s out y = out := by unfold seen1; rw [if_neg (fun h => q h.1)]
      have e2 : seen1 s [] y = [] := by unfold seen1; rw [if_neg (fun h => q h.1)]
      rw [e1, e2]
      exact fold_new s hk t ht
theorem fold_stay (s : Int) {x : EntV} : ∀ (t : List EntV), (∀ y ∈ t, y.key = x.key) → t.foldl (seen1 s) [x] = [x]
  | [], _ => rfl
  | y :: t, h => by
    have e1 : seen1 s [x] y = [x] := by
      unfold seen1
      rw [if_neg]
      rintro ⟨_, h2 | ⟨z, hz, h2⟩⟩
      · cases h2
      · simp at hz
        subst hz
        exact h2 (cmp_zero.2 (h y (List.mem_cons_self ..)).symm)
    rw [List.foldl_cons, e1]
    exact fold_stay s t fun z hz => h z (List.mem_cons_of_mem _ hz)
theorem fold_run (s : Int) {k : List Int} : ∀ (G : List EntV), (∀ y ∈ G, y.key = k) → G.foldl (seen1 s) [] = (G.find? fun e => decide (e.seq ≤ s)).toList
  | [], _ => rfl
  | y :: t, h => by
    rw [List.foldl_cons]
    by_cases q : y.seq ≤ s
    · have e2 : seen1 s [] y = [y] := by unfold seen1; rw [if_pos ⟨q, .inl rfl⟩]; rfl
      rw [e2, List.find?_cons_of_pos (by simpa using q)]
      exact fold_stay s t fun z hz => (h z (List.mem_cons_of_mem _ hz)).trans (h y (List.mem_cons_self ..)).symm
    · have e2 : seen1 s [] y = [] := by unfold seen1; rw [if_neg (fun h => q h.1)]
      rw [e2, List.find?_cons_of_neg (by simpa using q)]
      exact fold_run s t fun z hz => h z (List.mem_cons_of_mem _ hz)
/-- One that is not Gone. -/
def pick (o : Option EntV) : List EntV := o.toList.filter fun e => !e.gone
/-- What Get tells of each key, one key behind the other. -/
def latG (g : List Int → Option EntV) : Option (List Int) → List EntV → List EntV
  | _, [] => []
  | last, e :: r => if last = some e.key then latG g last r else pick (g e.key) ++ latG g (some e.key) r
theorem latG_run (g : List Int → Option EntV) {k : List Int} : ∀ (G R : List EntV), (∀ y ∈ G, y.key = k) → latG g (some k) (G ++ R) = latG g (some k) R
  | [], R, _ => rfl
  | y :: t, R, h => by
    rw [List.cons_append, latG, if_pos (by rw [h y (List.mem_cons_self ..)])]
    exact latG_run g t R fun z hz => h z (List.mem_cons_of_mem _ hz)
theorem latG_new (g : List Int → Option EntV) {k : List Int} : ∀ (R : List EntV), (∀ y ∈ R, k ≠ y.key) → latG g (some k) R = latG g none R
  | [], _ => rfl
  | y :: t, h => by
    rw [latG, latG, if_neg (by simpa using h y (List.mem_cons_self ..)), if_neg (by simp)]
theorem latG_congr {g g' : List Int → Option EntV} : ∀ (last : Option (List Int)) (R : List EntV), (∀ y ∈ R, g y.key = g' y.key) → latG g last R = latG g' last R
  | _, [], _ => rfl
  | last, y :: t, h => by
    have ht : ∀ z ∈ t, g z.key = g' z.key := fun z hz => h z (List.mem_cons_of_mem _ hz)
    rw [latG, latG, latG_congr last t ht, latG_congr (some y.key) t ht, h y (List.mem_cons_self ..)]
theorem get_run {s : Int} {k : List Int} {G R : List EntV} (hG : ∀ y ∈ G, y.key = k) (hR : ∀ y ∈ R, k ≠ y.key) : getE (G ++ R) k s = G.find? fun e => decide (e.seq ≤ s) := by
  unfold getE
  rw [List.find?_append]
  have e1 : G.find? (fun e => decide (cmp e.key k = 0 ∧ e.seq ≤ s)) = G.find? fun e => decide (e.seq ≤ s) := by
    induction G with
    | nil => rfl
    | cons y t ih =>
      have hy := hG y (List.mem_cons_self ..)
      have iht := ih fun z hz => hG z (List.mem_cons_of_mem _ hz)
      have hc : cmp y.key k = 0 := cmp_zero.2 hy
      simp only [List.find?_cons]
      rw [iht]
      simp [hc]
  have e2 : R.find? (fun e => decide (cmp e.key k = 0 ∧ e.seq ≤ s)) = none := by
    rw [List.find?_eq_none]
    intro y hy hc
    simp at hc
    exact hR y hy (cmp_zero.1 hc.1).symm
  rw [e1, e2]
  simp
theorem get_past {s : Int} {k k' : List Int} {G R : List EntV} (hG : ∀ y ∈ G, y.key = k) (hk : k ≠ k') : getE (G ++ R) k' s = getE R k' s := by
  unfold getE
  rw [List.find?_append]
  have e1 : G.find? (fun e => decide (cmp e.key k' = 0 ∧ e.seq ≤ s)) = none := by
    rw [List.find?_eq_none]
    intro y hy hc
    simp at hc
    exact hk ((hG y hy).symm.trans (cmp_zero.1 hc.1))
  rw [e1]
  rfl
/-- What is newest at a number is what Get tells of each key, without what is Gone. -/
theorem latest_each (s : Int) : ∀ (n : Nat) (L : List EntV), L.length ≤ n → ordE L → latG (fun k => getE L k s) none L = (seenE L s).filter fun e => !e.gone
  | 0, L, hn, _ => by
    have : L = [] := List.eq_nil_of_length_eq_zero (by omega)
    subst this
    rfl
  | n + 1, [], _, _ => rfl
  | n + 1, x :: r, hn, ho => by
    obtain ⟨h1, h2⟩ := List.pairwise_cons.1 ho
    obtain ⟨G, hGd⟩ : ∃ G, G = r.takeWhile (fun e => decide (e.key = x.key)) := ⟨_, rfl⟩
    obtain ⟨R, hRd⟩ : ∃ R, R = r.dropWhile (fun e => decide (e.key = x.key)) := ⟨_, rfl⟩
    have hr : r = G ++ R := by rw [hGd, hRd, List.takeWhile_append_dropWhile]
    have hG : ∀ y ∈ G, y.key = x.key := fun y hy => by
      rw [hGd] at hy
      simpa using List.all_eq_true.1 (List.all_takeWhile (l := r) (p := fun e => decide (e.key = x.key))) y hy
    have hGx : ∀ y ∈ x :: G, y.key = x.key := fun y hy => by
      rcases List.mem_cons.1 hy with q | q
      · rw [q]
      · exact hG y q
    have hor : ordE R := by
      rw [hr] at h2
      exact (List.pairwise_append.1 h2).2.1
    have hR : ∀ y ∈ R, x.key ≠ y.key := by
      cases hRR : R with
      | nil => intro y hy; cases hy
      | cons z t =>
        have hz : z.key ≠ x.key := by
          have := List.head?_dropWhile_not (fun e : EntV => decide (e.key = x.key)) r
          rw [← hRd, hRR] at this
          simpa using this
        rw [hRR] at hor
        obtain ⟨g1, _⟩ := List.pairwise_cons.1 hor
        have hxz : cmp x.key z.key < 0 := by
          have hm : z ∈ r := by rw [hr, hRR]; simp
          have := ahead_key (h1 z hm)
          have hn0 : cmp x.key z.key ≠ 0 := fun e => hz (cmp_zero.1 e).symm
          omega
        intro y hy e
        rcases List.mem_cons.1 hy with q | q
        · subst q; exact hz e.symm
        · have k1 := ahead_key (g1 y q)
          have k2 : cmp y.key x.key = 0 := cmp_zero.2 e.symm
          have k3 := cmp_neg y.key z.key
          have k4 : cmp x.key z.key = cmp y.key z.key := by rw [e]
          omega
    have hL : x :: r = (x :: G) ++ R := by rw [hr]; rfl
    have hlen : R.length ≤ n := by
      have := congrArg List.length hL
      simp at this hn
      omega
    have ih := latest_each s n R hlen hor
    have e1 : latG (fun k => getE (x :: r) k s) none (x :: r) = pick (getE (x :: r) x.key s) ++ latG (fun k => getE (x :: r) k s) (some x.key) r := by
      rw [latG, if_neg (by simp)]
    have e2 : latG (fun k => getE (x :: r) k s) (some x.key) r = latG (fun k => getE R k s) none R := by
      rw [hL]
      conv => lhs; rw [hr]
      rw [latG_run _ G R hG, latG_new _ R hR]
      exact latG_congr none R fun y hy => get_past hGx (hR y hy)
    have e3 : getE (x :: r) x.key s = (x :: G).find? fun e => decide (e.seq ≤ s) := by rw [hL]; exact get_run hGx hR
    have e4 : seenE (x :: r) s = ((x :: G).find? fun e => decide (e.seq ≤ s)).toList ++ seenE R s := by
      unfold seenE
      rw [hL, List.foldl_append, fold_run s (x :: G) hGx]
      refine fold_new s (k := x.key) (fun y hy => ?_) R hR
      cases hf : (x :: G).find? fun e => decide (e.seq ≤ s) with
      | none => rw [hf] at hy; cases hy
      | some z =>
        rw [hf] at hy
        simp at hy
        subst hy
        exact hGx _ (List.mem_of_find?_eq_some hf)
    rw [e1, e2, e3, ih, e4, List.filter_append]
    rfl
end Go.Proofs.YtaefddnmldbgiabDoor

/- The law on what is newest at a number, of any mem. -/
namespace Go.Proofs.YtaefddnmldbgiabDoor
open Go.RowKit
set_option linter.unusedVariables false
set_option linter.unusedSimpArgs false

set_option maxHeartbeats 4000000 in
set_option maxRecDepth 100000 in
theorem latest9_any (D : PM) (LL : PML D) {w : World} {ao : Option Addr} {len cap : Nat} {l : List EntV} {s : Int} (hG : D.G w) (h : RS entE w ao len cap l) (hs : In64 s) :
    Calls Tryd.prog 3 #[.slice ao len cap, .int .i64 s] w fun r w' => r = .returned (.bool true) ∧ Below w.heap.size w w' := by
  have HGD : Hid (∀ wx, Below w.heap.size w wx → D.G wx) := fun wx hb => D.gk hG hb
  have HS : Hid (RS entE w ao len cap l ∧ In64 s) := ⟨h, hs⟩
  have hln : l.length = len := h.len.1
  have hl63 : len ≤ 2 ^ 63 - 1 := by have := h.len.2; unfold maxLen at this; omega
  have hnew := D.new hG
  clear hG
  clear h hs
  go_enter Tryd.func3, Tryd.ntmps3
  go_wp2_with fail
  refine hnew.mono ?_
  rintro e w1 ⟨p, F0, rfl, r0, hF0, b0⟩
  have H0 : Hid (AddS D w p 0 w1 []) := ⟨F0, r0, ord_nil, ok_nil, Nat.le_refl _, hF0, b0⟩
  clear hnew r0 hF0 b0
  go_upto_block 0 with fail
  go_cut [6] from 14 to 36 (fun _ wx => ∃ L, Hid (AddS D w p 60 wx L))
  case first =>
    go_wp2_with fail
    go_loopg [6] len (fun g i wr => ∃ k : Nat, k + g = len ∧ i = .int .i64 (k : Int) ∧ ∃ L, Hid (k ≤ 60 ∧ AddS D w p k wr L))
    case atStart => exact ⟨0, by omega, rfl, [], Nat.zero_le _, H0⟩
    case round =>
      obtain ⟨k, hk, rfl, L, HK⟩ := hrel
      by_cases hkl : k < len
      · have hkl' : (k : Int) < (len : Int) := by omega
        by_cases h60 : k < 60
        · have h60' : (k : Int) < 60 := by omega
          have hkx : k < l.length := by omega
          have bel : Below w.heap.size w wr := by obtain ⟨_, _, _, _, _, _, q⟩ := HK.out.2; exact q
          obtain ⟨b, off, ka, kc, va, vc, rfl, e0, e1, e2, e3, e4, sk, sv, i1, i2⟩ := RS.ent HS.out.1 (List.getElem?_eq_getElem hkx)
          have d0 := cell_later bel e0
          have d1 := cell_later bel e1
          have d2 := cell_later bel e2
          have d3 := cell_later bel e3
          have d4 := cell_later bel e4
          generalize l[k] = o at e0 e1 e2 e3 e4 d0 d1 d2 d3 d4 sk sv i1 i2
          have HEM : Hid (EntM w (entL ka kc va vc o) o) := ⟨ka, kc, va, vc, rfl, sk, sv, i1, i2⟩
          have hlg := light9_any (w := wr) (ka := ka) (kc := kc) (va := va) (vc := vc) (e := o)
          have HC : Hid (∀ wx, Below wr.heap.size wr wx → wx.cell? ⟨b, off + k * 5, none⟩ = some (.slice ka o.key.length kc) ∧ wx.cell? ⟨b, off + k * 5 + 1, none⟩ = some (.int .i64 o.seq) ∧ wx.cell? ⟨b, off + k * 5 + 2, none⟩ = some (.bool o.gone) ∧ wx.cell? ⟨b, off + k * 5 + 3, none⟩ = some (.int .i64 o.till) ∧ wx.cell? ⟨b, off + k * 5 + 4, none⟩ = some (.slice va o.val.length vc)) := fun wx hb => ⟨cell_later hb d0, cell_later hb d1, cell_later hb d2, cell_later hb d3, cell_later hb d4⟩
          have HBW : Hid (Below w.heap.size w wr) := bel
          have hk62 : k ≤ 2 ^ 61 := by omega
          obtain ⟨GK, HG⟩ : ∃ g, Hid (g < gk ∧ k + 1 + g = len) := ⟨gk - 1, by omega, by omega⟩
          unfold entA at hlg
          clear e0 e1 e2 e3 e4 sk sv i1 i2 bel hk
          go_wp2_with fail
          refine hlg.mono ?_
          rintro e w2 ⟨rfl, b2⟩
          clear hlg d0 d1 d2 d3 d4
          by_cases hlt : o.key.length ≤ 3000 ∧ o.val.length ≤ 3000
          · have hlt' : decide (o.key.length ≤ 3000 ∧ o.val.length ≤ 3000) = true := by simpa using hlt
            rw [hlt']
            obtain ⟨d0, d1, d2, d3, d4⟩ := HC.out _ b2
            have hadd := (HK.out.2.later b2).add (by omega) HEM.out hlt.1 hlt.2
            unfold entA at hadd
            have HK1 : Hid (k + 1 ≤ 60) := by show _ ≤ _; omega
            clear hlt hlt'
            go_wp2_with fail
            refine hadd.mono ?_
            rintro e w3 ⟨rfl, hst⟩
            have HST := hid hst
            clear hadd hst d0 d1 d2 d3 d4
            go_wp2_with fail
            go_roundg GK
            case measure => exact HG.out.1
            case rel => exact ⟨k + 1, HG.out.2, by go_num, _, HK1.out, HST.out⟩
          · have hlt' : decide (o.key.length ≤ 3000 ∧ o.val.length ≤ 3000) = false := by rw [decide_eq_false_iff_not]; exact hlt
            rw [hlt']
            clear hlt hlt'
            go_wp2_with fail
            have c2 := HBW.out.trans (b2.mono HBW.out.size)
            refine (awake9_any D w2 (HGD.out _ c2)).mono ?_
            rintro e w3 ⟨rfl, b3⟩
            have c3 := c2.trans (b3.mono c2.size)
            go_wp2_with fail
            exact bodyPost_ret (v := .bool true) (by simp [results, Tryd.results3, go_sem]) rfl ⟨rfl, c3⟩
        · have h60' : (60 : Int) ≤ (k : Int) := by omega
          have HF : Hid (AddS D w p 60 wr L) := by obtain ⟨F, a1, a2, a3, a4, a5⟩ := HK.out.2; exact ⟨F, a1, a2, a3, by have := HK.out.1; omega, a5⟩
          clear hk h60
          go_wp2_with fail
          go_meet
          exact ⟨L, HF⟩
      · have hkl' : (len : Int) ≤ (k : Int) := by omega
        have HF : Hid (AddS D w p 60 wr L) := by obtain ⟨F, a1, a2, a3, a4, a5⟩ := HK.out.2; exact ⟨F, a1, a2, a3, by have := HK.out.1; omega, a5⟩
        clear hk hkl
        go_wp2_with fail
        go_meet
        exact ⟨L, HF⟩
  case rest =>
    obtain ⟨L, HK⟩ := hcut
    obtain ⟨F, r1, o1, ok1, n1, hF, bel⟩ := HK.out
    have hal := LL.all r1 o1 ok1 (by omega)
    have HB := hid bel
    have HR : Hid (D.R wc p L F ∧ ordE L ∧ okE L ∧ L.length ≤ 60) := ⟨r1, o1, ok1, n1⟩
    clear r1 o1 ok1 n1 hF bel HK
    go_wp2_with fail
    refine hal.mono ?_
    rintro e w2 ⟨v2, rfl, row2, c2⟩
    obtain ⟨a2, q2, hv2, rs2⟩ := row2.s.rs
    subst hv2
    have HRS := hid rs2
    have HC2 := hid c2
    obtain ⟨n, hn⟩ : ∃ n, n = L.length := ⟨_, rfl⟩
    rw [← hn] at HRS ⊢
    have HN : Hid (n = L.length) := hn
    have hn62 : n ≤ 2 ^ 61 := by have := HR.out.2.2.2; omega
    have H1 : Hid (RowS entE w2.heap.size w2 (.slice none 0 0) []) := RowS.nil _ _
    have HWC : Hid (∀ wx, Below w2.heap.size w2 wx → Below wc.heap.size wc wx) := fun wx hb => HC2.out.trans (hb.mono HC2.out.size)
    clear hal row2 rs2 c2 hn
    go_wp2_with fail
    go_loopg [7, 8, 9, 10, 11, 12, 40] n (fun gg v lst _ _ _ _ i wr => ∃ k : Nat, k + gg = n ∧ i = .int .i64 (k : Int) ∧ ∃ (last : Option (List Int)) (S : ByteArray) (X : List EntV), lst = .string S ∧ Hid ((k = 0 → last = none) ∧ (0 < k → ∃ y, last = some y ∧ Okb y ∧ S = strOfNums y) ∧ RowS entE w2.heap.size wr v X ∧ X ++ latG (fun k => getE L k s) last (L.drop k) = latG (fun k => getE L k s) none L ∧ X.length ≤ k ∧ Below w2.heap.size w2 wr))
    case atStart => exact ⟨0, by omega, rfl, none, _, [], rfl, (fun _ => rfl), (fun h => by omega), H1.out, rfl, Nat.le_refl _, Below.refl _ _⟩
    case round =>
      obtain ⟨k, hk, rfl, last, S, X, rfl, HK⟩ := hrel
      by_cases hkl : k < n
      · have hkl' : (k : Int) < (n : Int) := by omega
        have hkx : k < L.length := by have := HN.out; omega
        have hdr := List.drop_eq_getElem_cons hkx
        obtain ⟨b, off, ka, kc, va, vc, rfl, e0, e1, e2, e3, e4, sk, sv, i1, i2⟩ := RS.ent HRS.out (List.getElem?_eq_getElem hkx)
        have bw := HK.out.2.2.2.2.2
        have d0 := cell_later bw e0
        have d1 := cell_later bw e1
        have d2 := cell_later bw e2
        have d3 := cell_later bw e3
        have d4 := cell_later bw e4
        have hpre := HK.out.2.2.2.1
        rw [hdr] at hpre
        generalize L[k] = o at e0 e1 e2 e3 e4 d0 d1 d2 d3 d4 sk sv i1 i2 hpre
        clear hdr e0 e1 e2 e3 e4
        obtain ⟨W1, hW1⟩ : ∃ W1, W1 = wr.alloc (.cells #[.slice ka o.key.length kc, .int .i64 o.seq, .bool o.gone, .int .i64 o.till, .slice va o.val.length vc] 28) := ⟨_, rfl⟩
        have b1 : Below wr.heap.size wr W1 := by rw [hW1]; exact (Below.refl _ _).alloc (Nat.le_refl _) _
        have HBX := hid (box_cells wr (.slice ka o.key.length kc) (.int .i64 o.seq) (.bool o.gone) (.int .i64 o.till) (.slice va o.val.length vc) 28 (wx := W1) (by rw [← hW1]; exact Below.refl _ _))
        have HB1 : Hid (Below w2.heap.size w2 W1) := bw.trans (b1.mono bw.size)
        have sk1 := (sk.later bw).later b1
        have HGET := hid (D.get (PM.later HR.out.1 (HWC.out _ HB1.out)) HR.out.2.1 HR.out.2.2.1 (by have := HR.out.2.2.2; omega) sk1 HS.out.2)
        have hst1 := str_l sk1
        have HOK := hid sk.2.1
        have hk62 : k ≤ 2 ^ 61 := by omega
        obtain ⟨GK, HG⟩ : ∃ g, Hid (g < gk ∧ k + 1 + g = n) := ⟨gk - 1, by omega, by omega⟩
        have HXL : Hid (X.length ≤ k ∧ k ≤ 60) := ⟨HK.out.2.2.2.2.1, by have := HR.out.2.2.2; have := HN.out; omega⟩
        obtain ⟨v7, hv7⟩ : ∃ v, v = u7 := ⟨_, rfl⟩
        have HROW := hid (HK.out.2.2.1.later b1)
        rw [← hv7] at HROW ⊢
        have HW1 := hid hW1
        have HL0 := hid HK.out.1
        have HL1 := hid HK.out.2.1
        clear hv7 sk sv i1 i2 sk1 bw b1 hW1 hk HK
        by_cases hk0 : k = 0
        · have hz : decide ((0 : Int) < (k : Int)) = false := by simp; omega
          have hz2 : decide (0 < k) = false := by simp; omega
          have HSTEP : Hid ((X ++ pick (getE L o.key s)) ++ latG (fun k => getE L k s) (some o.key) (L.drop (k + 1)) = latG (fun k => getE L k s) none L) := by
            rw [HL0.out hk0] at hpre
            rw [latG, if_neg (by simp)] at hpre
            rw [List.append_assoc]
            exact hpre
          clear hpre hk0 HL0 HL1
          go_upto_region 13 with fail
          rw [← HW1.out]
          obtain ⟨x0, x1, x2, x3, x4⟩ := HBX.out
          go_upto_region 15 with fail
          clear x0 x1 x2 x3 x4 hz hz2
          obtain ⟨y0, y1, y2, y3, y4⟩ := HBX.out
          go_wp2_with fail
          refine HGET.out.mono ?_
          rintro e w3 ⟨hgot, b3⟩
          clear y0 y1 y2 y3 y4
          have c3 : Below w2.heap.size w2 w3 := HB1.out.trans (b3.mono HB1.out.size)
          rcases hgot with ⟨hq, rfl⟩ | ⟨x, ka', kc', va', vc', hq, rfl, hem, hnew⟩
          · obtain ⟨W3, hW3⟩ : ∃ W, W = w3.alloc (.cells #[.slice none 0 0, .int .i64 0, .bool false, .int .i64 0, .slice none 0 0] 28) := ⟨_, rfl⟩
            have b4 : Below w3.heap.size w3 W3 := by rw [hW3]; exact (Below.refl _ _).alloc (Nat.le_refl _) _
            have HB4 : Hid (Below w2.heap.size w2 W3) := c3.trans (b4.mono c3.size)
            have HROW4 := hid ((HROW.out.later b3).later b4)
            have HP : Hid (X ++ latG (fun k => getE L k s) (some o.key) (L.drop (k + 1)) = latG (fun k => getE L k s) none L) := by show _ = _; have := HSTEP.out; rw [hq] at this; simpa [pick] using this
            have HW3 := hid hW3
            clear hW3 b4 c3 b3 hq
            unfold ent0
            go_upto_region 16 with fail
            rw [← HW3.out]
            go_wp2_with fail
            go_roundg GK
            case measure => exact HG.out.1
            case rel => exact ⟨k + 1, HG.out.2, by go_num, some o.key, _, X, rfl, (fun h => by omega), (fun _ => ⟨o.key, rfl, HOK.out, rfl⟩), HROW4.out, HP.out, by have := HXL.out; omega, HB4.out⟩
          · obtain ⟨_, _, _, _, ev, t1, t2, i1, i2⟩ := hem
            unfold entL at ev
            simp only [List.cons.injEq, Value.slice.injEq, and_true, true_and] at ev
            obtain ⟨⟨rfl, rfl⟩, ⟨rfl, rfl⟩⟩ := ev
            obtain ⟨W3, hW3⟩ : ∃ W, W = w3.alloc (.cells #[.slice ka' x.key.length kc', .int .i64 x.seq, .bool x.gone, .int .i64 x.till, .slice va' x.val.length vc'] 28) := ⟨_, rfl⟩
            have b4 : Below w3.heap.size w3 W3 := by rw [hW3]; exact (Below.refl _ _).alloc (Nat.le_refl _) _
            have HB4 : Hid (Below w2.heap.size w2 W3) := c3.trans (b4.mono c3.size)
            have HROW4 := hid ((HROW.out.later b3).later b4)
            have hbx := box_cells w3 (.slice ka' x.key.length kc') (.int .i64 x.seq) (.bool x.gone) (.int .i64 x.till) (.slice va' x.val.length vc') 28 (wx := W3) (by rw [← hW3]; exact Below.refl _ _)
            have HBX2 := hid hbx
            have hst := HSTEP.out
            rw [hq] at hst
            have HEM2 : Hid (EntM W3 [.slice ka' x.key.length kc', .int .i64 x.seq, .bool x.gone, .int .i64 x.till, .slice va' x.val.length vc'] x) := ⟨_, _, _, _, rfl, t1.later b4, t2.later b4, i1, i2⟩
            have HSEP : Hid (∀ u ∈ [Value.slice ka' x.key.length kc', .int .i64 x.seq, .bool x.gone, .int .i64 x.till, .slice va' x.val.length vc'], ∀ b, Refs u b → v7.ownBlock ≠ some b) := fun u hu b hr e => by
              have h1 := hnew u hu b hr
              have h2 := (HROW.out.own_lt e).2
              omega
            have HW3 := hid hW3
            have HSZ4 := hid HB4.out.size
            clear hW3 b4 c3 b3 hq hbx t1 t2 i1 i2 hnew
            unfold entA
            cases hgn : x.gone with
            | true =>
              have HP : Hid (X ++ latG (fun k => getE L k s) (some o.key) (L.drop (k + 1)) = latG (fun k => getE L k s) none L) := by show _ = _; simpa [pick, hgn] using hst
              rw [hgn] at HW3 HBX2
              clear hst HEM2 HSEP hgn
              go_upto_region 16 with fail
              rw [← HW3.out]
              obtain ⟨y0, y1, y2, y3, y4⟩ := HBX2.out
              go_wp2_with fail
              go_roundg GK
              case measure => exact HG.out.1
              case rel => exact ⟨k + 1, HG.out.2, by go_num, some o.key, _, X, rfl, (fun h => by omega), (fun _ => ⟨o.key, rfl, HOK.out, rfl⟩), HROW4.out, HP.out, by have := HXL.out; omega, HB4.out⟩
            | false =>
              have HP : Hid ((X ++ [x]) ++ latG (fun k => getE L k s) (some o.key) (L.drop (k + 1)) = latG (fun k => getE L k s) none L) := by show _ = _; simpa [pick, hgn] using hst
              rw [hgn] at HW3 HBX2 HEM2 HSEP
              have HRU := hid (rs_one (E := entE) HEM2.out)
              clear hst hgn
              go_upto_region 16 with fail
              rw [← HW3.out]
              obtain ⟨y0, y1, y2, y3, y4⟩ := HBX2.out
              go_wp2_with (at_builtin; refine wpList_appS entE (t := 22) (z := .agg #[.slice none 0 0, .int .i64 0, .bool false, .int .i64 0, .slice none 0 0]) (bytes := 72) (B := w2.heap.size) Tryd.underlying22 entE_info rfl (by decide) rfl (.tmp 71) (.tmp 73) rfl rfl (HROW4.out.later ((Below.refl _ _).alloc (Nat.le_refl _) _)) rfl HRU.out HSEP.out (by have := HXL.out; omega) (by have := HXL.out; omega) (HB4.out.alloc HB4.out.size _).size ?_; intro v9 w9 r9 g9 m9; have HR9 := hid r9; have HB9 : Hid (Below w2.heap.size w2 w9) := (HB4.out.alloc HB4.out.size _).trans ((HROW4.out.later ((Below.refl _ _).alloc (Nat.le_refl _) _)).below g9 (HB4.out.alloc HB4.out.size _).size))
              go_roundg GK
              case measure => exact HG.out.1
              case rel => exact ⟨k + 1, HG.out.2, by go_num, some o.key, _, X ++ [x], rfl, (fun h => by omega), (fun _ => ⟨o.key, rfl, HOK.out, rfl⟩), HR9.out, HP.out, by have := HXL.out; simp; omega, HB9.out⟩
        · obtain ⟨y, hly, hoy, hSy⟩ := HL1.out (by omega)
          have hp : (0 : Int) < (k : Int) := by omega
          have heq := str_eq HOK.out hoy
          rw [← hSy] at heq
          by_cases q1 : o.key = y
          · have heq' : ((strOfNums o.key).toList == S.toList) = true := by rw [heq]; simpa using q1
            have HP : Hid (X ++ latG (fun k => getE L k s) last (L.drop (k + 1)) = latG (fun k => getE L k s) none L) := by
              rw [latG, if_pos (by rw [hly, q1])] at hpre
              exact hpre
            have HLY : Hid (last = some y ∧ Okb y ∧ S = strOfNums y) := ⟨hly, hoy, hSy⟩
            generalize strOfNums o.key = S1 at hst1 heq'
            clear hpre hly hoy hSy heq q1 hk0 HL0 HL1
            go_upto_region 13 with fail
            rw [← HW1.out]
            obtain ⟨x0, x1, x2, x3, x4⟩ := HBX.out
            go_wp2_with fail
            go_roundg GK
            case measure => exact HG.out.1
            case rel => exact ⟨k + 1, HG.out.2, by go_num, last, S, X, rfl, (fun h => by omega), (fun _ => ⟨y, HLY.out⟩), HROW.out, HP.out, by have := HXL.out; omega, HB1.out⟩
          · have heq' : ((strOfNums o.key).toList == S.toList) = false := by rw [heq]; simpa using q1
            have HSTEP : Hid ((X ++ pick (getE L o.key s)) ++ latG (fun k => getE L k s) (some o.key) (L.drop (k + 1)) = latG (fun k => getE L k s) none L) := by
              rw [hly] at hpre
              rw [latG, if_neg (by simpa using fun e => q1 e.symm)] at hpre
              rw [List.append_assoc]
              exact hpre
            clear hpre hly hoy hSy heq q1 hk0 HL0 HL1
            go_upto_region 13 with fail
            rw [← HW1.out]
            obtain ⟨x0, x1, x2, x3, x4⟩ := HBX.out
            go_upto_region 15 with fail
            clear x0 x1 x2 x3 x4 heq'
            obtain ⟨y0, y1, y2, y3, y4⟩ := HBX.out
            go_wp2_with fail
            refine HGET.out.mono ?_
            rintro e w3 ⟨hgot, b3⟩
            clear y0 y1 y2 y3 y4
            have c3 : Below w2.heap.size w2 w3 := HB1.out.trans (b3.mono HB1.out.size)
            rcases hgot with ⟨hq, rfl⟩ | ⟨x, ka', kc', va', vc', hq, rfl, hem, hnew⟩
            · obtain ⟨W3, hW3⟩ : ∃ W, W = w3.alloc (.cells #[.slice none 0 0, .int .i64 0, .bool false, .int .i64 0, .slice none 0 0] 28) := ⟨_, rfl⟩
              have b4 : Below w3.heap.size w3 W3 := by rw [hW3]; exact (Below.refl _ _).alloc (Nat.le_refl _) _
              have HB4 : Hid (Below w2.heap.size w2 W3) := c3.trans (b4.mono c3.size)
              have HROW4 := hid ((HROW.out.later b3).later b4)
              have HP : Hid (X ++ latG (fun k => getE L k s) (some o.key) (L.drop (k + 1)) = latG (fun k => getE L k s) none L) := by show _ = _; have := HSTEP.out; rw [hq] at this; simpa [pick] using this
              have HW3 := hid hW3
              clear hW3 b4 c3 b3 hq
              unfold ent0
              go_upto_region 16 with fail
              rw [← HW3.out]
              go_wp2_with fail
              go_roundg GK
              case measure => exact HG.out.1
              case rel => exact ⟨k + 1, HG.out.2, by go_num, some o.key, _, X, rfl, (fun h => by omega), (fun _ => ⟨o.key, rfl, HOK.out, rfl⟩), HROW4.out, HP.out, by have := HXL.out; omega, HB4.out⟩
            · obtain ⟨_, _, _, _, ev, t1, t2, i1, i2⟩ := hem
              unfold entL at ev
              simp only [List.cons.injEq, Value.slice.injEq, and_true, true_and] at ev
              obtain ⟨⟨rfl, rfl⟩, ⟨rfl, rfl⟩⟩ := ev
              obtain ⟨W3, hW3⟩ : ∃ W, W = w3.alloc (.cells #[.slice ka' x.key.length kc', .int .i64 x.seq, .bool x.gone, .int .i64 x.till, .slice va' x.val.length vc'] 28) := ⟨_, rfl⟩
              have b4 : Below w3.heap.size w3 W3 := by rw [hW3]; exact (Below.refl _ _).alloc (Nat.le_refl _) _
              have HB4 : Hid (Below w2.heap.size w2 W3) := c3.trans (b4.mono c3.size)
              have HROW4 := hid ((HROW.out.later b3).later b4)
              have hbx := box_cells w3 (.slice ka' x.key.length kc') (.int .i64 x.seq) (.bool x.gone) (.int .i64 x.till) (.slice va' x.val.length vc') 28 (wx := W3) (by rw [← hW3]; exact Below.refl _ _)
              have HBX2 := hid hbx
              have hst := HSTEP.out
              rw [hq] at hst
              have HEM2 : Hid (EntM W3 [.slice ka' x.key.length kc', .int .i64 x.seq, .bool x.gone, .int .i64 x.till, .slice va' x.val.length vc'] x) := ⟨_, _, _, _, rfl, t1.later b4, t2.later b4, i1, i2⟩
              have HSEP : Hid (∀ u ∈ [Value.slice ka' x.key.length kc', .int .i64 x.seq, .bool x.gone, .int .i64 x.till, .slice va' x.val.length vc'], ∀ b, Refs u b → v7.ownBlock ≠ some b) := fun u hu b hr e => by
                have h1 := hnew u hu b hr
                have h2 := (HROW.out.own_lt e).2
                omega
              have HW3 := hid hW3
              have HSZ4 := hid HB4.out.size
              clear hW3 b4 c3 b3 hq hbx t1 t2 i1 i2 hnew
              unfold entA
              cases hgn : x.gone with
              | true =>
                have HP : Hid (X ++ latG (fun k => getE L k s) (some o.key) (L.drop (k + 1)) = latG (fun k => getE L k s) none L) := by show _ = _; simpa [pick, hgn] using hst
                rw [hgn] at HW3 HBX2
                clear hst HEM2 HSEP hgn
                go_upto_region 16 with fail
                rw [← HW3.out]
                obtain ⟨y0, y1, y2, y3, y4⟩ := HBX2.out
                go_wp2_with fail
                go_roundg GK
                case measure => exact HG.out.1
                case rel => exact ⟨k + 1, HG.out.2, by go_num, some o.key, _, X, rfl, (fun h => by omega), (fun _ => ⟨o.key, rfl, HOK.out, rfl⟩), HROW4.out, HP.out, by have := HXL.out; omega, HB4.out⟩
              | false =>
                have HP : Hid ((X ++ [x]) ++ latG (fun k => getE L k s) (some o.key) (L.drop (k + 1)) = latG (fun k => getE L k s) none L) := by show _ = _; simpa [pick, hgn] using hst
                rw [hgn] at HW3 HBX2 HEM2 HSEP
                have HRU := hid (rs_one (E := entE) HEM2.out)
                clear hst hgn
                go_upto_region 16 with fail
                rw [← HW3.out]
                obtain ⟨y0, y1, y2, y3, y4⟩ := HBX2.out
                go_wp2_with (at_builtin; refine wpList_appS entE (t := 22) (z := .agg #[.slice none 0 0, .int .i64 0, .bool false, .int .i64 0, .slice none 0 0]) (bytes := 72) (B := w2.heap.size) Tryd.underlying22 entE_info rfl (by decide) rfl (.tmp 71) (.tmp 73) rfl rfl (HROW4.out.later ((Below.refl _ _).alloc (Nat.le_refl _) _)) rfl HRU.out HSEP.out (by have := HXL.out; omega) (by have := HXL.out; omega) (HB4.out.alloc HB4.out.size _).size ?_; intro v9 w9 r9 g9 m9; have HR9 := hid r9; have HB9 : Hid (Below w2.heap.size w2 w9) := (HB4.out.alloc HB4.out.size _).trans ((HROW4.out.later ((Below.refl _ _).alloc (Nat.le_refl _) _)).below g9 (HB4.out.alloc HB4.out.size _).size))
                go_roundg GK
                case measure => exact HG.out.1
                case rel => exact ⟨k + 1, HG.out.2, by go_num, some o.key, _, X ++ [x], rfl, (fun h => by omega), (fun _ => ⟨o.key, rfl, HOK.out, rfl⟩), HR9.out, HP.out, by have := HXL.out; simp; omega, HB9.out⟩
      · have hkl' : (n : Int) ≤ (k : Int) := by omega
        have hd : L.drop k = [] := List.drop_eq_nil_of_le (by have := HN.out; omega)
        have hX := HK.out.2.2.2.1
        rw [hd] at hX
        have hX2 : X = latestE L [] [] s := by
          have h1 := latest_each s L.length L (Nat.le_refl _) HR.out.2.1
          rw [h1] at hX
          have h2 : X ++ latG (fun k => getE L k s) last [] = X := by simp [latG]
          rw [h2] at hX
          unfold latestE
          rw [listE_all]
          exact hX
        obtain ⟨ax, cx, hvx, rsx⟩ := HK.out.2.2.1.rs
        have bw := HK.out.2.2.2.2.2
        have hlt := D.latest (PM.later HR.out.1 (HWC.out _ bw)) HR.out.2.1 HR.out.2.2.1 (by have := HR.out.2.2.2; omega) (Sl.nil wr) (Sl.nil wr) HS.out.2
        rw [← hX2] at hlt
        have HRX := hid rsx
        have HBW : Hid (Below w.heap.size w wr) := HB.out.trans ((HWC.out _ bw).mono HB.out.size)
        subst hvx
        clear hk hkl hd hX hX2 rsx bw HK
        go_wp2_with fail
        refine hlt.mono ?_
        rintro e w3 ⟨v3, rfl, row3, b3⟩
        obtain ⟨a3, q3, hv3, rs3⟩ := row3.s.rs
        subst hv3
        have hsm := rsameE_eq rs3 (HRX.out.later b3)
        have c3 := HBW.out.trans (b3.mono HBW.out.size)
        go_wp2_with fail
        refine hsm.mono ?_
        rintro e w4 ⟨rfl, b4⟩
        have c4 := c3.trans (b4.mono c3.size)
        clear hsm
        go_wp2_with fail
        refine (awake9_any D w4 (HGD.out _ c4)).mono ?_
        rintro e w5 ⟨rfl, b5⟩
        have c5 := c4.trans (b5.mono c4.size)
        go_wp2_with fail
        exact bodyPost_ret (v := .bool true) (by simp [results, Tryd.results3, go_sem]) rfl ⟨rfl, c5⟩
end Go.Proofs.YtaefddnmldbgiabDoor
