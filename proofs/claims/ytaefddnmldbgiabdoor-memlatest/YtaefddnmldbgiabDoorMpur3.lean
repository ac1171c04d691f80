/- What is newest at a number is what Get tells of each key. -/
import Derived.Test.YtaefddnmldbgiabDoorMpur2
namespace Go.Proofs.YtaefddnmldbgiabDoor
set_option linter.unusedVariables false
set_option linter.unusedSimpArgs false

theorem seen1_app {s : Int} {out a : List EntV} (ha : a ≠ []) (e : EntV) : seen1 s (out ++ a) e = out ++ seen1 s a e := by
  obtain ⟨x, hx⟩ : ∃ x, a.getLast? = some x := by
    cases h : a.getLast? with
    | none => rw [List.getLast?_eq_none_iff] at h; exact absurd h ha
    | some x => exact ⟨x, rfl⟩
  have hl : (out ++ a).getLast? = some x := by rw [List.getLast?_append, hx]; rfl
  have hn : out ++ a ≠ [] := by simp [ha]
  unfold seen1
  rw [hl, hx]
  by_cases q : e.seq ≤ s ∧ cmp x.key e.key ≠ 0
  · rw [if_pos ⟨q.1, .inr ⟨x, rfl, q.2⟩⟩, if_pos ⟨q.1, .inr ⟨x, rfl, q.2⟩⟩, List.append_assoc]
  · rw [if_neg, if_neg]
    · rintro ⟨h1, h2 | ⟨y, hy, h2⟩⟩
      · exact ha h2
      · simp only [Option.some.injEq] at hy; subst hy; exact q ⟨h1, h2⟩
    · rintro ⟨h1, h2 | ⟨y, hy, h2⟩⟩
      · exact hn h2
      · simp only [Option.some.injEq] at hy; subst hy; exact q ⟨h1, h2⟩
theorem seen1_ne {s : Int} {a : List EntV} (ha : a ≠ []) (e : EntV) : seen1 s a e ≠ [] := by
  unfold seen1
  split
  · simp
  · exact ha
theorem fold_app (s : Int) (out : List EntV) : ∀ (t a : List EntV), a ≠ [] → t.foldl (seen1 s) (out ++ a) = out ++ t.foldl (seen1 s) a
  | [], a, _ => rfl
  | e :: t, a, ha => by
    rw [List.foldl_cons, List.foldl_cons, seen1_app ha]
    exact fold_app s out t _ (seen1_ne ha e)
theorem fold_new (s : Int) {out : List EntV} {k : List Int} (hk : ∀ x, out.getLast? = some x → x.key = k) : ∀ (R : List EntV), (∀ y ∈ R, k ≠ y.key) → R.foldl (seen1 s) out = out ++ R.foldl (seen1 s) []
  | [], _ => by simp
  | y :: t, h => by
    have hy := h y (List.mem_cons_self ..)
    have ht : ∀ z ∈ t, k ≠ z.key := fun z hz => h z (List.mem_cons_of_mem _ hz)
    rw [List.foldl_cons, List.foldl_cons]
    by_cases q : y.seq ≤ s
    · have e1 : seen1 s out y = out ++ [y] := by
        unfold seen1
        rw [if_pos]
        refine ⟨q, ?_⟩
        cases hl : out.getLast? with
        | none => rw [List.getLast?_eq_none_iff] at hl; exact .inl hl
        | some x => exact .inr ⟨x, rfl, fun hc => hy ((hk x hl).symm.trans (cmp_zero.1 hc))⟩
      have e2 : seen1 s [] y = [y] := by unfold seen1; rw [if_pos ⟨q, .inl rfl⟩]; rfl
      rw [e1, e2]
      exact fold_app s out t [y] (by simp)
    · have e1 : seen1 s out y = out := by unfold seen1; rw [if_neg (fun h => q h.1)]
      have e2 : seen1 s [] y = [] := by unfold seen1; rw [if_neg (fun h => q h.1)]
      rw [e1, e2]
      exact fold_new s hk t ht
theorem fold_stay (s : Int) {x : EntV} : ∀ (t : List EntV), (∀ y ∈ t, y.key = x.key) → t.foldl (seen1 s) [x] = [x]
  | [], _ => rfl
  | y :: t, h => by
    have e1 : seen1 s [x] y = [x] := by
      unfold seen1
      rw [if_neg]
      rintro ⟨_, h2 | ⟨z, hz, h2⟩⟩
      · cases h2
      · simp at hz
        subst hz
        exact h2 (cmp_zero.2 (h y (List.mem_cons_self ..)).symm)
    rw [List.foldl_cons, e1]
    exact fold_stay s t fun z hz => h z (List.mem_cons_of_mem _ hz)
theorem fold_run (s : Int) {k : List Int} : ∀ (G : List EntV), (∀ y ∈ G, y.key = k) → G.foldl (seen1 s) [] = (G.find? fun e => decide (e.seq ≤ s)).toList
  | [], _ => rfl
  | y :: t, h => by
    rw [List.foldl_cons]
    by_cases q : y.seq ≤ s
    · have e2 : seen1 s [] y = [y] := by unfold seen1; rw [if_pos ⟨q, .inl rfl⟩]; rfl
      rw [e2, List.find?_cons_of_pos (by simpa using q)]
      exact fold_stay s t fun z hz => (h z (List.mem_cons_of_mem _ hz)).trans (h y (List.mem_cons_self ..)).symm
    · have e2 : seen1 s [] y = [] := by unfold seen1; rw [if_neg (fun h => q h.1)]
      rw [e2, List.find?_cons_of_neg (by simpa using q)]
      exact fold_run s t fun z hz => h z (List.mem_cons_of_mem _ hz)
/-- One that is not Gone. -/
def pick (o : Option EntV) : List EntV := o.toList.filter fun e => !e.gone
/-- What Get tells of each key, one key behind the other. -/
def latG (g : List Int → Option EntV) : Option (List Int) → List EntV → List EntV
  | _, [] => []
  | last, e :: r => if last = some e.key then latG g last r else pick (g e.key) ++ latG g (some e.key) r
theorem latG_run (g : List Int → Option EntV) {k : List Int} : ∀ (G R : List EntV), (∀ y ∈ G, y.key = k) → latG g (some k) (G ++ R) = latG g (some k) R
  | [], R, _ => rfl
  | y :: t, R, h => by
    rw [List.cons_append, latG, if_pos (by rw [h y (List.mem_cons_self ..)])]
    exact latG_run g t R fun z hz => h z (List.mem_cons_of_mem _ hz)
theorem latG_new (g : List Int → Option EntV) {k : List Int} : ∀ (R : List EntV), (∀ y ∈ R, k ≠ y.key) → latG g (some k) R = latG g none R
  | [], _ => rfl
  | y :: t, h => by
    rw [latG, latG, if_neg (by simpa using h y (List.mem_cons_self ..)), if_neg (by simp)]
theorem latG_congr {g g' : List Int → Option EntV} : ∀ (last : Option (List Int)) (R : List EntV), (∀ y ∈ R, g y.key = g' y.key) → latG g last R = latG g' last R
  | _, [], _ => rfl
  | last, y :: t, h => by
    have ht : ∀ z ∈ t, g z.key = g' z.key := fun z hz => h z (List.mem_cons_of_mem _ hz)
    rw [latG, latG, latG_congr last t ht, latG_congr (some y.key) t ht, h y (List.mem_cons_self ..)]
theorem get_run {s : Int} {k : List Int} {G R : List EntV} (hG : ∀ y ∈ G, y.key = k) (hR : ∀ y ∈ R, k ≠ y.key) : getE (G ++ R) k s = G.find? fun e => decide (e.seq ≤ s) := by
  unfold getE
  rw [List.find?_append]
  have e1 : G.find? (fun e => decide (cmp e.key k = 0 ∧ e.seq ≤ s)) = G.find? fun e => decide (e.seq ≤ s) := by
    induction G with
    | nil => rfl
    | cons y t ih =>
      have hy := hG y (List.mem_cons_self ..)
      have iht := ih fun z hz => hG z (List.mem_cons_of_mem _ hz)
      have hc : cmp y.key k = 0 := cmp_zero.2 hy
      simp only [List.find?_cons]
      rw [iht]
      simp [hc]
  have e2 : R.find? (fun e => decide (cmp e.key k = 0 ∧ e.seq ≤ s)) = none := by
    rw [List.find?_eq_none]
    intro y hy hc
    simp at hc
    exact hR y hy (cmp_zero.1 hc.1).symm
  rw [e1, e2]
  simp
theorem get_past {s : Int} {k k' : List Int} {G R : List EntV} (hG : ∀ y ∈ G, y.key = k) (hk : k ≠ k') : getE (G ++ R) k' s = getE R k' s := by
  unfold getE
  rw [List.find?_append]
  have e1 : G.find? (fun e => decide (cmp e.key k' = 0 ∧ e.seq ≤ s)) = none := by
    rw [List.find?_eq_none]
    intro y hy hc
    simp at hc
    exact hk ((hG y hy).symm.trans (cmp_zero.1 hc.1))
  rw [e1]
  rfl
/-- What is newest at a number is what Get tells of each key, without what is Gone. -/
theorem latest_each (s : Int) : ∀ (n : Nat) (L : List EntV), L.length ≤ n → ordE L → latG (fun k => getE L k s) none L = (seenE L s).filter fun e => !e.gone
  | 0, L, hn, _ => by
    have : L = [] := List.eq_nil_of_length_eq_zero (by omega)
    subst this
    rfl
  | n + 1, [], _, _ => rfl
  | n + 1, x :: r, hn, ho => by
    obtain ⟨h1, h2⟩ := List.pairwise_cons.1 ho
    obtain ⟨G, hGd⟩ : ∃ G, G = r.takeWhile (fun e => decide (e.key = x.key)) := ⟨_, rfl⟩
    obtain ⟨R, hRd⟩ : ∃ R, R = r.dropWhile (fun e => decide (e.key = x.key)) := ⟨_, rfl⟩
    have hr : r = G ++ R := by rw [hGd, hRd, List.takeWhile_append_dropWhile]
    have hG : ∀ y ∈ G, y.key = x.key := fun y hy => by
      rw [hGd] at hy
      simpa using List.all_eq_true.1 (List.all_takeWhile (l := r) (p := fun e => decide (e.key = x.key))) y hy
    have hGx : ∀ y ∈ x :: G, y.key = x.key := fun y hy => by
      rcases List.mem_cons.1 hy with q | q
      · rw [q]
      · exact hG y q
    have hor : ordE R := by
      rw [hr] at h2
      exact (List.pairwise_append.1 h2).2.1
    have hR : ∀ y ∈ R, x.key ≠ y.key := by
      cases hRR : R with
      | nil => intro y hy; cases hy
      | cons z t =>
        have hz : z.key ≠ x.key := by
          have := List.head?_dropWhile_not (fun e : EntV => decide (e.key = x.key)) r
          rw [← hRd, hRR] at this
          simpa using this
        rw [hRR] at hor
        obtain ⟨g1, _⟩ := List.pairwise_cons.1 hor
        have hxz : cmp x.key z.key < 0 := by
          have hm : z ∈ r := by rw [hr, hRR]; simp
          have := ahead_key (h1 z hm)
          have hn0 : cmp x.key z.key ≠ 0 := fun e => hz (cmp_zero.1 e).symm
          omega
        intro y hy e
        rcases List.mem_cons.1 hy with q | q
        · subst q; exact hz e.symm
        · have k1 := ahead_key (g1 y q)
          have k2 : cmp y.key x.key = 0 := cmp_zero.2 e.symm
          have k3 := cmp_neg y.key z.key
          have k4 : cmp x.key z.key = cmp y.key z.key := by rw [e]
          omega
    have hL : x :: r = (x :: G) ++ R := by rw [hr]; rfl
    have hlen : R.length ≤ n := by
      have := congrArg List.length hL
      simp at this hn
      omega
    have ih := latest_each s n R hlen hor
    have e1 : latG (fun k => getE (x :: r) k s) none (x :: r) = pick (getE (x :: r) x.key s) ++ latG (fun k => getE (x :: r) k s) (some x.key) r := by
      rw [latG, if_neg (by simp)]
    have e2 : latG (fun k => getE (x :: r) k s) (some x.key) r = latG (fun k => getE R k s) none R := by
      rw [hL]
      conv => lhs; rw [hr]
      rw [latG_run _ G R hG, latG_new _ R hR]
      exact latG_congr none R fun y hy => get_past hGx (hR y hy)
    have e3 : getE (x :: r) x.key s = (x :: G).find? fun e => decide (e.seq ≤ s) := by rw [hL]; exact get_run hGx hR
    have e4 : seenE (x :: r) s = ((x :: G).find? fun e => decide (e.seq ≤ s)).toList ++ seenE R s := by
      unfold seenE
      rw [hL, List.foldl_append, fold_run s (x :: G) hGx]
      refine fold_new s (k := x.key) (fun y hy => ?_) R hR
      cases hf : (x :: G).find? fun e => decide (e.seq ≤ s) with
      | none => rw [hf] at hy; cases hy
      | some z =>
        rw [hf] at hy
        simp at hy
        subst hy
        exact hGx _ (List.mem_of_find?_eq_some hf)
    rw [e1, e2, e3, ih, e4, List.filter_append]
    rfl
end Go.Proofs.YtaefddnmldbgiabDoor
