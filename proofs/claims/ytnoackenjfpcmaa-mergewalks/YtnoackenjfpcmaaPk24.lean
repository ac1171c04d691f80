import Derived.Test.YtnoackenjfpcmaaPk07
import Derived.Test.YtnoackenjfpcmaaPk08
import Derived.Test.YtnoackenjfpcmaaPk15
import Derived.Test.YtnoackenjfpcmaaPk23
/- The landed merge: Seek. -/
namespace Go.Proofs.Ytnoackenjfpcmaa
open Go.RowKit
set_option linter.unusedVariables false
set_option linter.unusedSimpArgs false

theorem cmpS_le_lt {a b c : List Int} (h1 : cmp a b ≤ 0) (h2 : cmp b c < 0) : cmp a c < 0 := by
  have hv := cmp_vals a b
  by_cases q : cmp a b = 0
  · rw [cmp_zero.1 q]; exact h2
  · exact cmp_trans (by omega) h2
/-- r is the place of the first entry that does not come ahead of a key. -/
def SkP (l : List EntV) (key : List Int) (r : Nat) : Prop := r ≤ l.length ∧ (∀ (j : Nat) (e : EntV), j < r → l[j]? = some e → cmp e.key key < 0) ∧ (∀ e, l[r]? = some e → ¬ cmp e.key key < 0)
theorem SkP.uniq {l : List EntV} {key : List Int} {r s : Nat} (h : SkP l key r) (h' : SkP l key s) : r = s := by
  rcases Nat.lt_trichotomy r s with q | q | q
  · have hr : r < l.length := by have := h'.1; omega
    exact (h.2.2 _ (List.getElem?_eq_getElem hr) (h'.2.1 r _ q (List.getElem?_eq_getElem hr))).elim
  · exact q
  · have hs : s < l.length := by have := h.1; omega
    exact (h'.2.2 _ (List.getElem?_eq_getElem hs) (h.2.1 s _ q (List.getElem?_eq_getElem hs))).elim
/-- The keys of entries in order do not fall. -/
def Rise (l : List EntV) : Prop := l.Pairwise fun a b => cmp a.key b.key ≤ 0
set_option maxHeartbeats 1000000 in
set_option maxRecDepth 100000 in
theorem srch_m {w : World} {n : Nat} (hn : n ≤ 1000000) {p0 p1 : Value} {F : Nat → Bool}
    (HF0 : ∀ wx, Below w.heap.size w wx → ∀ i, i < n → Calls Try.prog 28 #[.int .i64 (i : Int), p0, p1] wx fun e w' => e = .returned (.bool (F i)) ∧ Below wx.heap.size wx w') :
    Calls Try.prog 27 #[.int .i64 (n : Int), .func (.func 28) #[] #[p0, p1]] w fun e w' => ∃ r : Nat, r ≤ n ∧ e = .returned (.int .i64 (r : Int)) ∧ (r = 0 ∨ F (r - 1) = false) ∧ (r = n ∨ F r = true) ∧ Below w.heap.size w w' := by
  have HF := hidM HF0
  clear HF0
  go_enter Try.func27, Try.ntmps27
  go_wp2_with fail
  go_loopg [5, 6, 7] n (fun g i j _ wr => ∃ a b : Nat, b = a + g ∧ b ≤ n ∧ i = .int .i64 (a : Int) ∧ j = .int .i64 (b : Int) ∧ Hid ((a = 0 ∨ F (a - 1) = false) ∧ (b = n ∨ F b = true) ∧ Below w.heap.size w wr))
  case atStart => exact ⟨0, n, by omega, Nat.le_refl _, rfl, rfl, .inl rfl, .inl rfl, Below.refl _ _⟩
  case round =>
    obtain ⟨a, b, hg, hbn, rfl, rfl, HK⟩ := hrel
    by_cases hab : a < b
    · have hab' : (a : Int) < (b : Int) := by omega
      obtain ⟨m, hm⟩ : ∃ m, m = (a + b) / 2 := ⟨_, rfl⟩
      have hdiv : ((a : Int) + (b : Int)) / 2 = (m : Int) := by omega
      have HM : Hid (a ≤ m ∧ m < b ∧ m < n) := ⟨by omega, by omega, by omega⟩
      have hm62 : m ≤ 2 ^ 61 := by omega
      have ha62 : a ≤ 2 ^ 61 := by omega
      have hb62 : b ≤ 2 ^ 61 := by omega
      have HG : Hid (b = a + gk ∧ b ≤ n) := ⟨hg, hbn⟩
      have hc := HF.out wr HK.out.2.2 m HM.out.2.2
      have HB := hidM HK.out
      clear hm hg hbn hab HK
      cases hF : F m with
      | false =>
        rw [hF] at hc
        go_wp2_with (go_at_call 28; refine hc.mono ?_; rintro e w1 ⟨rfl, b1⟩)
        go_roundg (b - (m + 1))
        case measure => have := HM.out; have := HG.out; omega
        case rel => exact ⟨m + 1, b, by have := HM.out; omega, HG.out.2, by go_num, rfl, .inr (by rw [Nat.add_sub_cancel]; exact hF), HB.out.2.1, HB.out.2.2.trans (b1.mono HB.out.2.2.size)⟩
      | true =>
        rw [hF] at hc
        go_wp2_with (go_at_call 28; refine hc.mono ?_; rintro e w1 ⟨rfl, b1⟩)
        go_roundg (m - a)
        case measure => have := HM.out; have := HG.out; omega
        case rel => exact ⟨a, m, by have := HM.out; omega, by have := HM.out; omega, rfl, rfl, HB.out.1, .inr hF, HB.out.2.2.trans (b1.mono HB.out.2.2.size)⟩
    · have hab' : ¬ ((a : Int) < (b : Int)) := by omega
      have HA : Hid (a ≤ n ∧ (a = n ∨ F a = true)) := by
        refine ⟨by omega, ?_⟩
        have : a = b := by omega
        rw [this]
        exact HK.out.2.1
      clear hg hab
      go_wp2_with fail
      exact bodyPost_ret (v := .int .i64 (a : Int)) (by simp [results, Try.results27, go_sem]) rfl ⟨a, HA.out.1, rfl, HK.out.1, HA.out.2, HK.out.2.2⟩
set_option maxHeartbeats 4000000 in
set_option maxRecDepth 100000 in
theorem sclo_t {w : World} {q0 q1 p i : Nat} {a ka : Option Addr} {n c kl kc : Nat} {l : List EntV} {e : EntV} {key : List Int} (c0 : w.cell? ⟨q0, 0, none⟩ = some (ptI p)) (c1 : w.cell? ⟨q1, 0, none⟩ = some (.slice ka kl kc)) (c2 : w.cell? ⟨p, 0, none⟩ = some (.slice a n c)) (hr : RS entE w a n c l) (hk : Sl w ka kl kc key) (he : l[i]? = some e) :
    Calls Try.prog 28 #[.int .i64 (i : Int), .pointer (some ⟨q0, 0, none⟩), .pointer (some ⟨q1, 0, none⟩)] w fun r w' => r = .returned (.bool (decide (0 ≤ cmp e.key key))) ∧ Below w.heap.size w w' := by
  obtain ⟨b, o, kb, kd, va, vc, rfl, d0, -, -, -, -, s1, -, -, -⟩ := RS.ent hr he
  have hi := (List.getElem?_eq_some_iff.1 he).1
  have hi1 : (0 : Int) ≤ (i : Int) := by omega
  have hi2 : (i : Int) < (n : Int) := by have := hr.len.1; omega
  have HC : Hid (∀ wx, Below w.heap.size w wx → Calls Try.prog 29 #[.slice kb e.key.length kd, .slice ka kl kc] wx fun r w' => r = .returned (.int .i64 (cmp e.key key)) ∧ w' = wx) := fun wx hb => compare_l (s1.later hb) (hk.later hb)
  have HF : Hid (∀ wx, Below w.heap.size w wx → wx.cell? ⟨q0, 0, none⟩ = some (ptI p) ∧ wx.cell? ⟨q1, 0, none⟩ = some (.slice ka kl kc) ∧ wx.cell? ⟨p, 0, none⟩ = some (.slice (some ⟨b, o, none⟩) n c) ∧ wx.cell? ⟨b, o + i * 5, none⟩ = some (.slice kb e.key.length kd)) := fun wx hb => ⟨cell_later hb c0, cell_later hb c1, cell_later hb c2, cell_later hb d0⟩
  generalize e.key.length = el at HC HF
  generalize cmp e.key key = cv at HC ⊢
  clear c0 c1 c2 hr hk he d0 s1 hi
  unfold ptI at HF
  have HD : Hid (Below w.heap.size w w.drew) := (Below.refl _ _).drew
  go_enter Try.func28, Try.ntmps28
  go_wp2_with fail
  go_region_held_law (fun w' => w'.cell? ⟨q0, 0, none⟩ = some (.pointer (some ⟨p, 0, none⟩)) ∧ w'.cell? ⟨q1, 0, none⟩ = some (.slice ka kl kc) ∧ w'.cell? ⟨p, 0, none⟩ = some (.slice (some ⟨b, o, none⟩) n c) ∧ w'.cell? ⟨b, o + i * 5, none⟩ = some (.slice kb el kd)) (exact HF.out _ HD.out) (first | (go_at_call 29; refine (HC.out _ HD.out).mono ?_; rintro r w5 ⟨rfl, rfl⟩))
  go_wp2_with fail
  refine bodyPost_ret (v := .bool (decide (0 ≤ cv))) (by simp [results, Try.results28, go_sem]) rfl ⟨rfl, HD.out⟩
set_option maxHeartbeats 4000000 in
set_option maxRecDepth 100000 in
theorem seek_t {w1 w : World} {p : Nat} {a ka : Option Addr} {n c k kl kc : Nat} {l : List EntV} {key : List Int} (hI : ItM w p a n c k) (h1 : RS entE w1 a n c l) (hp : p = w1.heap.size) (hb : Below p w1 w) (hk : Sl w ka kl kc key) (hn : n ≤ 1000000) (hrise : Rise l) :
    Calls Try.prog 17 #[ptI p, .slice ka kl kc] w fun r w' => ∃ s, SkP l key s ∧ r = .returned (.tuple #[]) ∧ ItM w' p a n c s ∧ Below p w w' := by
  obtain ⟨W, hW⟩ : ∃ W, W = (w.alloc (.cells #[ptI p] 39)).alloc (.cells #[.slice ka kl kc] 33) := ⟨_, rfl⟩
  have bW : Below w.heap.size w W := by rw [hW]; exact ((Below.refl _ _).alloc (Nat.le_refl _) _).alloc (by simp) _
  have x0 : W.cell? ⟨w.heap.size, 0, none⟩ = some (ptI p) := by rw [hW]; simp
  have x1 : W.cell? ⟨w.heap.size + 1, 0, none⟩ = some (.slice ka kl kc) := by rw [hW]; simp
  have hpw := hI.lt
  have hln := h1.len.1
  have HF : Hid (∀ wx, Below W.heap.size W wx → wx.cell? ⟨w.heap.size, 0, none⟩ = some (ptI p) ∧ wx.cell? ⟨w.heap.size + 1, 0, none⟩ = some (.slice ka kl kc) ∧ ItM wx p a n c k ∧ RS entE wx a n c l ∧ Sl wx ka kl kc key) := fun wx hx => by
    have q := bW.trans (hx.mono bW.size)
    refine ⟨cell_later hx x0, cell_later hx x1, hI.later q, ?_, hk.later q⟩
    have := hb.trans (q.mono (Nat.le_of_lt hpw))
    rw [hp] at this
    exact h1.later this
  have HS : Hid (∀ wx, Below W.heap.size W wx → Calls Try.prog 27 #[.int .i64 (n : Int), .func (.func 28) #[] #[.pointer (some ⟨w.heap.size, 0, none⟩), .pointer (some ⟨w.heap.size + 1, 0, none⟩)]] wx fun r w' => ∃ s : Nat, r = .returned (.int .i64 (s : Int)) ∧ SkP l key s ∧ Below wx.heap.size wx w') := fun wx hx => by
    refine (srch_m hn (F := fun i => match l[i]? with | some e => decide (0 ≤ cmp e.key key) | none => false) fun wy hy i hi => ?_).mono ?_
    · obtain ⟨e, he⟩ : ∃ e, l[i]? = some e := ⟨_, List.getElem?_eq_getElem (by omega)⟩
      obtain ⟨f0, f1, f2, f3, f4⟩ := HF.out wy (hx.trans (hy.mono hx.size))
      simp only [he]
      exact sclo_t f0 f1 f2.cells.1 f3 f4 he
    · rintro r w' ⟨s, hs, rfl, h2, h3, hb'⟩
      refine ⟨s, rfl, ⟨by omega, fun j e hj he => ?_, fun e he => ?_⟩, hb'⟩
      · rcases h2 with q | q
        · omega
        · obtain ⟨f, hf⟩ : ∃ f, l[s - 1]? = some f := ⟨_, List.getElem?_eq_getElem (by omega)⟩
          simp only [hf] at q
          have q' : cmp f.key key < 0 := by
            have := of_decide_eq_false q
            omega
          by_cases z : j = s - 1
          · subst z
            rw [hf] at he
            simp only [Option.some.injEq] at he
            subst he
            exact q'
          · obtain ⟨z1, rfl⟩ := List.getElem?_eq_some_iff.1 he
            obtain ⟨z2, rfl⟩ := List.getElem?_eq_some_iff.1 hf
            have := List.pairwise_iff_getElem.1 hrise j (s - 1) z1 z2 (by omega)
            exact cmpS_le_lt this q'
      · rcases h3 with q | q
        · have := (List.getElem?_eq_some_iff.1 he).1
          omega
        · simp only [he] at q
          have := of_decide_eq_true q
          omega
  have HB : Hid (Below w.heap.size w W ∧ p < w.heap.size) := ⟨bW, hpw⟩
  have HW := hidM hW
  clear hI h1 hp hb hk hrise bW x0 x1 hpw hln hW
  unfold ptI at HF HW ⊢
  go_enter Try.func17, Try.ntmps17
  go_wp2_with fail
  rw [← HW.out]
  have HD : Hid (Below W.heap.size W W.drew) := (Below.refl _ _).drew
  go_region_held_law (fun w' => w'.cell? ⟨w.heap.size, 0, none⟩ = some (.pointer (some ⟨p, 0, none⟩)) ∧ w'.cell? ⟨p, 0, none⟩ = some (.slice a n c)) (first | exact ⟨(HF.out _ HD.out).1, (HF.out _ HD.out).2.2.1.cells.1⟩ | exact ⟨HH5.out.1, HH5.out.2.1⟩ | exact HH6.out) (first | (go_at_call 27; refine (HS.out _ HD.out).mono ?_; rintro r w5 ⟨s, rfl, hs, hb5⟩; have HB5 := hidM (HD.out.trans (hb5.mono HD.out.size)); have HSK := hidM hs; have HH5 : Hid (w5.cell? ⟨w.heap.size, 0, none⟩ = some (.pointer (some ⟨p, 0, none⟩)) ∧ w5.cell? ⟨p, 0, none⟩ = some (.slice a n c) ∧ w5.cell? ⟨p, 1, none⟩ = some (.int .i64 (k : Int)) ∧ w5.frozen? ⟨p, 1, none⟩ = false) := ⟨(HF.out _ HB5.out).1, (HF.out _ HB5.out).2.2.1.cells⟩; have HH6 : Hid ((w5.setCell ⟨p, 1, none⟩ (.int .i64 (s : Int))).cell? ⟨w.heap.size, 0, none⟩ = some (.pointer (some ⟨p, 0, none⟩)) ∧ (w5.setCell ⟨p, 1, none⟩ (.int .i64 (s : Int))).cell? ⟨p, 0, none⟩ = some (.slice a n c)) := ⟨(cell_set_other _ _ _ _ _ _ (by have := HB.out.2; omega)).trans HH5.out.1, (hp_cso _ _ _ _ _ (by decide)).trans HH5.out.2.1⟩; obtain ⟨-, -, y2, y3⟩ := HH5.out))
  all_goals
    go_wp2_with fail
    go_end0
    refine ⟨s, HSK.out, rfl, (HF.out _ HB5.out).2.2.1.set s, ?_⟩
    have e1 : Below p w w5 := (HB.out.1.mono (Nat.le_of_lt HB.out.2)).trans (HB5.out.mono (by have := HB.out.1.size; have := HB.out.2; omega))
    exact e1.grown (hp_gset _ _ _ _) (by have := e1.size; have := HB.out.2; omega) (fun z hz => by simp only [Option.some.injEq] at hz; omega)
end Go.Proofs.Ytnoackenjfpcmaa

/- A row of the law's steps. -/
namespace Go.Proofs.Ytnoackenjfpcmaa
open Go.RowKit
set_option linter.unusedVariables false
set_option linter.unusedSimpArgs false

structure StpV where
  seek : Bool
  key : List Int
def StpM (w : World) (vs : List Value) (o : StpV) : Prop := ∃ ka kc, vs = [.bool o.seek, .slice ka o.key.length kc] ∧ Sl w ka o.key.length kc o.key
def stpE : El StpV where
  ty := 43
  size := 2
  M := StpM
  len := fun h => by obtain ⟨ka, kc, rfl, _⟩ := h; rfl
  one := fun h v hv => by
    obtain ⟨ka, kc, rfl, _⟩ := h
    simp only [List.mem_cons, List.not_mem_nil, or_false] at hv
    rcases hv with rfl | rfl <;> rfl
  lt := fun h v hv b hr => by
    obtain ⟨ka, kc, rfl, h1⟩ := h
    simp only [List.mem_cons, List.not_mem_nil, or_false] at hv
    rcases hv with rfl | rfl
    · exact (refs_bool hr).elim
    · exact h1.lt hr
  keep := fun h hk => by
    obtain ⟨ka, kc, rfl, h1⟩ := h
    exact ⟨ka, kc, rfl, h1.keep fun b hr => hk _ (by simp) b hr⟩
theorem RS.stp {w : World} {ao : Option Addr} {len cap : Nat} {os : List StpV} (h : RS stpE w ao len cap os) {i : Nat} {o : StpV} (hx : os[i]? = some o) :
    ∃ b off ka kc, ao = some ⟨b, off, none⟩ ∧ w.cell? ⟨b, off + i * 2, none⟩ = some (.bool o.seek) ∧ w.cell? ⟨b, off + i * 2 + 1, none⟩ = some (.slice ka o.key.length kc) ∧ Sl w ka o.key.length kc o.key := by
  obtain ⟨b, off, vs, e, ⟨ka, kc, rfl, h1⟩, hc⟩ := RS.at h (by decide) hx
  exact ⟨b, off, ka, kc, e, hc 0 _ rfl, hc 1 _ rfl, h1⟩
end Go.Proofs.Ytnoackenjfpcmaa

/- Which row's head comes first, as a loop over the rows finds it. -/
namespace Go.Proofs.Ytnoackenjfpcmaa
set_option linter.unusedVariables false
set_option linter.unusedSimpArgs false

/-- The best of the first n rows' heads: the row's number, the entry. -/
def bstP (rs : List (List EntV)) : Nat → Option (Nat × EntV)
  | 0 => none
  | n + 1 => match rs[n]? with
    | some (x :: _) => match bstP rs n with
      | none => some (n, x)
      | some (j, y) => if ahead x y < 0 then some (n, x) else some (j, y)
    | _ => bstP rs n
theorem bstP_nil {rs : List (List EntV)} {n : Nat} (h : rs[n]? = some []) : bstP rs (n + 1) = bstP rs n := by rw [bstP, h]
theorem bstP_first {rs : List (List EntV)} {n : Nat} {x : EntV} {q : List EntV} (h : rs[n]? = some (x :: q)) (hb : bstP rs n = none) : bstP rs (n + 1) = some (n, x) := by rw [bstP, h, hb]
theorem bstP_next {rs : List (List EntV)} {n j : Nat} {x y : EntV} {q : List EntV} (h : rs[n]? = some (x :: q)) (hb : bstP rs n = some (j, y)) : bstP rs (n + 1) = if ahead x y < 0 then some (n, x) else some (j, y) := by rw [bstP, h, hb]
theorem bstP_spec (rs : List (List EntV)) : ∀ n : Nat, (bstP rs n = none → ∀ (j : Nat) (y : EntV) (q : List EntV), j < n → rs[j]? ≠ some (y :: q)) ∧
    (∀ i x, bstP rs n = some (i, x) → i < n ∧ (∃ q, rs[i]? = some (x :: q)) ∧ ∀ (j : Nat) (y : EntV) (q : List EntV), j < n → j ≠ i → rs[j]? = some (y :: q) → tlt (x, i) (y, j))
  | 0 => ⟨fun _ j y q h => by omega, fun i x h => by cases h⟩
  | n + 1 => by
    obtain ⟨h1, h2⟩ := bstP_spec rs n
    have skip : bstP rs (n + 1) = bstP rs n → (∀ y q, rs[n]? ≠ some (y :: q)) → (bstP rs (n + 1) = none → ∀ (j : Nat) (y : EntV) (q : List EntV), j < n + 1 → rs[j]? ≠ some (y :: q)) ∧
        (∀ i x, bstP rs (n + 1) = some (i, x) → i < n + 1 ∧ (∃ q, rs[i]? = some (x :: q)) ∧ ∀ (j : Nat) (y : EntV) (q : List EntV), j < n + 1 → j ≠ i → rs[j]? = some (y :: q) → tlt (x, i) (y, j)) := fun e hn => by
      rw [e]
      refine ⟨fun hb j y q hj => ?_, fun i x hb => ?_⟩
      · by_cases z : j = n
        · subst z; exact hn y q
        · exact h1 hb j y q (by omega)
      · obtain ⟨k1, k2, k3⟩ := h2 i x hb
        refine ⟨by omega, k2, fun j y q hj hne hy => ?_⟩
        by_cases z : j = n
        · subst z; exact (hn y q hy).elim
        · exact k3 j y q (by omega) hne hy
    cases hr : rs[n]? with
    | none => exact skip (by rw [bstP, hr]) (fun y q e => by rw [hr] at e; cases e)
    | some l =>
      cases l with
      | nil => exact skip (bstP_nil hr) (fun y q e => by rw [hr] at e; cases e)
      | cons x q =>
        cases hb : bstP rs n with
        | none =>
          rw [bstP_first hr hb]
          refine ⟨(fun e => by cases e), fun i x' e => ?_⟩
          simp only [Option.some.injEq, Prod.mk.injEq] at e
          obtain ⟨rfl, rfl⟩ := e
          refine ⟨by omega, ⟨q, hr⟩, fun j y q' hj hne hy => ?_⟩
          exact (h1 hb j y q' (by omega) hy).elim
        | some p =>
          obtain ⟨j0, y0⟩ := p
          obtain ⟨k1, ⟨q0, k2⟩, k3⟩ := h2 j0 y0 hb
          rw [bstP_next hr hb]
          by_cases ha : ahead x y0 < 0
          · rw [if_pos ha]
            refine ⟨(fun e => by cases e), fun i x' e => ?_⟩
            simp only [Option.some.injEq, Prod.mk.injEq] at e
            obtain ⟨rfl, rfl⟩ := e
            refine ⟨by omega, ⟨q, hr⟩, fun j y q' hj hne hy => ?_⟩
            have hx : tlt (x, n) (y0, j0) := .inl ha
            by_cases z : j = j0
            · subst z
              rw [k2] at hy
              simp only [Option.some.injEq, List.cons.injEq] at hy
              rw [← hy.1]; exact hx
            · exact tlt_trans hx (k3 j y q' (by omega) z hy)
          · rw [if_neg ha]
            refine ⟨(fun e => by cases e), fun i x' e => ?_⟩
            simp only [Option.some.injEq, Prod.mk.injEq] at e
            obtain ⟨rfl, rfl⟩ := e
            refine ⟨by omega, ⟨q0, k2⟩, fun j y q' hj hne hy => ?_⟩
            by_cases z : j = n
            · subst z
              rw [hr] at hy
              simp only [Option.some.injEq, List.cons.injEq] at hy
              rw [← hy.1]
              have k := ahead_neg x y0
              unfold tlt
              rcases ahead_vals x y0 with v | v | v
              · omega
              · exact .inr ⟨by show ahead y0 x = 0; omega, k1⟩
              · exact .inl (by show ahead y0 x < 0; omega)
            · exact k3 j y q' (by omega) hne hy
/-- What is left of rows from places on. -/
def rst (rs : List (List EntV)) (A : List Nat) : List (List EntV) := List.zipWith (fun l a => l.drop a) rs A
theorem rst_at {rs : List (List EntV)} {A : List Nat} {i a : Nat} {l : List EntV} (h1 : rs[i]? = some l) (h2 : A[i]? = some a) : (rst rs A)[i]? = some (l.drop a) := by
  unfold rst
  rw [List.getElem?_zipWith, h1, h2]
theorem rst_len {rs : List (List EntV)} {A : List Nat} (h : rs.length = A.length) : (rst rs A).length = rs.length := by unfold rst; rw [List.length_zipWith]; omega
theorem rst_ord {rs : List (List EntV)} (h : ∀ l ∈ rs, ordE l) (A : List Nat) : ∀ l ∈ rst rs A, ordE l := fun l hl => by
  obtain ⟨i, hi⟩ := List.getElem?_of_mem hl
  unfold rst at hi
  rw [List.getElem?_zipWith] at hi
  cases h1 : rs[i]? with
  | none => rw [h1] at hi; simp at hi
  | some l' =>
    cases h2 : A[i]? with
    | none => rw [h1, h2] at hi; simp at hi
    | some a =>
      rw [h1, h2] at hi
      simp only [Option.some.injEq] at hi
      subst hi
      exact List.Pairwise.sublist (List.drop_sublist _ _) (h l' (List.mem_of_getElem? h1))
theorem rst_set {rs : List (List EntV)} {A : List Nat} {i a : Nat} {l : List EntV} {x : EntV} {q : List EntV} (h1 : rs[i]? = some l) (h2 : A[i]? = some a) (h3 : l.drop a = x :: q) : rst rs (A.set i (a + 1)) = (rst rs A).set i q := by
  refine List.ext_getElem? fun j => ?_
  unfold rst
  by_cases z : j = i
  · subst z
    have hl : j < (List.zipWith (fun l a => List.drop a l) rs A).length := by
      have e1 := (List.getElem?_eq_some_iff.1 h1).1
      have e2 := (List.getElem?_eq_some_iff.1 h2).1
      rw [List.length_zipWith]; omega
    rw [List.getElem?_zipWith, h1, List.getElem?_set_self (List.getElem?_eq_some_iff.1 h2).1, List.getElem?_set_self hl]
    have : l.drop (a + 1) = q := by rw [← List.drop_drop, h3]; rfl
    simp only [this]
  · rw [List.getElem?_zipWith, List.getElem?_set_ne (fun e => z e.symm), List.getElem?_set_ne (fun e => z e.symm), List.getElem?_zipWith]
/-- A step of the document's own loop: the best of all heads is told, its row goes on. -/
theorem mrg_rst {rs : List (List EntV)} {A : List Nat} (h : ∀ l ∈ rs, ordE l) (hA : rs.length = A.length) {i : Nat} {x : EntV} (hb : bstP (rst rs A) rs.length = some (i, x)) :
    ∃ l a q, rs[i]? = some l ∧ A[i]? = some a ∧ l.drop a = x :: q ∧ mrgT (rst rs A) = (x, i) :: mrgT (rst rs (A.set i (a + 1))) := by
  obtain ⟨k1, ⟨q, k2⟩, k3⟩ := (bstP_spec (rst rs A) rs.length).2 i x hb
  have e1 : rs[i]? = some rs[i] := List.getElem?_eq_getElem k1
  have e2 : A[i]? = some (A[i]'(by omega)) := List.getElem?_eq_getElem (by omega)
  have e3 := rst_at e1 e2
  rw [k2] at e3
  have e4 : (rs[i]).drop (A[i]'(by omega)) = x :: q := by simpa using e3.symm
  refine ⟨_, _, q, e1, e2, e4, ?_⟩
  rw [rst_set e1 e2 e4]
  refine mrgT_step (rst_ord h A) k2 fun j y q' hne hy => k3 j y q' ?_ hne hy
  have := (List.getElem?_eq_some_iff.1 hy).1
  rw [rst_len hA] at this
  exact this
theorem mrg_rst_end {rs : List (List EntV)} {A : List Nat} (hA : rs.length = A.length) (hb : bstP (rst rs A) rs.length = none) : mrgT (rst rs A) = [] := by
  refine mrgT_end fun l hl => ?_
  obtain ⟨j, hj⟩ := List.getElem?_of_mem hl
  cases l with
  | nil => rfl
  | cons y q =>
    have := (List.getElem?_eq_some_iff.1 hj).1
    rw [rst_len hA] at this
    exact ((bstP_spec (rst rs A) rs.length).1 hb j y q this hj).elim
theorem rst_zero (rs : List (List EntV)) : rst rs (List.replicate rs.length 0) = rs := by
  refine List.ext_getElem? fun j => ?_
  unfold rst
  rw [List.getElem?_zipWith]
  by_cases z : j < rs.length
  · rw [List.getElem?_eq_getElem z, List.getElem?_replicate, if_pos z]; rfl
  · rw [List.getElem?_eq_none (by omega)]
end Go.Proofs.Ytnoackenjfpcmaa
