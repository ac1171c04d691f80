import Derived.Sort.LotA
import Derived.Sort.Lot0
import Derived.Test.YtjgfklbhagcbaabRows
import Derived.WalkKit
import Derived.WalkSpells
import Derived.WalkLawsBesides
import Derived.ScopeJumps
import Derived.Deep.Draws
import Derived.Deep.LoopGhost
import Derived.Deep.CutBlock
import Derived.BigQuiet
import Derived.RegionTactic
import Derived.Laws.OwnMore
import Derived.Laws.BytesArg
import Derived.Laws.Shifts
import Derived.Laws.BitsAllLaws
import Derived.Laws.Bits128
import Derived.Handy
/- Sorting, on arrays: ranges that change places, a rotation, what a merge rests on, rows sorted block by block. -/
namespace Go.Proofs.Ytjgfklbhagcbaab
open Go.Sort
set_option linter.unusedVariables false
set_option linter.unusedSimpArgs false
set_option linter.unusedSectionVars false
section
variable {α : Type} [Inhabited α]
/-- Two ranges change places. -/
def swpR (d : Array α) (a b : Nat) : Nat → Array α
  | 0 => d
  | n + 1 => swp (swpR d a b n) (a + n) (b + n)
theorem swpR_size (d : Array α) (a b : Nat) : ∀ n, (swpR d a b n).size = d.size
  | 0 => rfl
  | n + 1 => by rw [swpR, swp_size, swpR_size d a b n]
theorem swpR_get (d : Array α) {a b : Nat} : ∀ {n : Nat}, a + n ≤ b → b + n ≤ d.size → ∀ t, (swpR d a b n)[t]! = if a ≤ t ∧ t < a + n then d[b + (t - a)]! else if b ≤ t ∧ t < b + n then d[a + (t - b)]! else d[t]!
  | 0, _, _, t => by
    rw [if_neg (by omega), if_neg (by omega)]; rfl
  | n + 1, h1, h2, t => by
    have ih := fun t => swpR_get d (a := a) (b := b) (n := n) (by omega) (by omega) t
    rw [swpR, swp_get _ (by rw [swpR_size]; omega) (by rw [swpR_size]; omega), ih, ih, ih]
    by_cases e1 : t = a + n
    · subst e1
      rw [if_neg (by omega), if_pos rfl, if_neg (by omega), if_neg (by omega), if_pos (by omega)]
      congr 1; omega
    · by_cases e2 : t = b + n
      · subst e2
        rw [if_pos rfl, if_neg (by omega), if_neg (by omega), if_neg (by omega), if_pos (by omega)]
        congr 1; omega
      · rw [if_neg e2, if_neg e1]
        by_cases q1 : a ≤ t ∧ t < a + n
        · rw [if_pos q1, if_pos (by omega)]
        · have q3 : ¬(a ≤ t ∧ t < a + (n + 1)) := by omega
          by_cases q2 : b ≤ t ∧ t < b + n
          · rw [if_neg q1, if_pos q2, if_neg q3, if_pos (by omega)]
          · rw [if_neg q1, if_neg q2, if_neg q3, if_neg (by omega)]
theorem swpR_perm (d : Array α) {a b n x y : Nat} (h1 : a + n ≤ b) (hx : x ≤ a) (hy : b + n ≤ y) (hs : y ≤ d.size) : PermIn x y d (swpR d a b n) := by
  induction n with
  | zero => exact permIn_refl _ _ _
  | succ n ih => exact permIn_trans _ _ _ _ _ (ih (by omega) (by omega)) (swp_permIn _ _ _ _ _ (by omega) (by omega) (by omega) (by omega) (by rw [swpR_size]; exact hs))
/-- A rotation of [a, b) about m. -/
structure Rot (d : Array α) (a m b : Nat) (d' : Array α) : Prop where
  perm : PermIn a b d d'
  left : ∀ t, t < b - m → d'[a + t]! = d[m + t]!
  right : ∀ t, t < m - a → d'[a + (b - m) + t]! = d[a + t]!
theorem Rot.end {d : Array α} {m i : Nat} (hi : i ≤ m) (h : m + i ≤ d.size) : Rot d (m - i) m (m + i) (swpR d (m - i) m i) := by
  have g := swpR_get d (a := m - i) (b := m) (n := i) (by omega) h
  refine ⟨swpR_perm d (by omega) (Nat.le_refl _) (Nat.le_refl _) h, fun t ht => ?_, fun t ht => ?_⟩
  · rw [g, if_pos (by omega)]; congr 1; omega
  · rw [g, if_neg (by omega), if_pos (by omega)]; congr 1; omega
theorem Rot.more {d d' : Array α} {m i j : Nat} (hi : i ≤ m) (hij : j < i) (h : m + j ≤ d.size) (r : Rot (swpR d (m - i) m j) (m - (i - j)) m (m + j) d') : Rot d (m - i) m (m + j) d' := by
  have g := swpR_get d (a := m - i) (b := m) (n := j) (by omega) h
  obtain ⟨⟨r0, r1, r2⟩, r3, r4⟩ := r
  refine ⟨permIn_trans _ _ _ _ _ (swpR_perm d (by omega) (Nat.le_refl _) (Nat.le_refl _) h) (permIn_mono _ _ _ _ _ _ (by omega) (Nat.le_refl _) (by rw [swpR_size]; exact h) ⟨r0, r1, r2⟩), fun t ht => ?_, fun t ht => ?_⟩
  · rw [r1 _ (by omega), g, if_pos (by omega)]; congr 1; omega
  · by_cases q : t < j
    · have := r3 t (by omega)
      rw [show m - i + (m + j - m) + t = m - (i - j) + t by omega, this, g, if_neg (by omega), if_pos (by omega)]; congr 1; omega
    · have := r4 (t - j) (by omega)
      rw [show m - i + (m + j - m) + t = m - (i - j) + (m + j - m) + (t - j) by omega, this, g, if_neg (by omega), if_neg (by omega)]; congr 1; omega
theorem Rot.less {d d' : Array α} {m i j : Nat} (hi : i ≤ m) (hij : i < j) (h : m + j ≤ d.size) (r : Rot (swpR d (m - i) (m + j - i) i) (m - i) m (m + (j - i)) d') : Rot d (m - i) m (m + j) d' := by
  have g := swpR_get d (a := m - i) (b := m + j - i) (n := i) (by omega) (by omega)
  obtain ⟨⟨r0, r1, r2⟩, r3, r4⟩ := r
  refine ⟨permIn_trans _ _ _ _ _ (swpR_perm d (by omega) (Nat.le_refl _) (by omega) h) (permIn_mono _ _ _ _ _ _ (Nat.le_refl _) (by omega) (by rw [swpR_size]; exact h) ⟨r0, r1, r2⟩), fun t ht => ?_, fun t ht => ?_⟩
  · by_cases q : t < j - i
    · rw [r3 t (by omega), g, if_neg (by omega), if_neg (by omega)]
    · have := r4 (t - (j - i)) (by omega)
      rw [show m - i + t = m - i + (m + (j - i) - m) + (t - (j - i)) by omega, this, g, if_pos (by omega)]; congr 1; omega
  · rw [r1 _ (by omega), g, if_neg (by omega), if_pos (by omega)]; congr 1; omega
end
section
variable {α : Type} [Inhabited α] {lt : α → α → Bool}
theorem swo_asymm (h : SWO lt) {x y : α} (q : lt x y = true) : lt y x = false := by
  cases e : lt y x with
  | false => rfl
  | true => have := h.trans _ _ _ q e; rw [h.irrefl] at this; cases this
/-- Not behind: reflexive too. -/
theorem srt_le (hS : SWO lt) {a b : Nat} {d : Array α} (h : SortedIn lt a b d) {i j : Nat} (hi : a ≤ i) (hij : i ≤ j) (hj : j < b) : lt d[j]! d[i]! = false := by
  rcases Nat.eq_or_lt_of_le hij with rfl | q
  · exact hS.irrefl _
  · exact h i j hi q hj
theorem srt_sub {a b x y : Nat} {d : Array α} (h : SortedIn lt a b d) (hx : a ≤ x) (hy : y ≤ b) : SortedIn lt x y d := fun i j hi hij hj => h i j (by omega) hij (by omega)
/-- Two sorted halves, none of the second ahead of one of the first. -/
theorem srt_glue {a m b : Nat} {d : Array α} (h1 : SortedIn lt a m d) (h2 : SortedIn lt m b d) (h : ∀ i j, a ≤ i → i < m → m ≤ j → j < b → lt d[j]! d[i]! = false) : SortedIn lt a b d := fun i j hi hij hj => by
  by_cases q : j < m
  · exact h1 i j hi hij q
  · by_cases q2 : i < m
    · exact h i j hi q2 (by omega) hj
    · exact h2 i j (by omega) hij hj
/-- 'not less' and then 'less': less would be too much the other way. -/
theorem swo_lt_le (h : SWO lt) {x y z : α} (q : lt x y = true) (r : lt z y = false) : lt x z = true := by
  cases e : lt x z with
  | true => rfl
  | false => have := h.ntrans _ _ _ e r; rw [q] at this; cases this
theorem swo_le_lt (h : SWO lt) {x y z : α} (r : lt y x = false) (q : lt y z = true) : lt x z = true := by
  cases e : lt x z with
  | true => rfl
  | false => have := h.ntrans _ _ _ r e; rw [q] at this; cases this
/-- The first element, shifted to behind all that are less. -/
theorem shift_up (hS : SWO lt) {d d' : Array α} {a b i : Nat} (h : SortedIn lt (a + 1) b d) (hi : a + 1 ≤ i) (hib : i ≤ b) (hl : ∀ t, a + 1 ≤ t → t < i → lt d[t]! d[a]! = true) (hr : ∀ t, i ≤ t → t < b → lt d[t]! d[a]! = false)
    (g1 : ∀ t, a ≤ t → t < i - 1 → d'[t]! = d[t + 1]!) (g2 : d'[i - 1]! = d[a]!) (g3 : ∀ t, i ≤ t → d'[t]! = d[t]!) : SortedIn lt a b d' := fun x y hx hxy hy => by
  by_cases q1 : y < i - 1
  · rw [g1 x hx (by omega), g1 y (by omega) q1]; exact h _ _ (by omega) (by omega) (by omega)
  · by_cases q2 : y = i - 1
    · subst q2; rw [g2, g1 x hx (by omega)]; exact swo_asymm hS (hl _ (by omega) (by omega))
    · rw [g3 y (by omega)]
      by_cases q3 : x < i - 1
      · rw [g1 x hx q3]; exact h _ _ (by omega) (by omega) hy
      · by_cases q4 : x = i - 1
        · subst q4; rw [g2]; exact hr y (by omega) hy
        · rw [g3 x (by omega)]; exact h _ _ (by omega) (by omega) hy
/-- The last element, shifted to ahead of all that it is less than. -/
theorem shift_down (hS : SWO lt) {d d' : Array α} {a m i : Nat} (h : SortedIn lt a m d) (hi : a ≤ i) (him : i ≤ m) (hl : ∀ t, a ≤ t → t < i → lt d[m]! d[t]! = false) (hr : ∀ t, i ≤ t → t < m → lt d[m]! d[t]! = true)
    (g1 : ∀ t, t < i → d'[t]! = d[t]!) (g2 : d'[i]! = d[m]!) (g3 : ∀ t, i < t → t ≤ m → d'[t]! = d[t - 1]!) : SortedIn lt a (m + 1) d' := fun x y hx hxy hy => by
  by_cases q1 : x < i
  · rw [g1 x q1]
    by_cases q2 : y < i
    · rw [g1 y q2]; exact h _ _ hx hxy (by omega)
    · by_cases q3 : y = i
      · subst q3; rw [g2]; exact hl x hx q1
      · rw [g3 y (by omega) (by omega)]; exact h _ _ hx (by omega) (by omega)
  · by_cases q4 : x = i
    · subst q4; rw [g2, g3 y (by omega) (by omega)]; exact swo_asymm hS (hr _ (by omega) (by omega))
    · rw [g3 x (by omega) (by omega), g3 y (by omega) (by omega)]; exact h _ _ (by omega) (by omega) (by omega)
/-- What a merge's two halves are, behind the rotation: each of two sorted parts, and none of the second ahead of one of the first. -/
theorem halves (hS : SWO lt) {d e : Array α} {a m b mid s : Nat} (h1 : SortedIn lt a m d) (h2 : SortedIn lt m b d) (ha : a ≤ s) (hsm : s ≤ m) (hsd : s ≤ mid) (hm : m ≤ mid + m - s) (hb : mid + m - s ≤ b)
    (hL : a < s → mid + m - s < b → lt d[mid + m - s]! d[s - 1]! = false) (hR : s < m → m < mid + m - s → lt d[mid + m - s - 1]! d[s]! = true) (r : Rot d s m (mid + m - s) e) :
    SortedIn lt a s e ∧ SortedIn lt s mid e ∧ SortedIn lt mid (mid + m - s) e ∧ SortedIn lt (mid + m - s) b e ∧ ∀ i j, a ≤ i → i < mid → mid ≤ j → j < b → lt e[j]! e[i]! = false := by
  obtain ⟨⟨r0, r1, _⟩, r3, r4⟩ := r
  have e1 : ∀ i, i < s → e[i]! = d[i]! := fun i hi => r1 i (.inl hi)
  have e2 : ∀ i, s ≤ i → i < mid → e[i]! = d[m + (i - s)]! := fun i hi hi2 => by
    have := r3 (i - s) (by omega); rwa [show s + (i - s) = i by omega] at this
  have e3 : ∀ i, mid ≤ i → i < mid + m - s → e[i]! = d[s + (i - mid)]! := fun i hi hi2 => by
    have := r4 (i - mid) (by omega); rwa [show s + (mid + m - s - m) + (i - mid) = i by omega] at this
  have e4 : ∀ i, mid + m - s ≤ i → e[i]! = d[i]! := fun i hi => r1 i (.inr hi)
  refine ⟨fun i j hi hij hj => ?_, fun i j hi hij hj => ?_, fun i j hi hij hj => ?_, fun i j hi hij hj => ?_, fun i j hi him hj hjb => ?_⟩
  · rw [e1 i (by omega), e1 j hj]; exact h1 _ _ hi hij (by omega)
  · rw [e2 i hi (by omega), e2 j (by omega) hj]; exact h2 _ _ (by omega) (by omega) (by omega)
  · rw [e3 i hi (by omega), e3 j (by omega) hj]; exact h1 _ _ (by omega) (by omega) (by omega)
  · rw [e4 i hi, e4 j (by omega)]; exact h2 _ _ (by omega) hij hj
  · by_cases q1 : i < s
    · rw [e1 i q1]
      by_cases q2 : j < mid + m - s
      · rw [e3 j hj q2]; exact srt_le hS h1 hi (by omega) (by omega)
      · rw [e4 j (by omega)]
        have k1 := hL (by omega) (by omega)
        have k2 := srt_le hS h1 (i := i) (j := s - 1) hi (by omega) (by omega)
        have k3 := srt_le hS h2 (i := mid + m - s) (j := j) (by omega) (by omega) hjb
        exact hS.ntrans _ _ _ k3 (hS.ntrans _ _ _ k1 k2)
    · rw [e2 i (by omega) him]
      by_cases q2 : j < mid + m - s
      · rw [e3 j hj q2]
        have k1 := swo_asymm hS (hR (by omega) (by omega))
        have k2 := srt_le hS h1 (i := s) (j := s + (j - mid)) (by omega) (by omega) (by omega)
        have k3 := srt_le hS h2 (i := m + (i - s)) (j := mid + m - s - 1) (by omega) (by omega) (by omega)
        exact hS.ntrans _ _ _ k2 (hS.ntrans _ _ _ k1 k3)
      · rw [e4 j (by omega)]; exact srt_le hS h2 (by omega) (by omega) hjb
/-- Both halves merged. -/
theorem halves_done {e e1 e2 : Array α} {a mid b : Nat} (hb : b ≤ e.size) (ha : a ≤ mid) (hm : mid ≤ b) (h : ∀ i j, a ≤ i → i < mid → mid ≤ j → j < b → lt e[j]! e[i]! = false)
    (p1 : PermIn a mid e e1) (s1 : SortedIn lt a mid e1) (p2 : PermIn mid b e1 e2) (s2 : SortedIn lt mid b e2) : PermIn a b e e2 ∧ SortedIn lt a b e2 := by
  have hz : e1.size = e.size := p1.1
  refine ⟨permIn_trans _ _ _ _ _ (permIn_mono _ _ _ _ _ _ (Nat.le_refl _) hm hb p1) (permIn_mono _ _ _ _ _ _ ha (Nat.le_refl _) (by omega) p2), srt_glue (fun i j hi hij hj => ?_) s2 fun i j hi him hj hjb => ?_⟩
  · rw [p2.2.1 i (.inl (by omega)), p2.2.1 j (.inl hj)]; exact s1 i j hi hij hj
  · rw [p2.2.1 i (.inl him)]
    refine permIn_all _ _ a mid (fun x => lt e2[j]! x = false) (by omega) p1 (fun i' hi' him' => ?_) i hi him
    refine permIn_all _ _ mid b (fun y => lt y e[i']! = false) (by omega) p2 (fun j' hj' hjb' => ?_) j hj hjb
    rw [p1.2.1 j' (.inr hj')]
    exact h i' j' hi' him' hj' hjb'
/-- Sorted block by block, up to x. -/
def Sby (lt : α → α → Bool) (bs x : Nat) (d : Array α) : Prop := ∀ i j, i < j → j < x → i / bs = j / bs → lt d[j]! d[i]! = false
theorem Sby.zero {bs : Nat} {d : Array α} : Sby lt bs 0 d := fun i j h1 h2 => absurd h2 (Nat.not_lt_zero _)
theorem div_lt_of_mul {bs q i : Nat} (hb : 0 < bs) (h : i < q * bs) : i / bs < q := (Nat.div_lt_iff_lt_mul hb).2 h
/-- One more block. -/
theorem Sby.next {bs q y : Nat} {d d' : Array α} (hb : 0 < bs) (h : Sby lt bs (q * bs) d) (p : ∀ i, i < q * bs → d'[i]! = d[i]!) (s : SortedIn lt (q * bs) y d') : Sby lt bs y d' := fun i j hij hj e => by
  by_cases q1 : j < q * bs
  · rw [p i (by omega), p j q1]; exact h i j hij q1 e
  · by_cases q2 : i < q * bs
    · have h1 := div_lt_of_mul hb q2
      have h2 : q ≤ j / bs := (Nat.le_div_iff_mul_le hb).2 (by omega)
      omega
    · exact s i j (by omega) hij hj
theorem Sby.block {bs q x y : Nat} {d : Array α} (hb : 0 < bs) (h : Sby lt bs x d) (hy : y ≤ x) (hq : y ≤ (q + 1) * bs) : SortedIn lt (q * bs) y d := fun i j hi hij hj => by
  refine h i j hij (by omega) ?_
  have h1 := (Nat.le_div_iff_mul_le hb).2 hi
  have h2 := div_lt_of_mul (i := i) hb (show i < (q + 1) * bs by omega)
  have h3 := (Nat.le_div_iff_mul_le hb).2 (show q * bs ≤ j by omega)
  have h4 := div_lt_of_mul (i := j) hb (show j < (q + 1) * bs by omega)
  omega
theorem Sby.all {bs n : Nat} {d : Array α} (h : Sby lt bs n d) (hn : n ≤ bs) : SortedIn lt 0 n d := fun i j hi hij hj => h i j hij hj (by rw [Nat.div_eq_of_lt (by omega), Nat.div_eq_of_lt (by omega)])
end
end Go.Proofs.Ytjgfklbhagcbaab

/- Rows of bytes: those that came in and are read, and those that the call itself made and appends to. -/
namespace Go.Proofs.Ytjgfklbhagcbaab
open Go.RowKit

/-- The first n bytes that X tells. -/
def bs (X : Nat → Nat) (n : Nat) : List Int := (List.range n).map fun k => (X k : Int)
theorem bs_length (X : Nat → Nat) (n : Nat) : (bs X n).length = n := by simp [bs]
theorem bs_getD (X : Nat → Nat) (n i : Nat) (h : i < n) : (bs X n).getD i 0 = (X i : Int) := by simp [bs, h]
theorem bs_succ (X : Nat → Nat) (n : Nat) : bs X (n + 1) = bs X n ++ [(X n : Int)] := by simp [bs, List.range_succ]

/-- What is read of a slice of bytes: its cells. -/
def Byt (w : World) (ao : Option Addr) (len : Nat) (X : Nat → Nat) : Prop :=
  ∀ k, k < len → X k < 256 ∧ ∃ b off, ao = some ⟨b, off, none⟩ ∧ w.cell? ⟨b, off + k, none⟩ = some (.int .u8 (X k : Int))

/-- A row of bytes that the call itself made. -/
def Row (B : Nat) (w : World) (v : Value) (xs : List Int) : Prop := w.ownsRow B 5 1 v xs.length (xs.map (Value.int .u8))

theorem _root_.Go.Proofs.Try.info5 : (Try.prog.info? 5).map (fun i => (i.zero, i.size, i.bytes)) = some (some (.int .u8 0), 1, 1) := by kernel_rfl

/-- Where a value lies behind an append: where it lay, or in a new block. -/
def Moved (w : World) (v v' : Value) : Prop := v'.ownBlock = v.ownBlock ∨ ∃ g, v'.ownBlock = some g ∧ w.heap.size ≤ g

theorem run_app (B : Nat) (w : World) (ty : TypeId) (v : Value) (xs : List Int) (hrow : Row B w v xs) (ao : Option Addr) (m c : Nat) (X : Nat → Nat) (hnil : ao = none → m = 0 ∧ c = 0) (hby : Byt w ao m X)
    (hb : xs.length + m ≤ 140737488355328) (hbase : B ≤ w.heap.size) :
    ∃ v' w', (Builtin.append_ #[23, 23] ty #[v, .slice ao m c]).run Try.prog w = .ok v' w' ∧ Row B w' v' (xs ++ bs X m) ∧ w.grownBy w' v.ownBlock ∧ Moved w v v' := by
  obtain ⟨i, hi, hz, hsize, hbytes⟩ := info_parts Try.info5
  cases ao with
  | none =>
    obtain ⟨rfl, rfl⟩ := hnil rfl
    refine ⟨v, w, run_append_owned_none (P := Try.prog) (w := w) B 23 ty 5 i 1 Try.underlying23 hi v _ _ hrow, ?_, ⟨rfl, rfl, rfl, Nat.le_refl _, fun _ _ _ => rfl⟩, .inl rfl⟩
    simpa [bs] using hrow
  | some ad =>
    have hl : ((bs X m).map (Value.int .u8)).length = m * 1 := by simp [bs_length]
    have hnews : ∀ j u, ((bs X m).map (Value.int .u8))[j]? = some u → w.cell? (ad.add j) = some u := by
      intro j u hu
      have hj : j < m := by
        rcases Nat.lt_or_ge j m with h | h
        · exact h
        · rw [List.getElem?_eq_none (by simpa [bs_length] using h)] at hu; cases hu
      obtain ⟨_, b, off, e, hc⟩ := hby j hj
      simp only [Option.some.injEq] at e
      subst e
      rw [Addr.add_lit, hc]
      simp [bs, hj] at hu
      rw [← hu]
    have h1 : ∀ u ∈ (bs X m).map (Value.int .u8), u.oneCell' = true := fun u hu => by
      obtain ⟨_, _, rfl⟩ := List.mem_map.1 hu
      rfl
    obtain ⟨v', w', hr, h2, h3, _⟩ := run_append_own (P := Try.prog) w B 23 ty 5 i (.int .u8 0) 1 1 Try.underlying23 hi hz hsize hbytes rfl (by decide) v xs.length _ hrow ad m c _ hl hnews h1 (by simp only [maxLen]; omega) (by omega) hbase
    refine ⟨v', w', hr, ?_, h3, ?_⟩
    · unfold Row
      rw [List.map_append, List.length_append, bs_length]
      exact h2
    · rcases hrow.2 with ⟨rfl, h0⟩ | ⟨g, cap, cur, rfl, hbg, hg, hnc, hcm, hcs, htake⟩
      · by_cases hm : m = 0
        · subst hm
          have : (Builtin.append_ #[23, 23] ty #[.slice none 0 0, .slice (some ad) 0 c]).run Try.prog w = .ok (.slice none 0 0) w := by
            simp [Builtin.append_, run_underlying Try.underlying23, sizeOf, typeInfo, hi, Builtin.lenOf, Builtin.firstCells, loadCells, loadCellsFrom]
          rw [this] at hr
          simp at hr
          rw [← hr.1]
          exact .inl rfl
        · have hr' := run_append_nil (P := Try.prog) w 23 ty 5 i (.int .u8 0) Try.underlying23 hi hz ad m c _ (by rw [hsize]; exact hl) hnews (by omega) (by omega) (by rw [hbytes]; omega)
          rw [hr'] at hr
          simp at hr
          rw [← hr.1]
          exact .inr ⟨w.heap.size, rfl, Nat.le_refl _⟩
      · by_cases hroom : xs.length + m ≤ cap
        · have hr' := run_append_room (P := Try.prog) w 23 ty 5 i Try.underlying23 hi g xs.length cap cur hg ad m c _ (by rw [hsize]; exact hl) hnews h1 hroom (by rw [hsize, hl, hcs]; omega)
          rw [hr'] at hr
          simp at hr
          rw [← hr.1]
          exact .inl rfl
        · have holds : ∀ j u, (xs.map (Value.int .u8))[j]? = some u → w.cell? ((⟨g, 0, none⟩ : Addr).add j) = some u := World.ownsRow.cells hrow (g := g) rfl
          have hr' := run_append_grow (P := Try.prog) w 23 ty 5 i (.int .u8 0) Try.underlying23 hi hz ⟨g, 0, none⟩ xs.length cap _ (by rw [hsize]; simp) holds ad m c _ (by rw [hsize]; exact hl) hnews (by omega) (by omega) (growslice_fits (by omega) (by rw [hbytes]; omega))
          rw [hr'] at hr
          simp at hr
          rw [← hr.1]
          exact .inr ⟨w.heap.size, rfl, Nat.le_refl _⟩

theorem wp_app {w : World} {o : Oper} {a : Act} {K : Act → World → Prop} {Q : Exit → Act → World → Prop} (s x : Operand)
    (ho : o.op = .call { callee := .builtin .append, args := #[s, x], argTypes := #[23, 23] }) (B : Nat) (v : Value) (xs : List Int) (hs : a.eval s = v) (hrow : Row B w v xs)
    (ao : Option Addr) (m c : Nat) (X : Nat → Nat) (hx : a.eval x = .slice ao m c) (hnil : ao = none → m = 0 ∧ c = 0) (hby : Byt w ao m X) (hb : xs.length + m ≤ 140737488355328) (hbase : B ≤ w.heap.size)
    (h : ∀ v' w', Row B w' v' (xs ++ bs X m) → w.grownBy w' v.ownBlock → Moved w v v' → K (a.put o.dst v') w') : o.wp Try.prog a w K Q := by
  obtain ⟨v', w', hr, h2, h3, h4⟩ := run_app B w o.type v xs hrow ao m c X hnil hby hb hbase
  unfold Oper.wp execOp
  simp only [ho, resolve, invoke, builtin, Sem.run_bind, Sem.run_pure, Result.andThen_ok, List.map_toArray, List.map_cons, List.map_nil, hs, hx, hr]
  exact h v' w' h2 h3 h4

theorem wpList_app {w : World} {ops : Array Oper} {rest : List Oper} {o : Oper} {a : Act} {Q : Exit → Act → World → Prop} (hgd : o.guard = none) (s x : Operand)
    (ho : o.op = .call { callee := .builtin .append, args := #[s, x], argTypes := #[23, 23] }) (B : Nat) (v : Value) (xs : List Int) (hs : a.eval s = v) (hrow : Row B w v xs)
    (ao : Option Addr) (m c : Nat) (X : Nat → Nat) (hx : a.eval x = .slice ao m c) (hnil : ao = none → m = 0 ∧ c = 0) (hby : Byt w ao m X) (hb : xs.length + m ≤ 140737488355328) (hbase : B ≤ w.heap.size)
    (h : ∀ v' w', Row B w' v' (xs ++ bs X m) → w.grownBy w' v.ownBlock → Moved w v v' → wpList Try.prog ops Q rest (a.put o.dst v') w') : wpList Try.prog ops Q (o :: rest) a w :=
  wpList_plain hgd fun _ hK => wp_app s x ho B v xs hs hrow ao m c X hx hnil hby hb hbase fun v' w' h2 h3 h4 => hK _ _ (h v' w' h2 h3 h4)

theorem grown_below {B : Nat} {w w' : World} {v : Value} {xs : List Int} (hrow : Row B w v xs) (hg : w.grownBy w' v.ownBlock) (hB : B ≤ w.heap.size) : Below B w w' :=
  Below.grown (Below.refl B w) hg hB (fun k hk => (World.ownsRow.lt hrow k hk).1)

theorem Byt.later {w w' : World} {ao : Option Addr} {len : Nat} {X : Nat → Nat} (h : Byt w ao len X) (hb : Below w.heap.size w w') : Byt w' ao len X := fun k hk => by
  obtain ⟨h1, b, off, e, hc⟩ := h k hk
  exact ⟨h1, b, off, e, cell_later hb hc⟩

/-- The string of a row of bytes that is read. -/
theorem run_str {w : World} {ao : Option Addr} {len cap : Nat} {X : Nat → Nat} (h : Byt w ao len X) (hnil : ao = none → len = 0 ∧ cap = 0) :
    (convert 23 9 (.slice ao len cap)).run Try.prog w = .ok (.string (strOfNums (bs X len))) w := by
  cases ao with
  | none =>
    obtain ⟨rfl, rfl⟩ := hnil rfl
    rw [run_convert_bytes_nil (P := Try.prog) w 23 5 Try.underlying23 Try.underlying5 0 0 9 Try.underlying9]
    rfl
  | some ad =>
    by_cases hl : len = 0
    · subst hl
      rw [run_convert_bytes_string (P := Try.prog) w 23 9 5 _ 0 cap Try.underlying23 Try.underlying5 Try.underlying9]
      rw [run_bytesToString (P := Try.prog) w ad 0 cap [] (by simp [loadCells, loadCellsFrom])]
      rfl
    · obtain ⟨_, b, off, e, _⟩ := h 0 (by omega)
      simp only [Option.some.injEq] at e
      subst e
      refine run_convert_bytes_arg (P := Try.prog) w 23 5 Try.underlying23 Try.underlying5 b off len cap (bs X len) (bs_length X len) (fun i hi => ?_) 9 Try.underlying9
      obtain ⟨_, b', off', e', hc⟩ := h i hi
      simp only [Option.some.injEq, Addr.mk.injEq, and_true] at e'
      obtain ⟨rfl, rfl⟩ := e'
      rw [bs_getD X len i hi]
      exact hc

/-- What is read of a row that the call made. -/
def xof (xs : List Int) : Nat → Nat := fun k => (xs.getD k 0).toNat
def Okb (xs : List Int) : Prop := ∀ x ∈ xs, 0 ≤ x ∧ x < 256
theorem Okb.app {xs ys : List Int} (h : Okb xs) (g : Okb ys) : Okb (xs ++ ys) := fun x hx => by
  rcases List.mem_append.1 hx with k | k
  · exact h x k
  · exact g x k
theorem okb_bs {w : World} {ao : Option Addr} {len : Nat} {X : Nat → Nat} (h : Byt w ao len X) : Okb (bs X len) := fun x hx => by
  obtain ⟨k, hk, rfl⟩ := List.mem_map.1 hx
  have := (h k (List.mem_range.1 hk)).1
  omega
theorem bs_xof {xs : List Int} (h : Okb xs) : bs (xof xs) xs.length = xs := by
  apply List.ext_getElem
  · simp [bs_length]
  · intro i h1 h2
    have := h xs[i] (List.getElem_mem h2)
    simp [bs, xof, List.getElem?_eq_getElem h2]
    omega

theorem Row.byt {B : Nat} {w : World} {v : Value} {xs : List Int} (h : Row B w v xs) (hok : Okb xs) :
    ∃ ao cap, v = .slice ao xs.length cap ∧ (ao = none → xs.length = 0 ∧ cap = 0) ∧ xs.length ≤ cap ∧ cap ≤ maxLen ∧ Byt w ao xs.length (xof xs) := by
  have hcells : ∀ g, v.ownBlock = some g → _ := fun g hg => World.ownsRow.cells h (g := g) hg
  rcases h.2 with ⟨rfl, h0⟩ | ⟨g, cap, cur, rfl, hbg, hg, hnc, hcm, hcs, htake⟩
  · exact ⟨none, 0, by rw [h0], fun _ => ⟨h0, rfl⟩, by omega, Nat.zero_le _, fun k hk => absurd hk (by omega)⟩
  · refine ⟨some ⟨g, 0, none⟩, cap, rfl, (fun e => by cases e), hnc, hcm, fun k hk => ?_⟩
    have hx := hok xs[k] (List.getElem_mem hk)
    have e : xof xs k = xs[k].toNat := by simp [xof, List.getElem?_eq_getElem hk]
    refine ⟨by rw [e]; omega, g, 0, rfl, ?_⟩
    have := hcells g rfl k (.int .u8 xs[k]) (by simp [List.getElem?_eq_getElem hk])
    rw [Addr.add_lit] at this
    rw [this, e]
    congr 2
    omega

theorem Row.nil (B : Nat) (w : World) : Row B w (.slice none 0 0) [] := World.ownsRow_nil w B 5 1
theorem Row.alloc {B : Nat} {w : World} {v : Value} {xs : List Int} (h : Row B w v xs) (o : Obj) : Row B (w.alloc o) v xs := World.ownsRow.alloc h o
/-- One byte that was just laid for an append. -/
theorem byt_one (w : World) (x : Nat) (hx : x < 256) : Byt (w.alloc (.cells #[.int .u8 (x : Int)] 5)) (some ⟨w.heap.size, 0, none⟩) 1 (fun _ => x) := fun k hk => by
  obtain rfl : k = 0 := by omega
  exact ⟨hx, w.heap.size, 0, rfl, by simp⟩
end Go.Proofs.Ytjgfklbhagcbaab

/- Numbers as bytes of seven bits, the lowest first: the value of such bytes, the bytes of a number, where a number ends. -/
namespace Go.Proofs.Ytjgfklbhagcbaab
open Go.RowKit

/-- The value of the first n bytes. -/
def val (X : Nat → Nat) : Nat → Nat
  | 0 => 0
  | n + 1 => val X n + X n % 128 * 128 ^ n
/-- The value of m bytes from i on. -/
def tv (X : Nat → Nat) : Nat → Nat → Nat
  | _, 0 => 0
  | i, m + 1 => X i % 128 + 128 * tv X (i + 1) m

theorem val_lt (X : Nat → Nat) : ∀ n, val X n < 128 ^ n
  | 0 => by simp [val]
  | n + 1 => by
    have h1 := val_lt X n
    have h2 : X n % 128 ≤ 127 := by omega
    have h3 : X n % 128 * 128 ^ n ≤ 127 * 128 ^ n := Nat.mul_le_mul_right _ h2
    simp only [val, Nat.pow_succ]
    omega
theorem val_tv (X : Nat → Nat) : ∀ m i, val X (i + m) = val X i + 128 ^ i * tv X i m
  | 0, i => by simp [tv]
  | m + 1, i => by
    have h := val_tv X m (i + 1)
    have e : i + (m + 1) = i + 1 + m := by omega
    rw [e, h]
    simp only [val, tv, Nat.pow_succ]
    rw [Nat.mul_add, ← Nat.mul_assoc, Nat.mul_comm (128 ^ i) (X i % 128)]
    omega
theorem val_eq_tv (X : Nat → Nat) (m : Nat) : val X m = tv X 0 m := by
  have := val_tv X m 0
  simpa [val] using this
theorem tv_le (X : Nat → Nat) (i m : Nat) : tv X i m ≤ val X (i + m) := by
  rw [val_tv]
  have : 0 < 128 ^ i := Nat.pow_pos (by decide)
  have := Nat.le_mul_of_pos_left (tv X i m) this
  omega
theorem val_congr {X Y : Nat → Nat} : ∀ {n}, (∀ k, k < n → X k % 128 = Y k % 128) → val X n = val Y n
  | 0, _ => rfl
  | n + 1, h => by simp only [val, val_congr (n := n) fun k hk => h k (by omega), h n (by omega)]
theorem val_mono (X : Nat → Nat) {m n : Nat} (h : m ≤ n) : val X m ≤ val X n := by
  obtain ⟨d, rfl⟩ := Nat.le.dest h
  rw [val_tv]
  omega

/-- It has no needless byte, and no more than 64 bits. -/
def good (X : Nat → Nat) (E : Nat) : Prop := ¬ (0 < E ∧ X E = 0) ∧ (E < 9 ∨ E = 9 ∧ X 9 ≤ 1)
theorem val_good {X : Nat → Nat} {E : Nat} (h : good X E) : val X (E + 1) < 18446744073709551616 := by
  rcases h.2 with g | ⟨rfl, g⟩
  · have h1 := val_lt X (E + 1)
    have h2 : 128 ^ (E + 1) ≤ 128 ^ 9 := Nat.pow_le_pow_right (by decide) (by omega)
    have : (128 : Nat) ^ 9 = 9223372036854775808 := by decide
    omega
  · have h1 := val_lt X 9
    simp only [val] at h1 ⊢
    have : (128 : Nat) ^ 9 = 9223372036854775808 := by decide
    rw [this] at h1 ⊢
    have : X 9 % 128 * 9223372036854775808 ≤ 1 * 9223372036854775808 := Nat.mul_le_mul_right _ (by omega)
    omega

/-- Where the number ends: the first byte below 128, or len. -/
def IsEnd (X : Nat → Nat) (len E : Nat) : Prop := E ≤ len ∧ (∀ j, j < E → 128 ≤ X j) ∧ (E < len → X E < 128)
theorem exists_end (X : Nat → Nat) : ∀ len, ∃ E, IsEnd X len E
  | 0 => ⟨0, Nat.le_refl _, fun j hj => absurd hj (by omega), fun h => absurd h (by omega)⟩
  | len + 1 => by
    obtain ⟨E, h1, h2, h3⟩ := exists_end X len
    by_cases h : E < len
    · exact ⟨E, by omega, h2, fun _ => h3 h⟩
    · by_cases g : X E < 128
      · exact ⟨E, by omega, h2, fun _ => g⟩
      · refine ⟨E + 1, by omega, fun j hj => ?_, fun hh => absurd hh (by omega)⟩
        by_cases e : j = E
        · subst e; omega
        · exact h2 j (by omega)

/-- The bytes of a number. -/
def uv (n : Nat) : List Int := if n < 128 then [(n : Int)] else ((n % 128 + 128 : Nat) : Int) :: uv (n / 128)
theorem uv_lt {n : Nat} (h : n < 128) : uv n = [(n : Int)] := by rw [uv, if_pos h]
theorem uv_ge {n : Nat} (h : 128 ≤ n) : uv n = ((n % 128 + 128 : Nat) : Int) :: uv (n / 128) := by rw [uv, if_neg (by omega)]
theorem okb_uv (n : Nat) : Okb (uv n) := by
  induction n using Nat.strongRecOn with
  | _ n ih =>
    by_cases h : n < 128
    · rw [uv_lt h]; intro x hx; simp at hx; omega
    · rw [uv_ge (by omega)]
      intro x hx
      rcases List.mem_cons.1 hx with rfl | hx
      · omega
      · exact ih (n / 128) (by omega) x hx
theorem uv_pos (n : Nat) : 0 < (uv n).length := by
  by_cases h : n < 128
  · rw [uv_lt h]; simp
  · rw [uv_ge (by omega)]; simp
/-- How many bytes a number below 128^k has. -/
theorem uv_len_le : ∀ (k n : Nat), 0 < k → n < 128 ^ k → (uv n).length ≤ k
  | 0, _, h, _ => absurd h (by decide)
  | k + 1, n, _, h => by
    by_cases g : n < 128
    · rw [uv_lt g]; simp
    · rw [uv_ge (by omega)]
      have hk : 0 < k := by
        rcases k with _ | k
        · simp at h; omega
        · omega
      have := uv_len_le k (n / 128) hk (by rw [Nat.pow_succ] at h; omega)
      simp only [List.length_cons]
      omega
theorem uv_len64 {n : Nat} (h : n < 18446744073709551616) : (uv n).length ≤ 10 :=
  uv_len_le 10 n (by decide) (Nat.lt_trans h (by decide))
end Go.Proofs.Ytjgfklbhagcbaab
