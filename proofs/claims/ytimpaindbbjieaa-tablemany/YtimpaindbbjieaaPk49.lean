import Derived.Laws.OwnMore
import Derived.Deep.OwnRows
import Derived.Deep.RegionHeldLaw
import Derived.Test.YtimpaindbbjieaaPk10
import Derived.Test.YtimpaindbbjieaaPk16
import Derived.Test.YtimpaindbbjieaaPk28
import Derived.Test.YtimpaindbbjieaaPk45
import Derived.Test.YtimpaindbbjieaaPk46
/- Tables of many entries, pure. -/
namespace Go.Proofs.Ytimpaindbbjieaa
open Go.RowKit
set_option linter.unusedVariables false
set_option linter.unusedSimpArgs false

/-- The key at a place. -/
def kyT (j : Nat) : List Int := [((j / 256 % 256 : Nat) : Int), ((j % 256 : Nat) : Int)]
/-- The entry at a place. -/
def mkT (k j : Nat) : EntV := ⟨kyT j, (j : Int) + 1, false, 0, List.replicate k 0⟩
def rowT (k m : Nat) : List EntV := (List.range m).map (mkT k)
theorem rowT_succ (k m : Nat) : rowT k (m + 1) = rowT k m ++ [mkT k m] := by unfold rowT; rw [List.range_succ, List.map_append]; rfl
theorem rowT_len (k m : Nat) : (rowT k m).length = m := by simp [rowT]
theorem rowT_at {k m j : Nat} (h : j < m) : (rowT k m)[j]? = some (mkT k j) := by simp [rowT, h]
theorem kyT_lt {i j : Nat} (h : i < j) (hj : j < 65536) : cmp (kyT i) (kyT j) = -1 := by
  unfold kyT
  by_cases q : i / 256 % 256 < j / 256 % 256
  · exact cmp_less (by omega) _ _
  · have e : i / 256 % 256 = j / 256 % 256 := by omega
    rw [e, cmp_same]
    exact cmp_less (by omega) _ _
theorem kyT_cmp {i j : Nat} (hi : i < 65536) (hj : j < 65536) : 0 ≤ cmp (kyT i) (kyT j) ↔ j ≤ i := by
  rcases Nat.lt_trichotomy i j with q | q | q
  · rw [kyT_lt q hj]; omega
  · rw [q, cmp_refl]; omega
  · have := kyT_lt q hi
    rw [cmp_neg (kyT j) (kyT i), this]
    omega
theorem kyT_zero {i j : Nat} (hi : i < 65536) (hj : j < 65536) (h : cmp (kyT i) (kyT j) = 0) : i = j := by
  have h1 := (kyT_cmp hi hj).1 (by omega)
  have h2 := (kyT_cmp hj hi).1 (by rw [cmp_neg (kyT i) (kyT j)]; omega)
  omega
theorem mkT_ahead {k i j : Nat} (h : i < j) (hj : j < 65536) : ahead (mkT k i) (mkT k j) < 0 := by
  have := kyT_lt h hj
  unfold ahead
  show (if cmp (kyT i) (kyT j) ≠ 0 then cmp (kyT i) (kyT j) else _) < 0
  rw [if_pos (by omega)]
  omega
theorem rowT_ord {k m : Nat} (h : m ≤ 65536) : ordE (rowT k m) := by
  unfold ordE rowT
  rw [List.pairwise_map]
  refine List.Pairwise.imp_of_mem ?_ List.pairwise_lt_range
  intro i j hi hj hij
  exact mkT_ahead hij (by have := List.mem_range.1 hj; omega)
theorem mkT_may {k j : Nat} (hk : k ≤ 2048) (hj : j ≤ 65536) : mayE (mkT k j) = true := by
  simp [mayE, mkT, kyT]
  omega
theorem rowT_may {k m : Nat} (hk : k ≤ 2048) (h : m ≤ 65536) : ∀ e ∈ rowT k m, mayE e = true := fun e he => by
  obtain ⟨j, hj, rfl⟩ := List.mem_map.1 he
  exact mkT_may hk (by have := List.mem_range.1 hj; omega)
theorem rowT_small {k m : Nat} (hk : k < 30) : ∀ e ∈ rowT k m, e.key.length + e.val.length + 61 ≤ 100 := fun e he => by
  obtain ⟨j, hj, rfl⟩ := List.mem_map.1 he
  simp [mkT, kyT]
  omega
theorem rowT_tbl {k m : Nat} (hk : k < 30) (h : m < 4010) : tblE (rowT k m) = if m = 0 ∨ 4000 < m then 13 else 0 := by
  unfold tblE
  rw [rowT_len]
  by_cases q : m = 0 ∨ 4000 < m
  · rw [if_pos q, if_pos q]
  · have hm := rowT_may (k := k) (m := m) (by omega) (by omega)
    have ho := rowT_ord (k := k) (m := m) (by omega)
    have hs := tbl_some (l := rowT k m) (M := 100) (fun e he => ⟨hm e he, rowT_small hk e he⟩) (by decide) (by rw [rowT_len]; omega)
    rw [rowT_len] at hs
    rw [if_neg q, if_neg q, if_neg (by rw [List.all_eq_true.2 hm]; decide), if_neg (by unfold ordB; rw [decide_eq_true (show (rowT k m).Pairwise _ from ho)]; decide), if_neg (by omega)]
theorem find_only {α : Type} {p : α → Bool} {l : List α} {e : α} (h : e ∈ l) (hp : p e = true) (hu : ∀ x ∈ l, p x = true → x = e) : l.find? p = some e := by
  cases hf : l.find? p with
  | none => exact absurd hp (List.find?_eq_none.1 hf e h)
  | some x => rw [hu x (List.mem_of_find?_eq_some hf) (List.find?_some hf)]
theorem rowT_get {k m j : Nat} {s : Int} (hm : m ≤ 65536) (hj : j < m) (hs : (j : Int) + 1 ≤ s) : getE (rowT k m) (kyT j) s = some (mkT k j) := by
  unfold getE
  refine find_only (List.mem_map.2 ⟨j, List.mem_range.2 hj, rfl⟩) ?_ fun x hx hp => ?_
  · exact decide_eq_true ⟨cmp_refl _, hs⟩
  · obtain ⟨i, hi, rfl⟩ := List.mem_map.1 hx
    have h0 := (of_decide_eq_true hp).1
    have hi := List.mem_range.1 hi
    rw [kyT_zero (i := i) (j := j) (by omega) (by omega) h0]
theorem rowT_list {k j : Nat} : ∀ {m : Nat}, m ≤ 65536 → j < 65536 → (listE (rowT k m) (kyT j) []).length = m - j
  | 0, _, _ => by simp [rowT, listE]
  | m + 1, hm, hj => by
    have ih := rowT_list (k := k) (j := j) (m := m) (by omega) hj
    unfold listE at ih ⊢
    rw [rowT_succ, List.filter_append, List.length_append, ih]
    have hc := kyT_cmp (i := m) (j := j) (by omega) hj
    by_cases q : j ≤ m
    · have : inE (kyT j) [] (mkT k m) = true := decide_eq_true ⟨hc.2 q, .inl rfl⟩
      rw [List.filter_cons, if_pos this]
      simp
      omega
    · have : ¬ inE (kyT j) [] (mkT k m) = true := fun t => q (hc.1 (of_decide_eq_true t).1)
      rw [List.filter_cons, if_neg this]
      simp
      omega
end Go.Proofs.Ytimpaindbbjieaa

/- The laws on tables: TableMany. -/
namespace Go.Proofs.Ytimpaindbbjieaa
open Go.RowKit
set_option linter.unusedVariables false
set_option linter.unusedSimpArgs false

theorem row_zerosT (w : World) (n : Nat) (hn : n ≤ 1099511627776) : Row w.heap.size (w.alloc (.cells (madeCells #[.int .u8 0] n) 5)) (.slice (some ⟨w.heap.size, 0, none⟩) n n) (List.replicate n 0) := by
  refine ⟨by simp, .inr ⟨w.heap.size, n, madeCells #[.int .u8 0] n, by simp, Nat.le_refl _, heap_alloc_new w _, by simp, by unfold maxLen; omega, by rw [size_madeCells]; omega, ?_⟩⟩
  rw [toList_madeCells_one, List.length_replicate, List.take_of_length_le (by simp)]
  simp
theorem rem_inT (n : Int) (L : Nat) (hL : 0 < L) (h2 : L ≤ 100000) : ∃ (T : Int) (N : Nat), n.tmod (L : Int) = T ∧ (T + (L : Int)).tmod (L : Int) = (N : Int) ∧ N < L ∧ wrap64 (T + (L : Int)) = T + (L : Int) := by
  have a1 : -(L : Int) < n.tmod (L : Int) ∧ n.tmod (L : Int) < (L : Int) := ⟨Int.lt_tmod_of_pos n (by omega), Int.tmod_lt_of_pos n (by omega)⟩
  obtain ⟨T, hT⟩ : ∃ T, n.tmod (L : Int) = T := ⟨_, rfl⟩
  rw [hT] at a1
  obtain ⟨p, hp⟩ := Int.eq_ofNat_of_zero_le (show 0 ≤ (T + (L : Int)).tmod (L : Int) from Int.tmod_nonneg _ (by omega))
  exact ⟨T, p, hT, hp, by have := Int.tmod_lt_of_pos (T + (L : Int)) (b := (L : Int)) (by omega); omega, by unfold wrap64; omega⟩
theorem sl_twoT (w : World) (x y : Int) (hx : 0 ≤ x ∧ x < 256) (hy : 0 ≤ y ∧ y < 256) : Sl (w.alloc (.cells #[.int .u8 x, .int .u8 y] 5)) (some ⟨w.heap.size, 0, none⟩) 2 2 [x, y] := by
  obtain ⟨c, rfl⟩ := Int.eq_ofNat_of_zero_le hx.1
  obtain ⟨d, rfl⟩ := Int.eq_ofNat_of_zero_le hy.1
  refine ⟨rfl, fun x hx => by simp at hx; omega, (fun e => by cases e), Nat.le_refl _, by unfold maxLen; omega, fun k hk => ?_⟩
  have e : (w.alloc (.cells #[.int .u8 (c : Int), .int .u8 (d : Int)] 5)).heap[w.heap.size]? = some (.cells #[.int .u8 (c : Int), .int .u8 (d : Int)] 5 (0, 0)) := heap_alloc_new w _
  match k, hk with
  | 0, _ =>
    refine ⟨by simp [xof]; omega, w.heap.size, 0, rfl, ?_⟩
    unfold World.cell?
    rw [e]
    simp [xof]
  | 1, _ =>
    refine ⟨by simp [xof]; omega, w.heap.size, 0, rfl, ?_⟩
    unfold World.cell?
    rw [e]
    simp [xof]
/-- The row so far. -/
def MnT (w wx : World) (v : Value) (es : List EntV) : Prop := RowF entE w.heap.size (fun b => w.heap.size ≤ b) wx v es ∧ Below w.heap.size w wx
theorem MnT.later {w wx wy : World} {v : Value} {es : List EntV} (h : MnT w wx v es) (hb : Below wx.heap.size wx wy) : MnT w wy v es := ⟨h.1.later hb, h.2.trans (hb.mono h.2.size)⟩
/-- The row may take an entry. -/
def RdT (w wz : World) (p : Nat) (v : Value) (es : List EntV) (us : List Value) (o : EntV) : Prop :=
    RowF entE w.heap.size (fun b => w.heap.size ≤ b) wz v es ∧ RSu entE wz (some ⟨p, 0, none⟩) 1 1 us [o] ∧ (∀ u ∈ us, ∀ b, Refs u b → v.ownBlock ≠ some b) ∧ (∀ u ∈ us, ∀ b, Refs u b → w.heap.size ≤ b) ∧ w.heap.size ≤ wz.heap.size ∧
    (∀ w9 v9, wz.grownBy w9 v.ownBlock → RowF entE w.heap.size (fun b => w.heap.size ≤ b) w9 v9 (es ++ [o]) → MnT w w9 v9 (es ++ [o]))
theorem refs_atT {b0 off n c b : Nat} (h : Refs (.slice (some ⟨b0, off, none⟩) n c) b) : b = b0 := by
  obtain ⟨off', l, c', e, h0⟩ := h
  simp only [Value.slice.injEq, Option.some.injEq, Addr.mk.injEq, and_true] at e
  exact e.1.1.symm
theorem MnT.ready {w wr : World} {v : Value} {es : List EntV} (h : MnT w wr v es) (x y s : Int) (K : Nat) (hx : 0 ≤ x ∧ x < 256) (hy : 0 ≤ y ∧ y < 256) (hK : K ≤ 1000) (hs : In64 s) :
    RdT w (((wr.alloc (.cells #[.int .u8 x, .int .u8 y] 5)).alloc (.cells (madeCells #[.int .u8 0] K) 5)).alloc (.cells #[.slice (some ⟨wr.heap.size, 0, none⟩) 2 2, .int .i64 s, .bool false, .int .i64 0, .slice (some ⟨wr.heap.size + 1, 0, none⟩) K K] 34)) (wr.heap.size + 2) v es [.slice (some ⟨wr.heap.size, 0, none⟩) 2 2, .int .i64 s, .bool false, .int .i64 0, .slice (some ⟨wr.heap.size + 1, 0, none⟩) K K] ⟨[x, y], s, false, 0, List.replicate K 0⟩ := by
  obtain ⟨w1, hw1⟩ : ∃ w1, w1 = wr.alloc (.cells #[.int .u8 x, .int .u8 y] 5) := ⟨_, rfl⟩
  have hz1 : w1.heap.size = wr.heap.size + 1 := by rw [hw1]; simp
  have k1 : Sl w1 (some ⟨wr.heap.size, 0, none⟩) 2 2 [x, y] := by rw [hw1]; exact sl_twoT wr x y hx hy
  have b1 : Below wr.heap.size wr w1 := by rw [hw1]; exact (Below.refl _ _).alloc (Nat.le_refl _) _
  rw [← hw1]
  obtain ⟨w2, hw2⟩ : ∃ w2, w2 = w1.alloc (.cells (madeCells #[.int .u8 0] K) 5) := ⟨_, rfl⟩
  have hz2 : w2.heap.size = wr.heap.size + 2 := by rw [hw2]; simp [hz1]
  have b2 : Below w1.heap.size w1 w2 := by rw [hw2]; exact (Below.refl _ _).alloc (Nat.le_refl _) _
  have r2 : Row w1.heap.size w2 (.slice (some ⟨w1.heap.size, 0, none⟩) K K) (List.replicate K 0) := by rw [hw2]; exact row_zerosT w1 K (by omega)
  obtain ⟨a3, c3, e3, s3⟩ := Sl.ofRow r2 (fun z hz => by rw [List.eq_of_mem_replicate hz]; omega)
  simp only [Value.slice.injEq] at e3
  obtain ⟨q1, q2, q3⟩ := e3
  rw [← q1, ← q3, hz1] at s3
  rw [List.length_replicate] at s3
  rw [← hw2]
  have k2 := k1.later b2
  have hM : entE.M w2 [.slice (some ⟨wr.heap.size, 0, none⟩) 2 2, .int .i64 s, .bool false, .int .i64 0, .slice (some ⟨wr.heap.size + 1, 0, none⟩) K K] ⟨[x, y], s, false, 0, List.replicate K 0⟩ := ⟨some ⟨wr.heap.size, 0, none⟩, 2, some ⟨wr.heap.size + 1, 0, none⟩, K, by simp, k2, by simpa using s3, hs, (by show In64 0; exact ⟨by decide, by decide⟩)⟩
  have hone := rs_one hM
  rw [hz2] at hone
  have B2 : Below wr.heap.size wr w2 := b1.trans (b2.mono b1.size)
  obtain ⟨w3, hw3⟩ : ∃ w3, w3 = w2.alloc (.cells #[.slice (some ⟨wr.heap.size, 0, none⟩) 2 2, .int .i64 s, .bool false, .int .i64 0, .slice (some ⟨wr.heap.size + 1, 0, none⟩) K K] 34) := ⟨_, rfl⟩
  have B3 : Below wr.heap.size wr w3 := by rw [hw3]; exact B2.alloc B2.size _
  have H3 := h.later B3
  have hgt : ∀ u ∈ ([.slice (some ⟨wr.heap.size, 0, none⟩) 2 2, .int .i64 s, .bool false, .int .i64 0, .slice (some ⟨wr.heap.size + 1, 0, none⟩) K K] : List Value), ∀ b, Refs u b → wr.heap.size ≤ b := fun u hu b hr => by
    simp only [List.mem_cons, List.not_mem_nil, or_false] at hu
    rcases hu with rfl | rfl | rfl | rfl | rfl
    · rw [refs_atT hr]; exact Nat.le_refl _
    · exact (refs_int hr).elim
    · exact (refs_bool hr).elim
    · exact (refs_int hr).elim
    · rw [refs_atT hr]; omega
  have hsz := h.2.size
  refine ⟨by rw [← hw3]; exact H3.1, hone, fun u hu b hr e => ?_, fun u hu b hr => ?_, by rw [← hw3]; exact H3.2.size, fun w9 v9 hg hr9 => ⟨hr9, ?_⟩⟩
  · have := hgt u hu b hr
    have := (h.1.own_lt e).2
    omega
  · have := hgt u hu b hr
    omega
  · rw [← hw3] at hg
    exact Below.grown H3.2 hg H3.2.size fun k e => (h.1.own_lt e).1
theorem rs_okM {w : World} {ao : Option Addr} {len cap : Nat} {l : List EntV} (h : RS entE w ao len cap l) : ∀ e ∈ l, OkE e := fun e he => by
  obtain ⟨i, hi, rfl⟩ := List.getElem_of_mem he
  obtain ⟨b, off, ka, kc, va, vc, _, _, _, _, _, _, sk, sv, _, _⟩ := RS.ent h (List.getElem?_eq_getElem hi)
  exact ⟨sk.2.1, sv.2.1⟩
def kMn (p12 sv v1 v2 tp kv : Value) (pj : Value) (k J M : Nat) : List Rl :=
  [vl (.bool true), vl (.bool true), vl v1, vl sv, vl (.int .i64 (k : Int)), vl (.int .i64 (J : Int)), vl pj, vl v2, vl (.bool true), vl (.bool true), vl (.bool true),
   vl tp, vl kv, (fun _ v => ∃ a c, v = .slice a M c), vl (.int .i64 (M : Int)), vl (.int .i64 (k : Int)), vl (.int .i64 (k : Int)), vl (.int .i64 (J : Int)), vl (.int .i64 (M : Int)), vl (.bool true), vl (.bool true), vl (.bool true),
   vl (.bool true), vl (.bool true), vl (.bool true)]
theorem kMn_stays (p12 sv v1 v2 tp kv : Value) (pj : Value) (k J M : Nat) : ∀ r ∈ kMn p12 sv v1 v2 tp kv pj k J M, StaysR r := by
  intro r hr
  unfold kMn at hr
  simp only [List.mem_cons, List.not_mem_nil, or_false] at hr
  rcases hr with rfl | hr
  · exact stays_vl _
  repeat (first | (rcases hr with rfl | hr; first | exact stays_vl _ | exact fun _ _ _ h _ => h) | (subst hr; first | exact stays_vl _ | exact fun _ _ _ h _ => h))
theorem wrJ1 {J : Nat} (h : J ≤ 2 ^ 60) : IntKind.i64.wrap (J : Int) = (J : Int) := by rw [IntKind.wrap_i64]; omega
theorem wrJ2 {J : Nat} (h : J ≤ 2 ^ 60) : wrap64 (J : Int) = (J : Int) := by unfold wrap64; omega
theorem wrJ3 {J k : Nat} (h : J < k) : ¬ ((k : Int) ≤ (J : Int)) := by omega
theorem elemEnM : Try.prog.elem 22 = 34 := by kernel_rfl
set_option maxHeartbeats 4000000 in
set_option maxRecDepth 100000 in
theorem many12_any (D : PT) {w : World} {x0 x1 : Int} :
    Calls Try.prog 6 #[.int .i64 x0, .int .i64 x1] w fun e w' => e = .returned (.bool true) ∧ Below w.heap.size w w' := by
  obtain ⟨T0, N, g0, g0', hN, hw0⟩ := rem_inT x0 4010 (by decide) (by decide)
  obtain ⟨T1, K, g1, g1', hK, hw1⟩ := rem_inT x1 30 (by decide) (by decide)
  rw [show ((4010 : Nat) : Int) = 4010 from rfl] at g0 g0' hw0
  rw [show ((30 : Nat) : Int) = 30 from rfl] at g1 g1' hw1
  have H0 : Hid (MnT w w (.slice none 0 0) (rowT K 0)) := ⟨RowF.nil _ _ _, Below.refl _ _⟩
  have HH : Hid (N < 4010 ∧ K < 30) := ⟨hN, hK⟩
  have HAW : Hid (∀ wx, Calls Try.prog 8 #[] wx fun e w' => e = .returned (.bool true) ∧ Below wx.heap.size wx w') := fun wx => awake12_any D wx
  have hN62 : N ≤ 2 ^ 60 := by omega
  have hK62 : K ≤ 2 ^ 60 := by omega
  clear hN hK
  go_enter Try.func6, Try.ntmps6
  go_upto_region 2 with fail
  clear g0 g0' g1 g1' hw0 hw1
  go_wp2_with fail
  go_loopg [5, 6, 23] N (fun g v _ i wr => ∃ k : Nat, k + g = N ∧ i = .int .i64 (k : Int) ∧ Hid (MnT w wr v (rowT K k)))
  case atStart => exact ⟨0, by omega, rfl, H0⟩
  case round =>
    obtain ⟨k, hk, rfl, HK⟩ := hrel
    obtain ⟨v1, v3, hv, rs0⟩ := HK.out.1.s.rs
    rw [rowT_len] at hv rs0
    subst hv
    by_cases hkl : k < N
    · have hkl' : (k : Int) < (N : Int) := by omega
      have hk62 : k ≤ 2 ^ 60 := by omega
      have hmk := run_make_row' (P := Try.prog) 25 5 (.int .u8 0) 1 Try.underlying25 Try.info5 rfl .i64 .i64 K (by have := HH.out; omega) (by have := HH.out; omega)
      have HRD := hid (MnT.ready HK.out ((k : Int) / 256 % 256) ((k : Int) % 256) ((k : Int) + 1) K ⟨by omega, by omega⟩ ⟨by omega, by omega⟩ (by have := HH.out; omega) ⟨by omega, by omega⟩)
      have HMK : Hid ((⟨[(k : Int) / 256 % 256, (k : Int) % 256], (k : Int) + 1, false, 0, List.replicate K 0⟩ : EntV) = mkT K k) := by
        show _ = _
        unfold mkT kyT
        rw [show ((k / 256 % 256 : Nat) : Int) = (k : Int) / 256 % 256 by omega, show ((k % 256 : Nat) : Int) = (k : Int) % 256 by omega]
      have hwn : wrap64 ((k : Int) + 1) = (k : Int) + 1 := by unfold wrap64; omega
      obtain ⟨GK, HG⟩ : ∃ g, Hid (g < gk ∧ k + 1 + g = N) := ⟨gk - 1, by omega, by omega⟩
      have HKN : Hid (k < 4010) := (by have := HH.out; show k < 4010; omega)
      clear hk rs0
      go_wp2_with (at_builtin; refine wpList_appF entE (t := 22) (z := .agg #[.slice none 0 0, .int .i64 0, .bool false, .int .i64 0, .slice none 0 0]) (bytes := 72) (B := w.heap.size) Try.underlying22 entE_info rfl (by decide) rfl (.tmp 26) (.tmp 38) rfl rfl HRD.out.1 rfl HRD.out.2.1 HRD.out.2.2.1 HRD.out.2.2.2.1 (by rw [rowT_len]; have := HKN.out; omega) (by rw [rowT_len]; have := HKN.out; omega) HRD.out.2.2.2.2.1 ?_; intro v9 w9 r9 g9 m9)
      have M9 := HRD.out.2.2.2.2.2 w9 v9 g9 r9
      rw [HMK.out, ← rowT_succ] at M9
      have HM9 := hid M9
      clear M9 r9 g9 m9 HRD
      go_roundg GK
      case measure => exact HG.out.1
      case rel => exact ⟨k + 1, HG.out.2, by go_num, HM9.out⟩
    · have hkl' : ¬ ((k : Int) < (N : Int)) := by omega
      obtain rfl : k = N := by omega
      have HB := hid HK.out.2
      have HRS := hid rs0
      have hE := D.build rs0 (by have := HH.out; omega) (fun e he => by have := mayE_ok (rowT_may (by have := HH.out; omega) (by have := HH.out; omega) e he); omega)
      have htb := rowT_tbl (k := K) (m := k) HH.out.2 HH.out.1
      by_cases q : k = 0 ∨ 4000 < k
      · rw [if_pos q] at htb
        have hX : tblX (rowT K k) = [] := by unfold tblX; rw [if_neg (by omega)]
        rw [htb, hX] at hE
        clear htb hX rs0 hk hkl HK H0
        by_cases q1 : k = 0
        · subst q1
          clear q
          go_wp2_with (first | (go_at_call 9; refine hE.mono ?_; rintro e w2 ⟨v2, rfl, ⟨a2, c2, rfl, -⟩, b2⟩) | (go_at_call 8; refine (HAW.out _).mono ?_; rintro e w3 ⟨rfl, b3⟩))
          have B2 := HB.out.trans (b2.mono HB.out.size)
          exact bodyPost_ret (v := .bool true) (by simp [results, Try.results6, go_sem]) rfl ⟨rfl, B2.trans (b3.mono B2.size)⟩
        · have q1' : ((k : Int) == 0) = false := by simp; omega
          have q2' : decide ((4000 : Int) < (k : Int)) = true := by simp; omega
          clear q q1
          go_wp2_with (first | (go_at_call 9; refine hE.mono ?_; rintro e w2 ⟨v2, rfl, ⟨a2, c2, rfl, -⟩, b2⟩) | (go_at_call 8; refine (HAW.out _).mono ?_; rintro e w3 ⟨rfl, b3⟩))
          have B2 := HB.out.trans (b2.mono HB.out.size)
          exact bodyPost_ret (v := .bool true) (by simp [results, Try.results6, go_sem]) rfl ⟨rfl, B2.trans (b3.mono B2.size)⟩
      · rw [if_neg q] at htb
        have hX : tblX (rowT K k) = tblB (rowT K k) := by unfold tblX; rw [if_pos htb]
        have ho := opT_of_tbl htb (rs_okM rs0)
        have hbig := (tblE_ok htb).2.2.2.2
        rw [htb, hX] at hE
        obtain ⟨J, hJ⟩ : ∃ J, J = k / 2 := ⟨_, rfl⟩
        have hJk : J < k := by omega
        have hgt : getE (rowT K k) (mkT K J).key 1099511627776 = some (mkT K J) := rowT_get (by have := HH.out; omega) hJk (by have := HH.out; omega)
        have hls : (listE (rowT K k) (mkT K J).key []).length = k - J := rowT_list (by have := HH.out; omega) (by have := HH.out; omega)
        obtain ⟨b, off, ka, kc, va, vc, rfl, e0, e1, e2, e3, e4, sk, sv, -, -⟩ := RS.ent rs0 (rowT_at hJk)
        have hln := rowT_len K k
        generalize tblB (rowT K k) = X at hE ho hbig
        generalize rowT K k = L at ho hgt hls HRS hln
        generalize mkT K J = o at hgt hls e0 e1 e2 e3 e4 sk sv
        obtain ⟨LN, hLN⟩ : ∃ n, n = X.length := ⟨_, rfl⟩
        have HLN := hid hLN
        rw [← hLN] at hbig
        have HO1 : Hid (∀ {wx : World} {a : Option Addr} {c : Nat}, Sl wx a LN c X → Calls Try.prog 12 #[.slice a LN c] wx fun e w' => ∃ p, e = .returned (.tuple #[.pointer (some ⟨p, 0, none⟩), .int .i64 0]) ∧ D.R w' p L ∧ Below wx.heap.size wx w') := fun {wx a c} hs => (D.opn hs (by omega)).mono fun e w' ⟨v, E, he, h1, h2, h3, h4⟩ => by
          rw [ho] at h1 h3
          have hE := h1.2 rfl
          obtain ⟨p, hv, hR⟩ := h3 hE
          exact ⟨p, by rw [he, hE, hv]; rfl, hR, h4⟩
        have HLE : Hid (∀ {wx : World} {p : Nat}, D.R wx p L → Calls Try.prog 16 #[.pointer (some ⟨p, 0, none⟩)] wx fun r w' => r = .returned (.int .i64 (k : Int)) ∧ Below wx.heap.size wx w') := fun {wx p} hR => (D.len hR).mono fun r w' ⟨hr, hb⟩ => ⟨by rw [hr, hln], hb⟩
        have HGE : Hid (∀ {wx : World} {p : Nat}, D.R wx p L → Below wr.heap.size wr wx → Calls Try.prog 13 #[.pointer (some ⟨p, 0, none⟩), .slice ka o.key.length kc, .int .i64 1099511627776] wx fun r w' => ∃ ka' kc' va' vc', r = .returned (.tuple #[.agg #[.slice ka' o.key.length kc', .int .i64 o.seq, .bool o.gone, .int .i64 o.till, .slice va' o.val.length vc'], .bool true]) ∧ Sl w' ka' o.key.length kc' o.key ∧ Sl w' va' o.val.length vc' o.val ∧ Below wx.heap.size wx w') := fun {wx p} hR hb => (D.get hR (sk.later hb) (s := 1099511627776) ⟨by decide, by decide⟩).mono fun r w' ⟨⟨BB, hg⟩, hb'⟩ => by
          rw [hgt] at hg
          rcases hg with ⟨h1, _⟩ | ⟨x, ka', kc', va', vc', h1, h2, h3, _⟩
          · cases h1
          · cases h1
            obtain ⟨k1, k2, k3, k4, h5, s1, s2, _, _⟩ := h3
            unfold entL at h5
            simp only [List.cons.injEq, Value.slice.injEq, true_and, and_true] at h5
            obtain ⟨⟨rfl, rfl⟩, rfl, rfl⟩ := h5
            exact ⟨_, _, _, _, h2, s1, s2, hb'⟩
        have HLI : Hid (∀ {wx : World} {p : Nat}, D.R wx p L → Below wr.heap.size wr wx → Calls Try.prog 21 #[.pointer (some ⟨p, 0, none⟩), .slice ka o.key.length kc, .slice none 0 0] wx fun r w' => ∃ a c, r = .returned (.slice a (k - J) c) ∧ Below wx.heap.size wx w') := fun {wx p} hR hb => (D.list hR (sk.later hb) (Sl.nil _)).mono fun r w' ⟨v, hr, ⟨a, c, hv, _⟩, hb'⟩ => by
          rw [hls] at hv
          exact ⟨a, c, by rw [hr, hv], hb'⟩
        have HCE : Hid (∀ wx, Below wr.heap.size wr wx → wx.cell? ⟨b, off + J * 5, none⟩ = some (.slice ka o.key.length kc) ∧ wx.cell? ⟨b, off + J * 5 + 1, none⟩ = some (.int .i64 o.seq) ∧ wx.cell? ⟨b, off + J * 5 + 2, none⟩ = some (.bool o.gone) ∧ wx.cell? ⟨b, off + J * 5 + 3, none⟩ = some (.int .i64 o.till) ∧ wx.cell? ⟨b, off + J * 5 + 4, none⟩ = some (.slice va o.val.length vc)) := fun wx hb => ⟨cell_later hb e0, cell_later hb e1, cell_later hb e2, cell_later hb e3, cell_later hb e4⟩
        have HSK := hid (And.intro sk sv)
        have q1 : ((k : Int) == 0) = false := by simp; omega
        have q2 : decide ((4000 : Int) < (k : Int)) = false := by simp; omega
        have q3 : ((k : Int) != (k : Int)) = false := by simp
        have q4 : Int.tdiv (k : Int) 2 = (J : Int) := by rw [Int.tdiv_eq_ediv_of_nonneg (by omega)]; omega
        have q5 : wrap64 ((k : Int) - (J : Int)) = ((k - J : Nat) : Int) := by unfold wrap64; omega
        have q6 : (((k - J : Nat) : Int) == ((k - J : Nat) : Int)) = true := by simp
        have q7 : (J : Int) < (k : Int) := by omega
        have hJ62 : J ≤ 2 ^ 60 := by omega
        have HQ9 : Hid (IntKind.i64.wrap (J : Int) = (J : Int) ∧ wrap64 (J : Int) = (J : Int) ∧ 0 ≤ (J : Int) ∧ ¬ ((k : Int) ≤ (J : Int)) ∧ J < k ∧ ¬ (k ≤ J)) := ⟨wrJ1 hJ62, wrJ2 hJ62, Int.natCast_nonneg J, wrJ3 hJk, hJk, Nat.not_le.2 hJk⟩
        have hM62 : k - J ≤ 2 ^ 60 := by omega
        have q5i : IntKind.i64.wrap ((k : Int) - (J : Int)) = ((k - J : Nat) : Int) := by rw [IntKind.wrap_i64]; omega
        have q4i : IntKind.i64.wrap (Int.tdiv (k : Int) 2) = (J : Int) := by rw [q4, IntKind.wrap_i64]; omega
        have q4w : wrap64 (Int.tdiv (k : Int) 2) = (J : Int) := by rw [q4]; unfold wrap64; omega
        generalize k - J = M at HLI q5 q6 hM62 q5i
        clear htb hX rs0 hk hkl HK H0 hgt hls e0 e1 e2 e3 e4 sk sv hLN hbig ho hln hJ hJk q
        go_wp2_with fail
        refine hE.mono ?_
        rintro e w2 ⟨v2, rfl, ⟨a2, c2, hv2, s2⟩, b2⟩
        rw [← HLN.out] at hv2 s2
        subst hv2
        have hO := HO1.out s2
        clear hE s2 HO1
        go_upto_region 12 with (go_at_call 12; refine hO.mono ?_; rintro e w3 ⟨p, rfl, R3, b3⟩)
        have hL := HLE.out R3
        have HR3 := hid R3
        have HB3 := hid (b2.trans (b3.mono b2.size))
        clear b2 b3 R3 hO HLE
        go_upto_region 14 with (go_at_call 16; refine hL.mono ?_; rintro e w4 ⟨rfl, b4⟩)
        have HB4 := hid (HB3.out.trans (b4.mono HB3.out.size))
        have hG := HGE.out (D.later HR3.out b4) HB4.out
        have HR4 := hid (D.later HR3.out b4)
        obtain ⟨d0, d1, d2, d3, d4⟩ := HCE.out _ HB4.out
        clear b4 hL HR3 HB3 HGE
        go_upto_region 16 with (go_at_call 13; refine hG.mono ?_; rintro e w5 ⟨ka', kc', va', vc', rfl, s5, s5', b5⟩)
        obtain ⟨W6, hW6⟩ : ∃ x, x = w5.alloc (.cells #[.slice ka' o.key.length kc', .int .i64 o.seq, .bool o.gone, .int .i64 o.till, .slice va' o.val.length vc'] 34) := ⟨_, rfl⟩
        have b6 : Below w5.heap.size w5 W6 := by rw [hW6]; exact (Below.refl _ _).alloc (Nat.le_refl _) _
        have HBX : Hid (∀ wx, Below W6.heap.size W6 wx → _) := fun wx hb => box_cells w5 (.slice ka' o.key.length kc') (.int .i64 o.seq) (.bool o.gone) (.int .i64 o.till) (.slice va' o.val.length vc') 34 (wx := wx) (by rw [← hW6]; exact hb)
        rw [← hW6]
        have HB46 : Hid (Below w4.heap.size w4 W6) := b5.trans (b6.mono b5.size)
        have HB6 : Hid (∀ wx, Below W6.heap.size W6 wx → Below wr.heap.size wr wx) := fun wx hb => (HB4.out.trans (HB46.out.mono HB4.out.size)).trans (hb.mono (HB4.out.trans (HB46.out.mono HB4.out.size)).size)
        have HSE : Hid (∀ wx, Below W6.heap.size W6 wx → Calls Try.prog 19 #[.agg #[.slice ka' o.key.length kc', .int .i64 o.seq, .bool o.gone, .int .i64 o.till, .slice va' o.val.length vc'], .agg #[.slice ka o.key.length kc, .int .i64 o.seq, .bool o.gone, .int .i64 o.till, .slice va o.val.length vc]] wx fun r w' => r = .returned (.bool true) ∧ Below wx.heap.size wx w') := fun wx hb => rsameE1_eq ((s5.later b6).later hb) ((s5'.later b6).later hb) (HSK.out.1.later (HB6.out _ hb)) (HSK.out.2.later (HB6.out _ hb))
        have HLI' : Hid (∀ wx, Below W6.heap.size W6 wx → Calls Try.prog 21 #[.pointer (some ⟨p, 0, none⟩), .slice ka o.key.length kc, .slice none 0 0] wx fun r w' => ∃ v, r = .returned v ∧ (∃ a c, v = .slice a M c) ∧ Below wx.heap.size wx w') := fun wx hb => (HLI.out (D.later HR4.out (HB46.out.trans (hb.mono HB46.out.size))) (HB6.out _ hb)).mono fun r w' ⟨a, c, hr, hb'⟩ => ⟨_, hr, ⟨a, c, rfl⟩, hb'⟩
        have HFIN : Hid (∀ wx, Below W6.heap.size W6 wx → Below w.heap.size w wx) := fun wx hb => HB.out.trans ((HB6.out _ hb).mono HB.out.size)
        have HC : Hid (∀ wx, Below W6.heap.size W6 wx → (wx.cell? ⟨w5.heap.size, 0, none⟩ = some (.slice ka' o.key.length kc') ∧ wx.cell? ⟨w5.heap.size, 1, none⟩ = some (.int .i64 o.seq) ∧ wx.cell? ⟨w5.heap.size, 2, none⟩ = some (.bool o.gone) ∧ wx.cell? ⟨w5.heap.size, 3, none⟩ = some (.int .i64 o.till) ∧ wx.cell? ⟨w5.heap.size, 4, none⟩ = some (.slice va' o.val.length vc')) ∧ (wx.cell? ⟨b, off + J * 5, none⟩ = some (.slice ka o.key.length kc) ∧ wx.cell? ⟨b, off + J * 5 + 1, none⟩ = some (.int .i64 o.seq) ∧ wx.cell? ⟨b, off + J * 5 + 2, none⟩ = some (.bool o.gone) ∧ wx.cell? ⟨b, off + J * 5 + 3, none⟩ = some (.int .i64 o.till) ∧ wx.cell? ⟨b, off + J * 5 + 4, none⟩ = some (.slice va o.val.length vc))) := fun wx hb => ⟨HBX.out wx hb, HCE.out _ (HB6.out _ hb)⟩
        have HBD : Hid (Below W6.heap.size W6 W6.drew) := (Below.refl _ W6).drew
        have HC0 := HC.out _ (Below.refl _ W6)
        clear d0 d1 d2 d3 d4 s5 s5' b5 b6 hW6 hG HBX
        generalize o.key.length = kl at HSE HLI' HC HC0
        generalize o.val.length = vn at HSE HC HC0
        generalize o.seq = sq at HSE HC HC0
        generalize o.gone = gn at HSE HC HC0
        generalize o.till = tl at HSE HC HC0
        obtain ⟨⟨y0, y1, y2, y3, y4⟩, ⟨z0, z1, z2, z3, z4⟩⟩ := HC0
        obtain ⟨q4j, q4k, q12, q13, q14, q15⟩ := HQ9.out
        refine wp_region_rel (by kernel_rfl) (by decide +kernel) 115 rfl (by decide +kernel) (kMn undef (.slice (some ⟨b, off, none⟩) k v3) (.agg #[.slice ka' kl kc', .int .i64 sq, .bool gn, .int .i64 tl, .slice va' vn vc']) (.agg #[.slice ka kl kc, .int .i64 sq, .bool gn, .int .i64 tl, .slice va vn vc]) (.pointer (some ⟨p, 0, none⟩)) (.slice ka kl kc) (.pointer (some ⟨b, off + J * 5, none⟩)) k J M) (fun r hr => kMn_stays _ _ _ _ _ _ _ _ _ _ r hr) ?_ ?_
        rotate_left
        · intro a w' hd' hbel hv
          rename_i hk
          refine hk a w' ?_
          have h4 : a.eval (.tmp 4) = .bool true := hv 24 _ (by decide) rfl
          have h4' : a.tmps[4]?.getD undef = .bool true := by simpa [Act.eval] using h4
          go_wp2
          exact bodyPost_ret (v := .bool true) (by simp [results, Try.results6, go_sem, h4']) hd' ⟨rfl, HFIN.out _ hbel⟩
        -- 0: slot 91
        refine ⟨fun a w c => ?_, ?_⟩
        · exact goalR_move (c.want0 rfl) (.tmp 13) (.inl rfl) ((c.old 13 rfl).trans rfl) rfl
        -- 1: slot 92
        refine ⟨fun a w c => ?_, ?_⟩
        · exact goalR_move (c.want0 rfl) (.tmp 91) (.inl rfl) (c.val 0 _ rfl rfl) rfl
        -- 2: slot 93
        refine ⟨fun a w c => ?_, ?_⟩
        · have hw := c.want 1 true rfl rfl rfl
          obtain ⟨⟨y0, y1, y2, y3, y4⟩, -⟩ := HC.out w c.below
          have e12 : a.eval (.tmp 12) = _ := (c.old 12 rfl).trans rfl
          exact goalR_val hw (by have ec : ∀ v, a.eval (.const v) = v := fun _ => rfl; generalize a.eval = ρ at ec e12 ⊢; simp [execOp, go_sem, ec, e12, y0, y1, y2, y3, y4]) rfl
        -- 3: slot 94
        refine ⟨fun a w c => ?_, ?_⟩
        · exact goalR_move (c.want 1 true rfl rfl rfl) (.tmp 5) (.inl rfl) ((c.old 5 rfl).trans rfl) rfl
        -- 4: slot 95
        refine ⟨fun a w c => ?_, ?_⟩
        · exact goalR_move (c.want 1 true rfl rfl rfl) (.tmp 0) (.inl rfl) ((c.old 0 rfl).trans rfl) rfl
        -- 5: slot 96
        refine ⟨fun a w c => ?_, ?_⟩
        · have hw := c.want 1 true rfl rfl rfl
          have e95 : a.eval (.tmp 95) = _ := c.val 4 _ rfl rfl
          exact goalR_val hw (by have ec : ∀ v, a.eval (.const v) = v := fun _ => rfl; generalize a.eval = ρ at ec e95 ⊢; simp [execOp, go_sem, ec, e95, q4, q4i, q4w, q4j, q4k]) rfl
        -- 6: slot 97
        refine ⟨fun a w c => ?_, ?_⟩
        · have hw := c.want 1 true rfl rfl rfl
          have e94 : a.eval (.tmp 94) = _ := c.val 3 _ rfl rfl
          have e96 : a.eval (.tmp 96) = _ := c.val 5 _ rfl rfl
          exact goalR_val hw (by have ec : ∀ v, a.eval (.const v) = v := fun _ => rfl; generalize a.eval = ρ at ec e94 e96 ⊢; simp [execOp, go_sem, ec, e94, e96, elemEnM, Try.sizeOf34, q4j, q4k, q12, q13, q14, q15, q7]) rfl
        -- 7: slot 98
        refine ⟨fun a w c => ?_, ?_⟩
        · have hw := c.want 1 true rfl rfl rfl
          obtain ⟨-, y0, y1, y2, y3, y4⟩ := HC.out w c.below
          have e97 : a.eval (.tmp 97) = _ := c.val 6 _ rfl rfl
          exact goalR_val hw (by have ec : ∀ v, a.eval (.const v) = v := fun _ => rfl; generalize a.eval = ρ at ec e97 ⊢; simp [execOp, go_sem, ec, e97, y0, y1, y2, y3, y4]) rfl
        -- 8: slot 99
        refine ⟨fun a w c => ?_, ?_⟩
        · have hw := c.want 1 true rfl rfl rfl
          have e93 : a.eval (.tmp 93) = _ := c.val 2 _ rfl rfl
          have e98 : a.eval (.tmp 98) = _ := c.val 7 _ rfl rfl
          exact goalR_fn hw rfl (by simp only [List.map_toArray, List.map_cons, List.map_nil, e93, e98]) (by kernel_rfl) ((HSE.out w c.below).mono fun e w' ⟨he, hb⟩ => ⟨_, he, outR_val rfl hb⟩)
        -- 9: slot 100
        refine ⟨fun a w c => ?_, ?_⟩
        · have e92 : a.eval (.tmp 92) = _ := c.val 1 _ rfl rfl
          have e99 : a.eval (.tmp 99) = _ := c.val 8 _ rfl rfl
          exact goalR_val (c.want0 rfl) (by have ec : ∀ v, a.eval (.const v) = v := fun _ => rfl; generalize a.eval = ρ at ec e92 e99 ⊢; simp [execOp, go_sem, ec, e92, e99]) rfl
        -- 10: slot 101
        refine ⟨fun a w c => ?_, ?_⟩
        · exact goalR_move (c.want0 rfl) (.tmp 100) (.inl rfl) (c.val 9 _ rfl rfl) rfl
        -- 11: slot 102
        refine ⟨fun a w c => ?_, ?_⟩
        · exact goalR_move (c.want 10 true rfl rfl rfl) (.tmp 9) (.inl rfl) ((c.old 9 rfl).trans rfl) rfl
        -- 12: slot 103
        refine ⟨fun a w c => ?_, ?_⟩
        · exact goalR_move (c.want 10 true rfl rfl rfl) (.tmp 11) (.inl rfl) ((c.old 11 rfl).trans rfl) rfl
        -- 13: slot 104
        refine ⟨fun a w c => ?_, ?_⟩
        · have hw := c.want 10 true rfl rfl rfl
          have e102 : a.eval (.tmp 102) = _ := c.val 11 _ rfl rfl
          have e103 : a.eval (.tmp 103) = _ := c.val 12 _ rfl rfl
          have ec : ∀ v, a.eval (.const v) = v := fun _ => rfl
          exact goalR_fn hw rfl (by simp only [List.map_toArray, List.map_cons, List.map_nil, e102, e103, ec]) (by kernel_rfl) ((HLI'.out w c.below).mono fun e w' ⟨v, he, hr, hb⟩ => ⟨v, he, outR_rel rfl hr hb⟩)
        -- 14: slot 105
        refine ⟨fun a w c => ?_, ?_⟩
        · have hw := c.want 10 true rfl rfl rfl
          obtain ⟨a', c', e104⟩ := c.rel 13 _ rfl rfl
          replace e104 : a.eval (.tmp 104) = _ := e104
          exact goalR_val hw (by have ec : ∀ v, a.eval (.const v) = v := fun _ => rfl; generalize a.eval = ρ at ec e104 ⊢; simp [execOp, go_sem, ec, e104]) rfl
        -- 15: slot 106
        refine ⟨fun a w c => ?_, ?_⟩
        · exact goalR_move (c.want 10 true rfl rfl rfl) (.tmp 0) (.inl rfl) ((c.old 0 rfl).trans rfl) rfl
        -- 16: slot 107
        refine ⟨fun a w c => ?_, ?_⟩
        · exact goalR_move (c.want 10 true rfl rfl rfl) (.tmp 0) (.inl rfl) ((c.old 0 rfl).trans rfl) rfl
        -- 17: slot 108
        refine ⟨fun a w c => ?_, ?_⟩
        · have hw := c.want 10 true rfl rfl rfl
          have e107 : a.eval (.tmp 107) = _ := c.val 16 _ rfl rfl
          exact goalR_val hw (by have ec : ∀ v, a.eval (.const v) = v := fun _ => rfl; generalize a.eval = ρ at ec e107 ⊢; simp [execOp, go_sem, ec, e107, q4, q4i, q4w, q4j, q4k]) rfl
        -- 18: slot 109
        refine ⟨fun a w c => ?_, ?_⟩
        · have hw := c.want 10 true rfl rfl rfl
          have e106 : a.eval (.tmp 106) = _ := c.val 15 _ rfl rfl
          have e108 : a.eval (.tmp 108) = _ := c.val 17 _ rfl rfl
          exact goalR_val hw (by have ec : ∀ v, a.eval (.const v) = v := fun _ => rfl; generalize a.eval = ρ at ec e106 e108 ⊢; simp [execOp, go_sem, ec, e106, e108, q5, q5i]) rfl
        -- 19: slot 110
        refine ⟨fun a w c => ?_, ?_⟩
        · have e105 : a.eval (.tmp 105) = _ := c.val 14 _ rfl rfl
          have e109 : a.eval (.tmp 109) = _ := c.val 18 _ rfl rfl
          exact goalR_val (c.want 10 true rfl rfl rfl) (by have ec : ∀ v, a.eval (.const v) = v := fun _ => rfl; generalize a.eval = ρ at ec e105 e109 ⊢; simp [execOp, go_sem, ec, e105, e109]) rfl
        -- 20: slot 111
        refine ⟨fun a w c => ?_, ?_⟩
        · have e101 : a.eval (.tmp 101) = _ := c.val 10 _ rfl rfl
          have e110 : a.eval (.tmp 110) = _ := c.val 19 _ rfl rfl
          exact goalR_val (c.want0 rfl) (by have ec : ∀ v, a.eval (.const v) = v := fun _ => rfl; generalize a.eval = ρ at ec e101 e110 ⊢; simp [execOp, go_sem, ec, e101, e110]) rfl
        -- 21: slot 112
        refine ⟨fun a w c => ?_, ?_⟩
        · exact goalR_move (c.want0 rfl) (.tmp 111) (.inl rfl) (c.val 20 _ rfl rfl) rfl
        -- 22: slot 113
        refine ⟨fun a w c => ?_, ?_⟩
        · have hw := c.want 21 true rfl rfl rfl
          exact goalR_fn hw rfl (by simp) (by kernel_rfl) ((HAW.out w).mono fun e w' ⟨he, hb⟩ => ⟨_, he, outR_val rfl hb⟩)
        -- 23: slot 114
        refine ⟨fun a w c => ?_, ?_⟩
        · have e112 : a.eval (.tmp 112) = _ := c.val 21 _ rfl rfl
          have e113 : a.eval (.tmp 113) = _ := c.val 22 _ rfl rfl
          exact goalR_val (c.want0 rfl) (by have ec : ∀ v, a.eval (.const v) = v := fun _ => rfl; generalize a.eval = ρ at ec e112 e113 ⊢; simp [execOp, go_sem, ec, e112, e113]) rfl
        -- 24: slot 4
        refine ⟨fun a w c => ?_, ?_⟩
        · exact goalR_move (c.want0 rfl) (.tmp 114) (.inr rfl) (c.val 23 _ rfl rfl) rfl
        exact True.intro
end Go.Proofs.Ytimpaindbbjieaa
