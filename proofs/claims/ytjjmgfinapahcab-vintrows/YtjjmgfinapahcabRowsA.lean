/- A row of numbers and bytes: what is written of each, one behind the other, and read again. -/
import Derived.Test.YtjjmgfinapahcabBackA
namespace Go.Proofs.Ytjjmgfinapahcab
open Go.RowKit
set_option linter.unusedVariables false

/-- What is written of the first i. -/
def encI (I : Nat → List Int) : Nat → List Int
  | 0 => []
  | i + 1 => encI I i ++ I i
/-- What is written of the n from i on. -/
def restI (I : Nat → List Int) : Nat → Nat → List Int
  | 0, _ => []
  | n + 1, i => I i ++ restI I n (i + 1)
theorem enc_rest (I : Nat → List Int) : ∀ n i, encI I i ++ restI I n i = encI I (i + n)
  | 0, i => by simp [restI]
  | n + 1, i => by
    have h := enc_rest I n (i + 1)
    rw [show i + (n + 1) = i + 1 + n by omega, ← h]
    simp [restI, encI]
theorem rest_all (I : Nat → List Int) (n : Nat) : restI I n 0 = encI I n := by
  have := enc_rest I n 0
  simpa [encI] using this
/-- The k-th item: a number, and bytes if there are some. -/
def itemI (L : Nat → Nat) (sl : Nat) (LN : Nat → Nat) (S : Nat → Nat → Nat) (k : Nat) : List Int := uv (L k) ++ (if k < sl then uv (LN k) ++ bs (S k) (LN k) else [])

/-- A slice of bytes: its shape and what it holds. -/
def Sl (w : World) (ao : Option Addr) (len cap : Nat) (xs : List Int) : Prop :=
  xs.length = len ∧ Okb xs ∧ (ao = none → len = 0 ∧ cap = 0) ∧ len ≤ cap ∧ cap ≤ maxLen ∧ Byt w ao len (xof xs)
theorem Sl.later {w w' : World} {ao : Option Addr} {len cap : Nat} {xs : List Int} (h : Sl w ao len cap xs) (hb : Below w.heap.size w w') : Sl w' ao len cap xs :=
  ⟨h.1, h.2.1, h.2.2.1, h.2.2.2.1, h.2.2.2.2.1, h.2.2.2.2.2.later hb⟩
theorem Sl.nil (w : World) : Sl w none 0 0 [] := ⟨rfl, (fun x hx => by cases hx), fun _ => ⟨rfl, rfl⟩, Nat.le_refl _, Nat.zero_le _, fun k hk => by cases hk⟩
theorem Sl.ofRow {B : Nat} {w : World} {v : Value} {xs : List Int} (h : Row B w v xs) (hok : Okb xs) : ∃ ao len cap, v = .slice ao len cap ∧ Sl w ao len cap xs := by
  obtain ⟨ao, cap, rfl, q1, q2, q3, q4⟩ := h.byt hok
  exact ⟨ao, _, cap, rfl, rfl, hok, q1, q2, q3, q4⟩

theorem put_sl {w : World} {ao : Option Addr} {len cap n : Nat} {xs : List Int} (h : Sl w ao len cap xs) (hl : len ≤ 140737488351232) (hn : n < 18446744073709551616) :
    Calls Try.prog 6 #[.slice ao len cap, .int .u64 (n : Int)] w fun e w' => ∃ ao' len' cap', e = .returned (.slice ao' len' cap') ∧ Sl w' ao' len' cap' (xs ++ uv n) ∧ Below w.heap.size w w' := by
  obtain ⟨h1, h2, h3, h4, h5, h6⟩ := h
  refine (put_any ao len cap n _ w h6 h3 hl hn).mono fun e w' ⟨v, he, hr, hb⟩ => ?_
  rw [← h1, bs_xof h2] at hr
  obtain ⟨ao', len', cap', rfl, hs⟩ := Sl.ofRow hr (h2.app (okb_uv n))
  exact ⟨ao', len', cap', he, hs, hb⟩
theorem pb_sl {w : World} {ao so : Option Addr} {len cap ls cs : Nat} {S : Nat → Nat} {xs : List Int} (h : Sl w ao len cap xs) (hs : Byt w so ls S) (hnil : so = none → ls = 0 ∧ cs = 0) (hl : len + ls ≤ 140737488351232) :
    Calls Try.prog 7 #[.slice ao len cap, .slice so ls cs] w fun e w' => ∃ ao' len' cap', e = .returned (.slice ao' len' cap') ∧ Sl w' ao' len' cap' (xs ++ uv ls ++ bs S ls) ∧ Below w.heap.size w w' := by
  obtain ⟨h1, h2, h3, h4, h5, h6⟩ := h
  refine (pby_any ao so len cap ls cs _ S w h6 h3 hs hnil hl).mono fun e w' ⟨v, he, hr, hb⟩ => ?_
  rw [show bs (xof xs) len = xs by rw [← h1]; exact bs_xof h2] at hr
  obtain ⟨ao', len', cap', rfl, hs⟩ := Sl.ofRow hr ((h2.app (okb_uv ls)).app (okb_bs hs))
  exact ⟨ao', len', cap', he, hs, hb⟩
theorem take_sl {w : World} {ao : Option Addr} {len cap n : Nat} {ys : List Int} (h : Sl w ao len cap (uv n ++ ys)) (hn : n < 18446744073709551616) :
    Calls Try.prog 8 #[.slice ao len cap] w fun e w' => e = .returned (.tuple #[.int .u64 (n : Int), .int .i64 ((uv n).length : Int), .int .i64 0]) ∧ w' = w := by
  obtain ⟨h1, h2, h3, h4, h5, h6⟩ := h
  have hb : Begins (xof (uv n ++ ys)) (uv n) := begins_xof h2
  have hl : (uv n).length ≤ len := by rw [← h1]; simp
  have h := take_any ao _ cap _ _ w h6 h4 h5 (uv_end hb hl)
  rw [takeV_uv hn hb hl] at h
  exact h

/-- Bytes with their length ahead come back, whatever stands behind them. -/
theorem tb_sl {w : World} {ao : Option Addr} {len cap ls : Nat} {S : Nat → Nat} {ys : List Int} (h : Sl w ao len cap (uv ls ++ (bs S ls ++ ys))) (h500 : ls ≤ 500) (h47 : len ≤ 140737488355328) :
    Calls Try.prog 9 #[.slice ao len cap, .int .i64 500] w fun e w' => ∃ ao2 cap2, e = .returned (.tuple #[.slice ao2 ls cap2, .int .i64 (((uv ls).length + ls : Nat) : Int), .int .i64 0]) ∧ (ao2 = none → ls = 0 ∧ cap2 = 0) ∧ Byt w' ao2 ls (xof (bs S ls)) ∧ Below w.heap.size w w' := by
  obtain ⟨h1, h2, h3, h4, h5, h6⟩ := h
  have hb : Begins (xof (uv ls ++ (bs S ls ++ ys))) (uv ls) := begins_xof h2
  have hl : (uv ls).length ≤ len := by rw [← h1]; simp
  have hll : (uv ls).length + ls ≤ len := by rw [← h1]; simp [bs_length]
  have hp := uv_pos ls
  have h := tby_any ao _ cap _ _ 500 w h6 h4 h5 h47 (uv_end hb hl) (by decide)
  have e : tbR (xof (uv ls ++ (bs S ls ++ ys))) len ((uv ls).length - 1) 500 = (bs S ls, (((uv ls).length + ls : Nat) : Int), 0) := by
    unfold tbR
    rw [if_pos (by omega), if_pos (uv_good (by omega) hb), uv_val hb, if_neg (by omega), if_neg (by omega)]
    have e : bs (fun k => xof (uv ls ++ (bs S ls ++ ys)) ((uv ls).length - 1 + 1 + k)) ls = bs S ls := by
      unfold bs
      apply List.map_congr_left
      intro k hk
      have hk' := List.mem_range.1 hk
      have q1 : (uv ls).length - 1 + 1 + k = (uv ls).length + k := by omega
      show ((xof (uv ls ++ (bs S ls ++ ys)) ((uv ls).length - 1 + 1 + k) : Nat) : Int) = (S k : Int)
      rw [q1]
      have q2 : (uv ls ++ (bs S ls ++ ys))[(uv ls).length + k]? = some (S k : Int) := by
        rw [List.getElem?_append_right (by omega), List.getElem?_append_left (by rw [bs_length]; omega)]
        simp [bs, hk']
      have q3 : xof (uv ls ++ (bs S ls ++ ys)) ((uv ls).length + k) = S k := by
        unfold xof
        rw [List.getD_eq_getElem?_getD, q2]
        simp
      rw [q3]
    rw [e]
    congr 2
    omega
  rw [e] at h
  refine h.mono fun e w' ⟨ao2, cap2, he, q1, _, _, q4, q5⟩ => ?_
  simp only [bs_length] at he q1 q4
  exact ⟨ao2, cap2, he, q1, q4, q5⟩

/-- What is left of a slice behind its first u bytes. -/
theorem sl_cut {w : World} {ao : Option Addr} {u r rc : Nat} {ys zs : List Int} (h : Sl w ao (u + r) (u + rc) (ys ++ zs)) (hu : ys.length = u) (hp : 0 < u) :
    ∃ b off b' off', ao = some ⟨b, off, none⟩ ∧ (if rc = 0 then some (⟨b, off, none⟩ : Addr) else some ⟨b, off + u, none⟩) = some ⟨b', off', none⟩ ∧ Sl w (some ⟨b', off', none⟩) r rc zs := by
  obtain ⟨h1, h2, h3, h4, h5, h6⟩ := h
  obtain ⟨_, b, off, hao, _⟩ := h6 0 (by omega)
  have hz : zs.length = r := by simp [hu] at h1; omega
  have hokz : Okb zs := fun x hx => h2 x (List.mem_append_right _ hx)
  by_cases g : rc = 0
  · refine ⟨b, off, b, off, hao, by simp [g], hz, hokz, (fun e => by cases e), by omega, by omega, fun k hk => absurd hk (by omega)⟩
  · refine ⟨b, off, b, off + u, hao, by simp [g], hz, hokz, (fun e => by cases e), by omega, by omega, ?_⟩
    have := h6.cut (l := u) (m := r) b off hao (by omega)
    have e : (fun k => xof (ys ++ zs) (u + k)) = xof zs := by
      funext k
      unfold xof
      rw [List.getD_eq_getElem?_getD, List.getElem?_append_right (by omega), List.getD_eq_getElem?_getD, hu]
      congr 3
      omega
    rw [e] at this
    exact this

theorem enc_len {L : Nat → Nat} {sl : Nat} {LN : Nat → Nat} {S : Nat → Nat → Nat} : ∀ k, (∀ j, j < k → L j < 18446744073709551616 ∧ (j < sl → LN j ≤ 500)) → (encI (itemI L sl LN S) k).length ≤ 520 * k
  | 0, _ => by simp [encI]
  | k + 1, h => by
    have ih := enc_len (L := L) (sl := sl) (LN := LN) (S := S) k fun j hj => h j (by omega)
    obtain ⟨h1, h2⟩ := h k (by omega)
    have := uv_len64 h1
    simp only [encI, List.length_append, itemI]
    by_cases g : k < sl
    · have h3 := h2 g
      have := uv_len64 (n := LN k) (by omega)
      rw [if_pos g, List.length_append, bs_length]
      omega
    · rw [if_neg g]
      simp
      omega

/-- The numbers that came in. -/
def Nums (w : World) (ao : Option Addr) (len : Nat) (L : Nat → Nat) : Prop :=
  ∀ k, k < len → L k < 18446744073709551616 ∧ ∃ b off, ao = some ⟨b, off, none⟩ ∧ w.cell? ⟨b, off + k, none⟩ = some (.int .u64 (L k : Int))
theorem Nums.later {w w' : World} {ao : Option Addr} {len : Nat} {X : Nat → Nat} (h : Nums w ao len X) (hb : Below w.heap.size w w') : Nums w' ao len X := fun k hk => by
  obtain ⟨h1, b, off, e, hc⟩ := h k hk
  exact ⟨h1, b, off, e, cell_later hb hc⟩
/-- The rows of bytes that came in. -/
def Rws (w : World) (ao : Option Addr) (len : Nat) (A : Nat → Option Addr) (LN C : Nat → Nat) (S : Nat → Nat → Nat) : Prop :=
  ∀ k, k < len → (∃ b off, ao = some ⟨b, off, none⟩ ∧ w.cell? ⟨b, off + k, none⟩ = some (.slice (A k) (LN k) (C k))) ∧ Byt w (A k) (LN k) (S k) ∧ (A k = none → LN k = 0 ∧ C k = 0)
theorem Rws.later {w w' : World} {ao : Option Addr} {len : Nat} {A : Nat → Option Addr} {LN C : Nat → Nat} {S : Nat → Nat → Nat} (h : Rws w ao len A LN C S) (hb : Below w.heap.size w w') : Rws w' ao len A LN C S := fun k hk => by
  obtain ⟨⟨b, off, e, hc⟩, h2, h3⟩ := h k hk
  exact ⟨⟨b, off, e, cell_later hb hc⟩, h2.later hb, h3⟩
end Go.Proofs.Ytjjmgfinapahcab
