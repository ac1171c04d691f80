import Derived.Lib.BytesEntry
import Derived.Lib.IndexLaws
import Derived.Laws.Externs
import Derived.Shelf.SlSortCmp.QuietGrown
import Derived.WalkKit
import Derived.RegionTactic
import Derived.Test.YtnoackenjfpcmaaPk09
import Derived.Test.YtnoackenjfpcmaaPk11
import Derived.Test.YtnoackenjfpcmaaPk15
/- What the library's IndexByte, Count and Compare answer on slices of bytes, as lists. -/
namespace Go.Proofs.Ytnoackenjfpcmaa
open Go.RowKit
set_option linter.unusedVariables false
set_option linter.unusedSimpArgs false

/-- What an entry of the model reads off a slice of bytes. -/
theorem ext_bytes {w : World} {ao : Option Addr} {len cap : Nat} {xs : List Int} (h : Sl w ao len cap xs) : (Extern.Bytes.bytesOf (.slice ao len cap)).run Try.prog w = .ok ⟨(Lib.bytesOf xs).toArray⟩ w := by
  cases ao with
  | none =>
    have e := (h.2.2.1 rfl).1
    have hx := h.1
    rw [e] at hx
    rw [List.length_eq_zero_iff.1 hx]
    rfl
  | some a =>
    have hl := Lib.run_loadBytesX (P := Try.prog) w xs a .empty (fun j x hj => by
      have hjl : j < xs.length := (List.getElem?_eq_some_iff.1 hj).1
      obtain ⟨_, b, off, e, hc⟩ := h.2.2.2.2.2 j (by rw [← h.1]; exact hjl)
      simp only [Option.some.injEq] at e
      subst e
      have e2 : (⟨b, off, none⟩ : Addr).add j = ⟨b, off + j, none⟩ := by unfold Addr.add; split <;> simp_all
      rw [e2, hc, ← xof_at h.2.1 hjl]
      rw [List.getElem?_eq_getElem hjl] at hj
      simpa using hj)
    rw [h.1] at hl
    have he : (⟨ByteArray.empty.data ++ (Lib.bytesOf xs).toArray⟩ : ByteArray) = ⟨(Lib.bytesOf xs).toArray⟩ := by
      apply ByteArray.ext
      show (#[] : Array UInt8) ++ (Lib.bytesOf xs).toArray = (Lib.bytesOf xs).toArray
      simp
    rw [he] at hl
    exact hl

/-- How many bytes stand ahead of the first nought. -/
def fz (xs : List Int) : Nat := (xs.takeWhile (fun x => x ≠ 0)).length
def ix (xs : List Int) : Int := if fz xs < xs.length then (fz xs : Int) else -1
theorem fz_nil : fz [] = 0 := rfl
theorem fz_zero (r : List Int) : fz (0 :: r) = 0 := by simp [fz]
theorem fz_cons {x : Int} (h : x ≠ 0) (r : List Int) : fz (x :: r) = fz r + 1 := by simp [fz, h]
theorem fz_le : ∀ xs : List Int, fz xs ≤ xs.length
  | [] => Nat.le_refl _
  | x :: r => by
    have := fz_le r
    by_cases q : x = 0
    · subst q; rw [fz_zero]; omega
    · rw [fz_cons q, List.length_cons]; omega
theorem fz_at : ∀ {xs : List Int} (h : fz xs < xs.length), xs[fz xs] = 0
  | [], h => by cases h
  | x :: r, h => by
    by_cases q : x = 0
    · subst q
      simp [fz_zero]
    · have h' : fz r < r.length := by rw [fz_cons q, List.length_cons] at h; omega
      have ih := fz_at h'
      simp only [fz_cons q, List.getElem_cons_succ]
      exact ih
theorem fz_before : ∀ {xs : List Int} {k : Nat} (h : k < fz xs) (hk : k < xs.length), xs[k] ≠ 0
  | [], _, h, hk => by cases hk
  | x :: r, k, h, hk => by
    by_cases q : x = 0
    · subst q; rw [fz_zero] at h; cases h
    · rw [fz_cons q] at h
      cases k with
      | zero => simpa using q
      | succ k =>
        rw [List.getElem_cons_succ]
        exact fz_before (by omega) (by simp at hk; omega)
theorem byte_zero {x : Int} (h : 0 ≤ x ∧ x < 256) : (UInt8.ofNat x.toNat == (0 : UInt8)) = decide (x = 0) := by
  rw [Bool.eq_iff_iff, beq_iff_eq, decide_eq_true_eq]
  constructor
  · intro e
    have := congrArg UInt8.toNat e
    rw [UInt8.toNat_ofNat'] at this
    simp only [Nat.reducePow] at this
    rw [Nat.mod_eq_of_lt (by omega)] at this
    have e0 : (0 : UInt8).toNat = 0 := rfl
    omega
  · intro e
    subst e
    rfl
theorem ix_eq : ∀ {xs : List Int}, Okb xs → Lib.indexByte (Lib.bytesOf xs) 0 = ix xs
  | [], _ => rfl
  | x :: r, h => by
    have ih := ix_eq h.tail
    have hb := byte_zero h.head
    have e : Lib.bytesOf (x :: r) = UInt8.ofNat x.toNat :: Lib.bytesOf r := rfl
    rw [e, Lib.indexByte, hb, ih]
    by_cases q : x = 0
    · subst q
      simp [ix, fz_zero]
    · have hle := fz_le r
      unfold ix
      rw [fz_cons q, List.length_cons]
      by_cases z : fz r < r.length
      · have h1 : ((fz r : Int) == -1) = false := by rw [beq_eq_false_iff_ne]; omega
        have z1 : fz r + 1 < r.length + 1 := by omega
        simp [q, h1, z, z1]
      · have z1 : ¬ fz r + 1 < r.length + 1 := by omega
        simp [q, z, z1]

theorem ext_index {w : World} {ao : Option Addr} {len cap : Nat} {xs : List Int} (h : Sl w ao len cap xs) : (Extern.BytealgIndexByte.indexByte #[.slice ao len cap, .int .u8 0]).run Try.prog w = .ok (.int .i64 (ix xs)) w := by
  have hl := ext_bytes h
  have hs := Lib.run_indexByteString (P := Try.prog) ⟨(Lib.bytesOf xs).toArray⟩ 0 w
  have e0 : (0 : Int).toNat.toUInt8 = 0 := rfl
  rw [e0] at hs
  simp only [ix_eq h.2.1] at hs
  change Sem.run Try.prog (do
    let b ← Extern.Bytes.bytesOf (.slice ao len cap)
    let c ← Extern.Bytes.asByte (.int .u8 0)
    match (List.range b.size).find? fun i => b[i]! == c with
    | some i => pure (goInt i)
    | none => pure (goInt (-1))) w = _
  change Sem.run Try.prog (do
    let b ← Extern.Bytes.bytesOf (.string ⟨(Lib.bytesOf xs).toArray⟩)
    let c ← Extern.Bytes.asByte (.int .u8 0)
    match (List.range b.size).find? fun i => b[i]! == c with
    | some i => pure (goInt i)
    | none => pure (goInt (-1))) w = _ at hs
  rw [Sem.run_bind, hl]
  have e1 : (Extern.Bytes.bytesOf (.string ⟨(Lib.bytesOf xs).toArray⟩)).run Try.prog w = .ok ⟨(Lib.bytesOf xs).toArray⟩ w := rfl
  rw [Sem.run_bind, e1] at hs
  exact hs

/-- How many noughts. -/
def cz (xs : List Int) : Nat := Lib.countByte (Lib.bytesOf xs) 0
theorem cz_le (xs : List Int) : cz xs ≤ xs.length := by
  unfold cz Lib.countByte
  refine Nat.le_trans List.count_le_length ?_
  simp [Lib.bytesOf]
theorem ext_count {w : World} {ao : Option Addr} {len cap : Nat} {xs : List Int} (h : Sl w ao len cap xs) : (Extern.BytealgCount.count #[.slice ao len cap, .int .u8 0]).run Try.prog w = .ok (.int .i64 (cz xs : Int)) w := by
  have hl := ext_bytes h
  have hs := Lib.run_countString (P := Try.prog) ⟨(Lib.bytesOf xs).toArray⟩ 0 w
  change Sem.run Try.prog (do
    let b ← Extern.Bytes.bytesOf (.slice ao len cap)
    let c' ← Extern.Bytes.asByte (.int .u8 0)
    pure (goInt (b.foldl (fun n x => if x == c' then n + 1 else n) (0 : Nat)))) w = _
  change Sem.run Try.prog (do
    let b ← Extern.Bytes.bytesOf (.string ⟨(Lib.bytesOf xs).toArray⟩)
    let c' ← Extern.Bytes.asByte (.int .u8 0)
    pure (goInt (b.foldl (fun n x => if x == c' then n + 1 else n) (0 : Nat)))) w = _ at hs
  rw [Sem.run_bind, hl]
  have e1 : (Extern.Bytes.bytesOf (.string ⟨(Lib.bytesOf xs).toArray⟩)).run Try.prog w = .ok ⟨(Lib.bytesOf xs).toArray⟩ w := rfl
  rw [Sem.run_bind, e1] at hs
  exact hs

theorem cmp_bytes : ∀ {xs ys : List Int}, Okb xs → Okb ys → Lib.compareBytes (Lib.bytesOf xs) (Lib.bytesOf ys) = cmp xs ys
  | [], [], _, _ => rfl
  | [], y :: ys, _, _ => by simp [Lib.bytesOf, Lib.compareBytes, cmp]
  | x :: xs, [], _, _ => by simp [Lib.bytesOf, Lib.compareBytes, cmp]
  | x :: xs, y :: ys, hx, hy => by
    have ih := cmp_bytes hx.tail hy.tail
    have h1 := hx.head
    have h2 := hy.head
    have e1 : (UInt8.ofNat x.toNat).toNat = x.toNat := by
      rw [UInt8.toNat_ofNat']
      simp only [Nat.reducePow]
      exact Nat.mod_eq_of_lt (by omega)
    have e2 : (UInt8.ofNat y.toNat).toNat = y.toNat := by
      rw [UInt8.toNat_ofNat']
      simp only [Nat.reducePow]
      exact Nat.mod_eq_of_lt (by omega)
    have d1 : Lib.bytesOf (x :: xs) = UInt8.ofNat x.toNat :: Lib.bytesOf xs := rfl
    have d2 : Lib.bytesOf (y :: ys) = UInt8.ofNat y.toNat :: Lib.bytesOf ys := rfl
    rw [d1, d2, Lib.compareBytes, ih]
    rcases Int.lt_trichotomy x y with h | h | h
    · have l1 : UInt8.ofNat x.toNat < UInt8.ofNat y.toNat := by rw [UInt8.lt_iff_toNat_lt, e1, e2]; omega
      rw [cmp_less h]
      simp [l1]
    · subst h
      rw [cmp_same]
      have l0 : ¬ UInt8.ofNat x.toNat < UInt8.ofNat x.toNat := UInt8.lt_irrefl _
      simp [l0]
    · have l1 : ¬ UInt8.ofNat x.toNat < UInt8.ofNat y.toNat := by rw [UInt8.lt_iff_toNat_lt, e1, e2]; omega
      have l2 : UInt8.ofNat y.toNat < UInt8.ofNat x.toNat := by rw [UInt8.lt_iff_toNat_lt, e1, e2]; omega
      rw [cmp_more h]
      simp [l1, l2]
theorem ext_cmp {w : World} {ao bo : Option Addr} {la ca lb cb : Nat} {xs ys : List Int} (ha : Sl w ao la ca xs) (hb : Sl w bo lb cb ys) : (Extern.BytealgCompare.compare #[.slice ao la ca, .slice bo lb cb]).run Try.prog w = .ok (.int .i64 (cmp xs ys)) w := by
  have h1 := ext_bytes ha
  have h2 := ext_bytes hb
  change Sem.run Try.prog (do pure (goInt (Extern.BytealgCompare.cmp (← Extern.Bytes.bytesOf (.slice ao la ca)) (← Extern.Bytes.bytesOf (.slice bo lb cb))))) w = _
  rw [Sem.run_bind, h1]
  simp only [Result.andThen]
  rw [Sem.run_bind, h2]
  simp only [Result.andThen, Sem.run_pure]
  rw [Lib.cmp_eq]
  show Result.ok (goInt (Lib.compareBytes (Lib.bytesOf xs) (Lib.bytesOf ys))) w = _
  rw [cmp_bytes ha.2.1 hb.2.1]
  rfl
set_option maxHeartbeats 1000000 in
set_option maxRecDepth 100000 in
theorem compare_l {w : World} {ao bo : Option Addr} {la ca lb cb : Nat} {xs ys : List Int} (ha : Sl w ao la ca xs) (hb : Sl w bo lb cb ys) : Calls Try.prog 29 #[.slice ao la ca, .slice bo lb cb] w fun e w' => e = .returned (.int .i64 (cmp xs ys)) ∧ w' = w := by
  have hx := ext_cmp ha hb
  clear ha hb
  go_enter Try.func29, Try.ntmps29
  go_wp2
  rw [run_callFunc_extern Try.func34 (by kernel_rfl) (by kernel_rfl) (by kernel_rfl) (e := Extern.BytealgCompare.compare) (by kernel_rfl), hx]
  simp only [Result.andThen]
  rw [Oper.upon_value]
  go_wp2
  go_ret
  exact ⟨rfl, rfl⟩
/-- A run of bytes that are no noughts. -/
theorem J.run {xs out : List Int} {i : Nat} (h : J xs out i) : ∀ (r : Nat), i + r ≤ xs.length → (∀ k, i ≤ k → k < i + r → ∀ hk : k < xs.length, xs[k] ≠ 0) → J xs (out ++ (xs.drop i).take r) (i + r)
  | 0, _, _ => by simpa using h
  | r + 1, h1, h2 => by
    have ih := J.run h r (by omega) fun k a b hk => h2 k a (by omega) hk
    have := ih.plain (by omega) (h2 (i + r) (by omega) (by omega) (by omega))
    have e : (xs.drop i).take (r + 1) = (xs.drop i).take r ++ [xs[i + r]'(by omega)] := by
      rw [List.take_add_one, List.getElem?_drop, List.getElem?_eq_getElem (by omega)]
      rfl
    rw [e, ← List.append_assoc]
    exact this
end Go.Proofs.Ytnoackenjfpcmaa

/- The landed merge: how what is left of two rows is compared. -/
namespace Go.Proofs.Ytnoackenjfpcmaa
open Go.RowKit Go.Sort
set_option linter.unusedVariables false
set_option linter.unusedSimpArgs false

theorem hidM {p : Prop} (h : p) : Hid p := h
def HpV.cells (x : HpV) : List Value := [.slice x.la x.l.length x.lc, .int .i64 x.row]
/-- What is left of a row stands in the world, and is small. -/
def HpOk (w : World) (x : HpV) : Prop := RS entE w x.la x.l.length x.lc x.l ∧ x.row < 100
theorem nanM_any {w : World} {a : Int} : Calls Try.prog 53 #[.int .i64 a] w fun e w' => e = .returned (.bool false) ∧ w' = w := by
  go_enter Try.func53, Try.ntmps53
  go_wp2
  go_ret
  simp
theorem nanM2_any {w : World} {a : Int} : Calls Try.prog 54 #[.int .i64 a] w fun e w' => e = .returned (.bool false) ∧ w' = w := by
  go_enter Try.func54, Try.ntmps54
  go_wp2
  go_ret
  simp
theorem cmpM_any {w : World} {a b : Int} : Calls Try.prog 41 #[.int .i64 a, .int .i64 b] w fun e w' => e = .returned (.int .i64 (cmJ a b)) ∧ w' = w := by
  unfold cmJ
  go_enter Try.func41, Try.ntmps41
  go_wp2_with (go_at_call 53; refine (@nanM_any _ _).mono ?_; rintro e w' ⟨rfl, rfl⟩)
  all_goals
    go_ret
    simp
    try omega
theorem cmpM2_any {w : World} {a b : Int} : Calls Try.prog 42 #[.int .i64 a, .int .i64 b] w fun e w' => e = .returned (.int .i64 (cmJ a b)) ∧ w' = w := by
  unfold cmJ
  go_enter Try.func42, Try.ntmps42
  go_wp2_with (go_at_call 54; refine (@nanM2_any _ _).mono ?_; rintro e w' ⟨rfl, rfl⟩)
  all_goals
    go_ret
    simp
    try omega
/-- cmp.Or of three. -/
theorem or3_t {w : World} {b : Nat} {x y z : Int} (h0 : w.cell? ⟨b, 0, none⟩ = some (.int .i64 x)) (h1 : w.cell? ⟨b, 1, none⟩ = some (.int .i64 y)) (h2 : w.cell? ⟨b, 2, none⟩ = some (.int .i64 z)) :
    Calls Try.prog 40 #[.slice (some ⟨b, 0, none⟩) 3 3] w fun e w' => e = .returned (.int .i64 (or3 x y z)) ∧ w' = w := by
  unfold or3
  go_enter Try.func40, Try.ntmps40
  by_cases qx : x = 0
  · rw [if_neg (not_not_intro qx)]
    subst qx
    by_cases qy : y = 0
    · rw [if_neg (not_not_intro qy)]
      subst qy
      by_cases qz : z = 0
      · subst qz
        go_wp2
        refine wp_loop_rounds 4 ?_
        rw [rounds_succ]
        go_wp2
        rw [rounds_succ]
        go_wp2
        rw [rounds_succ]
        go_wp2
        rw [rounds_succ]
        go_wp2
        go_ret
        simp
      · have qz' : (z != 0) = true := by simpa using qz
        go_wp2
        refine wp_loop_rounds 4 ?_
        rw [rounds_succ]
        go_wp2
        rw [rounds_succ]
        go_wp2
        rw [rounds_succ]
        go_wp2
        go_ret
        simp
    · rw [if_pos qy]
      have qy' : (y != 0) = true := by simpa using qy
      go_wp2
      refine wp_loop_rounds 4 ?_
      rw [rounds_succ]
      go_wp2
      rw [rounds_succ]
      go_wp2
      go_ret
      simp
  · rw [if_pos qx]
    have qx' : (x != 0) = true := by simpa using qx
    go_wp2
    refine wp_loop_rounds 4 ?_
    rw [rounds_succ]
    go_wp2
    go_ret
    simp
end Go.Proofs.Ytnoackenjfpcmaa

/- A region that draws its order, by an invariant: what holds of the operations that have come up, whatever their order, is enough. -/
namespace Go.Proofs.Ytnoackenjfpcmaa

theorem mem_ready {md : Region.Mode} {ops : Array Oper} {listed : Array Bool} {i : Nat} :
    i ∈ Region.ready md ops listed ↔ i < ops.size ∧ listed.getD i true = false ∧ ∃ o, ops[i]? = some o ∧ ∀ e ∈ o.after, Region.binds md e = true → listed.getD e.on false = true := by
  unfold Region.ready
  rw [List.mem_filter, List.mem_range]
  constructor
  · rintro ⟨h1, h2⟩
    cases ho : ops[i]? with
    | none => simp [ho] at h2
    | some o =>
      simp only [ho, Option.map_some, Option.getD_some, Bool.and_eq_true, Bool.not_eq_true', Array.all_eq_true_iff_forall_mem, Bool.or_eq_true] at h2
      refine ⟨h1, h2.1, o, rfl, fun e he hb => ?_⟩
      rcases h2.2 e he with h | h
      · rw [hb] at h; cases h
      · exact h
  · rintro ⟨h1, h2, o, ho, h3⟩
    refine ⟨h1, ?_⟩
    simp only [ho, Option.map_some, Option.getD_some, Bool.and_eq_true, Bool.not_eq_true', Array.all_eq_true_iff_forall_mem, Bool.or_eq_true]
    refine ⟨h2, fun e he => ?_⟩
    cases hb : Region.binds md e with
    | false => exact Or.inl rfl
    | true => exact Or.inr (h3 e he hb)

/-- How many of the first n have not come up. -/
def left (listed : Array Bool) : Nat → Nat
  | 0 => 0
  | n + 1 => left listed n + (if listed.getD n true then 0 else 1)

theorem left_set (listed : Array Bool) (i : Nat) (hi : listed.getD i true = false) : ∀ n, left (listed.setIfInBounds i true) n = left listed n - (if i < n then 1 else 0) ∧ (i < n → 0 < left listed n) := by
  have hlt : i < listed.size := by
    rcases Nat.lt_or_ge i listed.size with h | h
    · exact h
    · simp [h] at hi
  intro n
  induction n with
  | zero => simp [left]
  | succ n ih =>
    by_cases hn : n = i
    · subst hn
      have e1 : (listed.setIfInBounds n true).getD n true = true := by simp [hlt]
      simp only [left, e1, hi]
      have := ih.1
      simp at this
      simp
      omega
    · have e1 : (listed.setIfInBounds i true).getD n true = listed.getD n true := by
        simp [Ne.symm hn]
      simp only [left, e1]
      have h1 := ih.1
      have h2 := ih.2
      by_cases hin : i < n
      · simp only [hin, if_true, show i < n + 1 by omega] at *
        have := h2 trivial
        omega
      · simp only [hin, if_false] at h1
        refine ⟨?_, fun h => absurd h (by omega)⟩
        rw [if_neg (show ¬ i < n + 1 by omega)]
        omega

theorem left_zero (listed : Array Bool) : ∀ n, left listed n = 0 → ∀ i, i < n → listed.getD i true = true := by
  intro n
  induction n with
  | zero => intro _ i hi; omega
  | succ n ih =>
    intro h i hi
    simp only [left] at h
    rcases Nat.lt_or_ge i n with g | g
    · exact ih (by omega) i g
    · have : i = n := by omega
      subst this
      cases hl : listed.getD i true with
      | true => rfl
      | false => simp [hl] at h

theorem wp_region_inv {P : Program} {id : Nat} {Q : Exit → Act → World → Prop} {A : Act} {w : World} {ops : Array Oper} (hm : P.follows .mixedOrders = true)
    (hlow : ∀ (i : Nat) o, ops[i]? = some o → ∀ e ∈ o.after, Region.binds .any e = true → e.on < i)
    (Inv0 : Act → (Nat → Bool) → Act → World → Prop) (h0 : Inv0 A (fun _ => false) A w.drew)
    (hstep : ∀ (L : Nat → Bool) (a : Act) (w : World) (i : Nat) (o : Oper), Inv0 A L a w → ops[i]? = some o → L i = false → (∀ e ∈ o.after, Region.binds .any e = true → L e.on = true) →
      ∀ K : Act → World → Prop, (∀ a w, Inv0 A (fun j => if j = i then true else L j) a w → K a w) → if Region.wanted o (yielded ops a.tmps) = true then o.wp P a w K Q else K (a.put o.dst undef) w)
    (hend : ∀ (L : Nat → Bool) (a : Act) (w : World), Inv0 A L a w → (∀ i, i < ops.size → L i = true) → Q .normal a w) :
    (Code.region id ops true).wp P Q A w := by
  obtain ⟨Inv, hInv⟩ : ∃ Inv, Inv = Inv0 A := ⟨_, rfl⟩
  rw [← hInv] at h0 hstep hend
  clear hInv
  refine wp_region_any hm ?_
  have all : ∀ (listed : Array Bool), listed.size = ops.size → Region.ready .any ops listed = [] → ∀ i, i < ops.size → listed.getD i true = true := by
    intro listed hsz hr i
    induction i using Nat.strongRecOn with
    | _ i ih =>
      intro hi
      cases hl : listed.getD i true with
      | true => rfl
      | false =>
        have ho : ops[i]? = some ops[i] := Array.getElem?_eq_getElem hi
        have : i ∈ Region.ready .any ops listed := mem_ready.2 ⟨hi, hl, ops[i], ho, fun e he hb => by
          have hlt := hlow i _ ho e he hb
          have := ih e.on hlt (by omega)
          have hs : e.on < listed.size := by omega
          simpa [hs] using this⟩
        rw [hr] at this
        cases this
  have eqd : ∀ (listed : Array Bool) (j : Nat), j < listed.size → listed.getD j true = listed.getD j false := fun listed j hj => by simp [hj]
  have key : ∀ (fuel : Nat) (listed : Array Bool) (a : Act) (w : World), listed.size = ops.size → left listed ops.size ≤ fuel → Inv (fun j => listed.getD j false) a w → wpAny P .any ops Q fuel listed a w := by
    intro fuel
    induction fuel with
    | zero =>
      intro listed a w hsz hf hI
      have hz := left_zero listed ops.size (by omega)
      refine ⟨?_, hend _ a w hI fun i hi => by rw [← eqd listed i (by omega)]; exact hz i hi⟩
      cases hr : Region.ready .any ops listed with
      | nil => rfl
      | cons i rest =>
        have : i ∈ Region.ready .any ops listed := by rw [hr]; simp
        obtain ⟨h1, h2, _⟩ := mem_ready.1 this
        rw [hz i h1] at h2
        cases h2
    | succ fuel ih =>
      intro listed a w hsz hf hI
      refine ⟨fun hr => hend _ a w hI fun i hi => by rw [← eqd listed i (by omega)]; exact all listed hsz hr i hi, fun i hi => ?_⟩
      obtain ⟨h1, h2, o, ho, h3⟩ := mem_ready.1 hi
      have hs : i < listed.size := by omega
      refine wpOp_step ho fun K hK => hstep _ a w i o hI ho (by rw [← eqd listed i hs]; exact h2) h3 K fun a' w' hI' => hK a' w' ?_
      refine ih _ a' w' (by simpa using hsz) ?_ ?_
      · have hls := left_set listed i h2 ops.size
        have e := hls.1
        have p := hls.2 h1
        simp only [h1, if_true] at e
        omega
      · have : (fun j => (listed.setIfInBounds i true).getD j false) = fun j => if j = i then true else listed.getD j false := by
          funext j
          by_cases hj : j = i
          · subst hj; simp [hs]
          · simp [Ne.symm hj, hj]
        rw [this]; exact hI'
  refine key ops.size _ A _ (by simp) ?_ ?_
  · have : ∀ n, left (Array.replicate ops.size false) n ≤ n := by
      intro n
      induction n with
      | zero => simp [left]
      | succ n ih => simp only [left]; split <;> omega
    exact this ops.size
  · have : (fun j => (Array.replicate ops.size false).getD j false) = fun _ => false := by
      funext j
      simp only [Array.getD_eq_getD_getElem?, Array.getElem?_replicate]
      split <;> rfl
    rw [this]; exact h0
end Go.Proofs.Ytnoackenjfpcmaa
