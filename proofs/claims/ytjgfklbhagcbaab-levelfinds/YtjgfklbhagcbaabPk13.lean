import Derived.Laws.Cover1
import Derived.Maps.OwnSet
import Derived.Deep.RegionWith
import Derived.Test.YtjgfklbhagcbaabPk06
import Derived.Test.YtjgfklbhagcbaabPk08
import Derived.Test.YtjgfklbhagcbaabPk10
import Derived.Test.YtjgfklbhagcbaabPk11
import Derived.Test.YtjgfklbhagcbaabPk12
/- The document's own Compare, and its numbers. -/
namespace Go.Proofs.Ytjgfklbhagcbaab
open Go.RowKit
set_option linter.unusedVariables false
set_option linter.unusedSimpArgs false

theorem less_cmp : ∀ {xs ys : List Int}, Okb xs → Okb ys → Op.bytesLess (xs.map fun n => UInt8.ofNat n.toNat) (ys.map fun n => UInt8.ofNat n.toNat) = decide (cmp xs ys = -1)
  | [], [], _, _ => by simp [Op.bytesLess, cmp]
  | [], _ :: _, _, _ => by simp [Op.bytesLess, cmp]
  | _ :: _, [], _, _ => by simp [Op.bytesLess, cmp]
  | x :: xs, y :: ys, hx, hy => by
    have ih := less_cmp hx.tail hy.tail
    have h1 := hx.head
    have h2 := hy.head
    have e1 : (UInt8.ofNat x.toNat).toNat = x.toNat := by
      rw [UInt8.toNat_ofNat']
      simp only [Nat.reducePow]
      exact Nat.mod_eq_of_lt (by omega)
    have e2 : (UInt8.ofNat y.toNat).toNat = y.toNat := by
      rw [UInt8.toNat_ofNat']
      simp only [Nat.reducePow]
      exact Nat.mod_eq_of_lt (by omega)
    rw [List.map_cons, List.map_cons, Op.bytesLess]
    rcases Int.lt_trichotomy x y with h | h | h
    · have l1 : UInt8.ofNat x.toNat < UInt8.ofNat y.toNat := by rw [UInt8.lt_iff_toNat_lt, e1, e2]; omega
      rw [cmp_less h]
      simp [l1]
    · subst h
      rw [cmp_same, ← ih]
      simp
    · have l1 : ¬ UInt8.ofNat x.toNat < UInt8.ofNat y.toNat := by rw [UInt8.lt_iff_toNat_lt, e1, e2]; omega
      have l2 : UInt8.ofNat x.toNat ≠ UInt8.ofNat y.toNat := fun e => by
        have := congrArg UInt8.toNat e
        rw [e1, e2] at this
        omega
      rw [cmp_more h]
      simp [l1, l2]
theorem less_str {xs ys : List Int} (hx : Okb xs) (hy : Okb ys) : Op.bytesLess (strOfNums xs).toList (strOfNums ys).toList = decide (cmp xs ys = -1) := by
  rw [ByteArray.toList_eq, ByteArray.toList_eq, strOfNums_data, strOfNums_data]
  exact less_cmp hx hy

set_option maxHeartbeats 1000000 in
set_option maxRecDepth 100000 in
theorem rcmp_any {w : World} {a b : Option Addr} {la ca lb cb : Nat} {xs ys : List Int} (ha : Sl w a la ca xs) (hb : Sl w b lb cb ys) :
    Calls Try.prog 6 #[.slice a la ca, .slice b lb cb] w fun e w' => e = .returned (.int .i64 (cmp xs ys)) ∧ Below w.heap.size w w' := by
  have g1 := fun j => str_l (ha.drewN j)
  have g2 := fun j => str_l (hb.drewN j)
  have hlt := less_str ha.2.1 hb.2.1
  have heq := str_eq ha.2.1 hb.2.1
  have hz := @cmp_zero xs ys
  have hv := cmp_vals xs ys
  clear ha hb
  generalize strOfNums xs = S1 at g1 hlt heq
  generalize strOfNums ys = S2 at g2 hlt heq
  generalize cmp xs ys = c at hlt hz hv ⊢
  rcases hv with e | e | e <;> subst e
  · have h1 : Op.bytesLess S1.toList S2.toList = true := by rw [hlt]; rfl
    clear hlt heq hz
    go_enter Try.func6, Try.ntmps6
    go_wp2_with fail
    go_quiet (fail)
    go_wp2_with fail
    go_ret
    exact ⟨rfl, below_drewN (Below.refl _ _) _⟩
  · have h1 : Op.bytesLess S1.toList S2.toList = false := by rw [hlt]; rfl
    have h2 : (S1.toList == S2.toList) = true := by rw [heq]; simpa using hz.1 rfl
    clear hlt heq hz
    go_enter Try.func6, Try.ntmps6
    go_wp2_with fail
    go_quiet (fail)
    go_wp2_with fail
    go_ret
    exact ⟨rfl, below_drewN (Below.refl _ _) _⟩
  · have h1 : Op.bytesLess S1.toList S2.toList = false := by rw [hlt]; rfl
    have h2 : (S1.toList == S2.toList) = false := by
      rw [heq, decide_eq_false_iff_not]
      intro e
      have := hz.2 e
      omega
    clear hlt heq hz
    go_enter Try.func6, Try.ntmps6
    go_wp2_with fail
    go_quiet (fail)
    go_wp2_with fail
    go_ret
    exact ⟨rfl, below_drewN (Below.refl _ _) _⟩

/-- A number as eight bytes: its sign bit turned. -/
def turned (n : Int) : Nat := (n + 9223372036854775808).toNat
theorem xor_top {a : Nat} (h : a < 9223372036854775808) : a ^^^ 9223372036854775808 = a + 9223372036854775808 := by
  have e : (9223372036854775808 : Nat) = 2 ^ 63 := rfl
  rw [e] at h ⊢
  rw [Nat.add_comm]
  apply Nat.eq_of_testBit_eq
  intro i
  rw [Nat.testBit_xor, Nat.testBit_two_pow]
  rcases Nat.lt_trichotomy i 63 with q | q | q
  · rw [Nat.testBit_two_pow_add_gt q]
    have : decide (63 = i) = false := by simp; omega
    simp [this]
  · subst q
    rw [Nat.testBit_two_pow_add_eq]
    simp
  · have h1 : a.testBit i = false := Nat.testBit_lt_two_pow (Nat.lt_of_lt_of_le h (Nat.pow_le_pow_right (by decide) (by omega)))
    have h2 : (2 ^ 63 + a).testBit i = false := Nat.testBit_lt_two_pow (Nat.lt_of_lt_of_le (show 2 ^ 63 + a < 2 ^ 64 by omega) (Nat.pow_le_pow_right (by decide) (by omega)))
    have : decide (63 = i) = false := by simp; omega
    rw [h1, h2, this]
    rfl
theorem xor_low {a : Nat} (h : a < 9223372036854775808) : (a + 9223372036854775808) ^^^ 9223372036854775808 = a := by
  rw [← xor_top h, Nat.xor_assoc, Nat.xor_self, Nat.xor_zero]
def InI (n : Int) : Prop := -9223372036854775808 ≤ n ∧ n ≤ 9223372036854775807
theorem turned_lt {n : Int} (h : InI n) : turned n < 18446744073709551616 := by unfold InI at h; unfold turned; omega
theorem turn_xor {n : Int} (h : InI n) : ∃ A : Nat, A < 18446744073709551616 ∧ IntKind.u64.wrap n = (A : Int) ∧ A ^^^ 9223372036854775808 = turned n := by
  unfold InI at h
  unfold turned
  by_cases q : 0 ≤ n
  · refine ⟨n.toNat, by omega, ?_, ?_⟩
    · rw [IntKind.wrap_u64]
      omega
    · rw [xor_top (by omega)]
      omega
  · refine ⟨(n + 18446744073709551616).toNat, by omega, ?_, ?_⟩
    · rw [IntKind.wrap_u64]
      omega
    · have e : (n + 18446744073709551616).toNat = (n + 9223372036854775808).toNat + 9223372036854775808 := by omega
      rw [e, xor_low (by omega)]
theorem fxs8 (n : Nat) : fxs n 8 = fx n 8 := by
  unfold fxs
  rw [if_pos (by unfold InSize; decide)]
  rfl
/-- The number of eight bytes. -/
def back (u : Nat) : Int := (u : Int) - 9223372036854775808
theorem back_turned {n : Int} (h : InI n) : back (turned n) = n := by unfold InI at h; unfold back turned; omega
theorem back_xor {u : Nat} (h : u < 18446744073709551616) : ∃ A : Nat, A < 18446744073709551616 ∧ u ^^^ 9223372036854775808 = A ∧ IntKind.i64.wrap (A : Int) = back u := by
  by_cases q : u < 9223372036854775808
  · refine ⟨u + 9223372036854775808, by omega, xor_top q, ?_⟩
    unfold back
    rw [IntKind.wrap_i64]
    omega
  · obtain ⟨t, rfl⟩ : ∃ t, u = t + 9223372036854775808 := ⟨u - 9223372036854775808, by omega⟩
    refine ⟨t, by omega, xor_low (by omega), ?_⟩
    unfold back
    rw [IntKind.wrap_i64]
    omega
/-- The number at the beginning: an error (0: none) and itself. -/
def tn (xs : List Int) : Nat × Int := if xs.length < 8 then (5, 0) else (0, back (fv (xof xs) 8))
theorem fv8_lt {xs : List Int} (h : Okb xs) (h8 : 8 ≤ xs.length) : fv (xof xs) 8 < 18446744073709551616 := by
  have := fv_lt (xof xs) 8 (fun j hj => by
    have := h xs[j] (List.getElem_mem (by omega))
    simp [xof, List.getElem?_eq_getElem (show j < xs.length by omega)]
    omega)
  omega
end Go.Proofs.Ytjgfklbhagcbaab

/- Lines of tables and numbers in memory; a map that counts numbers. -/
namespace Go.Proofs.Ytjgfklbhagcbaab
open Go.RowKit
set_option linter.unusedVariables false
set_option linter.unusedSimpArgs false

theorem hidE {p : Prop} (h : p) : Hid p := h
/-- A line in five cells. -/
def LnM (w : World) (vs : List Value) (t : LnV) : Prop :=
  ∃ la lc ma mc, vs = [.int .i64 t.num, .int .i64 t.lvl, .int .i64 t.size, .slice la t.least.length lc, .slice ma t.most.length mc] ∧ Sl w la t.least.length lc t.least ∧ Sl w ma t.most.length mc t.most ∧ In64 t.num ∧ In64 t.lvl ∧ In64 t.size
def lnE : El LnV where
  ty := 30
  size := 5
  M := LnM
  len := fun h => by obtain ⟨la, lc, ma, mc, rfl, _⟩ := h; rfl
  one := fun h v hv => by
    obtain ⟨la, lc, ma, mc, rfl, _⟩ := h
    simp only [List.mem_cons, List.not_mem_nil, or_false] at hv
    rcases hv with rfl | rfl | rfl | rfl | rfl <;> rfl
  lt := fun h v hv b hr => by
    obtain ⟨la, lc, ma, mc, rfl, h1, h2, _⟩ := h
    simp only [List.mem_cons, List.not_mem_nil, or_false] at hv
    rcases hv with rfl | rfl | rfl | rfl | rfl
    · exact (refs_int hr).elim
    · exact (refs_int hr).elim
    · exact (refs_int hr).elim
    · exact h1.lt hr
    · exact h2.lt hr
  keep := fun h hk => by
    obtain ⟨la, lc, ma, mc, rfl, h1, h2, h3⟩ := h
    exact ⟨la, lc, ma, mc, rfl, h1.keep fun b hr => hk _ (by simp) b hr, h2.keep fun b hr => hk _ (by simp) b hr, h3⟩
theorem lnE_info : (Try.prog.info? lnE.ty).map (fun i => (i.zero, i.size, i.bytes)) = some (some (.agg #[.int .i64 0, .int .i64 0, .int .i64 0, .slice none 0 0, .slice none 0 0]), lnE.size, 72) := by kernel_rfl
/-- The cells of a line of a row. -/
theorem RS.ln {w : World} {ao : Option Addr} {len cap : Nat} {os : List LnV} (h : RS lnE w ao len cap os) {i : Nat} {o : LnV} (hx : os[i]? = some o) :
    ∃ b off la lc ma mc, ao = some ⟨b, off, none⟩ ∧ w.cell? ⟨b, off + i * 5, none⟩ = some (.int .i64 o.num) ∧ w.cell? ⟨b, off + i * 5 + 1, none⟩ = some (.int .i64 o.lvl) ∧ w.cell? ⟨b, off + i * 5 + 2, none⟩ = some (.int .i64 o.size) ∧ w.cell? ⟨b, off + i * 5 + 3, none⟩ = some (.slice la o.least.length lc) ∧ w.cell? ⟨b, off + i * 5 + 4, none⟩ = some (.slice ma o.most.length mc) ∧
      Sl w la o.least.length lc o.least ∧ Sl w ma o.most.length mc o.most ∧ In64 o.num ∧ In64 o.lvl ∧ In64 o.size := by
  obtain ⟨b, off, vs, e, ⟨la, lc, ma, mc, rfl, h1, h2, h3⟩, hc⟩ := RS.at h (by decide) hx
  refine ⟨b, off, la, lc, ma, mc, e, ?_, ?_, ?_, ?_, ?_, h1, h2, h3⟩
  · exact hc 0 _ rfl
  · exact hc 1 _ rfl
  · exact hc 2 _ rfl
  · exact hc 3 _ rfl
  · exact hc 4 _ rfl
/-- A number in a cell. -/
def i64E : El Int where
  ty := 2
  size := 1
  M := fun _ vs x => vs = [.int .i64 x] ∧ In64 x
  len := fun h => by rw [h.1]; rfl
  one := fun h v hv => by rw [h.1] at hv; rw [List.mem_singleton.1 hv]; rfl
  lt := fun h v hv b hr => by rw [h.1] at hv; rw [List.mem_singleton.1 hv] at hr; exact (refs_int hr).elim
  keep := fun h _ => h
theorem i64E_info : (Try.prog.info? i64E.ty).map (fun i => (i.zero, i.size, i.bytes)) = some (some (.int .i64 0), i64E.size, 8) := by kernel_rfl
theorem RS.i64 {w : World} {ao : Option Addr} {len cap : Nat} {xs : List Int} (h : RS i64E w ao len cap xs) {i : Nat} {x : Int} (hx : xs[i]? = some x) : ∃ b off, ao = some ⟨b, off, none⟩ ∧ w.cell? ⟨b, off + i, none⟩ = some (.int .i64 x) ∧ In64 x := by
  obtain ⟨b, off, vs, e, hM, hc⟩ := RS.at h (by decide) hx
  obtain ⟨hM', hi⟩ : vs = [.int .i64 x] ∧ In64 x := hM
  subst hM'
  refine ⟨b, off, e, ?_, hi⟩
  have := hc 0 _ rfl
  rw [show off + (i * i64E.size + 0) = off + i by show off + (i * 1 + 0) = off + i; omega] at this
  exact this
theorem RS.okl {w : World} {ao : Option Addr} {len cap : Nat} {os : List LnV} (h : RS lnE w ao len cap os) : ∀ o ∈ os, OkL o := fun o ho => by
  obtain ⟨i, hi, rfl⟩ := List.getElem_of_mem ho
  obtain ⟨_, _, _, _, _, _, _, _, _, _, _, _, l1, l2, _⟩ := RS.ln h (List.getElem?_eq_getElem hi)
  exact ⟨l1.2.1, l2.2.1⟩
/-- How many numbers are unlike. -/
def dc : List Int → Nat
  | [] => 0
  | x :: r => dc r + if x ∈ r then 0 else 1
theorem dc_le : ∀ l : List Int, dc l ≤ l.length
  | [] => Nat.le_refl _
  | x :: r => by
    have := dc_le r
    unfold dc
    simp only [List.length_cons]
    split <;> omega
theorem dc_all : ∀ l : List Int, dc l = l.length ↔ l.Nodup
  | [] => by simp [dc]
  | x :: r => by
    have h1 := dc_le r
    have h2 := dc_all r
    unfold dc
    rw [List.length_cons, List.nodup_cons, ← h2]
    by_cases q : x ∈ r
    · rw [if_pos q]
      constructor
      · intro h; omega
      · intro h; exact absurd q h.1
    · rw [if_neg q]
      constructor
      · intro h; exact ⟨q, by omega⟩
      · intro h; omega
theorem dc_rev (l : List Int) : dc l.reverse = l.length ↔ l.Nodup := by
  have h := dc_all l.reverse
  rw [List.length_reverse] at h
  rw [h]
  unfold List.Nodup
  rw [List.pairwise_reverse]
  constructor
  · intro g; exact g.imp fun e => e.symm
  · intro g; exact g.imp fun e => e.symm
theorem dc_take {l : List Int} {k : Nat} {x : Int} (h : l[k]? = some x) : dc (l.take (k + 1)).reverse = dc (l.take k).reverse + if x ∈ l.take k then 0 else 1 := by
  obtain ⟨hk, rfl⟩ := List.getElem?_eq_some_iff.1 h
  rw [List.take_add_one, List.getElem?_eq_getElem hk]
  simp only [Option.toList, List.reverse_append, List.reverse_cons, List.reverse_nil, List.nil_append, List.singleton_append, dc, List.mem_reverse]
theorem wf64 {x : Int} (h : In64 x) : (Lit.int .i64 x).wf = true := by
  have e1 : IntKind.i64.min = -9223372036854775808 := by decide
  have e2 : IntKind.i64.max = 9223372036854775807 := by decide
  simp only [Lit.wf, e1, e2, Bool.and_eq_true, decide_eq_true_eq]
  exact h
theorem zero3 (w : World) : (zeroValue 3).run Try.prog w = .ok (.int .i64 0) w := by kernel_rfl
theorem underI : Try.prog.underlying 73 = some (.map 2 3) := Try.underlying73
/-- A map that has counted the numbers of a list. -/
def MapI (w : World) (b n : Nat) (L : List Int) : Prop := ∃ D : DataW Unit, w.ownsMap Try.prog 2 (plainElem Try.prog 3) b n D ∧ (∀ x, In64 x → (Maps.has D (.int .i64 x) = true ↔ x ∈ L)) ∧ Maps.size D = dc L.reverse
theorem mapI_new (w : World) : MapI (w.alloc (.map #[] 0)) w.heap.size 0 [] := ⟨.map [], World.ownsMap_made w _ _ _, fun x _ => by simp [Maps.has], rfl⟩
theorem MapI.look {w : World} {b n : Nat} {L : List Int} (h : MapI w b n L) {x : Int} (hx : In64 x) : ∃ c : Int, (Instr.lookup 73 (.map (some b)) (.int .i64 x) false).run Try.prog w = .ok (.int .i64 c) w := by
  obtain ⟨D, h1, h2, h3⟩ := h
  obtain ⟨c, r1, r2, r3⟩ := h1.lookup_int (Maps.int_keyed Try.underlying2) underI Try.underlying3 (zero3 w) (Maps.keyOf_int_mk Try.underlying2 (wf64 hx))
  exact ⟨c, r1⟩
theorem MapI.put {w : World} {b n : Nat} {L : List Int} (h : MapI w b n L) (hn : n < 1000000000) {x c : Int} (hx : In64 x) (hc : In64 c) :
    ∃ w', (Instr.mapUpdate 73 (.map (some b)) (.int .i64 x) (.int .i64 c)).run Try.prog w = .ok () w' ∧ MapI w' b (n + 1) (L ++ [x]) ∧ w.grownBy w' (some b) := by
  obtain ⟨D, h1, h2, h3⟩ := h
  have K := Maps.int_keyed (P := Try.prog) Try.underlying2
  have hk := Maps.keyOf_int_mk (P := Try.prog) Try.underlying2 (wf64 hx)
  obtain ⟨w', r1, r2, r3⟩ := h1.update K underI (by unfold maxLen; omega) hk (plainElem_int Try.underlying3 (wf64 hc))
  have ht := h1.tidy K
  refine ⟨w', r1, ⟨_, r2, fun y hy => ?_, ?_⟩, r3⟩
  · by_cases e : y = x
    · subst e
      rw [Maps.has_put_same ht.isMap (K.key hk)]
      simp
    · rw [Maps.has_put_other (fun z => e (by simpa using z)), h2 y hy]
      simp [e]
  · rw [Maps.size_put ht, h3, List.reverse_append, List.reverse_cons, List.reverse_nil, List.nil_append, List.singleton_append, dc]
    by_cases q : x ∈ L
    · rw [if_pos ((h2 x hx).2 q), if_pos (by simpa using q)]; rfl
    · rw [if_neg (fun z => q ((h2 x hx).1 z)), if_neg (by simpa using q)]
theorem MapI.same {w w2 : World} {b n : Nat} {L : List Int} (h : MapI w b n L) (hb : w2.heap[b]? = w.heap[b]?) : MapI w2 b n L := by
  obtain ⟨D, ⟨es, clock, h1, h2⟩, h3⟩ := h
  exact ⟨D, ⟨es, clock, hb.trans h1, h2⟩, h3⟩
theorem MapI.lt {w : World} {b n : Nat} {L : List Int} (h : MapI w b n L) : b < w.heap.size := by
  obtain ⟨D, ⟨es, clock, h1, h2⟩, h3⟩ := h
  exact (Array.getElem?_eq_some_iff.1 h1).1
theorem MapI.len {w : World} {b n : Nat} {L : List Int} (h : MapI w b n L) (ty : TypeId) : (Builtin.len_ #[73] ty #[.map (some b)]).run Try.prog w = .ok (.int .i64 (dc L.reverse : Nat)) w := by
  obtain ⟨D, h1, h2, h3⟩ := h
  rw [h1.len underI ty, h3]
end Go.Proofs.Ytjgfklbhagcbaab

/- Lines of tables as a row of one's own is sorted: what the comparison answers. -/
namespace Go.Proofs.Ytjgfklbhagcbaab
open Go.Shelf Go.RowKit Go.Lib Go.Sort
set_option linter.unusedVariables false
set_option linter.unusedSimpArgs false

theorem nanL_any {w : World} {a : Int} : Calls Try.prog 36 #[.int .i64 a] w fun e w' => e = .returned (.bool false) ∧ w' = w := by
  go_enter Try.func36, Try.ntmps36
  go_wp2
  go_ret
  simp
theorem nanL2_any {w : World} {a : Int} : Calls Try.prog 37 #[.int .i64 a] w fun e w' => e = .returned (.bool false) ∧ w' = w := by
  go_enter Try.func37, Try.ntmps37
  go_wp2
  go_ret
  simp
theorem cmpL_any {w : World} {a b : Int} : Calls Try.prog 24 #[.int .i64 a, .int .i64 b] w fun e w' => e = .returned (.int .i64 (cmI a b)) ∧ w' = w := by
  unfold cmI
  go_enter Try.func24, Try.ntmps24
  go_wp2_with (go_at_call 36; refine (@nanL_any _ _).mono ?_; rintro e w' ⟨rfl, rfl⟩)
  all_goals
    go_ret
    simp
    try omega
theorem cmpL2_any {w : World} {a b : Int} : Calls Try.prog 25 #[.int .i64 a, .int .i64 b] w fun e w' => e = .returned (.int .i64 (cmI a b)) ∧ w' = w := by
  unfold cmI
  go_enter Try.func25, Try.ntmps25
  go_wp2_with (go_at_call 37; refine (@nanL2_any _ _).mono ?_; rintro e w' ⟨rfl, rfl⟩)
  all_goals
    go_ret
    simp
    try omega
/-- A line where it lies. -/
structure ItV where
  t : LnV
  la : Option Addr
  lc : Nat
  ma : Option Addr
  mc : Nat
def ItV.cells (x : ItV) : List Value := [.int .i64 x.t.num, .int .i64 x.t.lvl, .int .i64 x.t.size, .slice x.la x.t.least.length x.lc, .slice x.ma x.t.most.length x.mc]
/-- It stands in the world, and does not lean on block b. -/
def ItOk (w : World) (b : Nat) (x : ItV) : Prop :=
  LnM w x.cells x.t ∧ ∀ v ∈ x.cells, ¬ Refs v b
structure ItS (w : World) (b : Nat) where
  v : ItV
  ok : ItOk w b v
def itE (w : World) (b : Nat) (x : ItS w b) : List Value := x.1.cells
def itT {w : World} {b : Nat} (x : ItS w b) : LnV := x.1.t
theorem it_nil (w : World) (b : Nat) : ItOk w b ⟨⟨0, 0, 0, [], []⟩, none, 0, none, 0⟩ := by
  refine ⟨⟨none, 0, none, 0, rfl, Sl.nil w, Sl.nil w, ?_⟩, fun v hv hr => ?_⟩
  · unfold In64; simp
  · obtain ⟨off, l, c, e, h0⟩ := hr
    subst e
    simp [ItV.cells] at hv
theorem itInh (w : World) (b : Nat) : Nonempty (ItS w b) := ⟨⟨_, it_nil w b⟩⟩
def itC {w : World} {b : Nat} (x y : ItS w b) : Int := ordC (itT x) (itT y)
theorem itE_len {w : World} {b : Nat} (x : ItS w b) : (itE w b x).length = 5 := rfl
theorem itE_one {w : World} {b : Nat} (x : ItS w b) : ∀ v ∈ itE w b x, v.oneCell' = true := fun v hv => lnE.one (x.2.1 : lnE.M w _ _) v hv
theorem ItOk.sl {w : World} {b : Nat} {x : ItV} (h : ItOk w b x) {w' : World} (hk : ∀ c, c < w.heap.size → c ≠ b → w'.heap[c]? = w.heap[c]?) : Sl w' x.la x.t.least.length x.lc x.t.least ∧ Sl w' x.ma x.t.most.length x.mc x.t.most := by
  obtain ⟨⟨la, lc, ma, mc, e, h1, h2, _⟩, h3⟩ := h
  simp only [ItV.cells, List.cons.injEq, Value.slice.injEq, true_and, and_true] at e
  obtain ⟨⟨rfl, rfl⟩, rfl, rfl⟩ := e
  exact ⟨h1.keep fun c hr => hk c (h1.lt hr) fun e => h3 _ (by simp [ItV.cells]) (e ▸ hr), h2.keep fun c hr => hk c (h2.lt hr) fun e => h3 _ (by simp [ItV.cells]) (e ▸ hr)⟩
set_option maxHeartbeats 4000000 in
/-- The comparison, where both lines' keys are there. -/
theorem ordcmp_any {w : World} {x y : ItV} (hx : Sl w x.la x.t.least.length x.lc x.t.least) (hy : Sl w y.la y.t.least.length y.lc y.t.least) :
    Calls Try.prog 23 #[.agg x.cells.toArray, .agg y.cells.toArray] w fun e w' => e = .returned (.int .i64 (ordC x.t y.t)) ∧ ∃ q os, w' = grow (w.drewN q) os := by
  obtain ⟨⟨n1, l1, s1, k1, m1⟩, la1, lc1, ma1, mc1⟩ := x
  obtain ⟨⟨n2, l2, s2, k2, m2⟩, la2, lc2, ma2, mc2⟩ := y
  unfold ItV.cells
  simp only at hx hy ⊢
  go_enter Try.func23, Try.ntmps23
  have hb : ∀ o1 o2, Below w.heap.size w ((w.alloc o1).alloc o2) := fun o1 o2 => ((Below.refl _ w).alloc (Nat.le_refl _) _).alloc (by simp) _
  have hx' := fun o1 o2 => hx.later (hb o1 o2)
  have hy' := fun o1 o2 => hy.later (hb o1 o2)
  have hw : ∀ o1 o2, (w.alloc o1).alloc o2 = grow (w.drewN 0) #[o1, o2] := fun o1 o2 => by rw [alloc_eq_grow, alloc_eq_grow, grow_grow]; rfl
  have HW := hidS hw
  clear hw hb hx hy
  obtain ⟨L1, hL1⟩ : ∃ L, L = k1.length := ⟨_, rfl⟩
  obtain ⟨L2, hL2⟩ : ∃ L, L = k2.length := ⟨_, rfl⟩
  rw [← hL1] at hx' ⊢
  rw [← hL2] at hy' ⊢
  clear hL1 hL2
  obtain ⟨M1, hM1⟩ : ∃ L, L = m1.length := ⟨_, rfl⟩
  obtain ⟨M2, hM2⟩ : ∃ L, L = m2.length := ⟨_, rfl⟩
  rw [← hM1, ← hM2]
  clear hM1 hM2
  unfold ordC
  simp only
  by_cases q1 : l1 = l2
  · rw [if_neg (show ¬ l1 ≠ l2 from fun h => h q1)]
    subst q1
    by_cases q2 : l1 = 0
    · rw [if_pos q2]
      subst q2
      go_wp2_with (go_at_call 25; refine (@cmpL2_any _ _ _).mono ?_; rintro e w' ⟨rfl, rfl⟩)
      exact bodyPost_ret (v := .int .i64 (cmI n2 n1)) (by simp [results, Try.results23, go_sem]) rfl ⟨rfl, _, _, HW.out _ _⟩
    · rw [if_neg q2]
      have q2b : (l1 == 0) = false := by simpa using q2
      go_wp2_with (go_at_call 26; refine (compare_l (hx' _ _) (hy' _ _)).mono ?_; rintro e w' ⟨rfl, rfl⟩)
      exact bodyPost_ret (v := .int .i64 (cmp k1 k2)) (by simp [results, Try.results23, go_sem]) rfl ⟨rfl, _, _, HW.out _ _⟩
  · rw [if_pos (show l1 ≠ l2 from q1)]
    have q1b : (l1 != l2) = true := by simpa using q1
    go_wp2_with (go_at_call 24; refine (@cmpL_any _ _ _).mono ?_; rintro e w' ⟨rfl, rfl⟩)
    exact bodyPost_ret (v := .int .i64 (cmI l1 l2)) (by simp [results, Try.results23, go_sem]) rfl ⟨rfl, _, _, HW.out _ _⟩
end Go.Proofs.Ytjgfklbhagcbaab
