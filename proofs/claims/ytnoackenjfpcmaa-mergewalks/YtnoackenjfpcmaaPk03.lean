import Derived.Test.YtnoackenjfpcmaaPk01
import Derived.Test.YtnoackenjfpcmaaPk02
/- Appends to rows of bytes that pass 2^47 bytes: a row grows by a quarter at most, so it fits as long as it has 2^47 + 2^45. -/
namespace Go.Proofs.Ytnoackenjfpcmaa
open Go.RowKit
set_option linter.unusedVariables false
set_option linter.unusedSimpArgs false

theorem fitsW {need old : Nat} (h : old < need) (hb : need ≤ 175921860444160) : Builtin.nextslicecap need old ≤ 281474976710656 := by
  unfold Builtin.nextslicecap
  split
  · omega
  · split
    · omega
    · rw [growBy_four]
      repeat' split
      all_goals omega
/-- A row that was laid anew: its bytes, and room behind them. -/
theorem row_laid {B : Nat} {w : World} {ys : List Int} {n cap : Nat} (hn : ys.length = n) (hB : B ≤ w.heap.size) (h : n ≤ cap) (hm : cap ≤ maxLen) :
    Row B (w.drew.alloc (.cells ((ys.map (Value.int .u8)).toArray ++ Builtin.zeroCells (Value.int .u8 0).cells (cap - n)) 5)) (.slice (some ⟨w.heap.size, 0, none⟩) n cap) ys := by
  subst hn
  have hsz : ((ys.map (Value.int .u8)).toArray ++ Builtin.zeroCells (Value.int .u8 0).cells (cap - ys.length)).size = cap * 1 := by
    rw [Array.size_append, size_zeroCells, List.size_toArray, List.length_map]
    show ys.length + (cap - ys.length) * 1 = cap * 1
    omega
  refine ⟨by rw [List.length_map, Nat.mul_one], .inr ⟨w.heap.size, cap, _, rfl, hB, heap_alloc_new w.drew _, h, hm, hsz, ?_⟩⟩
  rw [Array.toList_append, Nat.mul_one]
  exact List.take_left' (by simp)
theorem grown_laid (w : World) (o : Obj) (r : Option Nat) : w.grownBy (w.drew.alloc o) r := ⟨rfl, rfl, rfl, by simp, fun k hk _ => heap_alloc_old (w := w.drew) _ hk⟩

theorem run_appW (B : Nat) (w : World) (ty : TypeId) (v : Value) (xs : List Int) (hrow : Row B w v xs) (ao : Option Addr) (m c : Nat) (X : Nat → Nat) (hnil : ao = none → m = 0 ∧ c = 0) (hby : Byt w ao m X)
    (hb : xs.length + m ≤ 175921860444160) (hbase : B ≤ w.heap.size) :
    ∃ v' w', (Builtin.append_ #[33, 33] ty #[v, .slice ao m c]).run Try.prog w = .ok v' w' ∧ Row B w' v' (xs ++ bs X m) ∧ w.grownBy w' v.ownBlock ∧ Moved w v v' := by
  by_cases hsm : xs.length + m ≤ 140737488355328
  · exact run_app B w ty v xs hrow ao m c X hnil hby hsm hbase
  obtain ⟨i, hi, hz, hsize, hbytes⟩ := info_parts Try.info5
  cases ao with
  | none =>
    obtain ⟨rfl, rfl⟩ := hnil rfl
    refine ⟨v, w, run_append_owned_none (P := Try.prog) (w := w) B 33 ty 5 i 1 Try.underlying33 hi v _ _ hrow, ?_, ⟨rfl, rfl, rfl, Nat.le_refl _, fun _ _ _ => rfl⟩, .inl rfl⟩
    simpa [bs] using hrow
  | some ad =>
    have hl : ((bs X m).map (Value.int .u8)).length = m * i.size := by rw [hsize]; simp [bs_length]
    have hnews : ∀ j u, ((bs X m).map (Value.int .u8))[j]? = some u → w.cell? (ad.add j) = some u := by
      intro j u hu
      have hj : j < m := by
        rcases Nat.lt_or_ge j m with h | h
        · exact h
        · rw [List.getElem?_eq_none (by simpa [bs_length] using h)] at hu; cases hu
      obtain ⟨_, b, off, e, hc⟩ := hby j hj
      simp only [Option.some.injEq] at e
      subst e
      rw [Addr.add_lit, hc]
      simp [bs, hj] at hu
      rw [← hu]
    have h1 : ∀ u ∈ (bs X m).map (Value.int .u8), u.oneCell' = true := fun u hu => by
      obtain ⟨_, _, rfl⟩ := List.mem_map.1 hu
      rfl
    have hln : (xs ++ bs X m).length = xs.length + m := by rw [List.length_append, bs_length]
    rcases hrow.2 with ⟨rfl, h0⟩ | ⟨g, cap, cur, rfl, hbg, hg, hnc, hcm, hcs, htake⟩
    · have hx : xs = [] := List.eq_nil_of_length_eq_zero h0
      subst hx
      have hm0 : 0 < m := by simp at hsm; omega
      have hr := run_append_nil (P := Try.prog) w 33 ty 5 i (.int .u8 0) Try.underlying33 hi hz ad m c _ hl hnews hm0 (by omega) (by rw [hbytes]; omega)
      refine ⟨_, _, hr, ?_, grown_laid _ _ _, .inr ⟨w.heap.size, rfl, Nat.le_refl _⟩⟩
      rw [List.nil_append]
      exact row_laid (bs_length X m) hbase (grownCap_ge w m 0 5) (grownCap_le_maxLen w m 0 5 (by unfold maxLen; omega))
    · by_cases hroom : xs.length + m ≤ cap
      · have hfit : xs.length * i.size + ((bs X m).map (Value.int .u8)).length ≤ cur.size := by rw [hl, hsize, hcs]; omega
        have hr := run_append_room (P := Try.prog) w 33 ty 5 i Try.underlying33 hi g xs.length cap cur hg ad m c _ hl hnews h1 hroom hfit
        refine ⟨_, _, hr, ⟨by rw [List.length_map, Nat.mul_one], .inr ⟨g, cap, _, by rw [hln], hbg, setRow_heap w g cur _ 5 _ hg, by rw [hln]; exact hroom, hcm, ?_, ?_⟩⟩, ⟨rfl, rfl, rfl, by simp, fun k _ hk => setRow_other w g k _ (fun e => hk (by simp [Value.ownBlock, e]))⟩, .inl rfl⟩
        · simp only [List.size_toArray, List.length_append, List.length_take, List.length_drop, Array.length_toList]
          rw [hl, hsize] at hfit ⊢
          omega
        · rw [hsize, htake, Nat.mul_one, hln, List.map_append, List.toList_toArray]
          exact List.take_left' (by simp [bs_length])
      · have holds : ∀ j u, (xs.map (Value.int .u8))[j]? = some u → w.cell? ((⟨g, 0, none⟩ : Addr).add j) = some u := World.ownsRow.cells hrow (g := g) rfl
        have hr := run_append_grow (P := Try.prog) w 33 ty 5 i (.int .u8 0) Try.underlying33 hi hz ⟨g, 0, none⟩ xs.length cap _ (by rw [hsize]; simp) holds ad m c _ hl hnews (by omega) (by omega) (by rw [hbytes, Nat.mul_one]; exact fitsW (by omega) hb)
        refine ⟨_, _, hr, ?_, grown_laid _ _ _, .inr ⟨w.heap.size, rfl, Nat.le_refl _⟩⟩
        have := row_laid (B := B) (w := w) hln hbase (grownCap_ge w (xs.length + m) cap 5) (grownCap_le_maxLen w (xs.length + m) cap 5 (by unfold maxLen; omega))
        rw [List.map_append, show ((xs.map (Value.int .u8)) ++ ((bs X m).map (Value.int .u8))).toArray = (xs.map (Value.int .u8)).toArray ++ ((bs X m).map (Value.int .u8)).toArray by simp] at this
        exact this
theorem wpList_appW {w : World} {ops : Array Oper} {rest : List Oper} {o : Oper} {a : Act} {Q : Exit → Act → World → Prop} (hgd : o.guard = none) (s x : Operand)
    (ho : o.op = .call { callee := .builtin .append, args := #[s, x], argTypes := #[33, 33] }) (B : Nat) (v : Value) (xs : List Int) (hs : a.eval s = v) (hrow : Row B w v xs)
    (ao : Option Addr) (m c : Nat) (X : Nat → Nat) (hx : a.eval x = .slice ao m c) (hnil : ao = none → m = 0 ∧ c = 0) (hby : Byt w ao m X) (hb : xs.length + m ≤ 175921860444160) (hbase : B ≤ w.heap.size)
    (h : ∀ v' w', Row B w' v' (xs ++ bs X m) → w.grownBy w' v.ownBlock → Moved w v v' → wpList Try.prog ops Q rest (a.put o.dst v') w') : wpList Try.prog ops Q (o :: rest) a w :=
  wpList_plain hgd fun K hK => by
    obtain ⟨v', w', hr, h2, h3, h4⟩ := run_appW B w o.type v xs hrow ao m c X hnil hby hb hbase
    unfold Oper.wp execOp
    simp only [ho, resolve, invoke, builtin, Sem.run_bind, Sem.run_pure, Result.andThen_ok, List.map_toArray, List.map_cons, List.map_nil, hs, hx, hr]
    exact hK _ _ (h v' w' h2 h3 h4)
end Go.Proofs.Ytnoackenjfpcmaa

/- What fresh and Put make, and the document's own Len; and that the program is awake. -/
namespace Go.Proofs.Ytnoackenjfpcmaa
open Go.RowKit

theorem Byt.grown {w w' : World} {ao : Option Addr} {len : Nat} {X : Nat → Nat} {r : Option Nat} (h : Byt w ao len X) (hg : w.grownBy w' r) (hne : ∀ b off, ao = some ⟨b, off, none⟩ → some b ≠ r) : Byt w' ao len X := fun k hk => by
  obtain ⟨h1, b, off, e, hc⟩ := h k hk
  exact ⟨h1, b, off, e, hg.cell hc (hne b off e)⟩

end Go.Proofs.Ytnoackenjfpcmaa

/- Slices of bytes as lists: read, cut, told as texts; rows of them. -/
namespace Go.Proofs.Ytnoackenjfpcmaa
open Go.RowKit
set_option linter.unusedVariables false
set_option linter.unusedSimpArgs false

theorem Okb.tail {x : Int} {r : List Int} (h : Okb (x :: r)) : Okb r := fun y hy => h y (List.mem_cons_of_mem _ hy)
theorem xof_succ (x : Int) (r : List Int) (k : Nat) : xof (x :: r) (k + 1) = xof r k := by simp [xof]
theorem xof_zero (x : Int) (r : List Int) : xof (x :: r) 0 = x.toNat := by simp [xof]
/-- A slice of bytes: its shape and what it holds. -/
def Sl (w : World) (ao : Option Addr) (len cap : Nat) (xs : List Int) : Prop :=
  xs.length = len ∧ Okb xs ∧ (ao = none → len = 0 ∧ cap = 0) ∧ len ≤ cap ∧ cap ≤ maxLen ∧ Byt w ao len (xof xs)
theorem Sl.later {w w' : World} {ao : Option Addr} {len cap : Nat} {xs : List Int} (h : Sl w ao len cap xs) (hb : Below w.heap.size w w') : Sl w' ao len cap xs :=
  ⟨h.1, h.2.1, h.2.2.1, h.2.2.2.1, h.2.2.2.2.1, h.2.2.2.2.2.later hb⟩
theorem Sl.nil (w : World) : Sl w none 0 0 [] := ⟨rfl, (fun x hx => by cases hx), fun _ => ⟨rfl, rfl⟩, Nat.le_refl _, Nat.zero_le _, fun k hk => by cases hk⟩
theorem Sl.ofRow {B : Nat} {w : World} {v : Value} {xs : List Int} (h : Row B w v xs) (hok : Okb xs) : ∃ ao cap, v = .slice ao xs.length cap ∧ Sl w ao xs.length cap xs := by
  obtain ⟨ao, cap, rfl, q1, q2, q3, q4⟩ := h.byt hok
  exact ⟨ao, cap, rfl, rfl, hok, q1, q2, q3, q4⟩
/-- Where a slice begins that is cut at i. -/
def cutA (ao : Option Addr) (cap i : Nat) : Option Addr := if cap - i = 0 then ao else ao.map (fun a => a.add i)
theorem elem33 : Try.prog.elem 33 = 5 := by kernel_rfl
theorem under33 : Try.prog.underlying 33 = some (.slice (Try.prog.elem 33)) := by rw [elem33]; exact Try.underlying33
theorem sliced_cut (ao : Option Addr) (cap i j : Nat) (h : i ≤ cap) : sliced ao i j cap 1 = .slice (cutA ao cap i) (j - i) (cap - i) := by
  unfold sliced cutA
  rw [Nat.mul_one]
  congr 1
  by_cases q : cap = i
  · rw [if_pos q, if_pos (by omega)]
  · rw [if_neg q, if_neg (by omega)]
theorem run_cut (w : World) (ao : Option Addr) (len cap i j : Nat) (h1 : i ≤ j) (h2 : j ≤ cap) : (Instr.slice 33 (.slice ao len cap) (some (.int .i64 (i : Int))) (some (.int .i64 (j : Int))) none).run Try.prog w = .ok (.slice (cutA ao cap i) (j - i) (cap - i)) w := by
  rw [run_slice_lh (P := Try.prog) (w := w) 33 ao len cap under33 .i64 .i64 (i : Int) (j : Int) (by omega) (by omega) (by omega), elem33, Try.sizeOf5]
  simp only [Result.andThen, Int.toNat_natCast]
  rw [sliced_cut _ _ _ _ (by omega)]
theorem run_from (w : World) (ao : Option Addr) (len cap i : Nat) (h1 : i ≤ len) (h2 : len ≤ cap) : (Instr.slice 33 (.slice ao len cap) (some (.int .i64 (i : Int))) none none).run Try.prog w = .ok (.slice (cutA ao cap i) (len - i) (cap - i)) w := by
  rw [run_slice_l (P := Try.prog) (w := w) 33 ao len cap under33 .i64 (i : Int) (by omega) (by omega), elem33, Try.sizeOf5]
  simp only [Result.andThen, Int.toNat_natCast]
  rw [sliced_cut _ _ _ _ (by omega)]
/-- What a cut slice holds. -/
theorem Sl.cut {w : World} {ao : Option Addr} {len cap : Nat} {xs : List Int} (h : Sl w ao len cap xs) (i j : Nat) (h1 : i ≤ j) (h2 : j ≤ len) : Sl w (cutA ao cap i) (j - i) (cap - i) ((xs.drop i).take (j - i)) := by
  obtain ⟨e1, e2, e3, e4, e5, e6⟩ := h
  refine ⟨by rw [List.length_take, List.length_drop]; omega, fun x hx => e2 x (List.mem_of_mem_drop (List.mem_of_mem_take hx)), fun hn => ?_, by omega, by omega, fun k hk => ?_⟩
  · unfold cutA at hn
    by_cases q : cap - i = 0
    · exact ⟨by omega, q⟩
    · rw [if_neg q] at hn
      have := e3 (by simpa using hn)
      omega
  · obtain ⟨hb, b, off, rfl, hc⟩ := e6 (i + k) (by omega)
    have ex : xof ((xs.drop i).take (j - i)) k = xof xs (i + k) := by
      unfold xof
      rw [List.getD_eq_getElem?_getD, List.getElem?_take_of_lt hk, List.getElem?_drop, List.getD_eq_getElem?_getD]
    refine ⟨by rw [ex]; exact hb, b, off + i, ?_, by rw [ex, Nat.add_assoc]; exact hc⟩
    unfold cutA
    rw [if_neg (by omega)]
    simp [Addr.add]
theorem Sl.from {w : World} {ao : Option Addr} {len cap : Nat} {xs : List Int} (h : Sl w ao len cap xs) (i : Nat) (h2 : i ≤ len) : Sl w (cutA ao cap i) (len - i) (cap - i) (xs.drop i) := by
  have := h.cut i len h2 (Nat.le_refl _)
  rw [List.take_of_length_le (by rw [List.length_drop, h.1]; omega)] at this
  exact this
/-- A row of records that is read. -/
def RB (w : World) (ao : Option Addr) (len cap : Nat) (rs : List (List Int)) : Prop :=
  rs.length = len ∧ (ao = none → len = 0 ∧ cap = 0) ∧ len ≤ cap ∧ cap ≤ maxLen ∧
    ∀ (i : Nat) (r : List Int), rs[i]? = some r → ∃ b off a c, ao = some ⟨b, off, none⟩ ∧ w.cell? ⟨b, off + i, none⟩ = some (Value.slice a r.length c) ∧ Sl w a r.length c r
theorem RB.later {w w' : World} {ao : Option Addr} {len cap : Nat} {rs : List (List Int)} (h : RB w ao len cap rs) (hb : Below w.heap.size w w') : RB w' ao len cap rs := by
  obtain ⟨h1, h2, h3, h4, h5⟩ := h
  refine ⟨h1, h2, h3, h4, fun i r hr => ?_⟩
  obtain ⟨b, off, a, c, e, hc, hs⟩ := h5 i r hr
  exact ⟨b, off, a, c, e, cell_later hb hc, hs.later hb⟩
theorem Sl.grown {w w' : World} {ao : Option Addr} {len cap : Nat} {xs : List Int} {g : Option Nat} (h : Sl w ao len cap xs) (hg : w.grownBy w' g) (hne : xs ≠ [] → ∀ b off, ao = some ⟨b, off, none⟩ → g ≠ some b) : Sl w' ao len cap xs := by
  obtain ⟨e1, e2, e3, e4, e5, e6⟩ := h
  refine ⟨e1, e2, e3, e4, e5, ?_⟩
  by_cases q : xs = []
  · intro k hk
    rw [q] at e1
    simp at e1
    omega
  · exact e6.grown hg (fun b off e => (hne q b off e).symm)
theorem Sl.block {w : World} {ao : Option Addr} {len cap : Nat} {xs : List Int} (h : Sl w ao len cap xs) (hne : xs ≠ []) {b off : Nat} (e : ao = some ⟨b, off, none⟩) : b < w.heap.size := by
  have hl : 0 < len := by rw [← h.1]; exact List.length_pos_iff.2 hne
  obtain ⟨_, b', off', e', hc⟩ := h.2.2.2.2.2 0 hl
  rw [e] at e'
  simp only [Option.some.injEq, Addr.mk.injEq, and_true] at e'
  obtain ⟨rfl, rfl⟩ := e'
  rcases Nat.lt_or_ge b w.heap.size with q | q
  · exact q
  · unfold World.cell? at hc
    rw [Array.getElem?_eq_none q] at hc
    simp at hc
/-- A slice of bytes, as a value. -/
def SlV (w : World) (v : Value) (xs : List Int) : Prop := ∃ a c, v = .slice a xs.length c ∧ Sl w a xs.length c xs
def RBV (w : World) (v : Value) (rs : List (List Int)) : Prop := ∃ a c, v = .slice a rs.length c ∧ RB w a rs.length c rs
theorem SlV.later {w w' : World} {v : Value} {xs : List Int} (h : SlV w v xs) (hb : Below w.heap.size w w') : SlV w' v xs := by
  obtain ⟨a, c, e, hs⟩ := h
  exact ⟨a, c, e, hs.later hb⟩
theorem RBV.later {w w' : World} {v : Value} {rs : List (List Int)} (h : RBV w v rs) (hb : Below w.heap.size w w') : RBV w' v rs := by
  obtain ⟨a, c, e, hs⟩ := h
  exact ⟨a, c, e, hs.later hb⟩
theorem SlV.ofRow {B : Nat} {w : World} {v : Value} {xs : List Int} (h : Row B w v xs) (hok : Okb xs) : SlV w v xs := by
  obtain ⟨a, c, e, hs⟩ := Sl.ofRow h hok
  exact ⟨a, c, e, hs⟩
theorem str_l {w : World} {ao : Option Addr} {len cap : Nat} {xs : List Int} (h : Sl w ao len cap xs) : (convert 33 9 (.slice ao len cap)).run Try.prog w = .ok (.string (strOfNums xs)) w := by
  have := run_str (cap := cap) h.2.2.2.2.2 h.2.2.1
  rw [← h.1, bs_xof h.2.1, h.1] at this
  exact this
theorem Sl.drewN {w : World} {ao : Option Addr} {len cap : Nat} {xs : List Int} (h : Sl w ao len cap xs) (m : Nat) : Sl (w.drewN m) ao len cap xs := h.later (below_drewN (Below.refl _ _) m)
theorem str_inj' : ∀ {xs ys : List Int}, Okb xs → Okb ys → (xs.map fun n => UInt8.ofNat n.toNat) = (ys.map fun n => UInt8.ofNat n.toNat) → xs = ys
  | [], [], _, _, _ => rfl
  | [], _ :: _, _, _, h => by simp at h
  | _ :: _, [], _, _, h => by simp at h
  | x :: xs, y :: ys, hx, hy, h => by
    rw [List.map_cons, List.map_cons, List.cons.injEq] at h
    have h1 := hx x (List.mem_cons_self ..)
    have h2 := hy y (List.mem_cons_self ..)
    have e : x = y := by
      have := congrArg UInt8.toNat h.1
      rw [UInt8.toNat_ofNat', UInt8.toNat_ofNat'] at this
      simp only [Nat.reducePow] at this
      rw [Nat.mod_eq_of_lt (by omega), Nat.mod_eq_of_lt (by omega)] at this
      omega
    rw [e, str_inj' hx.tail hy.tail h.2]
theorem str_inj {xs ys : List Int} (hx : Okb xs) (hy : Okb ys) (h : (strOfNums xs).toList = (strOfNums ys).toList) : xs = ys := by
  rw [ByteArray.toList_eq, ByteArray.toList_eq, strOfNums_data, strOfNums_data] at h
  exact str_inj' hx hy h
theorem str_eq {xs ys : List Int} (hx : Okb xs) (hy : Okb ys) : ((strOfNums xs).toList == (strOfNums ys).toList) = decide (xs = ys) := by
  rw [Bool.eq_iff_iff, beq_iff_eq, decide_eq_true_eq]
  exact ⟨str_inj hx hy, fun e => by rw [e]⟩
theorem cutA_zero {b off : Nat} {cap : Nat} : cutA (some ⟨b, off, none⟩) cap 0 = some ⟨b, off, none⟩ := by
  unfold cutA
  split
  · rfl
  · simp [Addr.add]
theorem run_head33 (w : World) (ao : Option Addr) (len cap j : Nat) (h2 : j ≤ cap) : (Instr.slice 33 (.slice ao len cap) none (some (.int .i64 (j : Int))) none).run Try.prog w = .ok (.slice (cutA ao cap 0) j cap) w := by
  rw [run_slice_h (P := Try.prog) (w := w) 33 ao len cap under33 .i64 (j : Int) (by omega) (by omega), elem33, Try.sizeOf5]
  simp only [Result.andThen, Int.toNat_natCast]
  rw [sliced_cut _ _ _ _ (by omega)]
  rfl
theorem Sl.head {w : World} {ao : Option Addr} {len cap : Nat} {xs : List Int} (h : Sl w ao len cap xs) (j : Nat) (h2 : j ≤ len) : Sl w (cutA ao cap 0) j cap (xs.take j) := h.cut 0 j (Nat.zero_le _) h2
theorem RB.head {w : World} {ao : Option Addr} {len cap : Nat} {rs : List (List Int)} (h : RB w ao len cap rs) (j : Nat) (h2 : j ≤ len) : RB w (cutA ao cap 0) j cap (rs.take j) := by
  obtain ⟨e1, e2, e3, e4, e5⟩ := h
  refine ⟨by rw [List.length_take]; omega, fun hn => ?_, by omega, e4, fun i r hr => ?_⟩
  · cases ao with
    | none => have := e2 rfl; omega
    | some a =>
      unfold cutA at hn
      split at hn
      · cases hn
      · cases hn
  · have hi : i < j := by
      have := (List.getElem?_eq_some_iff.1 hr).1
      rw [List.length_take] at this
      omega
    rw [List.getElem?_take_of_lt hi] at hr
    obtain ⟨b, off, a, c, rfl, hc, hs⟩ := e5 i r hr
    exact ⟨b, off, a, c, cutA_zero, hc, hs⟩
theorem RB.okb {w : World} {ao : Option Addr} {len cap : Nat} {rs : List (List Int)} (h : RB w ao len cap rs) : ∀ r ∈ rs, Okb r := fun r hr => by
  obtain ⟨i, hi, rfl⟩ := List.getElem_of_mem hr
  obtain ⟨b, off, a, c, _, _, hs⟩ := h.2.2.2.2 i rs[i] (List.getElem?_eq_getElem hi)
  exact hs.2.1
theorem row_empty (w : World) : Row w.heap.size (w.alloc (.cells #[] 5)) (.slice (some ⟨w.heap.size, 0, none⟩) 0 0) [] :=
  ⟨rfl, .inr ⟨w.heap.size, 0, #[], rfl, Nat.le_refl _, heap_alloc_new w _, Nat.le_refl _, Nat.zero_le _, rfl, rfl⟩⟩
theorem Row.later {B : Nat} {w w' : World} {v : Value} {xs : List Int} (h : Row B w v xs) (hb : Below w.heap.size w w') : Row B w' v xs := by
  unfold Row at h ⊢
  refine ⟨h.1, ?_⟩
  rcases h.2 with q | ⟨g, cap, cur, q1, q2, q3, q4⟩
  · exact .inl q
  · exact .inr ⟨g, cap, cur, q1, q2, by rw [hb.block g (Array.getElem?_eq_some_iff.1 q3).1]; exact q3, q4⟩
theorem slv_nil (w : World) : SlV w (.slice none 0 0) [] := ⟨none, 0, rfl, Sl.nil w⟩
theorem Row.base {B B' : Nat} {w : World} {v : Value} {xs : List Int} (h : Row B w v xs) (hB : B' ≤ B) : Row B' w v xs := by
  unfold Row at h ⊢
  refine ⟨h.1, ?_⟩
  rcases h.2 with q | ⟨g, cap, cur, q1, q2, q3⟩
  · exact .inl q
  · exact .inr ⟨g, cap, cur, q1, by omega, q3⟩
end Go.Proofs.Ytnoackenjfpcmaa
