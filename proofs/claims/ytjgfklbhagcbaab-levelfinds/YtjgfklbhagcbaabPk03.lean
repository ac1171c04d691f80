import Derived.Test.YtjgfklbhagcbaabPk01
import Derived.Test.YtjgfklbhagcbaabPk02
/- What Len, appendSevens, fresh and Put make, and the document's own Put and Len. -/
namespace Go.Proofs.Ytjgfklbhagcbaab
open Go.RowKit

theorem grow_trans {w w1 w2 : World} {v v' : Value} (h : w.grownBy w1 v.ownBlock) (hm : Moved w v v') (h2 : w1.grownBy w2 v'.ownBlock) : w.grownBy w2 v.ownBlock := by
  refine ⟨h2.os.trans h.os, h2.tape.trans h.tape, h2.output.trans h.output, Nat.le_trans h.size h2.size, fun k hk hne => ?_⟩
  refine (h2.block k (Nat.lt_of_lt_of_le hk h.size) ?_).trans (h.block k hk hne)
  rcases hm with e | ⟨g, e, hg⟩
  · rw [e]; exact hne
  · rw [e]; intro e'; cases e'; omega
theorem Moved.refl (w : World) (v : Value) : Moved w v v := .inl rfl
theorem Moved.trans {w w1 : World} {v v' v'' : Value} (h : Moved w v v') (h2 : Moved w1 v' v'') (hs : w.heap.size ≤ w1.heap.size) : Moved w v v'' := by
  rcases h2 with e | ⟨g, e, hg⟩
  · rcases h with e1 | ⟨g, e1, hg⟩
    · exact .inl (e.trans e1)
    · exact .inr ⟨g, e.trans e1, hg⟩
  · exact .inr ⟨g, e, by omega⟩
theorem grow_refl (w : World) (r : Option Nat) : w.grownBy w r := ⟨rfl, rfl, rfl, Nat.le_refl _, fun _ _ _ => rfl⟩

theorem app_step {w wr w1 : World} {o : Obj} {v u v1 : Value} (hgr : w.grownBy wr v.ownBlock) (hmv : Moved w v u) (hg1 : (wr.alloc o).grownBy w1 u.ownBlock) (hm1 : Moved (wr.alloc o) u v1) :
    w.grownBy w1 v.ownBlock ∧ Moved w v v1 := by
  have h1 : wr.grownBy w1 u.ownBlock := grow_trans (World.grownBy_alloc wr o _) (Moved.refl _ _) hg1
  refine ⟨grow_trans hgr hmv h1, hmv.trans hm1 ?_⟩
  have := hgr.size
  simp
  omega

theorem rput_byte {m : Nat} (h : m < 18446744073709551616) : bits .or .u8 (IntKind.u8.wrap (bits .and .u64 (m : Int) 127)) 128 = ((m % 128 + 128 : Nat) : Int) := by
  rw [and127_64 h, wrapU8_nat, or128 (by omega)]
  congr 1
  omega

end Go.Proofs.Ytjgfklbhagcbaab

/- Appends to rows of bytes that pass 2^47 bytes: a row grows by a quarter at most, so it fits as long as it has 2^47 + 2^45. -/
namespace Go.Proofs.Ytjgfklbhagcbaab
open Go.RowKit
set_option linter.unusedVariables false
set_option linter.unusedSimpArgs false

theorem fitsW {need old : Nat} (h : old < need) (hb : need ≤ 175921860444160) : Builtin.nextslicecap need old ≤ 281474976710656 := by
  unfold Builtin.nextslicecap
  split
  · omega
  · split
    · omega
    · rw [growBy_four]
      repeat' split
      all_goals omega
/-- A row that was laid anew: its bytes, and room behind them. -/
theorem row_laid {B : Nat} {w : World} {ys : List Int} {n cap : Nat} (hn : ys.length = n) (hB : B ≤ w.heap.size) (h : n ≤ cap) (hm : cap ≤ maxLen) :
    Row B (w.drew.alloc (.cells ((ys.map (Value.int .u8)).toArray ++ Builtin.zeroCells (Value.int .u8 0).cells (cap - n)) 5)) (.slice (some ⟨w.heap.size, 0, none⟩) n cap) ys := by
  subst hn
  have hsz : ((ys.map (Value.int .u8)).toArray ++ Builtin.zeroCells (Value.int .u8 0).cells (cap - ys.length)).size = cap * 1 := by
    rw [Array.size_append, size_zeroCells, List.size_toArray, List.length_map]
    show ys.length + (cap - ys.length) * 1 = cap * 1
    omega
  refine ⟨by rw [List.length_map, Nat.mul_one], .inr ⟨w.heap.size, cap, _, rfl, hB, heap_alloc_new w.drew _, h, hm, hsz, ?_⟩⟩
  rw [Array.toList_append, Nat.mul_one]
  exact List.take_left' (by simp)
theorem grown_laid (w : World) (o : Obj) (r : Option Nat) : w.grownBy (w.drew.alloc o) r := ⟨rfl, rfl, rfl, by simp, fun k hk _ => heap_alloc_old (w := w.drew) _ hk⟩

theorem run_appW (B : Nat) (w : World) (ty : TypeId) (v : Value) (xs : List Int) (hrow : Row B w v xs) (ao : Option Addr) (m c : Nat) (X : Nat → Nat) (hnil : ao = none → m = 0 ∧ c = 0) (hby : Byt w ao m X)
    (hb : xs.length + m ≤ 175921860444160) (hbase : B ≤ w.heap.size) :
    ∃ v' w', (Builtin.append_ #[23, 23] ty #[v, .slice ao m c]).run Try.prog w = .ok v' w' ∧ Row B w' v' (xs ++ bs X m) ∧ w.grownBy w' v.ownBlock ∧ Moved w v v' := by
  by_cases hsm : xs.length + m ≤ 140737488355328
  · exact run_app B w ty v xs hrow ao m c X hnil hby hsm hbase
  obtain ⟨i, hi, hz, hsize, hbytes⟩ := info_parts Try.info5
  cases ao with
  | none =>
    obtain ⟨rfl, rfl⟩ := hnil rfl
    refine ⟨v, w, run_append_owned_none (P := Try.prog) (w := w) B 23 ty 5 i 1 Try.underlying23 hi v _ _ hrow, ?_, ⟨rfl, rfl, rfl, Nat.le_refl _, fun _ _ _ => rfl⟩, .inl rfl⟩
    simpa [bs] using hrow
  | some ad =>
    have hl : ((bs X m).map (Value.int .u8)).length = m * i.size := by rw [hsize]; simp [bs_length]
    have hnews : ∀ j u, ((bs X m).map (Value.int .u8))[j]? = some u → w.cell? (ad.add j) = some u := by
      intro j u hu
      have hj : j < m := by
        rcases Nat.lt_or_ge j m with h | h
        · exact h
        · rw [List.getElem?_eq_none (by simpa [bs_length] using h)] at hu; cases hu
      obtain ⟨_, b, off, e, hc⟩ := hby j hj
      simp only [Option.some.injEq] at e
      subst e
      rw [Addr.add_lit, hc]
      simp [bs, hj] at hu
      rw [← hu]
    have h1 : ∀ u ∈ (bs X m).map (Value.int .u8), u.oneCell' = true := fun u hu => by
      obtain ⟨_, _, rfl⟩ := List.mem_map.1 hu
      rfl
    have hln : (xs ++ bs X m).length = xs.length + m := by rw [List.length_append, bs_length]
    rcases hrow.2 with ⟨rfl, h0⟩ | ⟨g, cap, cur, rfl, hbg, hg, hnc, hcm, hcs, htake⟩
    · have hx : xs = [] := List.eq_nil_of_length_eq_zero h0
      subst hx
      have hm0 : 0 < m := by simp at hsm; omega
      have hr := run_append_nil (P := Try.prog) w 23 ty 5 i (.int .u8 0) Try.underlying23 hi hz ad m c _ hl hnews hm0 (by omega) (by rw [hbytes]; omega)
      refine ⟨_, _, hr, ?_, grown_laid _ _ _, .inr ⟨w.heap.size, rfl, Nat.le_refl _⟩⟩
      rw [List.nil_append]
      exact row_laid (bs_length X m) hbase (grownCap_ge w m 0 5) (grownCap_le_maxLen w m 0 5 (by unfold maxLen; omega))
    · by_cases hroom : xs.length + m ≤ cap
      · have hfit : xs.length * i.size + ((bs X m).map (Value.int .u8)).length ≤ cur.size := by rw [hl, hsize, hcs]; omega
        have hr := run_append_room (P := Try.prog) w 23 ty 5 i Try.underlying23 hi g xs.length cap cur hg ad m c _ hl hnews h1 hroom hfit
        refine ⟨_, _, hr, ⟨by rw [List.length_map, Nat.mul_one], .inr ⟨g, cap, _, by rw [hln], hbg, setRow_heap w g cur _ 5 _ hg, by rw [hln]; exact hroom, hcm, ?_, ?_⟩⟩, ⟨rfl, rfl, rfl, by simp, fun k _ hk => setRow_other w g k _ (fun e => hk (by simp [Value.ownBlock, e]))⟩, .inl rfl⟩
        · simp only [List.size_toArray, List.length_append, List.length_take, List.length_drop, Array.length_toList]
          rw [hl, hsize] at hfit ⊢
          omega
        · rw [hsize, htake, Nat.mul_one, hln, List.map_append, List.toList_toArray]
          exact List.take_left' (by simp [bs_length])
      · have holds : ∀ j u, (xs.map (Value.int .u8))[j]? = some u → w.cell? ((⟨g, 0, none⟩ : Addr).add j) = some u := World.ownsRow.cells hrow (g := g) rfl
        have hr := run_append_grow (P := Try.prog) w 23 ty 5 i (.int .u8 0) Try.underlying23 hi hz ⟨g, 0, none⟩ xs.length cap _ (by rw [hsize]; simp) holds ad m c _ hl hnews (by omega) (by omega) (by rw [hbytes, Nat.mul_one]; exact fitsW (by omega) hb)
        refine ⟨_, _, hr, ?_, grown_laid _ _ _, .inr ⟨w.heap.size, rfl, Nat.le_refl _⟩⟩
        have := row_laid (B := B) (w := w) hln hbase (grownCap_ge w (xs.length + m) cap 5) (grownCap_le_maxLen w (xs.length + m) cap 5 (by unfold maxLen; omega))
        rw [List.map_append, show ((xs.map (Value.int .u8)) ++ ((bs X m).map (Value.int .u8))).toArray = (xs.map (Value.int .u8)).toArray ++ ((bs X m).map (Value.int .u8)).toArray by simp] at this
        exact this
theorem wpList_appW {w : World} {ops : Array Oper} {rest : List Oper} {o : Oper} {a : Act} {Q : Exit → Act → World → Prop} (hgd : o.guard = none) (s x : Operand)
    (ho : o.op = .call { callee := .builtin .append, args := #[s, x], argTypes := #[23, 23] }) (B : Nat) (v : Value) (xs : List Int) (hs : a.eval s = v) (hrow : Row B w v xs)
    (ao : Option Addr) (m c : Nat) (X : Nat → Nat) (hx : a.eval x = .slice ao m c) (hnil : ao = none → m = 0 ∧ c = 0) (hby : Byt w ao m X) (hb : xs.length + m ≤ 175921860444160) (hbase : B ≤ w.heap.size)
    (h : ∀ v' w', Row B w' v' (xs ++ bs X m) → w.grownBy w' v.ownBlock → Moved w v v' → wpList Try.prog ops Q rest (a.put o.dst v') w') : wpList Try.prog ops Q (o :: rest) a w :=
  wpList_plain hgd fun K hK => by
    obtain ⟨v', w', hr, h2, h3, h4⟩ := run_appW B w o.type v xs hrow ao m c X hnil hby hb hbase
    unfold Oper.wp execOp
    simp only [ho, resolve, invoke, builtin, Sem.run_bind, Sem.run_pure, Result.andThen_ok, List.map_toArray, List.map_cons, List.map_nil, hs, hx, hr]
    exact hK _ _ (h v' w' h2 h3 h4)
end Go.Proofs.Ytjgfklbhagcbaab

/- What fresh and Put make, and the document's own Len; and that the program is awake. -/
namespace Go.Proofs.Ytjgfklbhagcbaab
open Go.RowKit

theorem Byt.grown {w w' : World} {ao : Option Addr} {len : Nat} {X : Nat → Nat} {r : Option Nat} (h : Byt w ao len X) (hg : w.grownBy w' r) (hne : ∀ b off, ao = some ⟨b, off, none⟩ → some b ≠ r) : Byt w' ao len X := fun k hk => by
  obtain ⟨h1, b, off, e, hc⟩ := h k hk
  exact ⟨h1, b, off, e, hg.cell hc (hne b off e)⟩

end Go.Proofs.Ytjgfklbhagcbaab
