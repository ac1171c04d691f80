import Derived.Deep.RegionHeldLaw
import Derived.Deep.RegionLaw
import Derived.Test.YtjgfklbhagcbaabPk01
import Derived.Test.YtjgfklbhagcbaabPk04
import Derived.Test.YtjgfklbhagcbaabPk13
/- Lines of tables as a row of one's own is sorted: the library's SortStableFunc over them. -/
namespace Go.Proofs.Ytjgfklbhagcbaab
open Go.Shelf Go.RowKit Go.Lib Go.Sort
set_option linter.unusedVariables false
set_option linter.unusedSimpArgs false

theorem insN_any {w : World} {c : Nat} {v : Value} : Calls Try.prog 47 #[.slice none 0 c, .int .i64 0, .int .i64 0, v] w fun e w' => e = .returned (.tuple #[]) ∧ w' = w := by
  go_enter Try.func47, Try.ntmps47
  go_wp2
  refine wp_loop_rounds 1 ?_
  rw [rounds_succ]
  go_wp2
  go_end0
  simp
theorem stableN_any {w : World} {c : Nat} {v : Value} : Calls Try.prog 35 #[.slice none 0 c, .int .i64 0, v] w fun e w' => e = .returned (.tuple #[]) ∧ w' = w := by
  go_enter Try.func35, Try.ntmps35
  go_wp2
  refine wp_loop_rounds 1 ?_
  rw [rounds_succ]
  go_wp2_with (go_at_call 47; refine (@insN_any _ _ _).mono ?_; rintro e w' ⟨rfl, rfl⟩)
  refine wp_loop_rounds 1 ?_
  rw [rounds_succ]
  go_wp2
  go_end0
  simp
theorem sortN_any {w : World} {c : Nat} {v : Value} : Calls Try.prog 22 #[.slice none 0 c, v] w fun e w' => e = .returned (.tuple #[]) ∧ w' = w := by
  go_enter Try.func22, Try.ntmps22
  go_wp2_with (go_at_call 35; refine (@stableN_any _ _ _).mono ?_; rintro e w' ⟨rfl, rfl⟩)
  go_end0
  simp
theorem heap_putRow {α : Type} [Inhabited α] (enc : α → Value) (w : World) (blk off c : Nat) (d : Array α) (h : c ≠ blk) : (putRow enc w blk off d).heap[c]? = w.heap[c]? := by
  unfold putRow mapBlock
  simp [Array.getElem?_modify, Ne.symm h]
theorem heap_grow (w : World) (os : Array Obj) (c : Nat) (h : c < w.heap.size) : (grow w os).heap[c]? = w.heap[c]? := by
  unfold grow
  simp only
  rw [Array.getElem?_append_left h]
theorem heap_sortW {α : Type} [Inhabited α] (enc : α → List Value) (k : Nat) (w : World) (blk off m c : Nat) (d : Array α) (os : Array Obj) (hc : c < w.heap.size) (h : c ≠ blk) : (sortWorldK enc k w blk off m d os).heap[c]? = w.heap[c]? := by
  unfold sortWorldK
  rw [heap_grow _ _ _ (by rw [size_putRowK]; exact hc)]
  unfold putRowK
  rw [heap_putRow _ _ _ _ _ _ h]
  rfl
/-- What is asked of the comparison. -/
theorem ord_lays (w : World) (blk off size : Nat) [Inhabited (ItS w blk)] : CmpLays Try.prog 23 #[] (itE w blk) 5 itC blk off size w := fun m os dk hs x y => by
  have h1 := x.2.sl (w' := sortWorldK (itE w blk) 5 w blk off m dk os) fun c hc hne => heap_sortW _ _ _ _ _ _ _ _ _ hc hne
  have h2 := y.2.sl (w' := sortWorldK (itE w blk) 5 w blk off m dk os) fun c hc hne => heap_sortW _ _ _ _ _ _ _ _ _ hc hne
  exact ordcmp_any h1.1 h2.1
theorem itC_swo (w : World) (b : Nat) [Inhabited (ItS w b)] : SWO (ltOf (itC (w := w) (b := b))) := ordC_swo (itT (w := w) (b := b))
/-- A row of lines, as it is sorted. -/
theorem sort_any {w : World} {g off cap : Nat} (d : Array (ItS w g)) [Inhabited (ItS w g)] (hH : HoldsK (itE w g) 5 w g off d) (hg : g < w.heap.size) (hn : d.size ≤ 1000000) :
    Calls Try.prog 22 #[.slice (some ⟨g, off, none⟩) d.size cap, .func (.func 23) #[] #[]] w fun e w' => e = .returned (.tuple #[]) ∧ ∃ d', PermIn 0 d.size d d' ∧ SortedIn (ltOf itC) 0 d.size d' ∧ SWK (itE w g) 5 w g off d' w' := by
  have eg : ∀ args w, (callFunc 23 args).run Try.prog w = .ok (.enter 23 args) w := enters_of Try.func23 (by kernel_rfl) rfl
  have hc := stable_any (cap := cap) fives5 ⟨itE_len, itE_one, hH, hg⟩ eg (ord_lays w g off d.size) (itC_swo w g) hn (SWK.start hH)
  generalize d.size = n at hc ⊢
  go_enter Try.func22, Try.ntmps22
  go_wp2_with (go_at_call 35; refine hc.mono ?_; rintro e w' ⟨rfl, hm⟩)
  go_end0
  exact ⟨rfl, hm⟩
end Go.Proofs.Ytjgfklbhagcbaab

/- bytes.Clone. -/
namespace Go.Proofs.Ytjgfklbhagcbaab
open Go.RowKit
set_option linter.unusedVariables false
set_option linter.unusedSimpArgs false

theorem wpList_applN {w : World} {ops : Array Oper} {rest : List Oper} {o : Oper} {a : Act} {Q : Exit → Act → World → Prop} {B : Nat} {v : Value} {xs ys : List Int} {ao : Option Addr} {m c : Nat} (hgd : o.guard = none) (s x : Operand)
    (ho : o.op = .call { callee := .builtin .append, args := #[s, x], argTypes := #[23, 23] }) (hs : a.eval s = v) (hrow : Row B w v xs) (hx : a.eval x = .slice ao m c) (hsl : Sl w ao m c ys) (hb : xs.length + m ≤ 140737488355328) (hB : B ≤ w.heap.size)
    (h : ∀ v' w', Row B w' v' (xs ++ ys) → w.grownBy w' v.ownBlock → Moved w v v' → wpList Try.prog ops Q rest (a.put o.dst v') w') : wpList Try.prog ops Q (o :: rest) a w :=
  wpList_plain hgd fun K hK => by
    obtain ⟨v', w', hr, h2, h3, h4⟩ := run_app B w o.type v xs hrow ao m c (xof ys) hsl.2.2.1 hsl.2.2.2.2.2 hb hB
    rw [← hsl.1, bs_xof hsl.2.1] at h2
    unfold Oper.wp execOp
    simp only [ho, resolve, invoke, builtin, Sem.run_bind, Sem.run_pure, Result.andThen_ok, List.map_toArray, List.map_cons, List.map_nil, hs, hx, hr]
    exact hK _ _ (h v' w' h2 h3 h4)
set_option maxHeartbeats 1000000 in
set_option maxRecDepth 100000 in
theorem clone_n {w : World} {ao : Option Addr} {len cap : Nat} {xs : List Int} (h : Sl w ao len cap xs) (hl : len ≤ 140737488355328) :
    Calls Try.prog 21 #[.slice ao len cap] w fun e w' => ∃ v, e = .returned v ∧ Row w.heap.size w' v xs ∧ Below w.heap.size w w' := by
  have q22 : ∀ (w : World) (a : Option Addr) (n c n' c' : Nat), (binOp .eql 23 (.slice a n c) (.slice none n' c')).run Try.prog w = .ok (.bool a.isNone) w := fun w a n c n' c' => Lib.run_eql_slice_nil w _ _ a n c n' c' Try.underlying23
  cases ao with
  | none =>
    obtain ⟨rfl, rfl⟩ := h.2.2.1 rfl
    have hx : xs = [] := List.eq_nil_of_length_eq_zero h.1
    subst hx
    clear h hl
    go_enter Try.func21, Try.ntmps21
    go_wp2_with fail
    exact bodyPost_ret (v := .slice none 0 0) (by simp [results, Try.results21, go_sem]) rfl ⟨_, rfl, Row.nil _ _, Below.refl _ _⟩
  | some a =>
    have b1 : Below w.heap.size w (w.alloc (.cells #[] 5)) := (Below.refl _ _).alloc (Nat.le_refl _) _
    have HS : Hid (Sl (w.alloc (.cells #[] 5)) (some a) len cap xs ∧ len ≤ 140737488355328 ∧ Below w.heap.size w (w.alloc (.cells #[] 5)) ∧ Row w.heap.size (w.alloc (.cells #[] 5)) (.slice (some ⟨w.heap.size, 0, none⟩) 0 0) []) := ⟨h.later b1, hl, b1, World.ownsRow_made w #[] 0 (Nat.le_refl _) (Nat.zero_le _) rfl⟩
    clear h hl b1
    go_enter Try.func21, Try.ntmps21
    go_wp2_with (at_builtin; refine wpList_applN (B := w.heap.size) rfl (.tmp 5) (.tmp 6) rfl rfl HS.out.2.2.2 rfl HS.out.1 (by have := HS.out.2.1; simp; omega) HS.out.2.2.1.size ?_; intro v2 w2 r2 g2 m2)
    exact bodyPost_ret (v := v2) (by simp [results, Try.results21, go_sem]) rfl ⟨v2, rfl, r2, HS.out.2.2.1.trans (grown_below HS.out.2.2.2 g2 HS.out.2.2.1.size)⟩

end Go.Proofs.Ytjgfklbhagcbaab

/- A call of a Go function as one step of a region that draws its order. -/
namespace Go.Proofs.Ytjgfklbhagcbaab
open Go.RowKit
set_option linter.unusedVariables false
set_option linter.unusedSimpArgs false

theorem step_fn {P : Program} {ops : Array Oper} {w : World} {o : Oper} {a : Act} {K : Act → World → Prop} {Q : Exit → Act → World → Prop} {E : Prop} {R : Ending → World → Prop} (f : FuncId) {xs : Array Operand} {ts : Array TypeId} {args : Array Value} (hgd : o.guard = none)
    (hop : o.op = .call { callee := .value (.func f), args := xs, argTypes := ts }) (hargs : xs.map a.eval = args) (hf : (callFunc f args).run P w = .ok (.enter f args) w) (hc : Calls P f args w R) (h : ∀ e w', R e w' → ∃ v, e = .returned v ∧ K (a.put o.dst v) w') :
    if Region.wanted o (yielded ops a.tmps) = true then Oper.wp P o a w K Q else E := by
  have hw : Region.wanted o (yielded ops a.tmps) = true := by simp [Region.wanted, hgd]
  rw [if_pos hw]
  have hrun : (execOp a.eval o).run P w = .ok (.enter f args) w := by
    unfold execOp
    rw [hop]
    simp [resolve, invoke, Act.eval, go_sem, hargs, hf]
  unfold Oper.wp
  rw [hrun]
  exact hc.mono fun e w' hR => by
    obtain ⟨v, he, hk⟩ := h e w' hR
    subst he
    exact hk
end Go.Proofs.Ytjgfklbhagcbaab
