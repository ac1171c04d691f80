/- The landed disk: a change done to a map; rows of calls to come; what is asked without a change. -/
import Derived.Test.YtligofmcmjblpaaGreatLrep
namespace Go.Proofs.YtligofmcmjblpaaGreat
open Go.RowKit Go.Maps
set_option linter.unusedVariables false
set_option linter.unusedSimpArgs false

theorem wpList_delL {w : World} {ops : Array Oper} {rest : List Oper} {o : Oper} {a : Act} {Q : Exit → Act → World → Prop} (hg : o.guard = none) (m x : Operand) (hop : o.op = Op.call { callee := Callee.builtin Builtin.delete, args := #[m, x], argTypes := #[46, 9] })
    (b : Nat) (loc : Nat → Nat) (l : List Ent) (hm : a.eval m = .map (some b)) (h : MapL w b loc l) (s : ByteArray) (hs : s.size ≤ maxLen) (hx : a.eval x = .string s)
    (hK : ∀ w', MapL w' b loc (drp l s) → w.grownBy w' (some b) → wpList Tryz.prog ops Q rest (a.put o.dst (.tuple #[])) w') : wpList Tryz.prog ops Q (o :: rest) a w :=
  wpList_delete_own w hg m x 46 9 hop 68 keyL Tryz.underlying46 fileE b l.length (dD loc l) hm h (.string s) (nm s) hx (WideMaps.keyOf_string_mk Tryz.underlying9 hs) fun w' h1 h2 => hK w' (MapL.exact (by rw [dD_del] at h1; exact h1)) h2.grown
theorem wpList_putL {w : World} {ops : Array Oper} {rest : List Oper} {o : Oper} {a : Act} {Q : Exit → Act → World → Prop} (hg : o.guard = none) (m x v : Operand) (hop : o.op = Op.mapUpdate 46 m x v)
    (b : Nat) (loc : Nat → Nat) (l : List Ent) (hm : a.eval m = .map (some b)) (h : MapL w b loc l) (hl : Srt l) (hn : l.length < maxLen) (s : ByteArray) (hs : s.size ≤ maxLen) (hx : a.eval x = .string s) (i : Nat) (hv : a.eval v = ptr (loc i))
    (hK : ∀ w', MapL w' b loc (pt l s i) → w.grownBy w' (some b) → wpList Tryz.prog ops Q rest (a.put o.dst undef) w') : wpList Tryz.prog ops Q (o :: rest) a w :=
  wpList_mapUpdate_own w hg m x v 46 hop 9 68 keyL Tryz.underlying46 fileE b l.length (dD loc l) hm h hn (.string s) (ptr (loc i)) (nm s) hx hv (WideMaps.keyOf_string_mk Tryz.underlying9 hs) _ [] (fileE_ptr _) fun w' h1 h2 => hK w' (MapL.exact (by rw [dD_put loc l hl] at h1; exact h1)) h2

theorem drp_len (l : List Ent) (s : ByteArray) : (drp l s).length ≤ l.length := List.length_filter_le _ _

set_option maxHeartbeats 1000000 in
set_option maxRecDepth 100000 in
theorem apply_any (c : Chg) (loc : Nat → Nat) (b : Nat) (l : List Ent) (w : World) (h : MapL w b loc l) (hl : Srt l) (hn : l.length < maxLen) (h1 : c.gone.size ≤ maxLen) (h2 : c.set.size ≤ maxLen) :
    Calls Tryz.prog 79 #[chv loc c, .map (some b)] w fun e w' => e = .returned (.tuple #[]) ∧ MapL w' b loc (c.ap l) ∧ w.grownBy w' (some b) := by
  obtain ⟨gone, set, f⟩ := c
  have hb := h.lt
  have hm : MapL (w.alloc (.cells #[.string gone, .string set, pv loc f] 83)) b loc l := h.same (Below.heap_alloc _ _ _ hb)
  have hg0 : w.grownBy (w.alloc (.cells #[.string gone, .string set, pv loc f] 83)) (some b) := World.grownBy_alloc _ _ _
  simp only at h1 h2
  unfold chv
  cases f with
  | none =>
    simp only [pv] at hm hg0 ⊢
    obtain ⟨wb, hwb⟩ : ∃ wb, wb = w.alloc (.cells #[.string gone, .string set, .pointer none] 83) := ⟨_, rfl⟩
    have hcb : ∀ k, wb.cell? ⟨w.heap.size, k, none⟩ = (#[Value.string gone, .string set, .pointer none] : Array Value)[k]? := fun k => by rw [hwb]; exact cell_of (heap_alloc_new w _) k
    have hne : some w.heap.size ≠ some b := fun e => by simp only [Option.some.injEq] at e; omega
    have hcb1 : wb.cell? ⟨w.heap.size, 1, none⟩ = some (.string set) := hcb 1
    have hcb2 : wb.cell? ⟨w.heap.size, 2, none⟩ = some (.pointer none) := hcb 2
    clear hcb
    go_enter Tryz.func79, Tryz.ntmps79
    go_wp2_with (first | (at_delete; rw [← hwb] at hm hg0 ⊢; refine wpList_delL rfl _ _ rfl b loc l rfl hm gone h1 rfl ?_; intro w2 m2 g2; have hc2 := g2.cell hcb2 hne) | go_in)
    go_end0
    exact ⟨rfl, m2, grown_trans hg0 g2⟩
  | some i =>
    simp only [pv] at hm hg0 ⊢
    unfold ptr at *
    obtain ⟨wb, hwb⟩ : ∃ wb, wb = w.alloc (.cells #[.string gone, .string set, .pointer (some ⟨loc i, 0, none⟩)] 83) := ⟨_, rfl⟩
    have hcb : ∀ k, wb.cell? ⟨w.heap.size, k, none⟩ = (#[Value.string gone, .string set, .pointer (some ⟨loc i, 0, none⟩)] : Array Value)[k]? := fun k => by rw [hwb]; exact cell_of (heap_alloc_new w _) k
    have hne : some w.heap.size ≠ some b := fun e => by simp only [Option.some.injEq] at e; omega
    have hcb1 : wb.cell? ⟨w.heap.size, 1, none⟩ = some (.string set) := hcb 1
    have hcb2 : wb.cell? ⟨w.heap.size, 2, none⟩ = some (.pointer (some ⟨loc i, 0, none⟩)) := hcb 2
    clear hcb
    have hl2 : Srt (drp l gone) := hl.drp gone
    have hn2 : (drp l gone).length < maxLen := Nat.lt_of_le_of_lt (drp_len l gone) hn
    go_enter Tryz.func79, Tryz.ntmps79
    go_wp2_with (first | (at_delete; rw [← hwb] at hm hg0 ⊢; refine wpList_delL rfl _ _ rfl b loc l rfl hm gone h1 rfl ?_; intro w2 m2 g2; have hc1 := g2.cell hcb1 hne; have hc2 := g2.cell hcb2 hne) | (at_mapUpdate; refine wpList_putL rfl _ _ _ rfl b loc (drp l gone) rfl m2 hl2 hn2 set h2 rfl i rfl ?_; intro w3 m3 g3) | go_in)
    go_end0
    exact ⟨rfl, m3, grown_trans (grown_trans hg0 g2) g3⟩
end Go.Proofs.YtligofmcmjblpaaGreat
