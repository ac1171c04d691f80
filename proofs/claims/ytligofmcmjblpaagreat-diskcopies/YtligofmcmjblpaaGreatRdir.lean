/- The document's own disk: directories: copied, with a name less, with a name more. -/
import Derived.Test.YtligofmcmjblpaaGreatRfind
import Derived.Maps.AppendAt
namespace Go.Proofs.YtligofmcmjblpaaGreat
open Go.RowKit
set_option linter.unusedVariables false
set_option linter.unusedSimpArgs false

theorem _root_.Go.Proofs.Tryz.info102 : (Tryz.prog.info? 102).map (fun i => (i.zero, i.size, i.bytes)) = some (some (.agg #[.string ⟨#[]⟩, .pointer none]), 2, 24) := by kernel_rfl
/-- A directory that is being built, from block B on. -/
def DRow (B : Nat) (w : World) (loc : Nat → Nat) (v : Value) (l : List Ent) : Prop := w.ownsRow B 102 2 v l.length (entC loc l)
theorem DRow.nil (B : Nat) (w : World) (loc : Nat → Nat) : DRow B w loc (.slice none 0 0) [] := World.ownsRow_nil w B 102 2
theorem entC_one (loc : Nat → Nat) (l : List Ent) : ∀ u ∈ entC loc l, u.oneCell' = true := fun u hu => by
  simp only [entC, List.mem_flatMap] at hu
  obtain ⟨e, _, h⟩ := hu
  simp only [List.mem_cons, List.not_mem_nil, or_false] at h
  rcases h with rfl | rfl <;> rfl
theorem DRow.below {B : Nat} {w w' : World} {loc : Nat → Nat} {v : Value} {l : List Ent} (h : DRow B w loc v l) (hb : Below w.heap.size w w') : DRow B w' loc v l :=
  owns_same h fun g e => hb.block g (owns_ty h e).lt

theorem run_ent (B : Nat) (w : World) (ty : TypeId) (loc : Nat → Nat) (v : Value) (l : List Ent) (hrow : DRow B w loc v l) (ao : Option Addr) (m c : Nat) (l2 : List Ent) (hm : m = l2.length) (hnil : ao = none → m = 0 ∧ c = 0)
    (hc : ∀ (j : Nat) (u : Value), (entC loc l2)[j]? = some u → ∃ b, ao = some ⟨b, 0, none⟩ ∧ w.cell? ⟨b, j, none⟩ = some u) (hb : l.length + m ≤ 2 ^ 41) (hbase : B ≤ w.heap.size) :
    ∃ v' w', (Builtin.append_ #[53, 53] ty #[v, .slice ao m c]).run Tryz.prog w = .ok v' w' ∧ DRow B w' loc v' (l ++ l2) ∧ w.grownBy w' v.ownBlock ∧ (v'.ownBlock = v.ownBlock ∨ v'.ownBlock = some w.heap.size) := by
  obtain ⟨i, hi, hz, hsize, hbytes⟩ := info_parts Tryz.info102
  cases ao with
  | none =>
    obtain ⟨h1, rfl⟩ := hnil rfl
    subst h1
    obtain rfl : l2 = [] := List.length_eq_zero_iff.1 hm.symm
    refine ⟨v, w, run_append_owned_none (P := Tryz.prog) (w := w) B 53 ty 102 i 2 Tryz.underlying53 hi v _ _ hrow, ?_, ⟨rfl, rfl, rfl, Nat.le_refl _, fun _ _ _ => rfl⟩, .inl rfl⟩
    rw [List.append_nil]
    exact hrow
  | some ad =>
    have hl : (entC loc l2).length = m * 2 := by rw [entC_length, hm]
    have hnews : ∀ j u, (entC loc l2)[j]? = some u → w.cell? (ad.add j) = some u := fun j u hu => by
      obtain ⟨b, e, x⟩ := hc j u hu
      simp only [Option.some.injEq] at e
      subst e
      rw [Addr.add_lit, Nat.zero_add]
      exact x
    obtain ⟨v', w', hr, h2, h3, _, h5⟩ := run_append_own_at (P := Tryz.prog) w B 53 ty 102 i _ 2 24 Tryz.underlying53 hi hz hsize hbytes rfl (by decide) v l.length _ hrow ad m c _ hl hnews (entC_one loc l2) (by simp only [maxLen]; omega) (by omega) hbase
    refine ⟨v', w', hr, ?_, h3, h5⟩
    unfold DRow
    rw [entC_app, List.length_append, ← hm]
    exact h2
theorem wpList_ent {w : World} {ops : Array Oper} {rest : List Oper} {o : Oper} {a : Act} {Q : Exit → Act → World → Prop} (hgd : o.guard = none) (s x : Operand)
    (ho : o.op = .call { callee := .builtin .append, args := #[s, x], argTypes := #[53, 53] }) (B : Nat) (loc : Nat → Nat) (v : Value) (l : List Ent) (hs : a.eval s = v) (hrow : DRow B w loc v l) (ao : Option Addr) (m c : Nat) (l2 : List Ent) (hx : a.eval x = .slice ao m c)
    (hm : m = l2.length) (hnil : ao = none → m = 0 ∧ c = 0) (hc : ∀ (j : Nat) (u : Value), (entC loc l2)[j]? = some u → ∃ b, ao = some ⟨b, 0, none⟩ ∧ w.cell? ⟨b, j, none⟩ = some u) (hb : l.length + m ≤ 2 ^ 41) (hbase : B ≤ w.heap.size)
    (h : ∀ v' w', DRow B w' loc v' (l ++ l2) → w.grownBy w' v.ownBlock → (v'.ownBlock = v.ownBlock ∨ v'.ownBlock = some w.heap.size) → wpList Tryz.prog ops Q rest (a.put o.dst v') w') : wpList Tryz.prog ops Q (o :: rest) a w := by
  refine wpList_plain hgd fun _ hK => ?_
  obtain ⟨v', w', hr, h2, h3, h4⟩ := run_ent B w o.type loc v l hrow ao m c l2 hm hnil hc hb hbase
  unfold Oper.wp execOp
  simp only [ho, resolve, invoke, builtin, Sem.run_bind, Sem.run_pure, Result.andThen_ok, List.map_toArray, List.map_cons, List.map_nil, hs, hx, hr]
  exact hK _ _ (h v' w' h2 h3 h4)
/-- One entry that was just laid for an append. -/
theorem wpList_ent1 {w : World} {ops : Array Oper} {rest : List Oper} {o : Oper} {a : Act} {Q : Exit → Act → World → Prop} (hgd : o.guard = none) (s x : Operand)
    (ho : o.op = .call { callee := .builtin .append, args := #[s, x], argTypes := #[53, 53] }) (B : Nat) (loc : Nat → Nat) (v : Value) (l : List Ent) (nm : ByteArray) (i : Nat) (hs : a.eval s = v) (hrow : DRow B w loc v l) (g : Nat) (hx : a.eval x = .slice (some ⟨g, 0, none⟩) 1 1) (hg : g = w.heap.size)
    (hb : l.length + 1 ≤ 2 ^ 41) (hbase : B ≤ w.heap.size)
    (h : ∀ v' w', DRow B w' loc v' (l ++ [(nm, i)]) → Below B w w' → w.grownBy w' v.ownBlock → wpList Tryz.prog ops Q rest (a.put o.dst v') w') : wpList Tryz.prog ops Q (o :: rest) a (w.alloc (.cells #[.string nm, .pointer (some ⟨loc i, 0, none⟩)] 102)) := by
  subst hg
  have hrow' : DRow B (w.alloc (.cells #[.string nm, .pointer (some ⟨loc i, 0, none⟩)] 102)) loc v l := World.ownsRow.alloc hrow _
  have hB' : B ≤ (w.alloc (.cells #[.string nm, .pointer (some ⟨loc i, 0, none⟩)] 102)).heap.size := by simp; omega
  refine wpList_ent hgd s x ho B loc v l hs hrow' _ 1 1 [(nm, i)] hx rfl (fun e => by cases e) (fun j u hu => ⟨_, rfl, ?_⟩) hb hB' fun v' w' h1 h2 _ => h v' w' h1 ?_ (grown_trans (World.grownBy_alloc w _ _) h2)
  · have hj : j = 0 ∨ j = 1 := by
      have := (List.getElem?_eq_some_iff.1 hu).1
      rw [entC_length] at this
      simp at this
      omega
    rcases hj with rfl | rfl
    · simp [entC] at hu
      rw [← hu]
      simp
    · simp [entC, ptr] at hu
      rw [← hu]
      simp
  · exact ((Below.refl B w).alloc hbase _).trans (Below.grown (Below.refl _ _) h2 hB' (fun k hk => (World.ownsRow.lt hrow' k hk).1))

/-- What a round laid for its entry stands behind an append to another row. -/
theorem ent_after {B : Nat} {wr w1 : World} {loc : Nat → Nat} {v x y : Value} {l : List Ent} (hr : DRow B wr loc v l) (hg : (wr.alloc (.cells #[x, y] 102)).grownBy w1 v.ownBlock) : w1.cell? ⟨wr.heap.size, 0, none⟩ = some x ∧ w1.cell? ⟨wr.heap.size, 1, none⟩ = some y := by
  have ne : some wr.heap.size ≠ v.ownBlock := fun e => by
    have := (World.ownsRow.lt hr _ e.symm).2
    omega
  exact ⟨World.grownBy.cell hg (by simp) ne, World.grownBy.cell hg (by simp) ne⟩

set_option maxHeartbeats 1000000 in
theorem rcopied_any (F : Nat → Prop) (loc : Nat → Nat) (lv : Value) (l : List Ent) (w : World) (hl : DirR w F loc lv l) (hn : l.length ≤ 2 ^ 40) :
    Calls Tryz.prog 74 #[lv] w fun e w' => ∃ v, e = .returned v ∧ DRow w.heap.size w' loc v l ∧ Below w.heap.size w w' := by
  obtain ⟨ao, cap, rfl, hlc, hcm, hnil, hcell⟩ := hl.cells
  have hc : ∀ (j : Nat) (u : Value), (entC loc l)[j]? = some u → ∃ b, ao = some ⟨b, 0, none⟩ ∧ w.cell? ⟨b, j, none⟩ = some u := fun j u hu => by
    have hj := (List.getElem?_eq_some_iff.1 hu).1
    rw [entC_length] at hj
    obtain ⟨g, a, i, e, xk, _, x1, x2⟩ := hcell (j / 2) (by omega)
    have hlk : j / 2 < l.length := by omega
    have ea : l[j / 2] = (a, i) := by rw [List.getElem?_eq_getElem hlk] at xk; simpa using xk
    have := entC_at loc l (j / 2) hlk
    rw [ea] at this
    refine ⟨g, e, ?_⟩
    have hj2 : j = j / 2 * 2 ∨ j = j / 2 * 2 + 1 := by omega
    rcases hj2 with h | h
    · rw [h, this.1] at hu
      rw [h, x1, hu]
    · rw [h, this.2] at hu
      rw [h, x2, hu]
  have HX : Hid ((∀ (j : Nat) (u : Value), (entC loc l)[j]? = some u → ∃ b, ao = some ⟨b, 0, none⟩ ∧ w.cell? ⟨b, j, none⟩ = some u) ∧ (ao = none → l.length = 0 ∧ cap = 0) ∧ l.length ≤ 2 ^ 40) := ⟨hc, hnil, hn⟩
  clear hc hcell hlc hcm hnil hl
  go_enter Tryz.func74, Tryz.ntmps74
  go_wp2_with (at_builtin; refine wpList_ent rfl (.const (.slice none 0 0)) (.tmp 3) rfl w.heap.size loc _ [] rfl (DRow.nil _ _ _) ao l.length cap l rfl rfl HX.out.2.1 HX.out.1 (by have := HX.out; simp; omega) (Nat.le_refl _) ?_; intro v1 w1 hr1 hg1 hm1)
  go_ret
  exact ⟨_, rfl, hr1, grown_none hg1⟩
end Go.Proofs.YtligofmcmjblpaaGreat
