import Derived.Deep.RegionHeldLaw
import Derived.Test.YtfecopldepnicaaPk20
import Derived.Test.YtfecopldepnicaaPk26
/- Rows of records: those that the call itself made, and those that are read. -/
namespace Go.Proofs.Ytfecopldepnicaa
open Go.RowKit
set_option linter.unusedVariables false
set_option linter.unusedSimpArgs false

theorem _root_.Go.Proofs.Try.info25 : (Try.prog.info? 25).map (fun i => (i.zero, i.size, i.bytes)) = some (some (.slice none 0 0), 1, 24) := by kernel_rfl
/-- Elements of one cell appended to a row of one's own: it lies where it lay, or in a new block. -/
theorem run_own (t e : TypeId) (z : Value) (bytes : Nat) (ht : Try.prog.underlying t = some (.slice e)) (hinfo : (Try.prog.info? e).map (fun i => (i.zero, i.size, i.bytes)) = some (some z, 1, bytes)) (hz1 : z.cells.size = 1)
    (B : Nat) (w : World) (ty : TypeId) (v : Value) (vs : List Value) (hrow : w.ownsRow B e 1 v vs.length vs) (ad : Addr) (m c : Nat) (news : List Value) (hl : news.length = m) (hnews : ∀ j u, news[j]? = some u → w.cell? (ad.add j) = some u) (h1 : ∀ u ∈ news, u.oneCell' = true)
    (h63 : vs.length + m ≤ 140737488355328) (hb : (vs.length + m) * bytes ≤ 140737488355328) (hm : 0 < m) (hbase : B ≤ w.heap.size) :
    ∃ v' w', (Builtin.append_ #[t, t] ty #[v, .slice (some ad) m c]).run Try.prog w = .ok v' w' ∧ w'.ownsRow B e 1 v' (vs ++ news).length (vs ++ news) ∧ w.grownBy w' v.ownBlock ∧ Moved w v v' := by
  obtain ⟨i, hi, hz, hsize, hbytes⟩ := info_parts hinfo
  have hl' : news.length = m * 1 := by omega
  obtain ⟨v', w', hr, h2, h3, _⟩ := run_append_own (P := Try.prog) w B t ty e i z 1 bytes ht hi hz hsize hbytes hz1 (by decide) v vs.length _ hrow ad m c _ hl' hnews h1 (by simp only [maxLen]; omega) hb hbase
  refine ⟨v', w', hr, by rw [List.length_append, hl]; exact h2, h3, ?_⟩
  rcases hrow.2 with ⟨rfl, h0⟩ | ⟨g, cap, cur, rfl, hbg, hg, hnc, hcm, hcs, htake⟩
  · have hr' := run_append_nil (P := Try.prog) w t ty e i z ht hi hz ad m c _ (by rw [hsize]; exact hl') hnews (by omega) (by omega) (by rw [hbytes]; rw [h0] at hb; rw [Nat.zero_add] at hb; rw [Nat.mul_comm] at hb; first | omega | (rw [Nat.mul_comm]; omega))
    rw [hr'] at hr
    simp at hr
    rw [← hr.1]
    exact .inr ⟨w.heap.size, rfl, Nat.le_refl _⟩
  · by_cases hroom : vs.length + m ≤ cap
    · have hr' := run_append_room (P := Try.prog) w t ty e i ht hi g vs.length cap cur hg ad m c _ (by rw [hsize]; exact hl') hnews h1 hroom (by rw [hsize, hl', hcs]; omega)
      rw [hr'] at hr
      simp at hr
      rw [← hr.1]
      exact .inl rfl
    · have holds : ∀ j u, vs[j]? = some u → w.cell? ((⟨g, 0, none⟩ : Addr).add j) = some u := World.ownsRow.cells hrow (g := g) rfl
      have hr' := run_append_grow (P := Try.prog) w t ty e i z ht hi hz ⟨g, 0, none⟩ vs.length cap _ (by rw [hsize]; simp) holds ad m c _ (by rw [hsize]; exact hl') hnews (by omega) (by omega) (growslice_fits (by omega) (by rw [hbytes]; omega))
      rw [hr'] at hr
      simp at hr
      rw [← hr.1]
      exact .inr ⟨w.heap.size, rfl, Nat.le_refl _⟩
theorem wpList_own {w : World} {ops : Array Oper} {rest : List Oper} {o : Oper} {a : Act} {Q : Exit → Act → World → Prop} (hgd : o.guard = none) (s x : Operand) (t e : TypeId) (z : Value) (bytes : Nat)
    (ho : o.op = .call { callee := .builtin .append, args := #[s, x], argTypes := #[t, t] }) (ht : Try.prog.underlying t = some (.slice e)) (hinfo : (Try.prog.info? e).map (fun i => (i.zero, i.size, i.bytes)) = some (some z, 1, bytes)) (hz1 : z.cells.size = 1)
    (B : Nat) (v : Value) (vs : List Value) (hs : a.eval s = v) (hrow : w.ownsRow B e 1 v vs.length vs) (ad : Addr) (m c : Nat) (news : List Value) (hx : a.eval x = .slice (some ad) m c) (hl : news.length = m) (hnews : ∀ j u, news[j]? = some u → w.cell? (ad.add j) = some u) (h1 : ∀ u ∈ news, u.oneCell' = true)
    (h63 : vs.length + m ≤ 140737488355328) (hb : (vs.length + m) * bytes ≤ 140737488355328) (hm : 0 < m) (hbase : B ≤ w.heap.size)
    (h : ∀ v' w', w'.ownsRow B e 1 v' (vs ++ news).length (vs ++ news) → w.grownBy w' v.ownBlock → Moved w v v' → wpList Try.prog ops Q rest (a.put o.dst v') w') : wpList Try.prog ops Q (o :: rest) a w :=
  wpList_plain hgd fun K hK => by
    obtain ⟨v', w', hr, h2, h3, h4⟩ := run_own t e z bytes ht hinfo hz1 B w o.type v vs hrow ad m c news hl hnews h1 h63 hb hm hbase
    unfold Oper.wp execOp
    simp only [ho, resolve, invoke, builtin, Sem.run_bind, Sem.run_pure, Result.andThen_ok, List.map_toArray, List.map_cons, List.map_nil, hs, hx, hr]
    exact hK _ _ (h v' w' h2 h3 h4)

/-- A row of records that the call itself made. -/
def RowB (B : Nat) (w : World) (v : Value) (rs : List (List Int)) : Prop :=
  ∃ us : List Value, us.length = rs.length ∧ w.ownsRow B 25 1 v us.length us ∧
    ∀ (i : Nat) (r : List Int), rs[i]? = some r → ∃ ao cap, us[i]? = some (Value.slice ao r.length cap) ∧ Sl w ao r.length cap r ∧ (r ≠ [] → ∀ b off, ao = some ⟨b, off, none⟩ → v.ownBlock ≠ some b)
theorem RowB.nil (B : Nat) (w : World) : RowB B w (.slice none 0 0) [] := ⟨[], rfl, World.ownsRow_nil w B 25 1, fun i r h => by simp at h⟩
theorem RowB.rb {B : Nat} {w : World} {v : Value} {rs : List (List Int)} (h : RowB B w v rs) : ∃ ao cap, v = .slice ao rs.length cap ∧ RB w ao rs.length cap rs := by
  obtain ⟨us, e, hrow, hel⟩ := h
  have hcells : ∀ g, v.ownBlock = some g → _ := fun g hg => World.ownsRow.cells hrow (g := g) hg
  rcases hrow.2 with ⟨rfl, h0⟩ | ⟨g, cap, cur, rfl, hbg, hg, hnc, hcm, hcs, htake⟩
  · refine ⟨none, 0, by rw [← e, h0], rfl, fun _ => ⟨by omega, rfl⟩, by omega, Nat.zero_le _, fun i r hr => ?_⟩
    have := (List.getElem?_eq_some_iff.1 hr).1
    omega
  · refine ⟨some ⟨g, 0, none⟩, cap, by rw [e], rfl, (fun q => by cases q), by omega, hcm, fun i r hr => ?_⟩
    obtain ⟨a, c, h1, h2, _⟩ := hel i r hr
    have := hcells g rfl i _ h1
    rw [Addr.add_lit] at this
    exact ⟨g, 0, a, c, rfl, this, h2⟩
/-- One record appended. -/
theorem wpList_appB {w : World} {ops : Array Oper} {rest : List Oper} {o : Oper} {a : Act} {Q : Exit → Act → World → Prop} {s x : Operand} {B : Nat} {v : Value} {rs : List (List Int)} {ro : Option Addr} {cs : Nat} {r : List Int} (hgd : o.guard = none)
    (ho : o.op = .call { callee := .builtin .append, args := #[s, x], argTypes := #[38, 38] }) (hs : a.eval s = v) (hx : a.eval x = .slice (some ⟨w.heap.size, 0, none⟩) 1 1) (hrow : RowB B w v rs) (hr : Sl w ro r.length cs r)
    (hsep : r ≠ [] → ∀ b off, ro = some ⟨b, off, none⟩ → v.ownBlock ≠ some b) (hb : rs.length + 1 ≤ 1099511627776) (hB : B ≤ w.heap.size)
    (h : ∀ v' w', RowB B w' v' (rs ++ [r]) → Below B w w' → wpList Try.prog ops Q rest (a.put o.dst v') w') : wpList Try.prog ops Q (o :: rest) a (w.alloc (.cells #[.slice ro r.length cs] 25)) := by
  obtain ⟨us, e, hown, hel⟩ := hrow
  have hown' := World.ownsRow.alloc hown (.cells #[.slice ro r.length cs] 25)
  have hB' : B ≤ (w.alloc (.cells #[.slice ro r.length cs] 25)).heap.size := by simp; omega
  have hbw : Below w.heap.size w (w.alloc (.cells #[.slice ro r.length cs] 25)) := (Below.refl _ w).alloc (Nat.le_refl _) _
  refine wpList_own hgd s x 38 25 _ 24 ho Try.underlying38 Try.info25 rfl B v us hs hown' ⟨w.heap.size, 0, none⟩ 1 1 [.slice ro r.length cs] hx rfl ?_ ?_ (by omega) (by omega) (by decide) hB' fun v' w' h1 h2 hmv => h v' w' ?_ ?_
  · intro j u hu
    have hj : j = 0 := by
      cases j with
      | zero => rfl
      | succ j => simp at hu
    subst hj
    simp at hu
    rw [← hu]
    simp [Addr.add]
  · intro u hu
    simp at hu
    subst hu
    rfl
  · have hnew : v'.ownBlock = v.ownBlock ∨ ∃ g, v'.ownBlock = some g ∧ w.heap.size ≤ g := by
      rcases hmv with q | ⟨g, q1, q2⟩
      · exact .inl q
      · exact .inr ⟨g, q1, by simp at q2; omega⟩
    have keep : ∀ {ao : Option Addr} {cap : Nat} {r : List Int}, Sl w ao r.length cap r → (r ≠ [] → ∀ b off, ao = some ⟨b, off, none⟩ → v.ownBlock ≠ some b) → Sl w' ao r.length cap r ∧ (r ≠ [] → ∀ b off, ao = some ⟨b, off, none⟩ → v'.ownBlock ≠ some b) := fun {ao cap r} q1 q2 => by
      refine ⟨(q1.later hbw).grown h2 q2, fun hne b off he => ?_⟩
      rcases hnew with q | ⟨g, q, hg⟩
      · rw [q]; exact q2 hne b off he
      · rw [q]
        intro e
        have := q1.block hne he
        simp at e
        omega
    refine ⟨us ++ [.slice ro r.length cs], by simp [e], h1, fun j r' hr' => ?_⟩
    rcases Nat.lt_or_ge j rs.length with hj | hj
    · rw [List.getElem?_append_left hj] at hr'
      obtain ⟨ao, cap, q1, q2, q3⟩ := hel j r' hr'
      obtain ⟨k1, k2⟩ := keep q2 q3
      exact ⟨ao, cap, by rw [List.getElem?_append_left (by omega)]; exact q1, k1, k2⟩
    · have hj' : j = rs.length := by
        have := (List.getElem?_eq_some_iff.1 hr').1
        simp at this
        omega
      subst hj'
      simp at hr'
      subst hr'
      obtain ⟨k1, k2⟩ := keep hr hsep
      exact ⟨ro, cs, by rw [List.getElem?_append_right (by omega), e]; simp, k1, k2⟩
  · exact ((Below.refl B w).alloc hB _).trans (Below.grown (Below.refl _ _) h2 hB' (fun k hk => (World.ownsRow.lt hown' k hk).1))
end Go.Proofs.Ytfecopldepnicaa

/- The laws on filters: Builds, Many. -/
namespace Go.Proofs.Ytfecopldepnicaa
open Go.RowKit
set_option linter.unusedVariables false
set_option linter.unusedSimpArgs false

/-- Few keys, none long. -/
def fewB (keys : List (List Int)) : Prop := keys.length ≤ 200 ∧ ∀ k ∈ keys, k.length ≤ 2000

end Go.Proofs.Ytfecopldepnicaa

/- The laws on filters: Keeps. -/
namespace Go.Proofs.Ytfecopldepnicaa
open Go.RowKit
set_option linter.unusedVariables false
set_option linter.unusedSimpArgs false

/-- Bytes in a cell. -/
def byE : El (List Int) where
  ty := 25
  size := 1
  M := fun w vs x => ∃ a c, vs = [.slice a x.length c] ∧ Sl w a x.length c x
  len := fun h => by obtain ⟨a, c, rfl, _⟩ := h; rfl
  one := fun h v hv => by obtain ⟨a, c, rfl, _⟩ := h; rw [List.mem_singleton.1 hv]; rfl
  lt := fun h v hv b hr => by obtain ⟨a, c, rfl, hs⟩ := h; rw [List.mem_singleton.1 hv] at hr; exact hs.lt hr
  keep := fun h hk => by obtain ⟨a, c, rfl, hs⟩ := h; exact ⟨a, c, rfl, hs.keep fun b hr => hk _ (by simp) b hr⟩
theorem byE_info : (Try.prog.info? byE.ty).map (fun i => (i.zero, i.size, i.bytes)) = some (some (.slice none 0 0), byE.size, 24) := by kernel_rfl
theorem lay_by {w : World} : ∀ {rs : List (List Int)} {us : List Value}, us.length = rs.length → (∀ (i : Nat) (r : List Int), rs[i]? = some r → ∃ a c, us[i]? = some (.slice a r.length c) ∧ Sl w a r.length c r) → Lay byE w us rs
  | [], us, h, _ => List.eq_nil_of_length_eq_zero h
  | r :: rs, [], h, _ => by simp at h
  | r :: rs, u :: us, h, g => by
    obtain ⟨a, c, e, hs⟩ := g 0 r rfl
    simp only [List.getElem?_cons_zero, Option.some.injEq] at e
    subst e
    exact ⟨[_], us, rfl, ⟨a, c, rfl, hs⟩, lay_by (by simpa using h) fun i x hx => g (i + 1) x hx⟩
def cellAt (w : World) (ao : Option Addr) (i : Nat) : Value := match ao with | some ad => (w.cell? ⟨ad.block, ad.off + i, none⟩).getD undef | none => undef
theorem rb_rsu {w : World} {ao : Option Addr} {len cap : Nat} {rs : List (List Int)} (h : RB w ao len cap rs) : ∃ us, RSu byE w ao len cap us rs := by
  obtain ⟨h1, h2, h3, h4, h5⟩ := h
  obtain ⟨us, hus⟩ : ∃ us : List Value, us = (List.range rs.length).map (cellAt w ao) := ⟨_, rfl⟩
  have hat : ∀ (i : Nat) (r : List Int), rs[i]? = some r → ∃ b off a c, ao = some ⟨b, off, none⟩ ∧ w.cell? ⟨b, off + i, none⟩ = some (.slice a r.length c) ∧ Sl w a r.length c r ∧ us[i]? = some (.slice a r.length c) := fun i r hr => by
    obtain ⟨b, off, a, c, e, hc, hs⟩ := h5 i r hr
    have hi := (List.getElem?_eq_some_iff.1 hr).1
    refine ⟨b, off, a, c, e, hc, hs, ?_⟩
    rw [hus, List.getElem?_map, List.getElem?_range hi, e]
    simp [cellAt, hc]
  refine ⟨us, h1, h2, h3, h4, lay_by (by rw [hus]; simp) (fun i r hr => ?_), fun j u hu => ?_⟩
  · obtain ⟨b, off, a, c, e, hc, hs, hu⟩ := hat i r hr
    exact ⟨a, c, hu, hs⟩
  · have hj : j < rs.length := by have := (List.getElem?_eq_some_iff.1 hu).1; rw [hus] at this; simpa using this
    obtain ⟨b, off, a, c, e, hc, hs, hu'⟩ := hat j rs[j] (List.getElem?_eq_getElem hj)
    rw [hu'] at hu
    simp only [Option.some.injEq] at hu
    subst hu
    exact ⟨b, off, e, hc⟩
theorem rs_rb {w : World} {ao : Option Addr} {len cap : Nat} {rs : List (List Int)} (h : RS byE w ao len cap rs) : RB w ao len cap rs := by
  have h' := h
  obtain ⟨us, h1, h2, h3, h4, _⟩ := h
  refine ⟨h1, h2, h3, h4, fun i r hr => ?_⟩
  obtain ⟨b, off, vs, e, ⟨a, c, hv, hs⟩, hc⟩ := RS.at h' (by decide) hr
  subst hv
  refine ⟨b, off, a, c, e, ?_, hs⟩
  have := hc 0 _ rfl
  rw [show off + (i * byE.size + 0) = off + i by show off + (i * 1 + 0) = off + i; omega] at this
  exact this
theorem rsu_lt {w : World} {ao : Option Addr} {len cap : Nat} {us : List Value} {rs : List (List Int)} (h : RSu byE w ao len cap us rs) : ∀ u ∈ us, ∀ b, Refs u b → b < w.heap.size := h.2.2.2.2.1.lt
theorem rev_at10 {l : List (List Int)} {N k : Nat} {o : List Int} (hN : l.length = N) (hk : k < N) (h : l[N - 1 - k]? = some o) : l.reverse[k]? = some o := by
  rw [List.getElem?_reverse (by omega), hN]
  exact h
theorem rowS_empty (w : World) : RowS byE w.heap.size (w.alloc (.cells #[] 25)) (.slice (some ⟨w.heap.size, 0, none⟩) 0 0) [] :=
  ⟨[], ⟨rfl, .inr ⟨w.heap.size, 0, #[], rfl, Nat.le_refl _, heap_alloc_new w _, Nat.le_refl _, Nat.zero_le _, rfl, rfl⟩⟩, rfl, fun u hu => by cases hu⟩

end Go.Proofs.Ytfecopldepnicaa
