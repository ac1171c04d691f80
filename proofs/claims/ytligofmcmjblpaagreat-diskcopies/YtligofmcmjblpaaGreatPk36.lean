import Derived.Lib.SliceRun
import Derived.Test.YtligofmcmjblpaaGreatPk34
import Derived.Test.YtligofmcmjblpaaGreatPk35
/- The landed disk: a clone of changes. -/
namespace Go.Proofs.YtligofmcmjblpaaGreat
open Go.RowKit Go.Maps
set_option linter.unusedVariables false
set_option linter.unusedSimpArgs false

theorem oneC (loc : Nat → Nat) (ch : List Chg) : ∀ u ∈ ch.flatMap (chC loc), u.oneCell' = true := fun u hu => by
  obtain ⟨c, _, hu⟩ := List.mem_flatMap.1 hu
  simp only [chC, List.mem_cons, List.not_mem_nil, or_false] at hu
  rcases hu with rfl | rfl | rfl
  · rfl
  · rfl
  · cases c.f <;> rfl
theorem flatC_len (loc : Nat → Nat) (ch : List Chg) : (ch.flatMap (chC loc)).length = ch.length * 3 := by
  induction ch with
  | nil => rfl
  | cons c r ih => simp only [List.flatMap_cons, List.length_append, ih, chC, List.length_cons, List.length_nil]; omega
set_option maxHeartbeats 2000000 in
set_option maxRecDepth 100000 in
theorem slicesClone_any (loc : Nat → Nat) (ch : List Chg) (v : Value) (w : World) (h : w.ownsRow 0 83 3 v ch.length (ch.flatMap (chC loc))) (hl : ch.length ≤ 1048577) :
    Calls Tryz.prog 50 #[v] w fun e w' => ∃ ao c, e = .returned (.slice ao ch.length c) ∧ w'.ownsRow w.heap.size 83 3 (.slice ao ch.length c) ch.length (ch.flatMap (chC loc)) ∧ Below w.heap.size w w' := by
  have hq : ∀ (w : World) (a : Option Addr) (n c n' c' : Nat), (binOp .eql 47 (.slice a n c) (.slice none n' c')).run Tryz.prog w = .ok (.bool a.isNone) w := fun w a n c n' c' => Lib.run_eql_slice_nil w _ _ a n c n' c' Tryz.underlying47
  have hcells : ∀ g, v.ownBlock = some g → _ := fun g hg => World.ownsRow.cells h (g := g) hg
  rcases h.2 with ⟨rfl, h0⟩ | ⟨g, cap, cur, rfl, hb, hgg, h1, h2, h3, h4⟩
  · have hc : ch = [] := List.eq_nil_of_length_eq_zero h0
    subst hc
    clear hcells
    go_enter Tryz.func50, Tryz.ntmps50
    go_wp2
    go_ret
    exact ⟨none, 0, rfl, World.ownsRow_nil _ _ _ _, Below.refl _ _⟩
  · obtain ⟨i0, hi, hz0, hz1, hz2⟩ := info_parts Tryz.infoCh
    have HA : Hid (∀ j u, (ch.flatMap (chC loc))[j]? = some u → w.cell? ⟨g, j, none⟩ = some u) := fun j u hj => by
      have := hcells g rfl j u hj
      rw [Addr.add_lit] at this
      simpa using this
    have HO : Hid (∀ u ∈ ch.flatMap (chC loc), u.oneCell' = true) := oneC loc ch
    have HLn : Hid ((ch.flatMap (chC loc)).length = ch.length * 3) := flatC_len loc ch
    have hown0 := World.ownsRow_made (base := w.heap.size) (e := 83) (size := 3) w #[] 0 (Nat.le_refl _) (Nat.zero_le _) (by simp)
    generalize ch.flatMap (chC loc) = news at *
    generalize ch.length = n at *
    clear hcells h h4 hgg h3
    go_enter Tryz.func50, Tryz.ntmps50
    go_wp2_with (at_builtin; refine wpList_append_own _ rfl _ _ 47 rfl w.heap.size 83 i0 _ 3 40 Tryz.underlying47 hi hz0 hz1 hz2 rfl (by decide) _ _ _ rfl hown0 ⟨g, 0, none⟩ n cap news rfl ?qc1 ?qc2 ?qc3 ?qc4 ?qc5 ?qc6 ?_)
    case qc1 => exact HLn.out
    case qc2 =>
      intro j u hj
      rw [Addr.add_lit]
      exact Lib.cell?_alloc_some _ (by simpa using HA.out j u hj)
    case qc3 => exact HO.out
    case qc4 => rw [Nat.zero_add]; omega
    case qc5 => rw [Nat.zero_add]; omega
    case qc6 => simp
    intro v' w1 hown hgrow hnil
    have hsl : ∃ ao c, v' = .slice ao n c := by
      rcases hown.2 with ⟨rfl, h0⟩ | ⟨g, cap, cur, rfl, _⟩
      · exact absurd rfl hnil
      · exact ⟨_, _, rfl⟩
    obtain ⟨ao, c, rfl⟩ := hsl
    go_wp2
    go_ret
    refine ⟨ao, c, rfl, by simpa using hown, ?_⟩
    exact ((Below.refl _ w).alloc (Nat.le_refl _) _).grown hgrow (by simp) (by intro k hk; simp [Value.ownBlock] at hk; omega)
end Go.Proofs.YtligofmcmjblpaaGreat

/- The landed disk: Copy: the theory of its loop. -/
namespace Go.Proofs.YtligofmcmjblpaaGreat
open Go.RowKit Go.Maps
set_option linter.unusedVariables false
set_option linter.unusedSimpArgs false

theorem rowC_set {B : Nat} {w : World} {v : Value} {n : Nat} {xs : List Value} (h : w.ownsRow B 83 3 v n xs) {g m c : Nat} (hv : v = .slice (some ⟨g, 0, none⟩) n c) (hm : m < n * 3) (u : Value) : (w.setCell ⟨g, m, none⟩ u).ownsRow B 83 3 v n (xs.set m u) := by
  refine ⟨by rw [List.length_set]; exact h.1, ?_⟩
  rcases h.2 with ⟨e, _⟩ | ⟨g', cap, cur, e, hb, hgg, h1, h2, h3, h4⟩
  · rw [hv] at e
    cases e
  · rw [hv] at e
    simp only [Value.slice.injEq, Option.some.injEq, Addr.mk.injEq, true_and] at e
    obtain ⟨⟨rfl, _⟩, rfl⟩ := e
    refine .inr ⟨g, c, cur.setIfInBounds m u, hv, hb, heap_set hgg m _, h1, h2, by simp [h3], ?_⟩
    rw [Array.toList_setIfInBounds, List.take_set, h4]
theorem flat_set (loc loc' : Nat → Nat) (ch : List Chg) (k : Nat) (c : Chg) (hc : ch[k]? = some c) : ((ch.take k).flatMap (chC loc') ++ (ch.drop k).flatMap (chC loc)).set (k * 3 + 2) (pv loc' c.f) = (ch.take (k + 1)).flatMap (chC loc') ++ (ch.drop (k + 1)).flatMap (chC loc) := by
  have hk := (List.getElem?_eq_some_iff.1 hc).1
  have h1 : ch.drop k = c :: ch.drop (k + 1) := by
    rw [List.drop_eq_getElem_cons hk, (List.getElem?_eq_some_iff.1 hc).2]
  have h2 : ch.take (k + 1) = ch.take k ++ [c] := by rw [List.take_add_one, hc]; rfl
  have h3 : ((ch.take k).flatMap (chC loc')).length = k * 3 := by rw [flatC_len, List.length_take]; omega
  rw [h1, h2, List.set_append_right _ _ (by rw [h3]; omega), h3, List.flatMap_append, List.append_assoc]
  congr 1
  rw [show k * 3 + 2 - k * 3 = 2 by omega]
  simp [chC]
/-- Whatever a file's number, the directories, as they stood, have it of sd or of a change. -/
theorem hist_ids : ∀ (ch : List Chg) (sd : List Ent), ∀ l ∈ hist sd ch, ∀ e ∈ l, (∃ x ∈ sd, x.2 = e.2) ∨ ∃ c ∈ ch, c.f = some e.2
  | [], sd, l, hl, e, he => by
    simp only [hist, List.mem_singleton] at hl
    subst hl
    exact .inl ⟨e, he, rfl⟩
  | c :: r, sd, l, hl, e, he => by
    simp only [hist, List.mem_cons] at hl
    rcases hl with rfl | hl
    · exact .inl ⟨e, he, rfl⟩
    · rcases hist_ids r (c.ap sd) l hl e he with ⟨x, hx, h2⟩ | ⟨d, hd, h2⟩
      · unfold Chg.ap at hx
        split at hx
        · exact .inl ⟨x, (List.mem_filter.1 hx).1, h2⟩
        · next i hi =>
          rcases pt_mem hx with rfl | hx
          · exact .inr ⟨c, by simp, by rw [hi]; exact congrArg some h2⟩
          · exact .inl ⟨x, (List.mem_filter.1 hx).1, h2⟩
      · exact .inr ⟨d, by simp [hd], h2⟩
def D2 (dir sd : List Ent) (j : Nat) : Prop := (∃ e ∈ dir, e.2 = j) ∨ ∃ e ∈ sd, e.2 = j
theorem TW.keptD {w0 w w' : World} {xb tb : Nat} {A : Nat → Prop} {loc : Nat → Nat} {fl : Nat → List Int × Nat} {Dn : Nat → Prop} {loc2 : Nat → Nat} {dv2 : Nat → Value} (h : TW w0 w xb tb A loc fl Dn loc2 dv2) {q : Nat} {t : TypeId} (hg : w.grownBy w' (some q)) (hq : w0.heap.size ≤ q) (ht : TyOf w q t) (h1 : t ≠ 103) (h2 : t ≠ 72) (h3 : t ≠ 5) : TW w0 w' xb tb A loc fl Dn loc2 dv2 := by
  obtain ⟨tw, t1, _⟩ := h.tw
  exact h.kept hg (fun k e => by cases e; exact hq) (fun e => TyOf.ne ht ⟨_, _, h.xbc⟩ h1 (Option.some.inj e)) (fun e => t1.ne ht (Option.some.inj e).symm) (fun i hi e => TyOf.ne ht (h.file i hi).ty h2 (Option.some.inj e)) fun i hi k ek e => TyOf.ne ht (owns_ty (h.file i hi).row ek) h3 (Option.some.inj e)
/-- The copy, k of whose changes name twins. -/
structure CW (w wr : World) (q nb1 nb2 : Nat) (σ : DS) (A : Nat → Prop) (loc : Nat → Nat) (v' : Value) (sd : List Ent) (ch : List Chg) (k : Nat) : Prop where
  ex : ∃ loc5 dv5, TW w wr (w.heap.size + 1) w.heap.size A loc σ.fl (fun j => D2 σ.dir sd j ∨ ∃ c ∈ ch.take k, c.f = some j) loc5 dv5 ∧ MapL wr nb1 loc5 σ.dir ∧ MapL wr nb2 loc5 sd ∧ wr.ownsRow w.heap.size 83 3 v' ch.length ((ch.take k).flatMap (chC loc5) ++ (ch.drop k).flatMap (chC loc))
  dk : DkL wr q σ.room (.map (some nb1)) (.map (some nb2)) v' σ.c
  l0 : w.heap.size + 2 ≤ q
  l1 : w.heap.size + 2 ≤ nb1
  l2 : w.heap.size + 2 ≤ nb2
  ne : nb1 ≠ nb2
section
variable {w wr w2 : World} {p q nb1 nb2 : Nat} {σ : DS} {F A : Nat → Prop} {loc : Nat → Nat} {dv : Nat → Value} {nv sv cv v' : Value} {sd : List Ent} {ch : List Chg} {k : Nat}
theorem CW.drew (h : CW w wr q nb1 nb2 σ A loc v' sd ch k) {wx : World} (hs : wx.heap = wr.heap) (h1 : wx.os = wr.os) (h2 : wx.tape = wr.tape) (h3 : wx.output = wr.output) : CW w wx q nb1 nb2 σ A loc v' sd ch k := by
  have hg : wr.grownBy wx none := ⟨h1, h2, h3, by rw [hs]; exact Nat.le_refl _, fun _ _ _ => by rw [hs]⟩
  obtain ⟨loc5, dv5, t, m1, m2, r⟩ := h.ex
  refine ⟨⟨loc5, dv5, t.kept hg (fun k e => by cases e) (by simp) (by simp) (fun _ _ => by simp) (fun _ _ _ _ => by simp), m1.same (by rw [hs]), m2.same (by rw [hs]), owns_same r fun g e => by rw [hs]⟩, by unfold DkL; rw [hs]; exact h.dk, h.l0, h.l1, h.l2, h.ne⟩
theorem CW.call (h : CW w wr q nb1 nb2 σ A loc v' sd ch k) (h0 : LAt w p σ F A loc dv nv sv cv sd ch) (hfl : ∀ i, (σ.fl i).1.length ≤ 4194304 ∧ Okb (σ.fl i).1) {c : Chg} (hc : ch[k]? = some c) {g cap : Nat} (hv : v' = .slice (some ⟨g, 0, none⟩) ch.length cap) :
    Calls Tryz.prog 76 #[pv loc c.f, .pointer (some ⟨w.heap.size + 1, 0, none⟩)] wr fun e w2 => ∃ o, e = .returned (.pointer o) ∧ w2.cell? ⟨q, 3, none⟩ = some v' ∧ w2.cell? ⟨g, k * 3 + 2, none⟩ = some (pv loc c.f) ∧ w2.frozen? ⟨g, k * 3 + 2, none⟩ = false ∧ CW w (w2.setCell ⟨g, k * 3 + 2, none⟩ (.pointer o)) q nb1 nb2 σ A loc v' sd ch (k + 1) := by
  obtain ⟨loc5, dv5, t, m1, m2, r⟩ := h.ex
  have hk := (List.getElem?_eq_some_iff.1 hc).1
  have hgo : v'.ownBlock = some g := by rw [hv]; rfl
  have hgt : TyOf wr g 83 := owns_ty r hgo
  have hgB : w.heap.size ≤ g := by
    rcases r.2 with ⟨e, _⟩ | ⟨g', cap', cur, e, hb, _⟩
    · rw [hv] at e; cases e
    · rw [hv] at e
      simp only [Value.slice.injEq, Option.some.injEq, Addr.mk.injEq] at e
      obtain ⟨⟨rfl, _⟩, _⟩ := e
      exact hb
  -- what both ways share
  have both : ∀ w2 loc6 dv6 (Dn : Nat → Prop), (∀ j, (Dn j ↔ D2 σ.dir sd j ∨ ∃ c ∈ ch.take (k + 1), c.f = some j)) → TW w w2 (w.heap.size + 1) w.heap.size A loc σ.fl Dn loc6 dv6 → (∀ j, (D2 σ.dir sd j ∨ ∃ c ∈ ch.take k, c.f = some j) → loc6 j = loc5 j) → wr.grownBy w2 (some w.heap.size) →
      w2.cell? ⟨q, 3, none⟩ = some v' ∧ w2.cell? ⟨g, k * 3 + 2, none⟩ = some (pv loc c.f) ∧ w2.frozen? ⟨g, k * 3 + 2, none⟩ = false ∧ CW w (w2.setCell ⟨g, k * 3 + 2, none⟩ (pv loc6 c.f)) q nb1 nb2 σ A loc v' sd ch (k + 1) := by
    intro w2 loc6 dv6 Dn hDn t6 a6 g6
    obtain ⟨tw, t1, _⟩ := t.tw
    have hcell : ∀ g t, TyOf wr g t → w2.heap[g]? = wr.heap[g]? := fun g t ht => g6.block g ht.lt fun e => t1.ne ht (Option.some.inj e).symm
    have dk2 : DkL w2 q σ.room (.map (some nb1)) (.map (some nb2)) v' σ.c := by unfold DkL; rw [hcell q _ h.dk.ty]; exact h.dk
    have hh1 := h.l1
    have hh2 := h.l2
    have mm1 : MapL w2 nb1 loc6 σ.dir := (m1.same (g6.block nb1 m1.lt fun e => by have := Option.some.inj e; omega)).loc fun e he => a6 _ (.inl (.inl ⟨e, he, rfl⟩))
    have mm2 : MapL w2 nb2 loc6 sd := (m2.same (g6.block nb2 m2.lt fun e => by have := Option.some.inj e; omega)).loc fun e he => a6 _ (.inl (.inr ⟨e, he, rfl⟩))
    have rr : w2.ownsRow w.heap.size 83 3 v' ch.length ((ch.take k).flatMap (chC loc6) ++ (ch.drop k).flatMap (chC loc)) := by
      rw [flat_loc fun x hx i hi => a6 i (.inr ⟨x, hx, hi⟩)]
      exact owns_same r fun b e => hcell b _ (owns_ty r e)
    have hgt2 : TyOf w2 g 83 := owns_ty rr hgo
    have hgg : w2.grownBy (w2.setCell ⟨g, k * 3 + 2, none⟩ (pv loc6 c.f)) (some g) := grown_set _ _ _ _
    refine ⟨cell_of dk2 3, ?_, ?_, ⟨⟨loc6, dv6, (t6.keptD hgg hgB hgt2 (by decide) (by decide) (by decide)).dnEq hDn, mm1.same (hgg.block nb1 mm1.lt fun e => mm1.ne hgt2 (Option.some.inj e)), mm2.same (hgg.block nb2 mm2.lt fun e => mm2.ne hgt2 (Option.some.inj e)), ?_⟩, ?_, h.l0, h.l1, h.l2, h.ne⟩⟩
    · have hcl := World.ownsRow.cells rr (g := g) hgo (k * 3 + 2) (pv loc c.f) (by
        have h1 : ch.drop k = c :: ch.drop (k + 1) := by rw [List.drop_eq_getElem_cons hk, (List.getElem?_eq_some_iff.1 hc).2]
        have h3 : ((ch.take k).flatMap (chC loc6)).length = k * 3 := by rw [flatC_len, List.length_take]; omega
        rw [List.getElem?_append_right (by rw [h3]; omega), h3, h1, show k * 3 + 2 - k * 3 = 2 by omega]
        rfl)
      rw [Addr.add_lit] at hcl
      simpa using hcl
    · rcases rr.2 with ⟨e, _⟩ | ⟨g', cap', cur, e, hb, hgg', _⟩
      · rw [hv] at e; cases e
      · rw [hv] at e
        simp only [Value.slice.injEq, Option.some.injEq, Addr.mk.injEq] at e
        obtain ⟨⟨rfl, _⟩, _⟩ := e
        exact frozen_of hgg' _
    · rw [← flat_set loc loc6 ch k c hc]
      exact rowC_set rr hv (by omega) _
    · unfold DkL
      rw [hgg.block q dk2.ty.lt fun e => TyOf.ne dk2.ty hgt2 (by decide) (Option.some.inj e)]
      exact dk2
  have htk : ch.take (k + 1) = ch.take k ++ [c] := by rw [List.take_add_one, hc]; rfl
  cases hf : c.f with
  | none =>
    obtain ⟨tw, t1, _⟩ := t.tw
    refine (copier1_nil (w.heap.size + 1) w.heap.size tw wr (cell_of t.xbc 0) t1).mono ?_
    rintro e w2 ⟨rfl, rfl⟩
    have := both w2 loc5 dv5 _ (fun j => ?_) t (fun _ _ => rfl) ⟨rfl, rfl, rfl, Nat.le_refl _, fun _ _ _ => rfl⟩
    · rw [hf] at this
      exact ⟨none, rfl, this⟩
    · rw [htk]
      simp [hf]
  | some j =>
    refine (copier1_any t h0.file h0.inj hfl j (h0.cha c (List.mem_of_getElem? hc) j hf)).mono ?_
    rintro e w2 ⟨loc6, dv6, rfl, t6, a6, g6⟩
    have := both w2 loc6 dv6 _ (fun i => ?_) t6 (fun i hi => a6 i hi) g6
    · rw [hf] at this
      exact ⟨_, rfl, this⟩
    · rw [htk]
      simp only [List.mem_append, List.mem_singleton]
      constructor
      · rintro ((hi | ⟨x, hx, h2⟩) | rfl)
        · exact .inl hi
        · exact .inr ⟨x, .inl hx, h2⟩
        · exact .inr ⟨c, .inr rfl, hf⟩
      · rintro (hi | ⟨x, hx | rfl, h2⟩)
        · exact .inl (.inl hi)
        · exact .inl (.inr ⟨x, hx, h2⟩)
        · rw [hf] at h2
          exact .inr (Option.some.inj h2).symm
theorem CW.done (h : CW w wr q nb1 nb2 σ A loc v' sd ch ch.length) (h0 : LAt w p σ F A loc dv nv sv cv sd ch) : ∃ G, RL wr q σ G ∧ (∀ k, G k → w.heap.size ≤ k) ∧ Below w.heap.size w wr := by
  obtain ⟨loc5, dv5, t, m1, m2, r⟩ := h.ex
  have hh0 := h.l0
  have hh1 := h.l1
  have hh2 := h.l2
  rw [List.take_length, List.drop_length, List.flatMap_nil, List.append_nil] at r
  rw [List.take_length] at t
  refine ⟨fun k => w.heap.size ≤ k ∧ k < wr.heap.size, ⟨fun j => D2 σ.dir sd j ∨ ∃ c ∈ ch, c.f = some j, loc5, dv5, .map (some nb1), .map (some nb2), v', sd, ch, ?_⟩, fun k hk => hk.1, t.bel⟩
  refine ⟨⟨by omega, h.dk.ty.lt⟩, h.dk, .inr ⟨nb1, rfl, ⟨by omega, m1.lt⟩, m1⟩, .inr ⟨nb2, rfl, ⟨by omega, m2.lt⟩, m2⟩, fun b e e2 => ?_, ⟨⟨r.1, r.2.imp id fun ⟨g, cap, cur, a, b, c⟩ => ⟨g, cap, cur, a, Nat.zero_le _, c⟩⟩, fun g e => ⟨?_, (owns_ty r e).lt⟩⟩, h0.was, h0.now, h0.gd, fun i hi => ?_, t.inj, t.sep, fun k hk => hk.2, fun l hl e he => ?_, fun i hi => h0.nx i (t.dn i hi), fun c hc i hi => .inr ⟨c, hc, hi⟩, h0.chm⟩
  · simp only [Value.map.injEq, Option.some.injEq] at e e2
    exact h.ne (e.trans e2.symm)
  · rcases r.2 with ⟨e1, _⟩ | ⟨g', cap', cur, e1, hb, _⟩
    · rw [e1] at e; cases e
    · rw [e1] at e
      simp only [Value.ownBlock, Option.some.injEq] at e
      omega
  · have hf := t.file i hi
    exact ⟨⟨hf.fp, hf.ty.lt⟩, hf.blk, hf.row, fun b eb => ⟨hf.own b eb, (owns_ty hf.row eb).lt⟩⟩
  · rw [h0.was] at hl
    rcases hist_ids ch sd l hl e he with hx | hx
    · exact .inl (.inr hx)
    · exact .inr hx
end
end Go.Proofs.YtligofmcmjblpaaGreat
