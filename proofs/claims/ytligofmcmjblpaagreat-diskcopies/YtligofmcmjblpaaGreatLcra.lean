/- The landed disk: what a crash keeps: the theory of its loop. -/
import Derived.Test.YtligofmcmjblpaaGreatLpick
import Derived.Test.YtligofmcmjblpaaGreatLbehind
import Derived.Test.YtligofmcmjblpaaGreatLlist
import Derived.Test.YtligofmcmjblpaaGreatKeeps
namespace Go.Proofs.YtligofmcmjblpaaGreat
open Go.RowKit Go.Maps
set_option linter.unusedVariables false
set_option linter.unusedSimpArgs false

def cutV (v : Value) (q : Nat) : Value := match v with | .slice a _ c => .slice a q c | v => v
theorem cutV_own (v : Value) (q : Nat) : (cutV v q).ownBlock = v.ownBlock := by
  unfold cutV
  split
  · next a n c => cases a <;> rfl
  · rfl
/-- Ahead of the kth file's cut. -/
structure CrL (w w6 wr : World) (F A : Nat → Prop) (loc : Nat → Nat) (dv : Nat → Value) (fl : Nat → List Int × Nat) (l : List Ent) (ps : List Int) (pb k : Nat) : Prop where
  kF : Kept F w wr
  kS : Kept (fun j => j = pb ∨ ∃ i, A i ∧ j = loc i) w6 wr
  pks : PickB w F wr pb (ps.drop (k + 1))
  file : ∀ j e, l[j]? = some e → FileM wr F (loc e.2) (if j < k then cutV (dv e.2) (fileQ fl ps e j).2 else dv e.2) (if j < k then fileQ fl ps e j else fl e.2)
theorem fileQ_pk (fl : Nat → List Int × Nat) (ps : List Int) (e : Ent) (k : Nat) : fileQ fl ps e k = ((fl e.2).1.take ((fl e.2).2 + pk (ps.drop (k + 1)) ((fl e.2).1.length - (fl e.2).2)), (fl e.2).2 + pk (ps.drop (k + 1)) ((fl e.2).1.length - (fl e.2).2)) := by
  unfold fileQ
  rw [pick_pk]
theorem nodup_at {l : List Ent} (h : (l.map (·.2)).Nodup) {j k : Nat} {x y : Ent} (hj : l[j]? = some x) (hk : l[k]? = some y) (he : x.2 = y.2) : j = k := by
  have h1 : (l.map (·.2))[j]? = some x.2 := by rw [List.getElem?_map, hj]; rfl
  have h2 : (l.map (·.2))[k]? = some y.2 := by rw [List.getElem?_map, hk]; rfl
  obtain ⟨a1, a2⟩ := List.getElem?_eq_some_iff.1 h1
  obtain ⟨b1, b2⟩ := List.getElem?_eq_some_iff.1 h2
  rcases Nat.lt_trichotomy j k with q | q | q
  · exact absurd (a2.trans (he.trans b2.symm)) ((List.pairwise_iff_getElem.1 h) j k a1 b1 q)
  · exact q
  · exact absurd (b2.trans (he.symm.trans a2.symm)) ((List.pairwise_iff_getElem.1 h) k j b1 a1 q)
theorem CrL.step {w w6 wr w2 : World} {F A : Nat → Prop} {loc : Nat → Nat} {dv : Nat → Value} {fl : Nat → List Int × Nat} {l : List Ent} {ps : List Int} {pb k : Nat} (h : CrL w w6 wr F A loc dv fl l ps pb k) {e : Ent} (he : l[k]? = some e)
    (hA : ∀ x ∈ l, A x.2) (hn : (l.map (·.2)).Nodup) (hinj : ∀ i j, A i → A j → loc i = loc j → i = j) (hFl : ∀ b, F b → b < w.heap.size) (hpb : w.heap.size ≤ pb)
    {ao : Option Addr} {c q : Nat} (hdv : dv e.2 = .slice ao (fl e.2).1.length c) (hq : q = (fl e.2).2 + pk (ps.drop (k + 1)) ((fl e.2).1.length - (fl e.2).2))
    (h1 : w2.heap[loc e.2]? = some (.cells #[.slice ao q c, .int .i64 (q : Int)] 72 (0, 0))) (h2 : Row 0 w2 (.slice ao q c) ((fl e.2).1.take q)) (h3 : PickB w F w2 pb (ps.drop (k + 1)).tail) (h4 : Kept (fun j => j = loc e.2 ∨ j = pb) wr w2) :
    CrL w w6 w2 F A loc dv fl l ps pb (k + 1) := by
  have hfk := h.file k e he
  rw [if_neg (Nat.lt_irrefl k), if_neg (Nat.lt_irrefl k)] at hfk
  have hAe := hA e (List.mem_of_getElem? he)
  refine ⟨h.kF.trans h4 fun j hj => ?_, h.kS.trans h4 fun j hj => ?_, by rw [List.tail_drop] at h3; exact h3, fun j x hx => ?_⟩
  · rcases hj with rfl | rfl
    · exact .inl hfk.fp
    · exact .inr hpb
  · rcases hj with rfl | rfl
    · exact .inl (.inr ⟨_, hAe, rfl⟩)
    · exact .inl (.inl rfl)
  · by_cases hjk : j = k
    · subst hjk
      rw [he] at hx
      cases hx
      rw [if_pos (Nat.lt_succ_self _), if_pos (Nat.lt_succ_self _), fileQ_pk, ← hq, hdv]
      refine ⟨hfk.fp, h1, h2, fun b eb => hfk.own b ?_⟩
      rw [hdv]
      have := cutV_own (.slice ao (fl e.2).1.length c) q
      rw [← this]
      exact eb
    · have hf := h.file j x hx
      have hc : (j < k + 1) = (j < k) := propext (by omega)
      simp only [hc]
      have hne : loc x.2 ≠ loc e.2 := fun e2 => hjk (nodup_at hn hx he (hinj _ _ (hA x (List.mem_of_getElem? hx)) hAe e2))
      have hp2 : ∀ b, F b → b ≠ pb := fun b hb e2 => by have := hFl b hb; omega
      refine hf.block (fun _ z => z) (h4.block _ hf.ty.lt fun z => ?_) fun b eb => h4.block b (owns_ty hf.row eb).lt fun z => ?_
      · rcases z with z | z
        · exact hne z
        · exact hp2 _ hf.fp z
      · rcases z with z | z
        · exact TyOf.ne (owns_ty hf.row eb) hfk.ty (by decide) z
        · exact hp2 _ (hf.own b eb) z
theorem renK_dD (nx : Nat) (loc : Nat → Nat) (loc' : Nat → Nat) : ∀ (l : List Ent) (j : Nat), (∀ k e, l[k]? = some e → loc' (nx + (j + k)) = loc e.2) → dD loc' (renK nx j l) = dD loc l
  | [], _, _ => rfl
  | e :: r, j, h => by
    have h1 := renK_dD nx loc loc' r (j + 1) fun k x hk => by
      have := h (k + 1) x (by simpa using hk)
      rw [show j + (k + 1) = j + 1 + k by omega] at this
      exact this
    have h0 := h 0 e rfl
    unfold dD at h1 ⊢
    simp only [DataW.map.injEq] at h1
    simp only [renK, List.map_cons, h1]
    congr 2
    unfold dE
    simp only [Nat.add_zero] at h0
    rw [h0]
theorem renK_srt (nx : Nat) : ∀ (l : List Ent) (j : Nat), Srt l → Srt (renK nx j l)
  | [], _, _ => List.Pairwise.nil
  | e :: r, j, h => by
    rw [renK]
    refine List.pairwise_cons.2 ⟨fun x hx => ?_, renK_srt nx r (j + 1) h.tail⟩
    obtain ⟨k, hk⟩ := List.getElem?_of_mem hx
    have hl : k < r.length := by have := (List.getElem?_eq_some_iff.1 hk).1; rw [renK_len] at this; exact this
    have h2 := renK_at nx r (j + 1) k r[k] (List.getElem?_eq_getElem hl)
    rw [h2] at hk
    cases hk
    exact h.head r[k] (List.getElem_mem hl)
theorem renK_ids (nx : Nat) : ∀ (l : List Ent) (j : Nat), ((renK nx j l).map (·.2)).Nodup
  | [], _ => List.nodup_nil
  | e :: r, j => by
    rw [renK, List.map_cons, List.nodup_cons]
    refine ⟨fun hm => ?_, renK_ids nx r (j + 1)⟩
    obtain ⟨x, hx, he⟩ := List.mem_map.1 hm
    have := (renK_mem nx r (j + 1) hx).1
    simp only at he
    omega
theorem Gd.renK {l : List Ent} (h : Gd l) (nx j : Nat) : Gd (renK nx j l) := by
  refine ⟨renK_srt nx l j h.srt, fun x hx => ?_, renK_ids nx l j⟩
  obtain ⟨k, hk⟩ := List.getElem?_of_mem hx
  have hl : k < l.length := by have := (List.getElem?_eq_some_iff.1 hk).1; rw [renK_len] at this; exact this
  have h2 := renK_at nx l j k l[k] (List.getElem?_eq_getElem hl)
  rw [h2] at hk
  cases hk
  exact h.may l[k] (List.getElem_mem hl)
set_option maxHeartbeats 1000000 in
theorem crash_endL {w w6 wr w1 : World} {p : Nat} {σ : DS} {F A : Nat → Prop} {loc : Nat → Nat} {dv : Nat → Value} {nv sv cv : Value} {sd : List Ent} {ch : List Chg} {ps : List Int} {l : List Ent} {pb mb b : Nat} {sv0 cv0 : Value} (h : LAt w p σ F A loc dv nv sv cv sd ch)
    (hl : l = σ.kept ps) (hm : l ∈ σ.was) (hc : CrL w w6 wr F A loc dv σ.fl l ps pb l.length) (hM : MapL wr mb loc l) (hmb : w.heap.size ≤ mb)
    (hd : DkL wr p σ.room (.map (some mb)) sv0 cv0 { calls := σ.c.calls, fuse := 0, wait := 0, fails := 0, off := false }) (hb : Below wr.heap.size wr w1) (hbb : wr.heap.size ≤ b) (hM2 : MapL w1 b loc l) :
    Nx RL w p (σ.crash ps) F ((w1.setCell ⟨p, 2, none⟩ (.map (some b))).setCell ⟨p, 3, none⟩ (.slice none 0 0)) := by
  have hD1 : DkL w1 p σ.room (.map (some mb)) sv0 cv0 { calls := σ.c.calls, fuse := 0, wait := 0, fails := 0, off := false } := by unfold DkL; rw [hb.block p hd.ty.lt]; exact hd
  have hg : w1.grownBy ((w1.setCell ⟨p, 2, none⟩ (.map (some b))).setCell ⟨p, 3, none⟩ (.slice none 0 0)) (some p) := grown_trans (grown_set _ _ _ _) (grown_set _ _ _ _)
  have hD2 : DkL ((w1.setCell ⟨p, 2, none⟩ (.map (some b))).setCell ⟨p, 3, none⟩ (.slice none 0 0)) p σ.room (.map (some mb)) (.map (some b)) (.slice none 0 0) { calls := σ.c.calls, fuse := 0, wait := 0, fails := 0, off := false } := (hD1.set2 _).set3 _
  generalize ((w1.setCell ⟨p, 2, none⟩ (.map (some b))).setCell ⟨p, 3, none⟩ (.slice none 0 0)) = wf at hg hD2
  have hM1 : MapL wf mb loc l := (hM.same (hb.block mb hM.lt)).same (hg.block mb (Nat.lt_of_lt_of_le hM.lt hb.size) fun e => (hM.same (hb.block mb hM.lt)).ne hD1.ty (Option.some.inj e))
  have hM3 : MapL wf b loc l := hM2.same (hg.block b hM2.lt fun e => hM2.ne hD1.ty (Option.some.inj e))
  have hmlt := hM.lt
  have hbs := hb.size
  have hgs := hg.size
  have hks := hc.kF.size
  have hgd := h.gd l hm
  have hal := h.al l hm
  have hx : (σ.crash ps).dir = renK σ.nx 0 l := by rw [hl]; exact keeps_fst _ _ _ _ _ _
  have hxf : ∀ k e, l[k]? = some e → (σ.crash ps).fl (σ.nx + k) = fileQ σ.fl ps e k := fun k e he => by
    have := keeps_at σ.fl ps σ.nx l 0 σ.fl k e he
    rw [Nat.zero_add] at this
    rw [← this, hl]
    rfl
  obtain ⟨loc', hloc⟩ : ∃ loc' : Nat → Nat, loc' = fun i => match l[i - σ.nx]? with | some e => loc e.2 | none => 0 := ⟨_, rfl⟩
  have hloc' : ∀ k e, l[k]? = some e → loc' (σ.nx + k) = loc e.2 := fun k e he => by
    rw [hloc]
    simp only [Nat.add_sub_cancel_left, he]
  obtain ⟨dv', hdv⟩ : ∃ dv' : Nat → Value, dv' = fun i => match l[i - σ.nx]? with | some e => cutV (dv e.2) (fileQ σ.fl ps e (i - σ.nx)).2 | none => .bool false := ⟨_, rfl⟩
  have hdv' : ∀ k e, l[k]? = some e → dv' (σ.nx + k) = cutV (dv e.2) (fileQ σ.fl ps e k).2 := fun k e he => by
    rw [hdv]
    simp only [Nat.add_sub_cancel_left, he]
  have hML : ∀ {w : World} {b : Nat}, MapL w b loc l → MapL w b loc' (renK σ.nx 0 l) := fun {w b} hh => by
    unfold MapL at hh ⊢
    rw [renK_dD σ.nx loc loc' l 0 (fun k e he => by rw [Nat.zero_add]; exact hloc' k e he), renK_len]
    exact hh
  have hA' : ∀ i, (∃ k e, l[k]? = some e ∧ i = σ.nx + k) ↔ (σ.nx ≤ i ∧ i < σ.nx + l.length) := fun i => by
    constructor
    · rintro ⟨k, e, he, rfl⟩
      have := (List.getElem?_eq_some_iff.1 he).1
      omega
    · rintro ⟨h1, h2⟩
      exact ⟨i - σ.nx, _, List.getElem?_eq_getElem (show i - σ.nx < l.length by omega), by omega⟩
  refine ⟨fun k => F k ∨ k = mb ∨ k = b, ⟨fun i => ∃ k e, l[k]? = some e ∧ i = σ.nx + k, loc', dv', .map (some mb), .map (some b), .slice none 0 0, renK σ.nx 0 l, [], ?_⟩, ?_, fun k hk => ?_⟩
  · refine ⟨.inl h.fp, hD2, ?_, .inr ⟨b, rfl, .inr (.inr rfl), hML hM3⟩, fun b' e e2 => ?_, ⟨World.ownsRow_nil _ _ _ _, fun g e => by cases e⟩, ?_, hx, fun l' hl' => ?_, ?_, ?_, ?_, fun k hk => ?_, fun l' hl' e he => ?_, fun i hi => ?_, (fun c hc => by cases hc), (fun c hc => by cases hc)⟩
    · rw [hx]
      exact .inr ⟨mb, rfl, .inr (.inl rfl), hML hM1⟩
    · rw [← e] at e2
      simp only [Value.map.injEq, Option.some.injEq] at e2
      omega
    · show [(σ.crash ps).dir] = _
      rw [hx]
      rfl
    · have h0 : l' ∈ [(σ.crash ps).dir] := hl'
      rw [hx, List.mem_singleton] at h0
      rw [h0]
      exact hgd.renK _ _
    · rintro i ⟨k, e, he, rfl⟩
      rw [hloc' k e he, hdv' k e he, hxf k e he]
      have hlk := (List.getElem?_eq_some_iff.1 he).1
      have hf := hc.file k e he
      rw [if_pos hlk, if_pos hlk] at hf
      refine hf.block (fun k hk => .inl hk) ?_ fun b' eb => ?_
      · rw [hg.block _ (Nat.lt_of_lt_of_le hf.ty.lt hbs) fun e2 => TyOf.ne hf.ty hd.ty (by decide) (Option.some.inj e2), hb.block _ hf.ty.lt]
      · have ht := owns_ty hf.row eb
        rw [hg.block _ (Nat.lt_of_lt_of_le ht.lt hbs) fun e2 => TyOf.ne ht hd.ty (by decide) (Option.some.inj e2), hb.block _ ht.lt]
    · rintro i j ⟨k, e, he, rfl⟩ ⟨k2, e2, he2, rfl⟩ hq
      rw [hloc' k e he, hloc' k2 e2 he2] at hq
      have := nodup_at hgd.ids he he2 (h.inj _ _ (hal e (List.mem_of_getElem? he)) (hal e2 (List.mem_of_getElem? he2)) hq)
      rw [this]
    · rintro i j ⟨k, e, he, rfl⟩ ⟨k2, e2, he2, rfl⟩ hne b' eb
      rw [hdv' k e he, cutV_own] at eb
      rw [hdv' k2 e2 he2, cutV_own]
      refine h.sep _ _ (hal e (List.mem_of_getElem? he)) (hal e2 (List.mem_of_getElem? he2)) (fun eq => ?_) b' eb
      have := nodup_at hgd.ids he he2 eq
      omega
    · rcases hk with hk | rfl | rfl
      · have := h.lt k hk; omega
      · exact hM1.lt
      · exact hM3.lt
    · have h0 : l' ∈ [(σ.crash ps).dir] := hl'
      rw [hx, List.mem_singleton] at h0
      rw [h0] at he
      have := renK_mem σ.nx l 0 he
      exact (hA' _).2 ⟨by omega, by omega⟩
    · have := (hA' i).1 hi
      show i < σ.nx + (σ.kept ps).length
      rw [← hl]
      exact this.2
  · exact (hc.kF.trans (below_kept (F := F) hb) fun _ x => .inl x).trans (kept_p (F := F) hg h.fp) fun _ x => .inl x
  · rcases hk with hk | rfl | rfl
    · exact .inl hk
    · exact .inr hmb
    · exact .inr (by omega)

set_option maxHeartbeats 1000000 in
set_option maxRecDepth 100000 in
theorem settle_raw (p mb : Nat) (room : Int) (c : Cn) (sv cv : Value) (loc : Nat → Nat) (l : List Ent) (w : World) (hd : DkL w p room (.map (some mb)) sv cv c) (hM : MapL w mb loc l) :
    Calls Tryz.prog 62 #[ptr p] w fun e w' => e = .returned (.tuple #[]) ∧ ∃ w1, Below w.heap.size w w1 ∧ MapL w1 w.heap.size loc l ∧ w' = (w1.setCell ⟨p, 2, none⟩ (.map (some w.heap.size))).setCell ⟨p, 3, none⟩ (.slice none 0 0) := by
  have c1 : w.cell? ⟨p, 1, none⟩ = some (.map (some mb)) := cell_of hd 1
  have hp := hd.ty.lt
  have HC : Hid (∀ wx, Below w.heap.size w wx → wx.cell? ⟨p, 2, none⟩ = some sv ∧ wx.cell? ⟨p, 3, none⟩ = some cv ∧ wx.frozen? ⟨p, 2, none⟩ = false ∧ wx.frozen? ⟨p, 3, none⟩ = false) := fun wx hb => by
    have hdx : DkL wx p room (.map (some mb)) sv cv c := by unfold DkL; rw [hb.block p hp]; exact hd
    exact ⟨cell_of hdx 2, cell_of hdx 3, frozen_of hdx 2, frozen_of hdx 3⟩
  unfold ptr
  have k := mapsClone_any mb loc l w hM
  clear hd hM
  go_enter Tryz.func62, Tryz.ntmps62
  go_wp2_with (go_at_call 82; refine k.mono ?_; rintro e w1 ⟨rfl, hm1, hb1⟩; obtain ⟨z1, z2, z3, z4⟩ := HC.out _ hb1)
  go_end0
  exact ⟨rfl, w1, hb1, hm1, rfl⟩
end Go.Proofs.YtligofmcmjblpaaGreat
