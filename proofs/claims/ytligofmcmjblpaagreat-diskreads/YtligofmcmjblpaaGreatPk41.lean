import Derived.Test.YtligofmcmjblpaaGreatPk03
import Derived.Test.YtligofmcmjblpaaGreatPk35
import Derived.Test.YtligofmcmjblpaaGreatPk39
import Derived.Test.YtligofmcmjblpaaGreatPk40
/- The landed disk: what a crash keeps: the theory of its loop. -/
namespace Go.Proofs.YtligofmcmjblpaaGreat
open Go.RowKit Go.Maps
set_option linter.unusedVariables false
set_option linter.unusedSimpArgs false

def cutV (v : Value) (q : Nat) : Value := match v with | .slice a _ c => .slice a q c | v => v
theorem cutV_own (v : Value) (q : Nat) : (cutV v q).ownBlock = v.ownBlock := by
  unfold cutV
  split
  · next a n c => cases a <;> rfl
  · rfl
/-- Ahead of the kth file's cut. -/
structure CrL (w w6 wr : World) (F A : Nat → Prop) (loc : Nat → Nat) (dv : Nat → Value) (fl : Nat → List Int × Nat) (l : List Ent) (ps : List Int) (pb k : Nat) : Prop where
  kF : Kept F w wr
  kS : Kept (fun j => j = pb ∨ ∃ i, A i ∧ j = loc i) w6 wr
  pks : PickB w F wr pb (ps.drop (k + 1))
  file : ∀ j e, l[j]? = some e → FileM wr F (loc e.2) (if j < k then cutV (dv e.2) (fileQ fl ps e j).2 else dv e.2) (if j < k then fileQ fl ps e j else fl e.2)
theorem fileQ_pk (fl : Nat → List Int × Nat) (ps : List Int) (e : Ent) (k : Nat) : fileQ fl ps e k = ((fl e.2).1.take ((fl e.2).2 + pk (ps.drop (k + 1)) ((fl e.2).1.length - (fl e.2).2)), (fl e.2).2 + pk (ps.drop (k + 1)) ((fl e.2).1.length - (fl e.2).2)) := by
  unfold fileQ
  rw [pick_pk]
theorem nodup_at {l : List Ent} (h : (l.map (·.2)).Nodup) {j k : Nat} {x y : Ent} (hj : l[j]? = some x) (hk : l[k]? = some y) (he : x.2 = y.2) : j = k := by
  have h1 : (l.map (·.2))[j]? = some x.2 := by rw [List.getElem?_map, hj]; rfl
  have h2 : (l.map (·.2))[k]? = some y.2 := by rw [List.getElem?_map, hk]; rfl
  obtain ⟨a1, a2⟩ := List.getElem?_eq_some_iff.1 h1
  obtain ⟨b1, b2⟩ := List.getElem?_eq_some_iff.1 h2
  rcases Nat.lt_trichotomy j k with q | q | q
  · exact absurd (a2.trans (he.trans b2.symm)) ((List.pairwise_iff_getElem.1 h) j k a1 b1 q)
  · exact q
  · exact absurd (b2.trans (he.symm.trans a2.symm)) ((List.pairwise_iff_getElem.1 h) k j b1 a1 q)
theorem CrL.step {w w6 wr w2 : World} {F A : Nat → Prop} {loc : Nat → Nat} {dv : Nat → Value} {fl : Nat → List Int × Nat} {l : List Ent} {ps : List Int} {pb k : Nat} (h : CrL w w6 wr F A loc dv fl l ps pb k) {e : Ent} (he : l[k]? = some e)
    (hA : ∀ x ∈ l, A x.2) (hn : (l.map (·.2)).Nodup) (hinj : ∀ i j, A i → A j → loc i = loc j → i = j) (hFl : ∀ b, F b → b < w.heap.size) (hpb : w.heap.size ≤ pb)
    {ao : Option Addr} {c q : Nat} (hdv : dv e.2 = .slice ao (fl e.2).1.length c) (hq : q = (fl e.2).2 + pk (ps.drop (k + 1)) ((fl e.2).1.length - (fl e.2).2))
    (h1 : w2.heap[loc e.2]? = some (.cells #[.slice ao q c, .int .i64 (q : Int)] 72 (0, 0))) (h2 : Row 0 w2 (.slice ao q c) ((fl e.2).1.take q)) (h3 : PickB w F w2 pb (ps.drop (k + 1)).tail) (h4 : Kept (fun j => j = loc e.2 ∨ j = pb) wr w2) :
    CrL w w6 w2 F A loc dv fl l ps pb (k + 1) := by
  have hfk := h.file k e he
  rw [if_neg (Nat.lt_irrefl k), if_neg (Nat.lt_irrefl k)] at hfk
  have hAe := hA e (List.mem_of_getElem? he)
  refine ⟨h.kF.trans h4 fun j hj => ?_, h.kS.trans h4 fun j hj => ?_, by rw [List.tail_drop] at h3; exact h3, fun j x hx => ?_⟩
  · rcases hj with rfl | rfl
    · exact .inl hfk.fp
    · exact .inr hpb
  · rcases hj with rfl | rfl
    · exact .inl (.inr ⟨_, hAe, rfl⟩)
    · exact .inl (.inl rfl)
  · by_cases hjk : j = k
    · subst hjk
      rw [he] at hx
      cases hx
      rw [if_pos (Nat.lt_succ_self _), if_pos (Nat.lt_succ_self _), fileQ_pk, ← hq, hdv]
      refine ⟨hfk.fp, h1, h2, fun b eb => hfk.own b ?_⟩
      rw [hdv]
      have := cutV_own (.slice ao (fl e.2).1.length c) q
      rw [← this]
      exact eb
    · have hf := h.file j x hx
      have hc : (j < k + 1) = (j < k) := propext (by omega)
      simp only [hc]
      have hne : loc x.2 ≠ loc e.2 := fun e2 => hjk (nodup_at hn hx he (hinj _ _ (hA x (List.mem_of_getElem? hx)) hAe e2))
      have hp2 : ∀ b, F b → b ≠ pb := fun b hb e2 => by have := hFl b hb; omega
      refine hf.block (fun _ z => z) (h4.block _ hf.ty.lt fun z => ?_) fun b eb => h4.block b (owns_ty hf.row eb).lt fun z => ?_
      · rcases z with z | z
        · exact hne z
        · exact hp2 _ hf.fp z
      · rcases z with z | z
        · exact TyOf.ne (owns_ty hf.row eb) hfk.ty (by decide) z
        · exact hp2 _ (hf.own b eb) z
theorem renK_dD (nx : Nat) (loc : Nat → Nat) (loc' : Nat → Nat) : ∀ (l : List Ent) (j : Nat), (∀ k e, l[k]? = some e → loc' (nx + (j + k)) = loc e.2) → dD loc' (renK nx j l) = dD loc l
  | [], _, _ => rfl
  | e :: r, j, h => by
    have h1 := renK_dD nx loc loc' r (j + 1) fun k x hk => by
      have := h (k + 1) x (by simpa using hk)
      rw [show j + (k + 1) = j + 1 + k by omega] at this
      exact this
    have h0 := h 0 e rfl
    unfold dD at h1 ⊢
    simp only [DataW.map.injEq] at h1
    simp only [renK, List.map_cons, h1]
    congr 2
    unfold dE
    simp only [Nat.add_zero] at h0
    rw [h0]
theorem renK_srt (nx : Nat) : ∀ (l : List Ent) (j : Nat), Srt l → Srt (renK nx j l)
  | [], _, _ => List.Pairwise.nil
  | e :: r, j, h => by
    rw [renK]
    refine List.pairwise_cons.2 ⟨fun x hx => ?_, renK_srt nx r (j + 1) h.tail⟩
    obtain ⟨k, hk⟩ := List.getElem?_of_mem hx
    have hl : k < r.length := by have := (List.getElem?_eq_some_iff.1 hk).1; rw [renK_len] at this; exact this
    have h2 := renK_at nx r (j + 1) k r[k] (List.getElem?_eq_getElem hl)
    rw [h2] at hk
    cases hk
    exact h.head r[k] (List.getElem_mem hl)
theorem renK_ids (nx : Nat) : ∀ (l : List Ent) (j : Nat), ((renK nx j l).map (·.2)).Nodup
  | [], _ => List.nodup_nil
  | e :: r, j => by
    rw [renK, List.map_cons, List.nodup_cons]
    refine ⟨fun hm => ?_, renK_ids nx r (j + 1)⟩
    obtain ⟨x, hx, he⟩ := List.mem_map.1 hm
    have := (renK_mem nx r (j + 1) hx).1
    simp only at he
    omega
theorem Gd.renK {l : List Ent} (h : Gd l) (nx j : Nat) : Gd (renK nx j l) := by
  refine ⟨renK_srt nx l j h.srt, fun x hx => ?_, renK_ids nx l j⟩
  obtain ⟨k, hk⟩ := List.getElem?_of_mem hx
  have hl : k < l.length := by have := (List.getElem?_eq_some_iff.1 hk).1; rw [renK_len] at this; exact this
  have h2 := renK_at nx l j k l[k] (List.getElem?_eq_getElem hl)
  rw [h2] at hk
  cases hk
  exact h.may l[k] (List.getElem_mem hl)
set_option maxHeartbeats 1000000 in
theorem crash_endL {w w6 wr w1 : World} {p : Nat} {σ : DS} {F A : Nat → Prop} {loc : Nat → Nat} {dv : Nat → Value} {nv sv cv : Value} {sd : List Ent} {ch : List Chg} {ps : List Int} {l : List Ent} {pb mb b : Nat} {sv0 cv0 : Value} (h : LAt w p σ F A loc dv nv sv cv sd ch)
    (hl : l = σ.kept ps) (hm : l ∈ σ.was) (hc : CrL w w6 wr F A loc dv σ.fl l ps pb l.length) (hM : MapL wr mb loc l) (hmb : w.heap.size ≤ mb)
    (hd : DkL wr p σ.room (.map (some mb)) sv0 cv0 { calls := σ.c.calls, fuse := 0, wait := 0, fails := 0, off := false }) (hb : Below wr.heap.size wr w1) (hbb : wr.heap.size ≤ b) (hM2 : MapL w1 b loc l) :
    Nx RL w p (σ.crash ps) F ((w1.setCell ⟨p, 2, none⟩ (.map (some b))).setCell ⟨p, 3, none⟩ (.slice none 0 0)) := by
  have hD1 : DkL w1 p σ.room (.map (some mb)) sv0 cv0 { calls := σ.c.calls, fuse := 0, wait := 0, fails := 0, off := false } := by unfold DkL; rw [hb.block p hd.ty.lt]; exact hd
  have hg : w1.grownBy ((w1.setCell ⟨p, 2, none⟩ (.map (some b))).setCell ⟨p, 3, none⟩ (.slice none 0 0)) (some p) := grown_trans (grown_set _ _ _ _) (grown_set _ _ _ _)
  have hD2 : DkL ((w1.setCell ⟨p, 2, none⟩ (.map (some b))).setCell ⟨p, 3, none⟩ (.slice none 0 0)) p σ.room (.map (some mb)) (.map (some b)) (.slice none 0 0) { calls := σ.c.calls, fuse := 0, wait := 0, fails := 0, off := false } := (hD1.set2 _).set3 _
  generalize ((w1.setCell ⟨p, 2, none⟩ (.map (some b))).setCell ⟨p, 3, none⟩ (.slice none 0 0)) = wf at hg hD2
  have hM1 : MapL wf mb loc l := (hM.same (hb.block mb hM.lt)).same (hg.block mb (Nat.lt_of_lt_of_le hM.lt hb.size) fun e => (hM.same (hb.block mb hM.lt)).ne hD1.ty (Option.some.inj e))
  have hM3 : MapL wf b loc l := hM2.same (hg.block b hM2.lt fun e => hM2.ne hD1.ty (Option.some.inj e))
  have hmlt := hM.lt
  have hbs := hb.size
  have hgs := hg.size
  have hks := hc.kF.size
  have hgd := h.gd l hm
  have hal := h.al l hm
  have hx : (σ.crash ps).dir = renK σ.nx 0 l := by rw [hl]; exact keeps_fst _ _ _ _ _ _
  have hxf : ∀ k e, l[k]? = some e → (σ.crash ps).fl (σ.nx + k) = fileQ σ.fl ps e k := fun k e he => by
    have := keeps_at σ.fl ps σ.nx l 0 σ.fl k e he
    rw [Nat.zero_add] at this
    rw [← this, hl]
    rfl
  obtain ⟨loc', hloc⟩ : ∃ loc' : Nat → Nat, loc' = fun i => match l[i - σ.nx]? with | some e => loc e.2 | none => 0 := ⟨_, rfl⟩
  have hloc' : ∀ k e, l[k]? = some e → loc' (σ.nx + k) = loc e.2 := fun k e he => by
    rw [hloc]
    simp only [Nat.add_sub_cancel_left, he]
  obtain ⟨dv', hdv⟩ : ∃ dv' : Nat → Value, dv' = fun i => match l[i - σ.nx]? with | some e => cutV (dv e.2) (fileQ σ.fl ps e (i - σ.nx)).2 | none => .bool false := ⟨_, rfl⟩
  have hdv' : ∀ k e, l[k]? = some e → dv' (σ.nx + k) = cutV (dv e.2) (fileQ σ.fl ps e k).2 := fun k e he => by
    rw [hdv]
    simp only [Nat.add_sub_cancel_left, he]
  have hML : ∀ {w : World} {b : Nat}, MapL w b loc l → MapL w b loc' (renK σ.nx 0 l) := fun {w b} hh => by
    unfold MapL at hh ⊢
    rw [renK_dD σ.nx loc loc' l 0 (fun k e he => by rw [Nat.zero_add]; exact hloc' k e he), renK_len]
    exact hh
  have hA' : ∀ i, (∃ k e, l[k]? = some e ∧ i = σ.nx + k) ↔ (σ.nx ≤ i ∧ i < σ.nx + l.length) := fun i => by
    constructor
    · rintro ⟨k, e, he, rfl⟩
      have := (List.getElem?_eq_some_iff.1 he).1
      omega
    · rintro ⟨h1, h2⟩
      exact ⟨i - σ.nx, _, List.getElem?_eq_getElem (show i - σ.nx < l.length by omega), by omega⟩
  refine ⟨fun k => F k ∨ k = mb ∨ k = b, ⟨fun i => ∃ k e, l[k]? = some e ∧ i = σ.nx + k, loc', dv', .map (some mb), .map (some b), .slice none 0 0, renK σ.nx 0 l, [], ?_⟩, ?_, fun k hk => ?_⟩
  · refine ⟨.inl h.fp, hD2, ?_, .inr ⟨b, rfl, .inr (.inr rfl), hML hM3⟩, fun b' e e2 => ?_, ⟨World.ownsRow_nil _ _ _ _, fun g e => by cases e⟩, ?_, hx, fun l' hl' => ?_, ?_, ?_, ?_, fun k hk => ?_, fun l' hl' e he => ?_, fun i hi => ?_, (fun c hc => by cases hc), (fun c hc => by cases hc)⟩
    · rw [hx]
      exact .inr ⟨mb, rfl, .inr (.inl rfl), hML hM1⟩
    · rw [← e] at e2
      simp only [Value.map.injEq, Option.some.injEq] at e2
      omega
    · show [(σ.crash ps).dir] = _
      rw [hx]
      rfl
    · have h0 : l' ∈ [(σ.crash ps).dir] := hl'
      rw [hx, List.mem_singleton] at h0
      rw [h0]
      exact hgd.renK _ _
    · rintro i ⟨k, e, he, rfl⟩
      rw [hloc' k e he, hdv' k e he, hxf k e he]
      have hlk := (List.getElem?_eq_some_iff.1 he).1
      have hf := hc.file k e he
      rw [if_pos hlk, if_pos hlk] at hf
      refine hf.block (fun k hk => .inl hk) ?_ fun b' eb => ?_
      · rw [hg.block _ (Nat.lt_of_lt_of_le hf.ty.lt hbs) fun e2 => TyOf.ne hf.ty hd.ty (by decide) (Option.some.inj e2), hb.block _ hf.ty.lt]
      · have ht := owns_ty hf.row eb
        rw [hg.block _ (Nat.lt_of_lt_of_le ht.lt hbs) fun e2 => TyOf.ne ht hd.ty (by decide) (Option.some.inj e2), hb.block _ ht.lt]
    · rintro i j ⟨k, e, he, rfl⟩ ⟨k2, e2, he2, rfl⟩ hq
      rw [hloc' k e he, hloc' k2 e2 he2] at hq
      have := nodup_at hgd.ids he he2 (h.inj _ _ (hal e (List.mem_of_getElem? he)) (hal e2 (List.mem_of_getElem? he2)) hq)
      rw [this]
    · rintro i j ⟨k, e, he, rfl⟩ ⟨k2, e2, he2, rfl⟩ hne b' eb
      rw [hdv' k e he, cutV_own] at eb
      rw [hdv' k2 e2 he2, cutV_own]
      refine h.sep _ _ (hal e (List.mem_of_getElem? he)) (hal e2 (List.mem_of_getElem? he2)) (fun eq => ?_) b' eb
      have := nodup_at hgd.ids he he2 eq
      omega
    · rcases hk with hk | rfl | rfl
      · have := h.lt k hk; omega
      · exact hM1.lt
      · exact hM3.lt
    · have h0 : l' ∈ [(σ.crash ps).dir] := hl'
      rw [hx, List.mem_singleton] at h0
      rw [h0] at he
      have := renK_mem σ.nx l 0 he
      exact (hA' _).2 ⟨by omega, by omega⟩
    · have := (hA' i).1 hi
      show i < σ.nx + (σ.kept ps).length
      rw [← hl]
      exact this.2
  · exact (hc.kF.trans (below_kept (F := F) hb) fun _ x => .inl x).trans (kept_p (F := F) hg h.fp) fun _ x => .inl x
  · rcases hk with hk | rfl | rfl
    · exact .inl hk
    · exact .inr hmb
    · exact .inr (by omega)

set_option maxHeartbeats 1000000 in
set_option maxRecDepth 100000 in
theorem settle_raw (p mb : Nat) (room : Int) (c : Cn) (sv cv : Value) (loc : Nat → Nat) (l : List Ent) (w : World) (hd : DkL w p room (.map (some mb)) sv cv c) (hM : MapL w mb loc l) :
    Calls Tryz.prog 62 #[ptr p] w fun e w' => e = .returned (.tuple #[]) ∧ ∃ w1, Below w.heap.size w w1 ∧ MapL w1 w.heap.size loc l ∧ w' = (w1.setCell ⟨p, 2, none⟩ (.map (some w.heap.size))).setCell ⟨p, 3, none⟩ (.slice none 0 0) := by
  have c1 : w.cell? ⟨p, 1, none⟩ = some (.map (some mb)) := cell_of hd 1
  have hp := hd.ty.lt
  have HC : Hid (∀ wx, Below w.heap.size w wx → wx.cell? ⟨p, 2, none⟩ = some sv ∧ wx.cell? ⟨p, 3, none⟩ = some cv ∧ wx.frozen? ⟨p, 2, none⟩ = false ∧ wx.frozen? ⟨p, 3, none⟩ = false) := fun wx hb => by
    have hdx : DkL wx p room (.map (some mb)) sv cv c := by unfold DkL; rw [hb.block p hp]; exact hd
    exact ⟨cell_of hdx 2, cell_of hdx 3, frozen_of hdx 2, frozen_of hdx 3⟩
  unfold ptr
  have k := mapsClone_any mb loc l w hM
  clear hd hM
  go_enter Tryz.func62, Tryz.ntmps62
  go_wp2_with (go_at_call 82; refine k.mono ?_; rintro e w1 ⟨rfl, hm1, hb1⟩; obtain ⟨z1, z2, z3, z4⟩ := HC.out _ hb1)
  go_end0
  exact ⟨rfl, w1, hb1, hm1, rfl⟩
end Go.Proofs.YtligofmcmjblpaaGreat

/- The landed disk: Crash. -/
namespace Go.Proofs.YtligofmcmjblpaaGreat
open Go.RowKit Go.Maps
set_option linter.unusedVariables false
set_option linter.unusedSimpArgs false

theorem picker_any (po : Option Addr) (pl pc : Nat) (w : World) : Calls Tryz.prog 64 #[.slice po pl pc] w fun e w' => e = .returned (.func (.func 83) #[] #[.pointer (some ⟨w.heap.size, 0, none⟩)]) ∧ w' = w.alloc (.cells #[.slice po pl pc] 28 (0, 0)) := by
  go_enter Tryz.func64, Tryz.ntmps64
  go_wp2_with fail
  go_ret
  exact ⟨rfl, rfl⟩

theorem fnd_srt : ∀ {l : List Ent} {k : Nat} {e : Ent}, Srt l → l[k]? = some e → fnd l e.1 = some e.2
  | [], k, e, _, h => by simp at h
  | x :: r, 0, e, hs, h => by
    simp only [List.getElem?_cons_zero, Option.some.injEq] at h
    subst h
    rw [fnd, if_pos (by simp)]
  | x :: r, k + 1, e, hs, h => by
    have hr : r[k]? = some e := by simpa using h
    have hl := hs.head e (List.mem_of_getElem? hr)
    rw [fnd, if_neg, fnd_srt hs.tail hr]
    intro hq
    rw [eq_of_beq hq, less_irr] at hl
    cases hl
/-- The directory to come lies in a map of its own. -/
structure C3 (w w3 : World) (p mb : Nat) (σ : DS) (F A : Nat → Prop) (loc : Nat → Nat) (dv : Nat → Value) (nv sv cv : Value) (sd : List Ent) (ch : List Chg) (l : List Ent) (ps : List Int) : Prop where
  at_ : LAt w3 p { σ with c := { calls := σ.c.calls, fuse := 0, wait := 0, fails := 0, off := false } } F A loc dv nv sv cv sd ch
  kF : Kept F w w3
  pks : PickB w F w3 w.heap.size ps.tail
  map : MapL w3 mb loc l
  mbl : w.heap.size ≤ mb
/-- Ahead of the cuts. -/
structure C5 (w w5 : World) (p mb : Nat) (σ : DS) (F A : Nat → Prop) (loc : Nat → Nat) (dv : Nat → Value) (sv cv : Value) (l : List Ent) (ps : List Int) (rv : Value) : Prop where
  cr : CrL w w5 w5 F A loc dv σ.fl l ps w.heap.size 0
  dk : DkL w5 p σ.room (.map (some mb)) sv cv { calls := σ.c.calls, fuse := 0, wait := 0, fails := 0, off := false }
  map : MapL w5 mb loc l
  row : RowS w.heap.size w5 rv (l.map (·.1))
  ftype : ∀ i, A i → TyOf w5 (loc i) 72
theorem C3.next {w w3 w5 : World} {p mb : Nat} {σ : DS} {F A : Nat → Prop} {loc : Nat → Nat} {dv : Nat → Value} {nv sv cv : Value} {sd : List Ent} {ch : List Chg} {l : List Ent} {ps : List Int} {rv : Value} (h : C3 w w3 p mb σ F A loc dv nv sv cv sd ch l ps) (hm : l ∈ σ.was)
    (hb : Below (w3.setCell ⟨p, 1, none⟩ (.map (some mb))).heap.size (w3.setCell ⟨p, 1, none⟩ (.map (some mb))) w5) (hr : RowS (w3.setCell ⟨p, 1, none⟩ (.map (some mb))).heap.size w5 rv (l.map (·.1))) : C5 w w5 p mb σ F A loc dv sv cv l ps rv := by
  have hg : w3.grownBy (w3.setCell ⟨p, 1, none⟩ (.map (some mb))) (some p) := grown_set _ _ _ _
  have hd : DkL (w3.setCell ⟨p, 1, none⟩ (.map (some mb))) p σ.room (.map (some mb)) sv cv { calls := σ.c.calls, fuse := 0, wait := 0, fails := 0, off := false } := h.at_.blk.set1 _
  generalize (w3.setCell ⟨p, 1, none⟩ (.map (some mb))) = w4 at hb hr hg hd
  have hsz := h.kF.size
  have hsg := hg.size
  have hpt := h.at_.blk.ty
  have hblk : ∀ k t, TyOf w3 k t → t ≠ 51 → w5.heap[k]? = w3.heap[k]? := fun k t ht hn => by
    rw [hb.block k (Nat.lt_of_lt_of_le ht.lt hsg), hg.block k ht.lt fun e => TyOf.ne ht hpt hn (Option.some.inj e)]
  have hpk := h.pks
  have hpt2 : TyOf w3 w.heap.size 28 := by obtain ⟨_, _, _, hh⟩ := hpk; exact ⟨_, _, hh⟩
  refine ⟨⟨?_, Kept.refl _ _, ?_, fun j e he => ?_⟩, ?_, ?_, ?_, fun i hi => ?_⟩
  · exact (h.kF.trans (kept_p (F := F) hg h.at_.fp) fun _ x => .inl x).trans (below_kept (F := F) hb) fun _ x => .inl x
  · rw [Nat.zero_add, List.drop_one]
    exact hpk.same (hblk _ _ hpt2 (by decide))
  · rw [if_neg (Nat.not_lt_zero j), if_neg (Nat.not_lt_zero j)]
    have hA : A e.2 := h.at_.al l hm e (List.mem_of_getElem? he)
    have hf : FileM w3 F (loc e.2) (dv e.2) (σ.fl e.2) := h.at_.file e.2 hA
    exact hf.block (fun _ z => z) (hblk _ _ hf.ty (by decide)) fun b eb => hblk _ _ (owns_ty hf.row eb) (by decide)
  · unfold DkL
    rw [hb.block p hd.ty.lt]
    exact hd
  · refine h.map.same ?_
    rw [hb.block mb (Nat.lt_of_lt_of_le h.map.lt hsg), hg.block mb h.map.lt fun e => h.map.ne hpt (Option.some.inj e)]
  · refine ⟨hr.1, ?_⟩
    rcases hr.2 with h3 | ⟨g, cap, cur, e1, h4, h5⟩
    · exact .inl h3
    · exact .inr ⟨g, cap, cur, e1, by omega, h5⟩
  · have hf := h.at_.file i hi
    obtain ⟨c, f, hh⟩ := hf.ty
    exact ⟨c, f, (hblk _ _ hf.ty (by decide)).trans hh⟩
/-- What a round reads. -/
theorem C5.reads {w w5 wr : World} {p mb k : Nat} {σ : DS} {F A : Nat → Prop} {loc : Nat → Nat} {dv : Nat → Value} {sv cv : Value} {l : List Ent} {ps : List Int} {rv : Value} (h : C5 w w5 p mb σ F A loc dv sv cv l ps rv) (hc : CrL w w5 wr F A loc dv σ.fl l ps w.heap.size k) :
    DkL wr p σ.room (.map (some mb)) sv cv { calls := σ.c.calls, fuse := 0, wait := 0, fails := 0, off := false } ∧ MapL wr mb loc l ∧ RowS w.heap.size wr rv (l.map (·.1)) := by
  have hpb : TyOf w5 w.heap.size 28 := by obtain ⟨_, _, _, hh⟩ := h.cr.pks; exact ⟨_, _, hh⟩
  have hblk : ∀ k t, TyOf w5 k t → t ≠ 72 → t ≠ 28 → wr.heap[k]? = w5.heap[k]? := fun k t ht h1 h2 => hc.kS.block k ht.lt fun z => by
    rcases z with z | ⟨i, hi, z⟩
    · exact TyOf.ne ht hpb h2 z
    · exact TyOf.ne ht (h.ftype i hi) h1 z
  refine ⟨?_, h.map.same (hc.kS.block mb h.map.lt fun z => ?_), owns_same h.row fun g e => hblk g _ (owns_ty h.row e) (by decide) (by decide)⟩
  · unfold DkL
    rw [hblk p _ h.dk.ty (by decide) (by decide)]
    exact h.dk
  · rcases z with z | ⟨i, hi, z⟩
    · exact h.map.ne hpb z
    · exact h.map.ne (h.ftype i hi) z

set_option maxHeartbeats 4000000 in
set_option maxRecDepth 100000 in
theorem crash_any (p : Nat) (σ : DS) (F : Nat → Prop) (po : Option Addr) (pl pc : Nat) (P : Nat → Int) (w : World) (h : RL w p σ F) (hi : Inv σ) (hP : Ints w po pl P) (hpF : 0 < pl → ∀ a, po = some a → ¬ F a.block) (hpl : pl ≤ pc ∧ pc ≤ 2 ^ 63 - 1) :
    Calls Tryz.prog 25 #[ptr p, .slice po pl pc] w fun e w' => e = .returned (.tuple #[]) ∧ Nx RL w p (σ.crash (is P pl)) F w' := by
  obtain ⟨A, loc, dv, nv, sv, cv, sd, ch, h⟩ := h
  have c5 : w.cell? ⟨p, 5, none⟩ = some (.bool σ.c.off) := cell_of h.blk 5
  have c6 : w.cell? ⟨p, 6, none⟩ = some (.int .i64 σ.c.fA) := cell_of h.blk 6
  have c7 : w.cell? ⟨p, 7, none⟩ = some (.int .i64 σ.c.fC) := cell_of h.blk 7
  have c8 : w.cell? ⟨p, 8, none⟩ = some (.int .i64 σ.c.tA) := cell_of h.blk 8
  have c9 : w.cell? ⟨p, 9, none⟩ = some (.int .i64 σ.c.fails) := cell_of h.blk 9
  have f5 := frozen_of h.blk 5
  have f6 := frozen_of h.blk 6
  have f7 := frozen_of h.blk 7
  have f8 := frozen_of h.blk 8
  have f9 := frozen_of h.blk 9
  have hp := h.lt p h.fp
  obtain ⟨W, hW⟩ : ∃ W, W = ((((w.setCell ⟨p, 5, none⟩ (.bool false)).setCell ⟨p, 6, none⟩ (.int .i64 0)).setCell ⟨p, 7, none⟩ (.int .i64 0)).setCell ⟨p, 8, none⟩ (.int .i64 0)).setCell ⟨p, 9, none⟩ (.int .i64 0) := ⟨_, rfl⟩
  have gW : w.grownBy W (some p) := by
    rw [hW]
    exact grown_trans (grown_trans (grown_trans (grown_trans (grown_set _ _ _ _) (grown_set _ _ _ _)) (grown_set _ _ _ _)) (grown_set _ _ _ _)) (grown_set _ _ _ _)
  have sW : W.heap.size = w.heap.size := by rw [hW]; simp [World.setCell]
  obtain ⟨c0, hc0⟩ : ∃ c0 : Cn, c0 = { calls := σ.c.calls, fuse := 0, wait := 0, fails := 0, off := false } := ⟨_, rfl⟩
  have LW : LAt W p { σ with c := c0 } F A loc dv nv sv cv sd ch := h.disk gW (by
    rw [hW, hc0]
    have h5 := heap_set (heap_set (heap_set (heap_set (heap_set h.blk 5 (.bool false)) 6 (.int .i64 0)) 7 (.int .i64 0)) 8 (.int .i64 0)) 9 (.int .i64 0)
    exact h5)
  obtain ⟨ps, hps⟩ : ∃ ps, ps = is P pl := ⟨_, rfl⟩
  have hpsl : ps.length = pl := by rw [hps]; simp [is]
  have kp := picker_any po pl pc W
  rw [sW] at kp
  obtain ⟨W1, hW1⟩ : ∃ W1, W1 = W.alloc (.cells #[.slice po pl pc] 28 (0, 0)) := ⟨_, rfl⟩
  have bW1 : Below W.heap.size W W1 := by rw [hW1]; exact (Below.refl _ _).alloc (Nat.le_refl _) _
  have L1 := LW.later bW1
  have K1 : Kept F w W1 := (kept_p (F := F) gW h.fp).trans (below_kept (F := F) bW1) fun _ x => .inl x
  have B1 : PickB w F W1 w.heap.size ps := by
    refine ⟨po, pc, ⟨by omega, hpl.2, fun k x hx => ?_⟩, ?_⟩
    · rw [hps, is_at] at hx
      by_cases hk : k < pl
      · rw [if_pos hk] at hx
        cases hx
        obtain ⟨z1, b, off, z2, z3⟩ := hP k hk
        exact ⟨z1, b, off, z2, hpF (by omega) _ z2, z3⟩
      · rw [if_neg hk] at hx
        cases hx
    · rw [hW1, hpsl, ← sW]
      exact heap_alloc_new W _
  obtain ⟨cao, ccap, hcv⟩ := ChR.slice L1.chs.row
  have hchl : ch.length ≤ 1048576 := by
    have h1 := hi.wl
    have h2 := hi.ok.2.1
    rw [h.was, hist_length] at h1
    omega
  have y3 : W1.cell? ⟨p, 3, none⟩ = some cv := cell_of L1.blk 3
  rw [hcv] at y3
  have k1 := picker1_any w F w.heap.size ps ch.length W1 K1 B1 (by omega)
  rw [← hps]
  obtain ⟨many, hmany⟩ : ∃ m, m = pk ps ch.length := ⟨_, rfl⟩
  have hml : many ≤ ch.length := by rw [hmany]; exact pk_le _ _
  rw [← hmany] at k1
  have kp2 : Calls Tryz.prog 64 #[.slice po pl pc] (((((w.setCell ⟨p, 5, none⟩ (.bool false)).setCell ⟨p, 6, none⟩ (.int .i64 0)).setCell ⟨p, 7, none⟩ (.int .i64 0)).setCell ⟨p, 8, none⟩ (.int .i64 0)).setCell ⟨p, 9, none⟩ (.int .i64 0)) fun e w' => e = .returned (.func (.func 83) #[] #[.pointer (some ⟨w.heap.size, 0, none⟩)]) ∧ w' = W1 := by
    rw [← hW, hW1]
    exact kp
  obtain ⟨l, hl⟩ : ∃ l, l = lastD sd (ch.take many) := ⟨_, rfl⟩
  have hlk : l = σ.kept ps := by
    unfold DS.kept
    rw [h.was, hist_length, Nat.add_sub_cancel, pick_pk, List.drop_zero, ← hmany, List.getD_eq_getElem?_getD, hist_get sd ch many hml, hl]
    rfl
  have hlm : l ∈ σ.was := by rw [h.was, hl]; exact List.mem_of_getElem? (hist_get sd ch many hml)
  have hwl : ∀ x ∈ σ.was, x.length ≤ 1048577 := fun x hx => by
    have h1 := hi.wd x hx
    have h2 := hi.ok.2.1
    omega
  have HB : Hid (∀ w2, PickB w F w2 w.heap.size ps.tail → W1.grownBy w2 (some w.heap.size) → Calls Tryz.prog 65 #[ptr p, .int .i64 (many : Int)] w2 fun e w3 => ∃ mb, e = .returned (.map (some mb)) ∧ C3 w w3 p mb σ F A loc dv nv sv cv sd ch l ps) := fun w2 B2 g2 => by
    have hlt : ∀ k, F k → k < w.heap.size := h.lt
    have L2 := L1.same (w' := w2) fun k hk => g2.block k (L1.lt k hk) fun e => by have := hlt k hk; have := Option.some.inj e; omega
    refine (behind_any p { σ with c := c0 } F A loc dv nv sv cv sd ch many w2 L2 hwl (by omega) hml).mono ?_
    rintro e w3 ⟨rfl, m3, b3⟩
    have K2 : Kept F w w2 := K1.trans (Kept.grown (F := fun k => k = w.heap.size) g2 fun k e => .inl (Option.some.inj e).symm) fun k x => .inr (Nat.le_of_eq x.symm)
    have hpl2 : w.heap.size < w2.heap.size := by obtain ⟨_, _, _, hh⟩ := B2; exact (Array.getElem?_eq_some_iff.1 hh).1
    refine ⟨_, rfl, ⟨by rw [← hc0]; exact L2.later b3, K2.trans (below_kept (F := F) b3) fun _ x => .inl x, B2.same (b3.block _ hpl2), by rw [hl]; exact m3, by omega⟩⟩
  have HR : Hid (∀ w3 mb, C3 w w3 p mb σ F A loc dv nv sv cv sd ch l ps → w3.cell? ⟨p, 1, none⟩ = some nv ∧ w3.frozen? ⟨p, 1, none⟩ = false ∧ p < w3.heap.size ∧ Calls Tryz.prog 66 #[.map (some mb)] (w3.setCell ⟨p, 1, none⟩ (.map (some mb))) fun e w5 => ∃ v, e = .returned v ∧ C5 w w5 p mb σ F A loc dv sv cv l ps v) := fun w3 mb t => by
    refine ⟨cell_of t.at_.blk 1, frozen_of t.at_.blk 1, t.at_.blk.ty.lt, ?_⟩
    have hg : w3.grownBy (w3.setCell ⟨p, 1, none⟩ (.map (some mb))) (some p) := grown_set _ _ _ _
    refine (rising_any (.map (some mb)) (fun _ => True) loc l _ (.inr ⟨mb, rfl, trivial, t.map.same (hg.block mb t.map.lt fun e => t.map.ne t.at_.blk.ty (Option.some.inj e))⟩) (h.gd l hlm).srt (hwl l hlm)).mono ?_
    rintro e w5 ⟨v, rfl, hr, hb⟩
    exact ⟨v, rfl, t.next hlm hb hr⟩
  have HK : Hid (∀ w5 mb v wr k e, C5 w w5 p mb σ F A loc dv sv cv l ps v → CrL w w5 wr F A loc dv σ.fl l ps w.heap.size k → l[k]? = some e → (Instr.lookup 46 (.map (some mb)) (.string e.1) false).run Tryz.prog wr = .ok (.pointer (some ⟨loc e.2, 0, none⟩)) wr ∧ Calls Tryz.prog 67 #[.pointer (some ⟨loc e.2, 0, none⟩), .func (.func 83) #[] #[.pointer (some ⟨w.heap.size, 0, none⟩)]] wr fun x w' => x = .returned (.tuple #[]) ∧ CrL w w5 w' F A loc dv σ.fl l ps w.heap.size (k + 1)) := fun w5 mb v wr k e t tc he => by
    obtain ⟨r1, r2, r3⟩ := t.reads tc
    have hlook := r2.look e.1
    rw [fnd_srt (h.gd l hlm).srt he] at hlook
    refine ⟨hlook, ?_⟩
    have hf := tc.file k e he
    rw [if_neg (Nat.lt_irrefl k), if_neg (Nat.lt_irrefl k)] at hf
    obtain ⟨q1, q2, q3⟩ := hi.fl e.2
    obtain ⟨ao, cap, e0, e1, e2, e3, e4⟩ := Row.byt hf.row q3
    have hblk := hf.blk
    have hrow := hf.row
    rw [e0] at hblk hrow
    unfold maxLen at e3
    refine (cut_any w F w.heap.size (loc e.2) (ps.drop (k + 1)) ao cap (σ.fl e.2).1 (σ.fl e.2).2 wr tc.kF tc.pks (Nat.le_refl _) hblk hrow q2 q1 ⟨e2, by omega⟩).mono ?_
    rintro x w' ⟨rfl, q, hq, z1, z2, z3, z4⟩
    exact ⟨rfl, tc.step he (h.al l hlm) (h.gd l hlm).ids h.inj h.lt (Nat.le_refl _) e0 hq z1 z2 z3 z4⟩
  have HE : Hid (∀ w5 mb v wr, C5 w w5 p mb σ F A loc dv sv cv l ps v → CrL w w5 wr F A loc dv σ.fl l ps w.heap.size l.length → w.heap.size ≤ mb → Calls Tryz.prog 62 #[ptr p] wr fun e w' => e = .returned (.tuple #[]) ∧ Nx RL w p (σ.crash ps) F w') := fun w5 mb v wr t tc hmb => by
    obtain ⟨r1, r2, r3⟩ := t.reads tc
    refine (settle_raw p mb σ.room _ sv cv loc l wr r1 r2).mono ?_
    rintro e w' ⟨rfl, w1, hb1, hm1, rfl⟩
    exact ⟨rfl, crash_endL h hlk hlm tc r2 hmb r1 hb1 (Nat.le_refl _) hm1⟩
  have HLL : Hid (l.length ≤ 1048577) := hwl l hlm
  generalize σ.c.off = bo, σ.c.fA = b6, σ.c.fC = b7, σ.c.tA = b8, σ.c.fails = b9 at c5 c6 c7 c8 c9
  generalize ch.length = n at y3 k1
  clear kp hW hW1 gW LW bW1 B1 K1 L1 hpsl hps hmany hcv hP hpF hpl hchl hml hc0 h hi sW hwl hlk hlm hl
  unfold ptr
  go_enter Tryz.func25, Tryz.ntmps25
  go_wp2_with (first | (go_at_call 64; refine kp2.mono ?_; rintro e w1 ⟨rfl, hw1⟩; obtain rfl := hw1.symm; clear kp2 c5 c6 c7 c8 c9 f5 f6 f7 f8 f9) | (go_at_call 83; refine k1.mono ?_; rintro e w2 ⟨rfl, B2, g2⟩; clear k1 y3) | (go_at_call 65; refine (HB.out w2 B2 g2).mono ?_; rintro e w3 ⟨mb, rfl, t3⟩; have T3 : Hid (C3 w w3 p mb σ F A loc dv nv sv cv sd ch l ps) := t3; obtain ⟨z1, z2, z3, kr⟩ := HR.out _ _ t3; clear t3 B2 g2 HB) | (go_at_call 66; refine kr.mono ?_; rintro e w5 ⟨v, rfl, t5⟩; have T5 : Hid (C5 w w5 p mb σ F A loc dv sv cv l ps v) := t5; rcases rowS_shape t5.row with ⟨rfl, hln⟩ | ⟨g, cap, rfl, hg1, hg2, hg3, hg4⟩ <;> clear kr z1 z2 z3))
  · have HL0 : Hid (CrL w w5 w5 F A loc dv σ.fl l ps w.heap.size l.length) := by
      have : l = [] := by simpa using hln
      subst this
      exact t5.cr
    have ks := HE.out _ _ _ _ t5 HL0.out T3.out.mbl
    clear t5 hln HL0
    unfold ptr at ks
    refine wp_loop_rounds 1 ?_
    rw [rounds_succ]
    go_wp2_with (go_at_call 62; refine ks.mono ?_; rintro e wf ⟨rfl, hf⟩)
    go_end0
    exact ⟨rfl, hf⟩
  · have hml := T3.out.mbl
    have H0 := t5.cr
    have HLN : Hid ((l.map (·.1)).length = l.length) := List.length_map _
    have hl := HLL.out
    obtain ⟨rv, hrv⟩ : ∃ rv, rv = Value.slice (some ⟨g, 0, none⟩) (l.map (·.1)).length cap := ⟨_, rfl⟩
    have HRV : Hid (rv = Value.slice (some ⟨g, 0, none⟩) (l.map (·.1)).length cap) := hrv
    rw [← hrv] at T5
    clear t5 hg1 hg2 hg3 hg4 hrv HR T3
    go_loopg [40] l.length (fun gk i wr => ∃ k : Nat, i = .int .i64 (k : Int) ∧ k + gk = l.length ∧ Hid (CrL w w5 wr F A loc dv σ.fl l ps w.heap.size k))
    case atStart => exact ⟨0, rfl, by omega, H0⟩
    case round =>
      obtain ⟨k, rfl, hk, HC⟩ := hrel
      obtain ⟨r1, r2, r3⟩ := T5.out.reads HC.out
      have y1 := cell_of r1 1
      by_cases hkl : k < l.length
      · obtain ⟨e, he⟩ : ∃ e, l[k]? = some e := ⟨_, List.getElem?_eq_getElem hkl⟩
        obtain ⟨hlook, kc⟩ := HK.out _ _ _ _ _ _ T5.out HC.out he
        have y2 : wr.cell? ⟨g, k, none⟩ = some (.string e.1) := by
          rw [HRV.out] at r3
          rcases rowS_shape r3 with ⟨e0, _⟩ | ⟨g', cap', e0, y1, y2, y3, y4⟩
          · cases e0
          · simp only [Value.slice.injEq, Option.some.injEq, Addr.mk.injEq] at e0
            obtain ⟨⟨rfl, _⟩, _, rfl⟩ := e0
            exact y3 k e.1 (by rw [List.getElem?_map, he]; rfl)
        have hki : (k : Int) < (l.length : Int) := by omega
        obtain ⟨G, HG⟩ : ∃ G, Hid (G < gk ∧ k + 1 + G = l.length) := ⟨gk - 1, by omega, by omega⟩
        clear r1 r2 r3 HC hk H0 HK HE
        go_wp2_with (go_at_call 67; refine kc.mono ?_; rintro x w7 ⟨rfl, hc7⟩)
        go_roundg G
        case measure => exact HG.out.1
        case rel => exact ⟨k + 1, by simp, HG.out.2, hc7⟩
      · have hkq : k = l.length := by omega
        have hki : ¬ (k : Int) < (l.length : Int) := by omega
        have HC2 : Hid (CrL w w5 wr F A loc dv σ.fl l ps w.heap.size l.length) := by
          rw [← hkq]
          exact HC
        have ks := HE.out _ _ _ _ T5.out HC2.out hml
        unfold ptr at ks
        clear r1 r2 r3 HC hk HC2 H0 HK HE
        go_wp2_with (go_at_call 62; refine ks.mono ?_; rintro e wf ⟨rfl, hf⟩)
        go_end0
        exact ⟨rfl, hf⟩
end Go.Proofs.YtligofmcmjblpaaGreat
