import Derived.Laws.IdiomRangeMap
import Derived.Test.YtligofmcmjblpaaGreatPk24
/- The landed disk: Used: a sum over a map in whatever order. -/
namespace Go.Proofs.YtligofmcmjblpaaGreat
open Go.RowKit Go.Maps
set_option linter.unusedVariables false
set_option linter.unusedSimpArgs false

/-- What has been summed while some are still to come. -/
def usedL (fl : Nat → List Int × Nat) (left : Lit → Bool) : List Ent → Nat
  | [] => 0
  | e :: r => (if left (nm e.1) = true then 0 else (fl e.2).1.length) + usedL fl left r
theorem usedL_all {fl : Nat → List Int × Nat} {left : Lit → Bool} {l : List Ent} (h : ∀ e ∈ l, left (nm e.1) = true) : usedL fl left l = 0 := by
  induction l with
  | nil => rfl
  | cons e r ih => rw [usedL, if_pos (h e (by simp)), ih fun x hx => h x (by simp [hx])]
theorem usedL_none {fl : Nat → List Int × Nat} {left : Lit → Bool} (h : ∀ k, left k = false) : ∀ l : List Ent, usedL fl left l = used fl l
  | [] => rfl
  | e :: r => by rw [usedL, used, if_neg (by rw [h]; decide), usedL_none h r]
theorem usedL_same {fl : Nat → List Int × Nat} {left left' : Lit → Bool} {l : List Ent} (h : ∀ e ∈ l, left' (nm e.1) = left (nm e.1)) : usedL fl left' l = usedL fl left l := by
  induction l with
  | nil => rfl
  | cons e r ih => rw [usedL, usedL, h e (by simp), ih fun x hx => h x (by simp [hx])]
theorem usedL_step {fl : Nat → List Int × Nat} {left : Lit → Bool} {l : List Ent} (hl : Srt l) {s : ByteArray} {i : Nat} (hf : fnd l s = some i) (hk : left (nm s) = true) :
    usedL fl (fun z => left z && !z.sameKey (nm s)) l = usedL fl left l + (fl i).1.length := by
  induction l with
  | nil => cases hf
  | cons e r ih =>
    rw [fnd] at hf
    rw [usedL, usedL]
    simp only [nm_same]
    by_cases q : (e.1.toList == s.toList) = true
    · rw [if_pos q] at hf
      simp only [Option.some.injEq] at hf
      have hn : nm e.1 = nm s := by
        unfold nm
        have := eq_of_beq q
        rw [ByteArray.toList_eq, ByteArray.toList_eq] at this
        rw [this]
      rw [q, if_neg (by simp), hn, if_pos hk, hf]
      have : usedL fl (fun z => left z && !z.sameKey (nm s)) r = usedL fl left r := usedL_same fun x hx => by
        simp only [nm_same]
        have hlt := hl.head x hx
        rw [eq_of_beq q] at hlt
        have : (x.1.toList == s.toList) = false := by
          cases hq : (x.1.toList == s.toList)
          · rfl
          · rw [eq_of_beq hq, less_irr] at hlt
            cases hlt
        rw [this]
        simp
      rw [this]
      omega
    · rw [if_neg q] at hf
      rw [eq_false_of_ne_true q, ih hl.tail hf]
      simp only [Bool.not_false, Bool.and_true]
      omega
theorem used_le {fl : Nat → List Int × Nat} (h : ∀ i, (fl i).1.length ≤ 4194304) : ∀ l : List Ent, used fl l ≤ l.length * 4194304
  | [] => Nat.zero_le _
  | e :: r => by
    have := used_le h r
    have h1 := h e.2
    simp only [used, List.length_cons]
    omega
theorem usedL_le (fl : Nat → List Int × Nat) (left : Lit → Bool) : ∀ l : List Ent, usedL fl left l ≤ used fl l
  | [] => Nat.le_refl _
  | e :: r => by
    have := usedL_le fl left r
    simp only [used, usedL]
    split <;> omega
theorem keyOf9_inv {key : Value} {kl : Lit} (h : keyOf Tryz.prog 9 key = some kl) : ∃ s : ByteArray, key = .string s ∧ kl = nm s := by
  have h9 := Tryz.underlying9
  cases key <;> simp [keyOf, h9, mapKey] at h
  exact ⟨_, rfl, h.2.symm⟩
theorem fileE_shape (v : Value) (y : DataW Unit × List MemPlace) (h : fileE v = some y) : ∃ c : Option Nat, v = pv id c := by
  unfold fileE at h
  split at h
  · exact ⟨none, rfl⟩
  · exact ⟨some _, rfl⟩
  · cases h
/-- The entry that has come, of a map of names. -/
theorem entry_of {loc : Nat → Nat} {l : List Ent} {s : ByteArray} {c : Option Nat} {y : DataW Unit × List MemPlace} (hy : fileE (pv id c) = some y) (hat : ∀ zd, (dD loc l).atKey (nm s) zd = y.1) : ∃ i, fnd l s = some i ∧ c = some (loc i) := by
  have h1 := hat (.lit (.bool true))
  have h2 := hat (.lit (.bool false))
  rw [dD_atKey] at h1 h2
  cases hf : fnd l s with
  | none =>
    rw [hf] at h1 h2
    simp only at h1 h2
    rw [← h1] at h2
    cases h2
  | some i =>
    rw [hf] at h1
    simp only at h1
    refine ⟨i, rfl, ?_⟩
    cases c with
    | none =>
      have : y = (.nil, []) := by
        have : fileE (.pointer none) = some y := hy
        simp only [fileE, Option.some.injEq] at this
        exact this.symm
      rw [this] at h1
      cases h1
    | some g =>
      have h3 : fileE (ptr g) = some y := hy
      rw [fileE_ptr] at h3
      simp only [Option.some.injEq] at h3
      rw [← h3] at h1
      simp only [DataW.lit.injEq, Lit.int.injEq, Int.natCast_inj, true_and] at h1
      rw [h1]

set_option maxHeartbeats 2000000 in
set_option maxRecDepth 100000 in
theorem used_anyL (p : Nat) (σ : DS) (F : Nat → Prop) (w : World) (h : RL w p σ F) (hfl : ∀ i, (σ.fl i).1.length ≤ 4194304 ∧ (σ.fl i).2 ≤ (σ.fl i).1.length ∧ Okb (σ.fl i).1) (hdl : σ.dir.length ≤ 1048576) :
    Calls Tryz.prog 40 #[ptr p] w fun e w' => e = .returned (.int .i64 (σ.used : Int)) ∧ Below w.heap.size w w' := by
  obtain ⟨A, loc, dv, nv, sv, cv, sd, ch, h⟩ := h
  have c1 : w.cell? ⟨p, 1, none⟩ = some nv := cell_of h.blk 1
  have hd := h.dir
  have hgd := h.gdDir
  have HU : Hid (σ.used ≤ 4398046511104) := by
    show σ.used ≤ _
    have h1 := used_le (fun i => (hfl i).1) σ.dir
    unfold DS.used
    omega
  have HF : Hid (∀ s i, fnd σ.dir s = some i → ∀ wr, Below w.heap.size w wr → ∃ ao cap, wr.cell? ⟨loc i, 0, none⟩ = some (.slice ao (σ.fl i).1.length cap)) := fun s i hf wr hb => by
    have hfm := h.file i (h.alFnd hf)
    obtain ⟨ao, cap, e0, _⟩ := hfm.byt (hfl i).2.2
    exact ⟨ao, cap, by rw [← e0]; exact cell_later hb hfm.cell0⟩
  unfold ptr
  rcases hd with ⟨rfl, hd⟩ | ⟨b, rfl, hF, hM⟩
  · have hu : σ.used = 0 := by rw [DS.used, hd]; rfl
    rw [hu]
    have hrg := run_range_nilMap (P := Tryz.prog) w 46 _ _ Tryz.underlying46
    have hnx : ∀ ty, (Instr.next (.pointer (some ⟨w.heap.size, 0, none⟩)) false ty).run Tryz.prog (w.alloc (.mapIter none 0 #[] 0)) = _ := fun ty => run_next_nilMap _ ty 0 0 #[]
    clear h hfl hdl hu hgd HU HF hd
    go_enter Tryz.func40, Tryz.ntmps40
    go_wp2
    refine wp_loop_rounds 1 ?_
    rw [rounds_succ]
    go_wp2
    go_ret
    exact ⟨rfl, (Below.refl _ _).alloc (Nat.le_refl _) _⟩
  · have hsrt := hgd.srt
    have HD : Hid (∀ e ∈ σ.dir, Maps.has (dD loc σ.dir) (nm e.1) = true) := fun e he => by
      rw [dD_has]
      have : ∀ (l : List Ent), e ∈ l → (fnd l e.1).isSome = true := by
        intro l
        induction l with
        | nil => intro h; cases h
        | cons x r ih =>
          intro hm
          rw [fnd]
          split
          · rfl
          · next hq =>
            rcases List.mem_cons.1 hm with rfl | hm
            · simp at hq
            · exact ih hm
      exact this _ he
    unfold DS.used at *
    generalize hdd : σ.dir = l at *
    generalize hfg : σ.fl = fl at *
    have hm : w.ownsMap Tryz.prog 9 fileE b l.length (dD loc l) := hM
    have HL : Hid (b < w.heap.size) := hM.lt
    clear h hfl hdl hgd hdd hfg hM
    go_enter Tryz.func40, Tryz.ntmps40
    go_wp2_with (first | (at_range; refine wpList_range_own _ rfl _ 46 rfl 9 68 keyL Tryz.underlying46 fileE b l.length _ rfl hm ?_; intro w0 hrg0 hg0 hs0) | go_in)
    go_frame
    go_loopw [3] (fun u wr => ∃ left cnt, wr.ranges Tryz.prog 9 fileE b w.heap.size l.length (dD loc l) left cnt ∧ u = .int .i64 (usedL fl left l : Int) ∧ Below w.heap.size w wr) (fun _ wr => wr.rangeLeft b w.heap.size)
    case atStart => exact ⟨_, _, hrg0, by rw [usedL_all HD.out]; rfl, grown_none hg0⟩
    case round =>
      obtain ⟨left, cnt, hrg, rfl, hbw⟩ := hrel
      go_wp2_with (first | (at_next; refine wpList_next_ranges _ rfl _ rfl 9 keyL fileE Value.string (pv id) (fun key kl hk => (keyOf9_inv hk).imp fun s h => h.1) fileE_shape b w.heap.size l.length _ _ _ rfl hrg ?_ ?_) | go_in)
      · intro hc0 hl0
        go_wp2
        go_ret
        exact ⟨by rw [usedL_none hl0]; rfl, hbw⟩
      · intro s c kl yd yp w1 cnt1 hkey hlx hv hat hrg1 hlt hg1 hs1 hen
        obtain ⟨s', es, rfl⟩ := keyOf9_inv hkey
        obtain rfl : s = s' := by cases es; rfl
        obtain ⟨i, hf, rfl⟩ := entry_of hv hat
        have hb1 : Below w.heap.size w w1 := hbw.grown hg1 hbw.size (fun k hk => by cases hk; exact Nat.le_refl _)
        obtain ⟨ao, cap, c0⟩ := HF.out s i hf w1 hb1
        have HS : Hid _ := usedL_step (fl := fl) hsrt hf hlx
        have hle : usedL fl left l + (fl i).1.length ≤ 4398046511104 := by
          rw [← HS.out]
          exact Nat.le_trans (usedL_le _ _ _) HU.out
        have HM : Hid (w1.rangeLeft b w.heap.size < wr.rangeLeft b w.heap.size) := by
          show _ < _
          rw [hrg1.left_eq, hrg.left_eq]
          exact hlt
        have HR : Hid (w1.ranges Tryz.prog 9 fileE b w.heap.size l.length (dD loc l) (fun z => left z && !z.sameKey (nm s)) cnt1) := hrg1
        simp only [pv, ptr, id] at hen ⊢
        clear hrg hrg1 hkey hlx hv hat es hlt hg1 hs1 hbw hs0 hg0 hrg0 hm hsrt
        go_wp2
        go_roundw
        case rel => exact ⟨_, _, HR.out, by rw [HS.out]; simp, hb1⟩
        case measure => exact HM.out
theorem used_any (p : Nat) (σ : DS) (F : Nat → Prop) (w : World) (h : RL w p σ F) (hi : Inv σ) :
    Calls Tryz.prog 40 #[ptr p] w fun e w' => e = .returned (.int .i64 (σ.used : Int)) ∧ Below w.heap.size w w' :=
  used_anyL p σ F w h hi.fl (by have := hi.dl; have := hi.ok.2.1; omega)
end Go.Proofs.YtligofmcmjblpaaGreat
