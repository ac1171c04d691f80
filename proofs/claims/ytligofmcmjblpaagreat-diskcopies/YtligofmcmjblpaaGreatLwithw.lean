/- The landed disk: a directory with twins for its files: the walk. -/
import Derived.Test.YtligofmcmjblpaaGreatLwith
namespace Go.Proofs.YtligofmcmjblpaaGreat
open Go.RowKit Go.Maps
set_option linter.unusedVariables false
set_option linter.unusedSimpArgs false

theorem fnd_srtW : ∀ {l : List Ent} {k : Nat} {e : Ent}, Srt l → l[k]? = some e → fnd l e.1 = some e.2
  | [], k, e, _, h => by simp at h
  | x :: r, 0, e, hs, h => by
    simp only [List.getElem?_cons_zero, Option.some.injEq] at h
    subst h
    rw [fnd, if_pos (by simp)]
  | x :: r, k + 1, e, hs, h => by
    have hr : r[k]? = some e := by simpa using h
    have hl := hs.head e (List.mem_of_getElem? hr)
    rw [fnd, if_neg, fnd_srtW hs.tail hr]
    intro hq
    rw [eq_of_beq hq, less_irr] at hl
    cases hl
/-- Where the walk stands. -/
structure WR (w0 w wr : World) (xb tb cb : Nat) (A : Nat → Prop) (loc : Nat → Nat) (fl : Nat → List Int × Nat) (Dn : Nat → Prop) (loc2 : Nat → Nat) (l : List Ent) (left : Lit → Bool) : Prop where
  ex : ∃ loc3 dv3, TW w0 wr xb tb A loc fl (fun j => Dn j ∨ ∃ e ∈ l, left (nm e.1) = false ∧ e.2 = j) loc3 dv3 ∧ MapL wr cb loc3 (come left l) ∧ ∀ j, Dn j → loc3 j = loc2 j
  kept : ∀ k, k < w.heap.size → k ≠ tb → wr.heap[k]? = w.heap[k]?
  size : w.heap.size ≤ wr.heap.size
  tlt : tb < w.heap.size

theorem it_cells {w : World} {b r n : Nat} {D : DataW Unit} {left : Lit → Bool} {cnt : Nat} (h : w.ranges Tryz.prog 9 fileE b r n D left cnt) : ∀ g t, TyOf w g t → r ≠ g := fun g t ht e => by
  obtain ⟨es, clock, since, seen, c0, hb, _, _, _, hr, _⟩ := h
  obtain ⟨c, f, hc⟩ := ht
  rw [e, hc] at hr
  cases hr
theorem it_map {w : World} {b r n : Nat} {D : DataW Unit} {left : Lit → Bool} {cnt : Nat} (h : w.ranges Tryz.prog 9 fileE b r n D left cnt) {m : Nat} {es : Array MapEntry} {c : Nat} (hm : w.heap[m]? = some (.map es c)) : r ≠ m := fun e => by
  obtain ⟨es, clock, since, seen, c0, hb, _, _, _, hr, _⟩ := h
  rw [e, hm] at hr
  cases hr
theorem MapL.obj {w : World} {b : Nat} {loc : Nat → Nat} {l : List Ent} (h : MapL w b loc l) : ∃ es c, w.heap[b]? = some (.map es c) := by
  obtain ⟨es, clock, hb, _⟩ := h
  exact ⟨es, clock, hb⟩
section
variable {w0 w wr w1 : World} {xb tb cb : Nat} {F A : Nat → Prop} {loc : Nat → Nat} {dv : Nat → Value} {fl : Nat → List Int × Nat} {Dn : Nat → Prop} {loc2 : Nat → Nat} {dv2 : Nat → Value} {l : List Ent} {left : Lit → Bool}
theorem WR.next (h : WR w0 w wr xb tb cb A loc fl Dn loc2 l left) {b r n : Nat} {D : DataW Unit} {lf : Lit → Bool} {cnt : Nat} (hrg : wr.ranges Tryz.prog 9 fileE b r n D lf cnt) (hg : wr.grownBy w1 (some r)) (h0 : w0.heap.size ≤ r) (h1 : w.heap.size ≤ r) : WR w0 w w1 xb tb cb A loc fl Dn loc2 l left := by
  obtain ⟨loc3, dv3, t, m, a⟩ := h.ex
  obtain ⟨es, c, hm⟩ := m.obj
  obtain ⟨tw, ⟨es2, c2, ht2, _⟩, _⟩ := t.tw
  refine ⟨⟨loc3, dv3, t.keptMap hg h0 (it_map hrg ht2) (it_cells hrg), m.same (hg.block cb m.lt fun e => it_map hrg hm (Option.some.inj e).symm), a⟩, fun k hk hne => ?_, Nat.le_trans h.size hg.size, h.tlt⟩
  rw [hg.block k (Nat.lt_of_lt_of_le hk h.size) fun e => by have := Option.some.inj e; omega]
  exact h.kept k hk hne
theorem WR.call (h : WR w0 w wr xb tb cb A loc fl Dn loc2 l left) (hF : ∀ i, A i → FileM w0 F (loc i) (dv i) (fl i)) (hinj : ∀ i j, A i → A j → loc i = loc j → i = j) (hok : ∀ i, (fl i).1.length ≤ 4194304 ∧ Okb (fl i).1) (hg : Gd l) (hA : ∀ e ∈ l, A e.2) (hcb : w.heap.size ≤ cb) (hw0 : w0.heap.size ≤ cb) {s : ByteArray} {i : Nat} (hf : fnd l s = some i) (hk : left (nm s) = true) :
    Calls Tryz.prog 76 #[.pointer (some ⟨loc i, 0, none⟩), .pointer (some ⟨xb, 0, none⟩)] wr fun e w2 => ∃ loc3, e = .returned (.pointer (some ⟨loc3 i, 0, none⟩)) ∧ MapL w2 cb loc3 (come left l) ∧ wr.grownBy w2 (some tb) ∧ ∀ w3, MapL w3 cb loc3 (pt (come left l) s i) → w2.grownBy w3 (some cb) → WR w0 w w3 xb tb cb A loc fl Dn loc2 l (fun z => left z && !z.sameKey (nm s)) := by
  obtain ⟨loc3, dv3, t, m, a⟩ := h.ex
  obtain ⟨x, hx, hxs⟩ := fnd_pair hf
  refine (copier1_any t hF hinj hok i (hA _ hx)).mono ?_
  rintro e w2 ⟨loc4, dv4, rfl, t4, a4, g4⟩
  obtain ⟨es, c, hm⟩ := m.obj
  obtain ⟨tw, t1, _⟩ := t.tw
  have hcl : cb ≠ tb := fun e => by
    have := h.tlt
    omega
  have m4 : MapL w2 cb loc4 (come left l) := (m.same (g4.block cb m.lt fun e => hcl (Option.some.inj e))).loc fun e he => a4 _ (.inr ⟨e, (come_mem he).1, (come_mem he).2, rfl⟩)
  refine ⟨loc4, rfl, m4, g4, fun w3 m3 g3 => ?_⟩
  obtain ⟨es4, c4, hm4⟩ := m4.obj
  rw [come_step hg.srt hf hk] at m3
  refine ⟨⟨loc4, dv4, (t4.keptMap g3 hw0 hcl (fun g t ht => m4.ne ht)).dnEq fun j => ?_, m3, fun j hj => (a4 j (.inl hj)).trans (a j hj)⟩, fun k hkk hne => ?_, Nat.le_trans h.size (Nat.le_trans g4.size g3.size), h.tlt⟩
  · constructor
    · rintro ((hj | ⟨e, he, h1, h2⟩) | rfl)
      · exact .inl hj
      · exact .inr ⟨e, he, by simp [h1], h2⟩
      · exact .inr ⟨_, hx, by simp only [nm_same]; rw [hxs]; simp, rfl⟩
    · rintro (hj | ⟨e, he, h1, h2⟩)
      · exact .inl (.inl hj)
      · by_cases hle : left (nm e.1) = false
        · exact .inl (.inr ⟨e, he, hle, h2⟩)
        · right
          have hsk : (nm e.1).sameKey (nm s) = true := by
            cases hq : (nm e.1).sameKey (nm s)
            · rw [hq] at h1
              simp only [Bool.not_false, Bool.and_true] at h1
              exact absurd h1 hle
            · rfl
          rw [nm_same] at hsk
          obtain ⟨ke, hke⟩ := List.getElem?_of_mem he
          have h3 := fnd_srtW hg.srt hke
          have : e.1 = s := bytes_eq (eq_of_beq hsk)
          rw [this, hf] at h3
          rw [← h2]
          exact (Option.some.inj h3).symm
  · rw [g3.block k (Nat.lt_of_lt_of_le hkk (Nat.le_trans h.size g4.size)) fun e => by have := Option.some.inj e; omega, g4.block k (Nat.lt_of_lt_of_le hkk h.size) fun e => hne (Option.some.inj e)]
    exact h.kept k hkk hne
end
set_option maxHeartbeats 2000000 in
set_option maxRecDepth 100000 in
theorem with_any {w0 w : World} {xb tb : Nat} {F A : Nat → Prop} {loc : Nat → Nat} {dv : Nat → Value} {fl : Nat → List Int × Nat} {Dn : Nat → Prop} {loc2 : Nat → Nat} {dv2 : Nat → Value} (h : TW w0 w xb tb A loc fl Dn loc2 dv2)
    (hF : ∀ i, A i → FileM w0 F (loc i) (dv i) (fl i)) (hinj : ∀ i j, A i → A j → loc i = loc j → i = j) (hok : ∀ i, (fl i).1.length ≤ 4194304 ∧ Okb (fl i).1) (v : Value) (l : List Ent) (hd : DirM w0 F loc v l) (hg : Gd l) (hA : ∀ e ∈ l, A e.2) (hl : l.length ≤ 1048577) :
    Calls Tryz.prog 49 #[v, .func (.func 76) #[] #[.pointer (some ⟨xb, 0, none⟩)]] w fun e w' => ∃ nb loc3 dv3, e = .returned (.map (some nb)) ∧ w.heap.size ≤ nb ∧ MapL w' nb loc3 l ∧ TW w0 w' xb tb A loc fl (fun j => Dn j ∨ ∃ e ∈ l, e.2 = j) loc3 dv3 ∧ (∀ j, Dn j → loc3 j = loc2 j) ∧ ∀ k, k < w.heap.size → k ≠ tb → w'.heap[k]? = w.heap[k]? := by
  have hmm := @run_makeMap Tryz.prog
  have hts := h.tlt
  have hb0 : Below w.heap.size w (w.alloc (.map #[] 0)) := (Below.refl _ _).alloc (Nat.le_refl _) _
  rcases hd with ⟨rfl, rfl⟩ | ⟨b, rfl, hFb, hM⟩
  · have HN : Hid (∀ o, MapL ((w.alloc (.map #[] 0)).alloc o) w.heap.size loc2 [] ∧ TW w0 ((w.alloc (.map #[] 0)).alloc o) xb tb A loc fl (fun j => Dn j ∨ ∃ e ∈ ([] : List Ent), e.2 = j) loc2 dv2 ∧ (∀ k, k < w.heap.size → k ≠ tb → ((w.alloc (.map #[] 0)).alloc o).heap[k]? = w.heap[k]?)) := fun o => by
      have hb1 : Below w.heap.size w ((w.alloc (.map #[] 0)).alloc o) := hb0.alloc hb0.size _
      refine ⟨(MapL.exact (n := 0) (World.ownsMap_made w Tryz.prog 9 fileE)).same (Below.heap_alloc _ _ _ (by simp)), (h.later hb1).dnEq fun i => by simp, fun k hk _ => hb1.block k hk⟩
    have hrg := run_range_nilMap (P := Tryz.prog) (w.alloc (.map #[] 0)) 46 _ _ Tryz.underlying46
    have hnx : ∀ ty, (Instr.next (.pointer (some ⟨(w.alloc (.map #[] 0)).heap.size, 0, none⟩)) false ty).run Tryz.prog ((w.alloc (.map #[] 0)).alloc (.mapIter none 0 #[] 0)) = _ := fun ty => run_next_nilMap _ ty 0 0 #[]
    clear h hF hinj hok hg hA hl hb0
    simp only [World.size_alloc] at hrg hnx
    go_enter Tryz.func49, Tryz.ntmps49
    go_wp2
    refine wp_loop_rounds 1 ?_
    rw [rounds_succ]
    go_wp2
    go_ret
    obtain ⟨z1, z2, z3⟩ := HN.out (.mapIter none 0 #[] 0)
    exact ⟨_, _, _, rfl, Nat.le_refl _, z1, z2, fun _ _ => rfl, z3⟩
  · have hsrt := hg.srt
    have hMw : MapL w b loc l := hM.same (h.bel.block b hM.lt)
    have hm : (w.alloc (.map #[] 0)).ownsMap Tryz.prog 9 fileE b l.length (dD loc l) := hMw.same (Below.heap_alloc _ _ _ hMw.lt)
    have HD : Hid (∀ e ∈ l, Maps.has (dD loc l) (nm e.1) = true) := fun e he => by
      rw [dD_has]
      obtain ⟨k, hk⟩ := List.getElem?_of_mem he
      rw [fnd_srtW hsrt hk]
      rfl
    have hws := h.bel.size
    have hbl : b < w0.heap.size := hM.lt
    have HS : Hid (∀ wr, (w.alloc (.map #[] 0)).grownBy wr none → WR w0 w wr xb tb w.heap.size A loc fl Dn loc2 l (Maps.has (dD loc l))) := fun wr hg0 => by
      have hb1 : Below w.heap.size w wr := hb0.grown hg0 hb0.size fun k e => by cases e
      have hcm : MapL (w.alloc (.map #[] 0)) w.heap.size loc2 [] := MapL.exact (n := 0) (World.ownsMap_made w Tryz.prog 9 fileE)
      refine ⟨⟨loc2, dv2, (h.later hb1).dnEq fun i => ⟨fun hi => .inl hi, fun hi => ?_⟩, ?_, fun _ _ => rfl⟩, fun k hk _ => hb1.block k hk, hb1.size, hts⟩
      · rcases hi with hi | ⟨e, he, h1, _⟩
        · exact hi
        · rw [HD.out e he] at h1
          cases h1
      · rw [come_all HD.out]
        exact hcm.same (hg0.block _ hcm.lt (by simp))
    have HL : Hid (∀ left, (come left l).length < maxLen) := fun left => by
      show _ < _
      have := List.length_filter_le (fun e : Ent => !left (nm e.1)) l
      unfold come maxLen
      omega
    have HN : Hid (∀ s i, fnd l s = some i → s.size ≤ maxLen) := fun s i hf => by
      obtain ⟨a, ha, has⟩ := fnd_pair hf
      have h1 := (may_size (hg.may _ ha)).2
      have : a = s := bytes_eq has
      rw [← this]
      unfold maxLen
      simp only at h1
      omega
    have HX : Hid (∀ {wr w1 : World} {left : Lit → Bool} {lf : Lit → Bool} {cnt : Nat}, WR w0 w wr xb tb w.heap.size A loc fl Dn loc2 l left → wr.ranges Tryz.prog 9 fileE b (w.heap.size + 1) l.length (dD loc l) lf cnt → wr.grownBy w1 (some (w.heap.size + 1)) → WR w0 w w1 xb tb w.heap.size A loc fl Dn loc2 l left) := fun hh hr hgg => hh.next hr hgg (by omega) (by omega)
    have HC : Hid (∀ {wr : World} {left : Lit → Bool} {s : ByteArray} {i : Nat}, WR w0 w wr xb tb w.heap.size A loc fl Dn loc2 l left → fnd l s = some i → left (nm s) = true → Calls Tryz.prog 76 #[.pointer (some ⟨loc i, 0, none⟩), .pointer (some ⟨xb, 0, none⟩)] wr fun e w2 => ∃ loc3, e = .returned (.pointer (some ⟨loc3 i, 0, none⟩)) ∧ MapL w2 w.heap.size loc3 (come left l) ∧ wr.grownBy w2 (some tb) ∧ ∀ w3, MapL w3 w.heap.size loc3 (pt (come left l) s i) → w2.grownBy w3 (some w.heap.size) → WR w0 w w3 xb tb w.heap.size A loc fl Dn loc2 l (fun z => left z && !z.sameKey (nm s))) := fun hh hf hk => hh.call hF hinj hok hg hA (Nat.le_refl _) hws hf hk
    have HE : Hid (∀ {wr : World} {left : Lit → Bool}, WR w0 w wr xb tb w.heap.size A loc fl Dn loc2 l left → (∀ k, left k = false) → ∃ loc3 dv3, MapL wr w.heap.size loc3 l ∧ TW w0 wr xb tb A loc fl (fun j => Dn j ∨ ∃ e ∈ l, e.2 = j) loc3 dv3 ∧ (∀ j, Dn j → loc3 j = loc2 j) ∧ ∀ k, k < w.heap.size → k ≠ tb → wr.heap[k]? = w.heap[k]?) := fun hh hk => by
      obtain ⟨loc3, dv3, t, m, a⟩ := hh.ex
      rw [come_none hk] at m
      exact ⟨loc3, dv3, m, t.dnEq fun i => by simp [hk], a, hh.kept⟩
    have hne1 : some b ≠ some tb := fun e => by have := h.tbl; have := Option.some.inj e; omega
    have hne2 : some (w.heap.size + 1) ≠ some tb := fun e => by have := Option.some.inj e; omega
    have hne3 : some b ≠ some w.heap.size := fun e => by have := Option.some.inj e; omega
    have hne4 : some (w.heap.size + 1) ≠ some w.heap.size := fun e => by have := Option.some.inj e; omega
    clear h hF hinj hok hg hA hl hb0 hM hMw hFb hts hbl hws
    go_enter Tryz.func49, Tryz.ntmps49
    go_wp2_with (first | (at_range; refine wpList_range_own _ rfl _ 46 rfl 9 68 keyL Tryz.underlying46 fileE b l.length _ rfl hm ?_; intro w1 hrg0 hg0 hs0; simp only [World.size_alloc] at hrg0 ⊢) | go_in)
    go_frame
    go_loopw [] (fun wr => ∃ left cnt, wr.ranges Tryz.prog 9 fileE b (w.heap.size + 1) l.length (dD loc l) left cnt ∧ Hid (WR w0 w wr xb tb w.heap.size A loc fl Dn loc2 l left)) (fun wr => wr.rangeLeft b (w.heap.size + 1))
    case atStart => exact ⟨_, _, hrg0, HS.out _ hg0⟩
    case round =>
      obtain ⟨left, cnt, hrg, HW⟩ := hrel
      go_wp2_with (first | (at_next; refine wpList_next_ranges _ rfl _ rfl 9 keyL fileE Value.string (pv id) (fun key kl hk => (keyOf9_inv hk).imp fun s h => h.1) fileE_shape b (w.heap.size + 1) l.length _ _ _ rfl hrg ?_ ?_) | go_in)
      · intro hc0 hl0
        obtain ⟨loc3, dv3, z1, z2, z3, z4⟩ := HE.out HW.out hl0
        go_wp2
        go_ret
        exact ⟨_, _, _, rfl, Nat.le_refl _, z1, z2, z3, z4⟩
      · intro s c kl yd yp w1 cnt1 hkey hlx hv hat hrg1 hlt hg1 hs1 hen
        obtain ⟨s', es, rfl⟩ := keyOf9_inv hkey
        obtain rfl : s = s' := by cases es; rfl
        obtain ⟨i, hf, rfl⟩ := entry_of hv hat
        have kc := HC.out (HX.out HW.out hrg hg1) hf hlx
        have hss := HN.out s i hf
        have hlen := HL.out left
        have hsc := hsrt.come left
        have HM : Hid (∀ w3 : World, w3.rangeLeft b (w.heap.size + 1) = cnt1 → w3.rangeLeft b (w.heap.size + 1) < wr.rangeLeft b (w.heap.size + 1)) := fun w3 he => by
          rw [he, hrg.left_eq]
          exact hlt
        have HR : Hid (w1.ranges Tryz.prog 9 fileE b (w.heap.size + 1) l.length (dD loc l) (fun z => left z && !z.sameKey (nm s)) cnt1) := hrg1
        simp only [pv, ptr, id] at hen ⊢
        clear hrg hrg1 hkey hlx hv hat es hlt hg1 hs1 hs0 hg0 hrg0 hm HW
        go_wp2_with (first | (go_at_call 76; refine kc.mono ?_; rintro e w2 ⟨loc3, rfl, m2, g2, n2⟩) | (at_mapUpdate; refine wpList_putL rfl _ _ _ rfl w.heap.size loc3 (come left l) rfl m2 hsc hlen s hss rfl i rfl ?_; intro w3 m3 g3) | go_in)
        go_roundw
        case rel => exact ⟨_, _, _, _, _, _, _, _, _, _, _, _, ⟨_, _, ((HR.out.kept g2 hne1 hne2).kept g3 hne3 hne4), n2 _ m3 g3⟩, rfl⟩
        case measure => exact HM.out _ ((HR.out.kept g2 hne1 hne2).kept g3 hne3 hne4).left_eq
end Go.Proofs.YtligofmcmjblpaaGreat
