import Derived.Test.YtnoackenjfpcmaaPk03
import Derived.Test.YtnoackenjfpcmaaPk09
import Derived.Test.YtnoackenjfpcmaaPk17
/- The landed merge: the heap that it begins with. -/
namespace Go.Proofs.Ytnoackenjfpcmaa
open Go.RowKit Go.Sort Go.Shelf Go.Lib
set_option linter.unusedVariables false
set_option linter.unusedSimpArgs false

/-- What is left of rows, as a row's elements. -/
def rstE : El HpV where
  ty := 70
  size := 2
  M := fun w vs x => vs = x.cells ∧ ∀ b, Refs (.slice x.la x.l.length x.lc) b → b < w.heap.size
  len := fun h => by obtain ⟨rfl, _⟩ := h; rfl
  one := fun h v hv => by
    obtain ⟨rfl, _⟩ := h
    simp only [HpV.cells, List.mem_cons, List.not_mem_nil, or_false] at hv
    rcases hv with rfl | rfl <;> rfl
  lt := fun h v hv b hr => by
    obtain ⟨rfl, h2⟩ := h
    simp only [HpV.cells, List.mem_cons, List.not_mem_nil, or_false] at hv
    rcases hv with rfl | rfl
    · exact h2 b hr
    · exact (refs_int hr).elim
  keep := fun {w w' vs x} h hk => by
    obtain ⟨rfl, h2⟩ := h
    refine ⟨rfl, fun b hr => ?_⟩
    have e := hk (.slice x.la x.l.length x.lc) (by simp [HpV.cells]) b hr
    have hl := h2 b hr
    rw [Array.getElem?_eq_getElem hl] at e
    exact (Array.getElem?_eq_some_iff.1 e).1
theorem rstE_info : (Try.prog.info? rstE.ty).map (fun i => (i.zero, i.size, i.bytes)) = some (some (.agg #[.slice none 0 0, .int .i64 0]), rstE.size, 32) := by kernel_rfl
theorem rs_refs {α : Type} {E : El α} (hp : 0 < E.size) {w : World} {a : Option Addr} {n c : Nat} {l : List α} (h : RS E w a n c l) {b : Nat} (hr : Refs (.slice a n c) b) : b < w.heap.size := by
  obtain ⟨off, k, c', e, h0⟩ := hr
  simp only [Value.slice.injEq] at e
  obtain ⟨rfl, rfl, rfl⟩ := e
  obtain ⟨us, q1, q2, q3, q4, q5, q6⟩ := h
  have hlu := q5.len
  rw [q1] at hlu
  have : 0 < us.length := by rw [hlu]; exact Nat.mul_pos h0 hp
  obtain ⟨b', off', e', hc⟩ := q6 0 _ (List.getElem?_eq_getElem this)
  simp only [Option.some.injEq, Addr.mk.injEq, and_true] at e'
  obtain ⟨rfl, rfl⟩ := e'
  exact World.block_lt_of_cell? _ _ hc
/-- A heap's cells. -/
def HpAt (w : World) (g : Nat) (its : List HpV) : Prop := ∀ i x, its[i]? = some x → (w.cell? ⟨g, i * 2, none⟩ = some (.slice x.la x.l.length x.lc) ∧ w.cell? ⟨g, i * 2 + 1, none⟩ = some (.int .i64 x.row)) ∧ w.frozen? ⟨g, i * 2, none⟩ = false ∧ w.frozen? ⟨g, i * 2 + 1, none⟩ = false
def HpIts (w0 : World) (its : List HpV) : Prop := ∀ x ∈ its, HpOk w0 x ∧ x.l ≠ []
structure HpS (w0 : World) where
  v : HpV
  ok : HpOk w0 v ∧ v.l ≠ []
def hpE (w0 : World) (x : HpS w0) : List Value := x.v.cells
def hpS {w0 : World} (x y : HpS w0) : Int := hpC x.v y.v
theorem hpE_len {w0 : World} (x : HpS w0) : (hpE w0 x).length = 2 := rfl
theorem hpE_one {w0 : World} (x : HpS w0) : ∀ v ∈ hpE w0 x, v.oneCell' = true := fun v hv => by
  simp only [hpE, HpV.cells, List.mem_cons, List.not_mem_nil, or_false] at hv
  rcases hv with rfl | rfl <;> rfl
theorem hpM_grow (w : World) (os : Array Obj) (c : Nat) (h : c < w.heap.size) : (grow w os).heap[c]? = w.heap[c]? := by
  unfold grow
  simp only
  rw [Array.getElem?_append_left h]
theorem hpM_sortW {α : Type} [Inhabited α] (enc : α → List Value) (k : Nat) (w : World) (blk off m c : Nat) (d : Array α) (os : Array Obj) (hc : c < w.heap.size) (h : c ≠ blk) : (sortWorldK enc k w blk off m d os).heap[c]? = w.heap[c]? := by
  unfold sortWorldK
  rw [hpM_grow _ _ _ (by rw [size_putRowK]; exact hc)]
  unfold putRowK putRow mapBlock
  simp [Array.getElem?_modify, Ne.symm h, Sort.ahead]
/-- The sort's worlds, seen from the world that the rows stand in. -/
theorem hpM_below {w0 w : World} {α : Type} [Inhabited α] (enc : α → List Value) {blk off m : Nat} {d : Array α} {os : Array Obj} (hb : Below w0.heap.size w0 w) (hg : w0.heap.size ≤ blk) : Below w0.heap.size w0 (sortWorldK enc 2 w blk off m d os) := by
  refine ⟨hb.os, hb.tape, hb.output, ?_, fun k hk => ?_⟩
  · have : w.heap.size ≤ (sortWorldK enc 2 w blk off m d os).heap.size := size_sortWorldK_c _ _ _ _ _ _ _ _
    exact Nat.le_trans hb.size this
  · rw [hpM_sortW _ _ _ _ _ _ _ _ _ (Nat.lt_of_lt_of_le hk hb.size) (by omega)]
    exact hb.block k hk
theorem hp_lays {w0 w : World} {blk off size : Nat} [Inhabited (HpS w0)] (hb : Below w0.heap.size w0 w) (hg : w0.heap.size ≤ blk) : CmpLays Try.prog 37 #[] (hpE w0) 2 hpS blk off size w := fun m os dk hs x y => by
  exact hcmp_t x.2.1 y.2.1 x.2.2 y.2.2 (hpM_below _ hb hg)
theorem aggRst : ∀ w, (isAgg 70).run Try.prog w = .ok true w := fun w => by kernel_rfl
/-- A heap of one's own, as the sort wants it. -/
theorem holds_hp {w0 w : World} {g : Nat} {its : List HpV} (h : HpAt w g its) (ho : HpIts w0 its) [Inhabited (HpS w0)] : ∃ d : Array (HpS w0), d.size = its.length ∧ d.toList.map (·.v) = its ∧ HoldsK (hpE w0) 2 w g 0 d := by
  have hl : ∀ {l : List HpV}, HpIts w0 l → ∃ m : List (HpS w0), m.map (·.v) = l := by
    intro l
    induction l with
    | nil => exact fun _ => ⟨[], rfl⟩
    | cons x r ih =>
      intro ho
      obtain ⟨m, e⟩ := ih fun y hy => ho y (List.mem_cons_of_mem _ hy)
      exact ⟨⟨x, ho x (List.mem_cons_self ..)⟩ :: m, by rw [List.map_cons, e]⟩
  obtain ⟨l, rfl⟩ := hl ho
  refine ⟨l.toArray, by simp, by simp, fun t ht => ?_⟩
  have ht' : t < l.length * 2 := by simpa [size_flatK] using ht
  rw [get_flatK _ _ _ _ (by simpa using ht')]
  have hq : t / 2 < l.length := by omega
  have := h (t / 2) l[t / 2].v (by rw [List.getElem?_map, List.getElem?_eq_getElem hq]; rfl)
  rw [getElem!_pos l.toArray (t / 2) (by simpa using hq)]
  have hj : t % 2 = 0 ∨ t % 2 = 1 := by omega
  rcases hj with hj | hj
  · rw [hj, Nat.zero_add]
    have e : t / 2 * 2 = t := by omega
    rw [e] at this
    exact ⟨this.1.1, this.2.1⟩
  · rw [hj, Nat.zero_add]
    have e : t / 2 * 2 + 1 = t := by omega
    rw [e] at this
    exact ⟨this.1.2, this.2.2⟩
theorem hp_holds {w0 w : World} {g : Nat} [Inhabited (HpS w0)] {d : Array (HpS w0)} (h : HoldsK (hpE w0) 2 w g 0 d) : HpAt w g (d.toList.map (·.v)) := fun i x hx => by
  rw [List.getElem?_map, Array.getElem?_toList] at hx
  by_cases q : i < d.size
  · rw [Array.getElem?_eq_getElem q] at hx
    obtain rfl := by simpa using hx
    have h0 := h.cell q (show 0 < 2 by decide)
    have h1 := h.cell q (show 1 < 2 by decide)
    rw [getElem!_pos d i q] at h0 h1
    rw [Nat.zero_add, Nat.add_zero] at h0
    rw [Nat.zero_add] at h1
    exact ⟨⟨h0.1, h1.1⟩, h0.2, h1.2⟩
  · rw [Array.getElem?_eq_none (by omega)] at hx
    simp at hx
/-- The library's sort of a heap. -/
theorem hsort_t {w0 w : World} {g cap : Nat} {its : List HpV} (h : HpAt w g its) (ho : HpIts w0 its) (hb : Below w0.heap.size w0 w) (hg : w0.heap.size ≤ g) (hgw : g < w.heap.size) (hn : its ≠ []) (hn2 : its.length ≤ 1000) :
    Calls Try.prog 36 #[.slice (some ⟨g, 0, none⟩) its.length cap, .func (.func 37) #[] #[]] w fun e w' => e = .returned (.tuple #[]) ∧ ∃ its', its'.Perm its ∧ HpF its' ∧ HpAt w' g its' ∧ w.grownBy w' (some g) ∧ g < w'.heap.size := by
  obtain ⟨x0, hx0⟩ : ∃ x, x ∈ its := List.exists_mem_of_ne_nil _ hn
  haveI : Inhabited (HpS w0) := ⟨⟨x0, ho x0 hx0⟩⟩
  obtain ⟨d, e1, e2, hH⟩ := holds_hp h ho
  have eg : ∀ args w, (callFunc 37 args).run Try.prog w = .ok (.enter 37 args) w := enters_of Try.func37 (by kernel_rfl) rfl
  have hcon := AnyQ.slices_SortFunc (P := Try.prog) Try.laysSortFunc 2 aggRst Try.sizeOf70 (hpE w0) hpE_len hpE_one hpS (hpC_swo (fun x : HpS w0 => x.v)) 37 #[] g 0 cap d w eg (hp_lays hb hg) hH hgw (by omega)
  change Calls Try.prog 36 _ _ _ at hcon
  rw [e1] at hcon
  refine hcon.mono ?_
  rintro e w' ⟨rfl, d', n, os, hp, hs, rfl⟩
  have hz : d'.size = d.size := by rw [hp.1]
  have hH' : HoldsK (hpE w0) 2 (sortWorldK (hpE w0) 2 w g 0 n d' os) g 0 d' := holdsK_sortWorldK_c _ _ _ _ _ _ _ _ _ hH hgw hz
  refine ⟨rfl, d'.toList.map (·.v), ?_, ?_, hp_holds hH', ⟨rfl, rfl, rfl, size_sortWorldK_c _ _ _ _ _ _ _ _, fun k hk hne => hpM_sortW _ _ _ _ _ _ _ _ _ hk (fun e => hne (by rw [e]))⟩, Nat.lt_of_lt_of_le hgw (size_sortWorldK_c _ _ _ _ _ _ _ _)⟩
  · have := hp.2.2
    rw [← e1, show d'.extract 0 d.size = d' by rw [← hz]; simp, show d.extract 0 d.size = d by simp] at this
    rw [← e2]
    exact this.map _
  · refine hpF_sorted fun i j x y hij hx hy => ?_
    rw [List.getElem?_map, Array.getElem?_toList] at hx hy
    by_cases qj : j < d'.size
    · rw [Array.getElem?_eq_getElem qj] at hy
      rw [Array.getElem?_eq_getElem (by omega)] at hx
      obtain rfl := by simpa using hx
      obtain rfl := by simpa using hy
      have := hs i j (Nat.zero_le _) hij (by omega)
      rw [getElem!_pos d' j qj, getElem!_pos d' i (by omega)] at this
      exact of_decide_eq_false this
    · rw [Array.getElem?_eq_none (by omega)] at hy
      simp at hy
end Go.Proofs.Ytnoackenjfpcmaa

/- The landed merge: the heap that it begins with. -/
namespace Go.Proofs.Ytnoackenjfpcmaa
open Go.RowKit Go.Sort Go.Shelf Go.Lib
set_option linter.unusedVariables false
set_option linter.unusedSimpArgs false

theorem hp_of_row {B : Nat} {w : World} {v : Value} {its : List HpV} (h : RowS rstE B w v its) (hn : its ≠ []) : ∃ g cap, v = .slice (some ⟨g, 0, none⟩) its.length cap ∧ B ≤ g ∧ g < w.heap.size ∧ its.length ≤ cap ∧ cap ≤ maxLen ∧ HpAt w g its := by
  obtain ⟨us, hown, h2, h3⟩ := h
  rcases hown.2 with ⟨rfl, h0⟩ | ⟨g, cap, cur, rfl, hbg, hg, hnc, hcm, hcs, htake⟩
  · exact absurd (List.eq_nil_of_length_eq_zero h0) hn
  · refine ⟨g, cap, rfl, hbg, (Array.getElem?_eq_some_iff.1 hg).1, hnc, hcm, fun i x hx => ?_⟩
    obtain ⟨vs, ⟨rfl, _⟩, _, hc⟩ := h2.at hx
    have q0 := World.ownsRow.cells hown (g := g) rfl _ _ (hc 0 _ rfl)
    have q1 := World.ownsRow.cells hown (g := g) rfl _ _ (hc 1 _ rfl)
    rw [Addr.add_lit, Nat.zero_add] at q0 q1
    have hf : ∀ j, w.frozen? ⟨g, j, none⟩ = false := fun j => by simp [World.frozen?, hg]
    exact ⟨⟨q0, q1⟩, hf _, hf _⟩
set_option maxHeartbeats 4000000 in
set_option maxRecDepth 100000 in
theorem heaped_t {w0 w : World} {ao : Option Addr} {n cap : Nat} {rs : List (List EntV)} (h : ErRow w0 ao n cap rs) (hb : Below w0.heap.size w0 w) (hn : n ≤ 64) :
    Calls Try.prog 32 #[.slice ao n cap] w fun e w' => ∃ its ha hc, e = .returned (.slice ha its.length hc) ∧ its.length ≤ hc ∧ hc ≤ maxLen ∧ HpF its ∧ HpIts w0 its ∧ (flatH its).Perm (tagR 0 rs) ∧ Below w.heap.size w w' ∧ its.length ≤ 64 ∧ (∀ x ∈ its, x.l ∈ rs) ∧ (its ≠ [] → ∃ g, ha = some ⟨g, 0, none⟩ ∧ w.heap.size ≤ g ∧ g < w'.heap.size ∧ HpAt w' g its) := by
  have H0 := hid h
  have HB0 := hid hb
  have HLN : Hid (rs.length = n ∧ n ≤ 64) := ⟨h.len.1, hn⟩
  have hn62 : n ≤ 2 ^ 60 := by omega
  clear h hn hb
  go_enter Try.func32, Try.ntmps32
  go_wp2_with fail
  go_loopg [3, 8] n (fun kx s3 s8 wr => ∃ (k : Nat) (its : List HpV), s8 = .int .i64 k ∧ k + kx = n ∧ Hid (RowS rstE w.heap.size wr s3 its ∧ HpIts w0 its ∧ flatH its = tagR 0 (rs.take k) ∧ its.length ≤ k ∧ Below w.heap.size w wr ∧ (∀ x ∈ its, x.l ∈ rs)))
  case atStart => exact ⟨0, [], rfl, by omega, RowS.nil _ _, (fun x hx => by cases hx), rfl, Nat.le_refl _, Below.refl _ _, (fun x hx => by cases hx)⟩
  case round =>
    obtain ⟨k, its, rfl, hg, HK⟩ := hrel
    obtain ⟨oa, on, oc, hoe⟩ : ∃ a n c, u3 = .slice a n c := by
      obtain ⟨a, c, e, _⟩ := HK.out.1.rs
      exact ⟨a, _, c, e⟩
    subst hoe
    by_cases hk : k < n
    · have hk' : (k : Int) < (n : Int) := by omega
      obtain ⟨l, hl⟩ : ∃ l, rs[k]? = some l := ⟨_, List.getElem?_eq_getElem (by have := HLN.out; omega)⟩
      obtain ⟨b, off, la, lc, rfl, c0, hrl⟩ := H0.out.at' k l hl
      replace c0 := cell_later (HB0.out.trans (HK.out.2.2.2.2.1.mono HB0.out.size)) c0
      have HTK : Hid (tagR 0 (rs.take (k + 1)) = tagR 0 (rs.take k) ++ l.map fun e => (e, k)) := by
        show _ = _
        have hkl := (List.getElem?_eq_some_iff.1 hl).1
        rw [List.take_add_one, hl]
        show tagR 0 (rs.take k ++ [l]) = _
        rw [tagR_snoc, Nat.zero_add, List.length_take, show min k rs.length = k by omega]
      have HRL := hid hrl
      have HLM : Hid (l ∈ rs) := List.mem_of_getElem? hl
      have HG := hid (And.intro hg hk)
      obtain ⟨L, hL⟩ : ∃ L, L = l.length := ⟨_, rfl⟩
      have HLE := hid hL
      have hLm : L ≤ 2 ^ 63 - 1 := by have := hrl.len; unfold maxLen at this; omega
      rw [← hL] at c0
      clear hg hk hl hrl hL
      by_cases qL : 0 < L
      · have qL' : (0 : Int) < (L : Int) := by omega
        have hb1 : Below wr.heap.size wr (wr.alloc (.cells #[.slice la L lc, .int .i64 k] 70)) := (Below.refl _ _).alloc (Nat.le_refl _) _
        have hap : RowS rstE w.heap.size (wr.alloc (.cells #[.slice la L lc, .int .i64 k] 70)) (.slice oa on oc) its ∧ RSu rstE (wr.alloc (.cells #[.slice la L lc, .int .i64 k] 70)) (some ⟨wr.heap.size, 0, none⟩) 1 1 [.slice la L lc, .int .i64 k] [⟨l, k, la, lc⟩] ∧ (∀ u ∈ [Value.slice la L lc, Value.int .i64 k], ∀ b, Refs u b → (Value.slice oa on oc).ownBlock ≠ some b) ∧ w.heap.size ≤ (wr.alloc (.cells #[.slice la L lc, .int .i64 k] 70)).heap.size ∧ its.length + 1 ≤ 64 ∧ Below w.heap.size w (wr.alloc (.cells #[.slice la L lc, .int .i64 k] 70)) := by
          have hB1 := HK.out.2.2.2.2.1.trans (hb1.mono HK.out.2.2.2.2.1.size)
          refine ⟨HK.out.1.later hb1, rs_one (E := rstE) ⟨by rw [HLE.out]; rfl, fun b hr => ?_⟩, fun u hu b hr e => ?_, hB1.size, by have := HK.out.2.2.2.1; have := HLN.out; have := HG.out; omega, hB1⟩
          · exact Nat.lt_of_lt_of_le (rs_refs (by decide) HRL.out hr) (Nat.le_trans HB0.out.size HK.out.2.2.2.2.1.size)
          · simp only [List.mem_cons, List.not_mem_nil, or_false] at hu
            rcases hu with rfl | rfl
            · rw [HLE.out] at hr
              have := rs_refs (by decide) HRL.out hr
              have := (HK.out.1.own_lt e).1
              have := HB0.out.size
              omega
            · exact refs_int hr
        have HAP := hid hap
        have hk62 : k ≤ 2 ^ 60 := by have := HG.out; omega
        clear hb1 hap
        go_wp2_with (at_builtin; refine wpList_appS rstE (t := 66) (z := .agg #[.slice none 0 0, .int .i64 0]) (bytes := 32) Try.underlying66 rstE_info rfl (by decide) rfl (.tmp 16) (.tmp 20) rfl rfl HAP.out.1 rfl HAP.out.2.1 HAP.out.2.2.1 (by have := HAP.out.2.2.2.2.1; omega) (by have := HAP.out.2.2.2.2.1; omega) HAP.out.2.2.2.1 ?_; intro v9 w9 r9 g9 m9)
        go_roundg (n - (k + 1))
        case measure => have := HG.out; omega
        case rel =>
          refine ⟨k + 1, its ++ [⟨l, k, la, lc⟩], by go_num, by have := HG.out; omega, r9, fun x hx => ?_, ?_, by rw [List.length_append]; exact Nat.succ_le_succ HK.out.2.2.2.1, HAP.out.2.2.2.2.2.grown g9 HAP.out.2.2.2.1 (fun z hz => (HAP.out.1.own_lt hz).1), fun x hx => by
            rcases List.mem_append.1 hx with hx | hx
            · exact HK.out.2.2.2.2.2 x hx
            · rw [List.mem_singleton.1 hx]; exact HLM.out⟩
          · rcases List.mem_append.1 hx with hx | hx
            · exact HK.out.2.1 x hx
            · rw [List.mem_singleton.1 hx]
              refine ⟨⟨HRL.out, by have := HG.out; have := HLN.out; show k < 100; omega⟩, fun e => ?_⟩
              have e' : l = [] := e
              have := HLE.out
              rw [e'] at this
              simp at this
              omega
          · rw [flatH_app, HK.out.2.2.1, HTK.out, flatH_cons]
            show _ ++ ((l.map fun e => (e, k)) ++ []) = _
            rw [List.append_nil]
      · have qL' : ¬ (0 : Int) < (L : Int) := by omega
        have hk62 : k ≤ 2 ^ 60 := by have := HG.out; have := HLN.out; omega
        go_wp2_with fail
        go_roundg (n - (k + 1))
        case measure => have := HG.out; omega
        case rel =>
          refine ⟨k + 1, its, by go_num, by have := HG.out; omega, HK.out.1, HK.out.2.1, ?_, by have := HK.out.2.2.2.1; omega, HK.out.2.2.2.2.1, HK.out.2.2.2.2.2⟩
          have e' : l = [] := List.eq_nil_of_length_eq_zero (by have := HLE.out; omega)
          rw [HTK.out, e', HK.out.2.2.1]
          simp
    · have hk' : ¬ (k : Int) < (n : Int) := by omega
      have HF : Hid (flatH its = tagR 0 rs) := by
        have := HK.out.2.2.1
        rwa [List.take_of_length_le (by have := HLN.out; omega)] at this
      have HKn : Hid (k ≤ 64) := by have := HLN.out; show k ≤ 64; omega
      clear hg hk
      by_cases hi : its = []
      · subst hi
        obtain ⟨a', c', e', hr⟩ := HK.out.1.rs
        simp only [Value.slice.injEq] at e'
        obtain ⟨e1, e2, e3⟩ := e'
        subst e1 e3
        replace e2 : on = 0 := e2
        subst e2
        have HE : Hid (oc ≤ maxLen) := hr.len.2.2
        have hs : Calls Try.prog 36 #[.slice oa 0 oc, .func (.func 37) #[] #[]] wr fun e w' => e = .returned (.tuple #[]) ∧ w' = wr := AnyF.slices_SortFunc_none (P := Try.prog) Try.laysSortFunc oa oc _ wr
        clear hr
        go_wp2_with (go_at_call 36; refine hs.mono ?_; rintro e w5 ⟨rfl, rfl⟩)
        refine bodyPost_ret (v := .slice oa 0 oc) (by simp [results, Try.results32, go_sem]) rfl ?_
        exact ⟨[], oa, oc, rfl, Nat.zero_le _, HE.out, (fun i j x y hx => by simp at hx), (fun x hx => by cases hx), by rw [HF.out], HK.out.2.2.2.2.1, Nat.zero_le _, (fun x hx => by cases hx), fun h => absurd rfl h⟩
      · obtain ⟨g, c', e', hbg, hgw, hnc, hcm, hat⟩ := hp_of_row HK.out.1 hi
        simp only [Value.slice.injEq] at e'
        obtain ⟨e1, e2, e3⟩ := e'
        subst e1 e2 e3
        have hs := hsort_t (cap := oc) hat HK.out.2.1 (HB0.out.trans (HK.out.2.2.2.2.1.mono HB0.out.size)) (Nat.le_trans HB0.out.size hbg) hgw hi (by have := HK.out.2.2.2.1; have := HKn.out; omega)
        have HX : Hid (its.length ≤ oc ∧ oc ≤ maxLen ∧ w.heap.size ≤ g) := ⟨hnc, hcm, hbg⟩
        obtain ⟨N, hN⟩ : ∃ N, N = its.length := ⟨_, rfl⟩
        have HN := hid hN
        rw [← hN] at hs ⊢
        clear hbg hgw hnc hcm hat hN
        go_wp2_with (go_at_call 36; refine hs.mono ?_; rintro e w5 ⟨rfl, hm⟩)
        refine bodyPost_ret (v := .slice (some ⟨g, 0, none⟩) N oc) (by simp [results, Try.results32, go_sem]) rfl ?_
        obtain ⟨its', hp, hf, hat', hgb, hg'⟩ := hm
        have hb' : Below w.heap.size w w5 := HK.out.2.2.2.2.1.grown hgb HK.out.2.2.2.2.1.size (fun z hz => by have := HX.out.2.2; simp only [Option.some.injEq] at hz; omega)
        have hl := hp.length_eq
        refine ⟨its', some ⟨g, 0, none⟩, oc, by rw [HN.out, hl], by rw [hl]; exact HX.out.1, HX.out.2.1, hf, fun x hx => HK.out.2.1 x (hp.mem_iff.1 hx), ?_, hb', by have := HK.out.2.2.2.1; have := HKn.out; omega, fun x hx => HK.out.2.2.2.2.2 x (hp.mem_iff.1 hx), fun _ => ⟨g, rfl, HX.out.2.2, hg', hat'⟩⟩
        rw [← HF.out]
        exact flatH_perm hp
end Go.Proofs.Ytnoackenjfpcmaa

/- bytes.Clone. -/
namespace Go.Proofs.Ytnoackenjfpcmaa
open Go.RowKit
set_option linter.unusedVariables false
set_option linter.unusedSimpArgs false

theorem wpList_applN {w : World} {ops : Array Oper} {rest : List Oper} {o : Oper} {a : Act} {Q : Exit → Act → World → Prop} {B : Nat} {v : Value} {xs ys : List Int} {ao : Option Addr} {m c : Nat} (hgd : o.guard = none) (s x : Operand)
    (ho : o.op = .call { callee := .builtin .append, args := #[s, x], argTypes := #[33, 33] }) (hs : a.eval s = v) (hrow : Row B w v xs) (hx : a.eval x = .slice ao m c) (hsl : Sl w ao m c ys) (hb : xs.length + m ≤ 140737488355328) (hB : B ≤ w.heap.size)
    (h : ∀ v' w', Row B w' v' (xs ++ ys) → w.grownBy w' v.ownBlock → Moved w v v' → wpList Try.prog ops Q rest (a.put o.dst v') w') : wpList Try.prog ops Q (o :: rest) a w :=
  wpList_plain hgd fun K hK => by
    obtain ⟨v', w', hr, h2, h3, h4⟩ := run_app B w o.type v xs hrow ao m c (xof ys) hsl.2.2.1 hsl.2.2.2.2.2 hb hB
    rw [← hsl.1, bs_xof hsl.2.1] at h2
    unfold Oper.wp execOp
    simp only [ho, resolve, invoke, builtin, Sem.run_bind, Sem.run_pure, Result.andThen_ok, List.map_toArray, List.map_cons, List.map_nil, hs, hx, hr]
    exact hK _ _ (h v' w' h2 h3 h4)
set_option maxHeartbeats 1000000 in
set_option maxRecDepth 100000 in
theorem clone_n {w : World} {ao : Option Addr} {len cap : Nat} {xs : List Int} (h : Sl w ao len cap xs) (hl : len ≤ 140737488355328) :
    Calls Try.prog 35 #[.slice ao len cap] w fun e w' => ∃ v, e = .returned v ∧ Row w.heap.size w' v xs ∧ Below w.heap.size w w' := by
  have q22 : ∀ (w : World) (a : Option Addr) (n c n' c' : Nat), (binOp .eql 33 (.slice a n c) (.slice none n' c')).run Try.prog w = .ok (.bool a.isNone) w := fun w a n c n' c' => Lib.run_eql_slice_nil w _ _ a n c n' c' Try.underlying33
  cases ao with
  | none =>
    obtain ⟨rfl, rfl⟩ := h.2.2.1 rfl
    have hx : xs = [] := List.eq_nil_of_length_eq_zero h.1
    subst hx
    clear h hl
    go_enter Try.func35, Try.ntmps35
    go_wp2_with fail
    exact bodyPost_ret (v := .slice none 0 0) (by simp [results, Try.results35, go_sem]) rfl ⟨_, rfl, Row.nil _ _, Below.refl _ _⟩
  | some a =>
    have b1 : Below w.heap.size w (w.alloc (.cells #[] 5)) := (Below.refl _ _).alloc (Nat.le_refl _) _
    have HS : Hid (Sl (w.alloc (.cells #[] 5)) (some a) len cap xs ∧ len ≤ 140737488355328 ∧ Below w.heap.size w (w.alloc (.cells #[] 5)) ∧ Row w.heap.size (w.alloc (.cells #[] 5)) (.slice (some ⟨w.heap.size, 0, none⟩) 0 0) []) := ⟨h.later b1, hl, b1, World.ownsRow_made w #[] 0 (Nat.le_refl _) (Nat.zero_le _) rfl⟩
    clear h hl b1
    go_enter Try.func35, Try.ntmps35
    go_wp2_with (at_builtin; refine wpList_applN (B := w.heap.size) rfl (.tmp 5) (.tmp 6) rfl rfl HS.out.2.2.2 rfl HS.out.1 (by have := HS.out.2.1; simp; omega) HS.out.2.2.1.size ?_; intro v2 w2 r2 g2 m2)
    exact bodyPost_ret (v := v2) (by simp [results, Try.results35, go_sem]) rfl ⟨v2, rfl, r2, HS.out.2.2.1.trans (grown_below HS.out.2.2.2 g2 HS.out.2.2.1.size)⟩

end Go.Proofs.Ytnoackenjfpcmaa
