import Derived.Deep.RegionHeldLaw
import Derived.Deep.RegionLaw
import Derived.Test.YtnoackenjfpcmaaPk01
import Derived.Test.YtnoackenjfpcmaaPk18
/- A goto back: one pass serves both the first way in and every later one. -/
namespace Go.Proofs.Ytnoackenjfpcmaa
open Go.RowKit
set_option linter.unusedVariables false
set_option linter.unusedSimpArgs false

theorem scope_back {P : Program} {Q : Exit → Act → World → Prop} {a : Act} {w : World} {c rest : Code} (l : Nat) (J : Act → World → Prop) (μ : Act → World → Nat) (hf : findLabel c l = some (Code.skip.seq rest))
    (pass : ∀ a w, J a w → rest.wp P (Exit.jump l (fun a' w' => J a' w' ∧ μ a' w' < μ a w) Q) a w)
    (first : (∀ a w, J a w → rest.wp P (Exit.jump l J Q) a w) → c.wp P (Exit.jump l J Q) a w) : (Code.scope c).wp P Q a w := by
  refine wp_scope_jumps l J μ hf (first fun a w hJ => wp_mono (pass a w hJ) fun e a' w' hq => ?_) fun a w hJ => wp_seq (wp_skip (pass a w hJ))
  cases e <;> first | exact hq | exact ⟨hq.1, hq.2.1⟩
end Go.Proofs.Ytnoackenjfpcmaa

/- The landed merge: the row at the top is let down. -/
namespace Go.Proofs.Ytnoackenjfpcmaa
open Go.RowKit Go.Sort Go.Shelf Go.Lib
set_option linter.unusedVariables false
set_option linter.unusedSimpArgs false

theorem HpAt.later {w w' : World} {g : Nat} {its : List HpV} (h : HpAt w g its) (hg : g < w.heap.size) (hb : Below w.heap.size w w') : HpAt w' g its := fun i x hx => by
  obtain ⟨⟨h0, h1⟩, h2, h3⟩ := h i x hx
  refine ⟨⟨cell_later hb h0, cell_later hb h1⟩, ?_, ?_⟩
  · simp only [World.frozen?] at h2 ⊢; rw [hb.block _ hg]; exact h2
  · simp only [World.frozen?] at h3 ⊢; rw [hb.block _ hg]; exact h3
theorem hp_cso (w : World) (g i j : Nat) (v : Value) (h : i ≠ j) : (w.setCell ⟨g, i, none⟩ v).cell? ⟨g, j, none⟩ = w.cell? ⟨g, j, none⟩ := World.cell?_setCell_other _ _ _ _ (by simp [h])
theorem hp_css (w : World) (a : Addr) (u v : Value) (h : w.cell? a = some u) : (w.setCell a v).cell? a = some v := World.cell?_setCell_same' w a v (by rw [h]; rfl)
/-- One of them is another one. -/
theorem HpAt.put {w : World} {g i : Nat} {its : List HpV} {x : HpV} (h : HpAt w g its) (hx : its[i]? = some x) (y : HpV) :
    HpAt ((w.setCell ⟨g, i * 2, none⟩ (.slice y.la y.l.length y.lc)).setCell ⟨g, i * 2 + 1, none⟩ (.int .i64 y.row)) g (its.set i y) := fun j z hz => by
  have hil := (List.getElem?_eq_some_iff.1 hx).1
  simp only [World.frozen?_setCell]
  have q := h i x hx
  by_cases e : j = i
  · subst e
    rw [List.getElem?_set_self hil] at hz
    obtain rfl : y = z := by simpa using hz
    refine ⟨⟨?_, ?_⟩, q.2⟩
    · rw [hp_cso _ _ _ _ _ (by omega), hp_css _ _ _ _ q.1.1]
    · rw [hp_css _ _ _ _ ((hp_cso _ _ _ _ _ (by omega)).trans q.1.2)]
  · rw [List.getElem?_set_ne (fun e' => e e'.symm)] at hz
    have p := h j z hz
    refine ⟨⟨?_, ?_⟩, p.2⟩
    · rw [hp_cso _ _ _ _ _ (by omega), hp_cso _ _ _ _ _ (by omega)]; exact p.1.1
    · rw [hp_cso _ _ _ _ _ (by omega), hp_cso _ _ _ _ _ (by omega)]; exact p.1.2
/-- What is known of the heap while a row is let down. -/
structure SK (w0 w : World) (g : Nat) (H : List HpV) (w1 : World) (H1 : List HpV) (top : Nat) : Prop where
  at' : HpAt w1 g H1
  perm : H1.Perm H
  hp : Hp H1 top
  gb : w.grownBy w1 (some g)
  bel : Below w0.heap.size w0 w1
  lt : g < w1.heap.size
theorem HpIts.perm {w0 : World} {H H1 : List HpV} (h : HpIts w0 H) (p : H1.Perm H) : HpIts w0 H1 := fun x hx => h x (p.mem_iff.1 hx)
theorem gr_grown {w w' : World} (h : Below w.heap.size w w') (r : Option Nat) : w.grownBy w' r := ⟨h.os, h.tape, h.output, h.size, fun k hk _ => h.block k hk⟩
theorem SK.later {w0 w w1 w2 : World} {g top : Nat} {H H1 : List HpV} (h : SK w0 w g H w1 H1 top) (hb : Below w1.heap.size w1 w2) : SK w0 w g H w2 H1 top :=
  ⟨h.at'.later h.lt hb, h.perm, h.hp, h.gb.trans (gr_grown hb _), h.bel.trans (hb.mono h.bel.size), Nat.lt_of_lt_of_le h.lt hb.size⟩
theorem hp_gset (w : World) (g k : Nat) (v : Value) : w.grownBy (w.setCell ⟨g, k, none⟩ v) (some g) :=
  ⟨rfl, rfl, rfl, by simp, fun b hb hne => by
    have hn : b ≠ g := fun e => hne (by rw [e])
    simp only [World.setCell]
    simp [Array.getElem?_modify, Ne.symm hn]⟩
def topv (v : Value) : Nat := match v with | .int _ n => n.toNat | _ => 0
set_option maxHeartbeats 8000000 in
set_option maxRecDepth 100000 in
theorem sink_t {w0 w : World} {g cap n : Nat} {H : List HpV} (hn : H.length = n) (h : HpAt w g H) (ho : HpIts w0 H) (hp : Hp H 0) (hb : Below w0.heap.size w0 w) (hg : w0.heap.size ≤ g) (hgw : g < w.heap.size) (hn2 : n ≤ 1000) (hnc : n ≤ cap) :
    Calls Try.prog 33 #[.slice (some ⟨g, 0, none⟩) n cap] w fun e w' => e = .returned (.tuple #[]) ∧ ∃ H', H'.Perm H ∧ HpF H' ∧ HpAt w' g H' ∧ w.grownBy w' (some g) := by
  have HS : Hid (HpIts w0 H ∧ H.length = n ∧ n ≤ 1000 ∧ w0.heap.size ≤ g) := ⟨ho, hn, hn2, hg⟩
  have HK0 : Hid (SK w0 w g H w H 0) := ⟨h, List.Perm.refl _, hp, World.grownBy.refl _ _, hb, hgw⟩
  have hn62 : n ≤ 2 ^ 60 := by omega
  have mixed : Try.prog.follows .mixedOrders = true := by kernel_rfl
  clear hn h ho hp hb hg hgw hn2
  go_enter Try.func33, Try.ntmps33
  go_wp2_with fail
  refine scope_back 0 (fun a' w1 => ∃ (top : Nat) (H1 : List HpV), Hid (SK w0 w g H w1 H1 top ∧ (top = 0 ∨ top < n)) ∧ ∃ (u1 u3 u4 u5 u6 u7 u8 u9 u10 u11 u12 u13 u14 u15 u16 u17 u18 u19 u20 u21 u22 u23 u24 u25 u26 u27 u28 u29 u30 u31 u32 u33 u34 u35 u36 u37 u38 u39 u40 u41 u42 u43 u44 u45 u46 u47 u48 u49 u50 : Value), a' = { tmps := #[.slice (some ⟨g, 0, none⟩) n cap, u1, .int .i64 (top : Int), u3, u4, u5, u6, u7, u8, u9, u10, u11, u12, u13, u14, u15, u16, u17, u18, u19, u20, u21, u22, u23, u24, u25, u26, u27, u28, u29, u30, u31, u32, u33, u34, u35, u36, u37, u38, u39, u40, u41, u42, u43, u44, u45, u46, u47, u48, u49, u50], defers := [] }) (fun a _ => n - topv (a.eval (.tmp 2))) rfl ?_ ?_
  rotate_left
  · intro pass
    go_wp2_with fail
    refine wp_label ?_
    rename_i hk
    refine hk _ _ ?_
    exact pass _ _ ⟨0, H, ⟨HK0.out, .inl rfl⟩, _, _, _, _, _, _, _, _, _, _, _, _, _, _, _, _, _, _, _, _, _, _, _, _, _, _, _, _, _, _, _, _, _, _, _, _, _, _, _, _, _, _, _, _, _, _, _, _, _, rfl⟩
  · rintro a1 w1 ⟨top, H1, HK, u1, u3, u4, u5, u6, u7, u8, u9, u10, u11, u12, u13, u14, u15, u16, u17, u18, u19, u20, u21, u22, u23, u24, u25, u26, u27, u28, u29, u30, u31, u32, u33, u34, u35, u36, u37, u38, u39, u40, u41, u42, u43, u44, u45, u46, u47, u48, u49, u50, rfl⟩
    have HI : Hid (HpIts w0 H1 ∧ H1.length = n ∧ n ≤ 1000) := ⟨HS.out.1.perm HK.out.1.perm, HK.out.1.perm.length_eq.trans HS.out.2.1, HS.out.2.2.1⟩
    have ht62 : top ≤ 2 ^ 58 := by have := HK.out.2; have := HS.out.2.2.1; omega
    have HT : Hid (top = 0 ∨ top < n) := HK.out.2
    have HK1 : Hid (SK w0 w g H w1 H1 top) := HK.out.1
    clear HK
    go_wp2_with fail
    go_loopg [3, 4] 3 (fun kx s3 s4 wr => ∃ (least below : Nat), s3 = .int .i64 (least : Int) ∧ s4 = .int .i64 (below : Int) ∧ below + kx = 2 * top + 4 ∧ 2 * top + 1 ≤ below ∧ Hid (Lst H1 top below least ∧ (least = top ∨ least < n) ∧ SK w0 w g H wr H1 top ∧ below ≤ 2 * top + 3))
    case atStart => exact ⟨top, 2 * top + 1, rfl, by go_num, by omega, by omega, Lst.start _ _, .inl rfl, HK1.out, by omega⟩
    case round =>
      obtain ⟨least, below, rfl, rfl, hgk, hb1, HL⟩ := hrel
      have HGK := hidM (And.intro hgk hb1)
      have hl62 : least ≤ 2 ^ 60 := by have := HL.out.2.1; omega
      have hb62 : below ≤ 2 ^ 60 := by omega
      clear HK1
      by_cases q1 : below ≤ 2 * top + 2
      · have q1' : (below : Int) ≤ 2 * (top : Int) + 2 := by omega
        by_cases q2 : below < n
        · have q2' : (below : Int) < (n : Int) := by omega
          have q3' : (least : Int) < (n : Int) := by have := HL.out.2.1; have := HT.out; omega
          obtain ⟨x, hx⟩ : ∃ x, H1[below]? = some x := ⟨_, List.getElem?_eq_getElem (by have := HI.out.2.1; omega)⟩
          obtain ⟨y, hy⟩ : ∃ y, H1[least]? = some y := ⟨_, List.getElem?_eq_getElem (by have := HI.out.2.1; omega)⟩
          have ax := HL.out.2.2.1.at' _ _ hx
          have ay := HL.out.2.2.1.at' _ _ hy
          have hlt := HL.out.2.2.1.lt
          have cx := HI.out.1 x (List.mem_of_getElem? hx)
          have cy := HI.out.1 y (List.mem_of_getElem? hy)
          have HCM : Hid (∀ wx, Gr wr wx → Calls Try.prog 37 #[.agg #[.slice x.la x.l.length x.lc, .int .i64 x.row], .agg #[.slice y.la y.l.length y.lc, .int .i64 y.row]] wx fun e w' => e = .returned (.int .i64 (hpC x y)) ∧ Gr wx w') := fun wx hw => hcmp_t cx.1 cy.1 cx.2 cy.2 (HL.out.2.2.1.bel.trans (hw.below.mono HL.out.2.2.1.bel.size))
          have HTK : Hid (hpC x y < 0 → Lst H1 top (below + 1) below) := fun hlt => HL.out.1.take hb1 hx hy hlt
          have HLV : Hid (¬ hpC x y < 0 → Lst H1 top (below + 1) least) := fun hlt => HL.out.1.leave hx hy hlt
          have x0 := cell_grown (a := ⟨g, below * 2, none⟩) hlt ax.1.1
          have x1 := cell_grown (a := ⟨g, below * 2 + 1, none⟩) hlt ax.1.2
          have y0 := cell_grown (a := ⟨g, least * 2, none⟩) hlt ay.1.1
          have y1 := cell_grown (a := ⟨g, least * 2 + 1, none⟩) hlt ay.1.2
          have HQ := hidM (And.intro q1 q2)
          generalize hpC x y = c at HCM HTK HLV
          generalize x.l.length = xl at HCM x0
          generalize y.l.length = yl at HCM y0
          generalize x.row = xr at HCM x1
          generalize y.row = yr at HCM y1
          generalize x.la = xa at HCM x0
          generalize y.la = ya at HCM y0
          generalize x.lc = xc at HCM x0
          generalize y.lc = yc at HCM y0
          clear hx hy ax ay cx cy hlt hgk hb1 q1 q2
          by_cases hc : c < 0
          · have HN := hidM (HTK.out hc)
            go_wp2_with fail
            go_quiet_grown ((go_at_call 37; exact Calls.grown_of (HCM.out _ ⟨_, _, rfl⟩)))
            go_wp2_with fail
            go_roundg (2 * top + 3 - below)
            case measure => have := HGK.out; have := HQ.out; omega
            case rel => exact ⟨below, below + 1, rfl, by go_num, by have := HGK.out; have := HQ.out; omega, by have := HGK.out; omega, HN.out, .inr HQ.out.2, HL.out.2.2.1.later (Gr.below ⟨_, _, rfl⟩), by have := HQ.out; omega⟩
          · have HN := hidM (HLV.out hc)
            go_wp2_with fail
            go_quiet_grown ((go_at_call 37; exact Calls.grown_of (HCM.out _ ⟨_, _, rfl⟩)))
            go_wp2_with fail
            go_roundg (2 * top + 3 - below)
            case measure => have := HGK.out; have := HQ.out; omega
            case rel => exact ⟨least, below + 1, rfl, by go_num, by have := HGK.out; have := HQ.out; omega, by have := HGK.out; omega, HN.out, HL.out.2.1, HL.out.2.2.1.later (Gr.below ⟨_, _, rfl⟩), by have := HQ.out; omega⟩
        · have q2' : ¬ (below : Int) < (n : Int) := by omega
          have HX : Hid (2 * top + 2 < below ∨ H1.length ≤ below) := .inr (by have := HI.out.2.1; omega)
          clear hgk hb1 q1 q2
          by_cases qt : least = top
          · subst qt
            have HF : Hid (HpF H1) := HL.out.2.2.1.hp.done HL.out.1 HX.out
            go_wp2_with fail
            simp only [Exit.jump]
            go_end0
            exact ⟨rfl, H1, HL.out.2.2.1.perm, HF.out, HL.out.2.2.1.at', HL.out.2.2.1.gb⟩
          · have qt' : ((least : Int) != (top : Int)) = true := by simp; omega
            have ql : least < n := by have := HL.out.2.1; omega
            have qtn : top < n := by have := HL.out.1.is; have := HT.out; omega
            have ql' : (least : Int) < (n : Int) := by omega
            have qtn' : (top : Int) < (n : Int) := by omega
            obtain ⟨x, hx⟩ : ∃ x, H1[top]? = some x := ⟨_, List.getElem?_eq_getElem (by have := HI.out.2.1; omega)⟩
            obtain ⟨y, hy⟩ : ∃ y, H1[least]? = some y := ⟨_, List.getElem?_eq_getElem (by have := HI.out.2.1; omega)⟩
            have ax := HL.out.2.2.1.at' _ _ hx
            have ay := HL.out.2.2.1.at' _ _ hy
            have HNX : Hid (HpAt ((((wr.setCell ⟨g, top * 2, none⟩ (.slice y.la y.l.length y.lc)).setCell ⟨g, top * 2 + 1, none⟩ (.int .i64 y.row)).setCell ⟨g, least * 2, none⟩ (.slice x.la x.l.length x.lc)).setCell ⟨g, least * 2 + 1, none⟩ (.int .i64 x.row)).drew g (swH H1 top least x y)) := by
              have hd := (HL.out.2.2.1.at'.put hx y).put (i := least) (x := y) (by rw [List.getElem?_set_ne (fun e => qt e.symm)]; exact hy) x
              exact hd.later (by simpa using HL.out.2.2.1.lt) (Below.refl _ _).drew
            have HNS : Hid ((swH H1 top least x y).Perm H ∧ Hp (swH H1 top least x y) least ∧ least < n ∧ top < least) := ⟨(swH_perm hx hy (fun e => qt e.symm)).trans HL.out.2.2.1.perm, HL.out.2.2.1.hp.down HL.out.1 HX.out HL.out.2.2.2 qt hx hy, ql, by have := HL.out.1.is; omega⟩
            have HNG : Hid (∀ a b c d : Value, w.grownBy (((((wr.setCell ⟨g, top * 2, none⟩ a).setCell ⟨g, top * 2 + 1, none⟩ b).setCell ⟨g, least * 2, none⟩ c).setCell ⟨g, least * 2 + 1, none⟩ d).drew) (some g) ∧ Below w0.heap.size w0 (((((wr.setCell ⟨g, top * 2, none⟩ a).setCell ⟨g, top * 2 + 1, none⟩ b).setCell ⟨g, least * 2, none⟩ c).setCell ⟨g, least * 2 + 1, none⟩ d).drew) ∧ g < (((((wr.setCell ⟨g, top * 2, none⟩ a).setCell ⟨g, top * 2 + 1, none⟩ b).setCell ⟨g, least * 2, none⟩ c).setCell ⟨g, least * 2 + 1, none⟩ d).drew).heap.size) := fun a b c d => by
              have g1 : wr.grownBy (((((wr.setCell ⟨g, top * 2, none⟩ a).setCell ⟨g, top * 2 + 1, none⟩ b).setCell ⟨g, least * 2, none⟩ c).setCell ⟨g, least * 2 + 1, none⟩ d).drew) (some g) := ((((hp_gset _ _ _ _).trans (hp_gset _ _ _ _)).trans (hp_gset _ _ _ _)).trans (hp_gset _ _ _ _)).trans (gr_grown (Below.refl _ _).drew _)
              exact ⟨HL.out.2.2.1.gb.trans g1, HL.out.2.2.1.bel.grown g1 HL.out.2.2.1.bel.size (fun k hk => by have := HS.out.2.2.2; simp only [Option.some.injEq] at hk; omega), Nat.lt_of_lt_of_le HL.out.2.2.1.lt g1.size⟩
            obtain ⟨⟨x0, x1⟩, f0, f1⟩ := ax
            obtain ⟨⟨y0, y1⟩, f2, f3⟩ := ay
            generalize swH H1 top least x y = H2 at HNX HNS
            generalize x.l.length = xl at HNX x0
            generalize y.l.length = yl at HNX y0
            generalize x.row = xr at HNX x1
            generalize y.row = yr at HNX y1
            generalize x.la = xa at HNX x0
            generalize y.la = ya at HNX y0
            generalize x.lc = xc at HNX x0
            generalize y.lc = yc at HNX y0
            have hne1 : top * 2 ≠ least * 2 := by omega
            have hne2 : top * 2 + 1 ≠ least * 2 := by omega
            have hne3 : top * 2 ≠ least * 2 + 1 := by omega
            have hne4 : top * 2 + 1 ≠ least * 2 + 1 := by omega
            clear hx hy qt ql qtn
            go_wp2_with fail
            go_region
            go_wp2_with fail
            go_step3
            exact ⟨rfl, ⟨least, H2, ⟨⟨HNX.out, HNS.out.1, HNS.out.2.1, (HNG.out _ _ _ _).1, (HNG.out _ _ _ _).2.1, (HNG.out _ _ _ _).2.2⟩, .inr HNS.out.2.2.1⟩, _, _, _, _, _, _, _, _, _, _, _, _, _, _, _, _, _, _, _, _, _, _, _, _, _, _, _, _, _, _, _, _, _, _, _, _, _, _, _, _, _, _, _, _, _, _, _, _, _, rfl⟩, (by have := HNS.out; show n - topv (.int .i64 (least : Int)) < n - topv (.int .i64 (top : Int)); unfold topv; simp only [Int.toNat_natCast]; omega)⟩
      · have q1' : ¬ (below : Int) ≤ 2 * (top : Int) + 2 := by omega
        have HX : Hid (2 * top + 2 < below ∨ H1.length ≤ below) := .inl (by omega)
        clear hgk hb1 q1
        by_cases qt : least = top
        · subst qt
          have HF : Hid (HpF H1) := HL.out.2.2.1.hp.done HL.out.1 HX.out
          go_wp2_with fail
          simp only [Exit.jump]
          go_end0
          exact ⟨rfl, H1, HL.out.2.2.1.perm, HF.out, HL.out.2.2.1.at', HL.out.2.2.1.gb⟩
        · have qt' : ((least : Int) != (top : Int)) = true := by simp; omega
          have ql : least < n := by have := HL.out.2.1; omega
          have qtn : top < n := by have := HL.out.1.is; have := HT.out; omega
          have ql' : (least : Int) < (n : Int) := by omega
          have qtn' : (top : Int) < (n : Int) := by omega
          obtain ⟨x, hx⟩ : ∃ x, H1[top]? = some x := ⟨_, List.getElem?_eq_getElem (by have := HI.out.2.1; omega)⟩
          obtain ⟨y, hy⟩ : ∃ y, H1[least]? = some y := ⟨_, List.getElem?_eq_getElem (by have := HI.out.2.1; omega)⟩
          have ax := HL.out.2.2.1.at' _ _ hx
          have ay := HL.out.2.2.1.at' _ _ hy
          have HNX : Hid (HpAt ((((wr.setCell ⟨g, top * 2, none⟩ (.slice y.la y.l.length y.lc)).setCell ⟨g, top * 2 + 1, none⟩ (.int .i64 y.row)).setCell ⟨g, least * 2, none⟩ (.slice x.la x.l.length x.lc)).setCell ⟨g, least * 2 + 1, none⟩ (.int .i64 x.row)).drew g (swH H1 top least x y)) := by
            have hd := (HL.out.2.2.1.at'.put hx y).put (i := least) (x := y) (by rw [List.getElem?_set_ne (fun e => qt e.symm)]; exact hy) x
            exact hd.later (by simpa using HL.out.2.2.1.lt) (Below.refl _ _).drew
          have HNS : Hid ((swH H1 top least x y).Perm H ∧ Hp (swH H1 top least x y) least ∧ least < n ∧ top < least) := ⟨(swH_perm hx hy (fun e => qt e.symm)).trans HL.out.2.2.1.perm, HL.out.2.2.1.hp.down HL.out.1 HX.out HL.out.2.2.2 qt hx hy, ql, by have := HL.out.1.is; omega⟩
          have HNG : Hid (∀ a b c d : Value, w.grownBy (((((wr.setCell ⟨g, top * 2, none⟩ a).setCell ⟨g, top * 2 + 1, none⟩ b).setCell ⟨g, least * 2, none⟩ c).setCell ⟨g, least * 2 + 1, none⟩ d).drew) (some g) ∧ Below w0.heap.size w0 (((((wr.setCell ⟨g, top * 2, none⟩ a).setCell ⟨g, top * 2 + 1, none⟩ b).setCell ⟨g, least * 2, none⟩ c).setCell ⟨g, least * 2 + 1, none⟩ d).drew) ∧ g < (((((wr.setCell ⟨g, top * 2, none⟩ a).setCell ⟨g, top * 2 + 1, none⟩ b).setCell ⟨g, least * 2, none⟩ c).setCell ⟨g, least * 2 + 1, none⟩ d).drew).heap.size) := fun a b c d => by
            have g1 : wr.grownBy (((((wr.setCell ⟨g, top * 2, none⟩ a).setCell ⟨g, top * 2 + 1, none⟩ b).setCell ⟨g, least * 2, none⟩ c).setCell ⟨g, least * 2 + 1, none⟩ d).drew) (some g) := ((((hp_gset _ _ _ _).trans (hp_gset _ _ _ _)).trans (hp_gset _ _ _ _)).trans (hp_gset _ _ _ _)).trans (gr_grown (Below.refl _ _).drew _)
            exact ⟨HL.out.2.2.1.gb.trans g1, HL.out.2.2.1.bel.grown g1 HL.out.2.2.1.bel.size (fun k hk => by have := HS.out.2.2.2; simp only [Option.some.injEq] at hk; omega), Nat.lt_of_lt_of_le HL.out.2.2.1.lt g1.size⟩
          obtain ⟨⟨x0, x1⟩, f0, f1⟩ := ax
          obtain ⟨⟨y0, y1⟩, f2, f3⟩ := ay
          generalize swH H1 top least x y = H2 at HNX HNS
          generalize x.l.length = xl at HNX x0
          generalize y.l.length = yl at HNX y0
          generalize x.row = xr at HNX x1
          generalize y.row = yr at HNX y1
          generalize x.la = xa at HNX x0
          generalize y.la = ya at HNX y0
          generalize x.lc = xc at HNX x0
          generalize y.lc = yc at HNX y0
          have hne1 : top * 2 ≠ least * 2 := by omega
          have hne2 : top * 2 + 1 ≠ least * 2 := by omega
          have hne3 : top * 2 ≠ least * 2 + 1 := by omega
          have hne4 : top * 2 + 1 ≠ least * 2 + 1 := by omega
          clear hx hy qt ql qtn
          go_wp2_with fail
          go_region
          go_wp2_with fail
          go_step3
          exact ⟨rfl, ⟨least, H2, ⟨⟨HNX.out, HNS.out.1, HNS.out.2.1, (HNG.out _ _ _ _).1, (HNG.out _ _ _ _).2.1, (HNG.out _ _ _ _).2.2⟩, .inr HNS.out.2.2.1⟩, _, _, _, _, _, _, _, _, _, _, _, _, _, _, _, _, _, _, _, _, _, _, _, _, _, _, _, _, _, _, _, _, _, _, _, _, _, _, _, _, _, _, _, _, _, _, _, _, _, rfl⟩, (by have := HNS.out; show n - topv (.int .i64 (least : Int)) < n - topv (.int .i64 (top : Int)); unfold topv; simp only [Int.toNat_natCast]; omega)⟩
end Go.Proofs.Ytnoackenjfpcmaa

/- A call of a Go function as one step of a region that draws its order. -/
namespace Go.Proofs.Ytnoackenjfpcmaa
open Go.RowKit
set_option linter.unusedVariables false
set_option linter.unusedSimpArgs false

theorem step_fn {P : Program} {ops : Array Oper} {w : World} {o : Oper} {a : Act} {K : Act → World → Prop} {Q : Exit → Act → World → Prop} {E : Prop} {R : Ending → World → Prop} (f : FuncId) {xs : Array Operand} {ts : Array TypeId} {args : Array Value} (hgd : o.guard = none)
    (hop : o.op = .call { callee := .value (.func f), args := xs, argTypes := ts }) (hargs : xs.map a.eval = args) (hf : (callFunc f args).run P w = .ok (.enter f args) w) (hc : Calls P f args w R) (h : ∀ e w', R e w' → ∃ v, e = .returned v ∧ K (a.put o.dst v) w') :
    if Region.wanted o (yielded ops a.tmps) = true then Oper.wp P o a w K Q else E := by
  have hw : Region.wanted o (yielded ops a.tmps) = true := by simp [Region.wanted, hgd]
  rw [if_pos hw]
  have hrun : (execOp a.eval o).run P w = .ok (.enter f args) w := by
    unfold execOp
    rw [hop]
    simp [resolve, invoke, Act.eval, go_sem, hargs, hf]
  unfold Oper.wp
  rw [hrun]
  exact hc.mono fun e w' hR => by
    obtain ⟨v, he, hk⟩ := h e w' hR
    subst he
    exact hk
end Go.Proofs.Ytnoackenjfpcmaa
