import Derived.Deep.RegionHeldLaw
import Derived.Test.YtligofmcmjblpaaGreatPk03
import Derived.Test.YtligofmcmjblpaaGreatPk11
/- The document's own disk: Crash. -/
namespace Go.Proofs.YtligofmcmjblpaaGreat
open Go.RowKit
set_option linter.unusedVariables false
set_option linter.unusedSimpArgs false

theorem WRow.cells {B : Nat} {w : World} {v : Value} {vs : List Value} (h : WRow B w v vs) (hp : 0 < vs.length) : ∃ g c, v = .slice (some ⟨g, 0, none⟩) vs.length c ∧ vs.length ≤ c ∧ ∀ (k : Nat) (x : Value), vs[k]? = some x → w.cell? ⟨g, k, none⟩ = some x := by
  have hcells : ∀ g, v.ownBlock = some g → _ := fun g hg => World.ownsRow.cells h (g := g) hg
  rcases h.2 with ⟨e, h0⟩ | ⟨g, cap, cur, rfl, hb, hg, h1, h2, h3, h4⟩
  · omega
  · refine ⟨g, cap, rfl, h1, fun k x hx => ?_⟩
    have := hcells g rfl k x hx
    rw [Addr.add_lit, Nat.zero_add] at this
    exact this
theorem DRow.slice2 {B : Nat} {w : World} {loc : Nat → Nat} {v : Value} {l : List Ent} (h : DRow B w loc v l) : ∃ ao c, v = .slice ao l.length c := by
  rcases h.2 with ⟨rfl, e⟩ | ⟨g, cap, cur, rfl, _⟩
  · exact ⟨none, 0, by rw [e]⟩
  · exact ⟨_, _, rfl⟩
theorem step_app {ops : Array Oper} {w : World} {o : Oper} {a : Act} {K : Act → World → Prop} {Q : Exit → Act → World → Prop} {E : Prop} (hgd : o.guard = none) (s x : Operand)
    (ho : o.op = .call { callee := .builtin .append, args := #[s, x], argTypes := #[27, 27] }) (B : Nat) (v : Value) (xs : List Int) (hs : a.eval s = v) (hrow : Row B w v xs)
    (ao : Option Addr) (m c : Nat) (X : Nat → Nat) (hx : a.eval x = .slice ao m c) (hnil : ao = none → m = 0 ∧ c = 0) (hby : Byt w ao m X) (hb : xs.length + m ≤ 140737488355328) (hbase : B ≤ w.heap.size)
    (h : ∀ ao' n' c' w', Row B w' (.slice ao' n' c') (xs ++ bs X m) → w.grownBy w' v.ownBlock → K (a.put o.dst (.slice ao' n' c')) w') :
    if Region.wanted o (yielded ops a.tmps) = true then Oper.wp Tryz.prog o a w K Q else E := by
  have hw : Region.wanted o (yielded ops a.tmps) = true := by simp [Region.wanted, hgd]
  rw [if_pos hw]
  refine wp_app s x ho B v xs hs hrow ao m c X hx hnil hby hb hbase fun v' w' h2 h3 _ => ?_
  obtain ⟨o1, o2, o3, rfl⟩ := Row.slice h2
  exact h _ _ _ _ h2 h3
theorem FileR.facts {w : World} {F : Nat → Prop} {g : Nat} {data : List Int} {sure : Nat} (h : FileR w F g (data, sure)) (ho : Okb data) :
    ∃ ao cap, (ao = none → data.length = 0 ∧ cap = 0) ∧ data.length ≤ cap ∧ cap ≤ maxLen ∧ Byt w ao data.length (xof data) ∧ w.cell? ⟨g, 0, none⟩ = some (.slice ao data.length cap) ∧ w.cell? ⟨g, 1, none⟩ = some (.int .i64 (sure : Int)) := by
  obtain ⟨dv, x1, x2, x3⟩ := h.ex
  obtain ⟨ao, cap, rfl, x4, x5, x6, x7⟩ := x2.byt ho
  exact ⟨ao, cap, x4, x5, x6, x7, cell_of x1 0, cell_of x1 1⟩
theorem DRow.frozen {B : Nat} {w : World} {loc : Nat → Nat} {g n c : Nat} {l : List Ent} (h : DRow B w loc (.slice (some ⟨g, 0, none⟩) n c) l) (k : Nat) : w.frozen? ⟨g, k, none⟩ = false := by
  rcases h.2 with ⟨e, _⟩ | ⟨g', cap, cur, e, hb, hg, _⟩
  · cases e
  · simp only [Value.slice.injEq, Option.some.injEq, Addr.mk.injEq, and_true] at e
    obtain ⟨rfl, _, _⟩ := e
    exact frozen_of hg k
theorem cell_set_alloc {w : World} {a : Addr} {u : Value} (h : w.cell? a = some u) {g : Nat} (ne : g ≠ a.block) (k : Nat) (v : Value) (o : Obj) : ((w.setCell ⟨g, k, none⟩ v).alloc o).cell? a = some u := by
  have h1 : (w.setCell ⟨g, k, none⟩ v).cell? a = some u := (World.cell?_setCell_far w ⟨g, k, none⟩ a v ne).trans h
  exact cell_later ((Below.refl _ _).alloc (Nat.le_refl _) o) h1
theorem grow_drew (w : World) (r : Option Nat) : w.grownBy w.drew r := ⟨rfl, rfl, rfl, Nat.le_refl _, fun _ _ _ => rfl⟩

set_option maxHeartbeats 2000000 in
set_option maxRecDepth 100000 in
theorem rcrash_any (p : Nat) (σ : DS) (F A : Nat → Prop) (loc : Nat → Nat) (lv wv : Value) (po : Option Addr) (pl pc : Nat) (P : Nat → Int) (w : World) (h : RefAt w p σ F A loc lv wv) (hi : Inv σ) (hp : Ints w po pl P) (hpF : 0 < pl → ∀ a, po = some a → ¬ F a.block) (hpl : pl ≤ 2 ^ 63 - 1) :
    Calls Tryz.prog 35 #[ptr p, .slice po pl pc] w fun e w' => e = .returned (.tuple #[]) ∧ Nxt w p (σ.crash (is P pl)) F w' := by
  obtain ⟨vs, a0, b0, d0, e0⟩ := h.was.ex
  have hw1 := hi.w1
  obtain ⟨m, hm⟩ : ∃ m, m = pick (is P pl) 0 (σ.was.length - 1) := ⟨_, rfl⟩
  have hml : m ≤ σ.was.length - 1 := by rw [hm]; exact pick_le _ _ _
  have hmw : m < σ.was.length := by omega
  obtain ⟨K, hK⟩ : ∃ K, K = σ.kept (is P pl) := ⟨_, rfl⟩
  have hKm : σ.was[m]? = some K := by
    rw [hK]
    unfold DS.kept
    rw [← hm, List.getD_eq_getElem?_getD, List.getElem?_eq_getElem hmw]
    rfl
  have hmv : m < vs.length := by omega
  obtain ⟨x, hx⟩ : ∃ x, vs[m]? = some x := ⟨_, List.getElem?_eq_getElem hmv⟩
  have hdK := e0 m x K hx hKm
  obtain ⟨gw, wcp, rfl, hwcp, hcw⟩ := WRow.cells a0 (by omega)
  have hKlen : K.length ≤ 1048576 := by
    have h1 := hi.wd K (List.mem_of_getElem? hKm)
    have h2 := hi.ok.2.1
    omega
  obtain ⟨wl, hwl⟩ : ∃ wl, wl = vs.length := ⟨_, rfl⟩
  obtain ⟨W1, hW1⟩ : ∃ W1, wl = W1 + 1 := ⟨wl - 1, by omega⟩
  have s1 : IntKind.i64.wrap ((wl : Int) - 1) = (W1 : Int) := by rw [wrapEq]; unfold wrap64; have h1 := hi.wl; have h2 := hi.ok.2.1; omega
  have s2 : (m : Int) < (wl : Int) := by omega
  have hwl20 : wl ≤ 2 ^ 40 := by have h1 := hi.wl; have h2 := hi.ok.2.1; omega
  have cx := hcw m x hx
  have c2 := cell_of h.blk 2
  have f1 := frozen_of h.blk 1
  have c1 := cell_of h.blk 1
  simp only [List.getElem?_toArray, List.getElem?_cons_succ, List.getElem?_cons_zero] at c1 c2
  rw [← hwl] at c2
  have HNX : Hid (∀ wx, w.grownBy wx (some p) → ∀ k n : Nat, k ≤ 2 ^ 40 → n ≤ 2 ^ 40 → Calls Tryz.prog 75 #[.slice po pl pc, .int .i64 (k : Int), .int .i64 (n : Int)] wx fun e w' => e = .returned (.int .i64 (pick (is P pl) k n : Nat)) ∧ w' = wx) := fun wx hg k n h1 h2 =>
    rnext_any po pl pc P k n wx (hp.kept (Kept.grown (F := F) hg fun k e => by simp only [Option.some.injEq] at e; subst e; exact .inl h.fp) hpF) hpl h1 h2
  have HN0 : Hid (∀ wx, w.grownBy wx (some p) → Calls Tryz.prog 75 #[.slice po pl pc, .int .i64 0, .int .i64 (W1 : Int)] wx fun e w' => e = .returned (.int .i64 (m : Int)) ∧ w' = wx) := fun wx hg => by
    have := HNX.out wx hg 0 W1 (by omega) (by omega)
    rw [hm, ← d0, ← hwl, hW1]
    exact this
  have HCP : Hid (∀ wx, Below w.heap.size w wx → Calls Tryz.prog 74 #[x] wx fun e w' => ∃ v, e = .returned v ∧ DRow wx.heap.size w' loc v K ∧ Below wx.heap.size wx w') := fun wx hb => rcopied_any F loc x K wx (hdK.grown (below_grown hb none) fun g e => by cases e) (by omega)
  have HD : Hid (Dk w p σ.room lv (.slice (some ⟨gw, 0, none⟩) wl wcp) σ.c) := by rw [hwl]; exact h.blk
  have HP : Hid (p < w.heap.size) := h.blk.ty.lt
  have HR := Hid.intro h
  have HI := Hid.intro hi
  have HK := Hid.intro hK
  have HWL := Hid.intro hwl
  have HKA : Hid (∀ e ∈ K, A e.2) := fun e he => h.al _ (.inr ⟨K, List.mem_of_getElem? hKm, e.1, he⟩)
  have HKN : Hid (∀ e ∈ K, e.2 < σ.nx) := fun e he => h.nx _ (HKA.out e he)
  unfold ptr
  clear h hi hp hpF hK a0 b0 d0 e0 hm hml hmw hKm hmv hx hdK hcw hwcp hw1 hW1 hwl
  go_enter Tryz.func35, Tryz.ntmps35
  go_upto_region 0 with fail
  go_cut [] from 7 to 24 (fun wx => ∃ ao cap, Hid (Dk wx p σ.room (.slice ao K.length cap) (.slice (some ⟨gw, 0, none⟩) wl wcp) σ.c ∧ DRow w.heap.size wx loc (.slice ao K.length cap) K ∧ w.grownBy wx (some p)))
  case first =>
    go_region_law (first | (refine step_fn 75 (args := #[.slice po pl pc, .int .i64 0, .int .i64 (W1 : Int)]) rfl rfl (by simp [Act.eval, Act.put, s1]) (by kernel_rfl) (HN0.out _ (grow_drew _ _)) ?_; rintro e w1 ⟨rfl, rfl⟩; refine ⟨_, rfl, ?_⟩) | (refine step_fn 74 (args := #[x]) rfl rfl (by simp [Act.eval, Act.put]) (by kernel_rfl) (HCP.out _ (Below.refl _ _).drew) ?_; rintro e w2 ⟨v2, rfl, hr2, hb2⟩; have hB : Below w.heap.size w w2 := (Below.refl _ _).drew.trans hb2; have d1 := cell_later hB c1; have d2 := cell_later hB c2; have e1 := (hB.frozen (p := ⟨p, 1, none⟩) HP.out).trans f1; obtain ⟨o1, o3, rfl⟩ := DRow.slice2 hr2; refine ⟨_, rfl, ?_⟩))
    all_goals
      go_wp2_with fail
      go_meet
      exact ⟨o1, o3, (HD.out.later hB).set1 _, ownsRow_setCell_below hr2 HP.out _, grown_trans (below_grown hB _) (grown_set _ _ _ _)⟩
  case rest =>
    obtain ⟨ao, cap, HX⟩ := hcut
    have d1 := cell_of HX.out.1 1
    simp only [List.getElem?_toArray, List.getElem?_cons_succ, List.getElem?_cons_zero] at d1
    obtain ⟨n, hnn⟩ : ∃ n, n = K.length := ⟨_, rfl⟩
    have HNN := Hid.intro hnn
    rw [← hnn] at d1
    have hn20 : n ≤ 1048576 := by omega
    clear hnn hKlen
    go_wp2_with fail
    go_loopg [30] n (fun g i wr => ∃ (k : Nat) (M : Nat → Nat), k + g = n ∧ i = .int .i64 (k : Int) ∧ Hid (w.grownBy wr (some p) ∧ Dk wr p σ.room (.slice ao n cap) (.slice (some ⟨gw, 0, none⟩) wl wcp) σ.c ∧ CrR w K σ.nx loc σ.fl (is P pl) (.slice ao n cap) k M wr))
    case atStart =>
      refine ⟨0, fun _ => 0, by omega, rfl, HX.out.2.2, by rw [HNN.out]; exact HX.out.1, ⟨?_, fun j e hj => by omega, fun j j' hj => by omega⟩⟩
      have := HX.out.2.1
      unfold DRow at this ⊢
      rw [HNN.out, show mixK σ.nx K 0 = K from rfl, entC_congr fun e he => by simp only [locM]; rw [if_neg (by have := HKN.out e he; omega)]]
      exact this
    case round =>
      obtain ⟨k, M, hk, rfl, HM⟩ := hrel
      by_cases h : k < n
      · have h' : (k : Int) < (n : Int) := by omega
        have hkl : k < K.length := by rw [← HNN.out]; exact h
        obtain ⟨⟨a, i⟩, hKk⟩ : ∃ e, K[k]? = some e := ⟨_, List.getElem?_eq_getElem hkl⟩
        obtain ⟨sp1, sp2⟩ := mixK_split σ.nx K k a i hKk
        have hdr := HM.out.2.2.row.dir (F := fun _ => True) fun _ _ _ => trivial
        obtain ⟨ao', cap', e1, _, _, _, hce⟩ := hdr.cells
        simp only [Value.slice.injEq] at e1
        obtain ⟨rfl, hnm, rfl⟩ := e1
        clear hnm
        have hmk : (mixK σ.nx K k)[k]? = some (a, i) := by
          rw [sp1, List.getElem?_append_right (by rw [List.length_take, renK_len]; omega), List.length_take, renK_len, show k - min k K.length = 0 by omega]
          rfl
        obtain ⟨g, a', i', rfl, q1, _, y1, y2⟩ := hce k (by rw [mixK_len σ.nx K k (by omega)]; exact hkl)
        rw [hmk] at q1
        simp only [Option.some.injEq, Prod.mk.injEq] at q1
        obtain ⟨rfl, rfl⟩ := q1
        have hiK : i < σ.nx := HKN.out (a, i) (List.mem_of_getElem? hKk)
        rw [show locM σ.nx loc M i = loc i by simp only [locM]; rw [if_neg (by omega)]] at y2
        have HA : A i := HKA.out (a, i) (List.mem_of_getElem? hKk)
        obtain ⟨data, sure, hds⟩ : ∃ data sure, σ.fl i = (data, sure) := ⟨_, _, rfl⟩
        have hif := HI.out.fl i
        rw [hds] at hif
        have hfr : FileR wr F (loc i) (data, sure) := by
          have := HR.out.file i HA
          rw [hds] at this
          exact this.grown HM.out.1 fun b e => ⟨by simp only [Option.some.injEq] at e; subst e; exact TyOf.ne HR.out.blk.ty (HR.out.file i HA).ty (by decide), HR.out.pne 5 (by decide) b e⟩
        obtain ⟨fo, fc, x4, x5, x6, x7, x8, x9⟩ := hfr.facts hif.2.2
        have hlt : loc i < wr.heap.size := block_lt_of_cell x8
        obtain ⟨D, hD⟩ : ∃ D, D = data.length := ⟨_, rfl⟩
        have hD22 : D ≤ 4194304 := by rw [hD]; exact hif.1
        have hSD : sure ≤ D := by rw [hD]; exact hif.2.1
        rw [← hD] at x8
        obtain ⟨R, hR⟩ : ∃ R, R = pick (is P pl) (k + 1) (D - sure) := ⟨_, rfl⟩
        have hRl : R ≤ D - sure := by rw [hR]; exact pick_le _ _ _
        have HQ : Hid (fileQ σ.fl (is P pl) (a, i) k = (data.take (sure + R), sure + R)) := by
          show _ = _
          unfold fileQ
          simp only [hds]
          rw [← hD, ← hR]
        have hsub : IntKind.i64.wrap ((D : Int) - (sure : Int)) = ((D - sure : Nat) : Int) := by rw [wrapEq]; unfold wrap64; omega
        obtain ⟨T, hT⟩ : ∃ T, T = D - sure := ⟨_, rfl⟩
        rw [← hT] at hsub hR hRl
        have hsr : sure + R ≤ 2 ^ 40 := by omega
        have hsr2 : IntKind.i64.wrap ((sure : Int) + (R : Int)) = (sure : Int) + (R : Int) := by rw [wrapEq]; unfold wrap64; omega
        have hk1 : IntKind.i64.wrap ((k : Int) + 1) = (k : Int) + 1 := by rw [wrapEq]; unfold wrap64; omega
        have HNK : Hid (∀ wx, w.grownBy wx (some p) → Calls Tryz.prog 75 #[.slice po pl pc, .int .i64 ((k : Int) + 1), .int .i64 (T : Int)] wx fun e w' => e = .returned (.int .i64 (R : Int)) ∧ w' = wx) := fun wx hg => by
          rw [hR]
          exact HNX.out wx hg (k + 1) T (by omega) (by omega)
        have HGR := Hid.intro HM.out.1
        have HKK := Hid.intro hKk
        have HX4 : Hid ((fo = none → data.length = 0 ∧ fc = 0) ∧ Byt wr fo data.length (xof data) ∧ Okb data ∧ D = data.length ∧ D ≤ 4194304 ∧ sure + R ≤ D ∧ D ≤ fc) := ⟨x4, x7, hif.2.2, hD, hD22, by omega, by omega⟩
        have hqD : sure + R ≤ fc := by omega
        have HXN : Hid (fo = none → sure + R = 0 ∧ fc = 0) := fun e => by have h1 := HX4.out.1 e; have h2 := HX4.out; exact ⟨by omega, h1.2⟩
        have HXB : Hid (∀ we, Below wr.heap.size wr we → Byt we.drew.drew fo (sure + R) (xof data)) := fun we hb j hj => by
          obtain ⟨h1, b, off, e, hc⟩ := HX4.out.2.1 j (by have := HX4.out; omega)
          exact ⟨h1, b, off, e, cell_later hb.drew.drew hc⟩
        have HXL : Hid (([] : List Int).length + (sure + R) ≤ 140737488355328) := by show _ ≤ _; simp; omega
        have z0 := cell_of HM.out.2.1 1
        simp only [List.getElem?_toArray, List.getElem?_cons_succ, List.getElem?_cons_zero] at z0
        have hpw : p < wr.heap.size := block_lt_of_cell z0
        have hgl : g < wr.heap.size := block_lt_of_cell y1
        have y3 := HM.out.2.2.row.frozen (k * 2 + 1)
        have HGW : Hid (w.heap.size ≤ g) := (World.ownsRow.lt HM.out.2.2.row g rfl).1
        have ne1 : g ≠ loc i := by have h1 := HR.out.lt _ (HR.out.file i HA).fp; have h2 := HGW.out; omega
        have ne2 : g ≠ p := by have h1 := HP.out; have h2 := HGW.out; omega
        have ne3 : g ≠ wr.heap.size := by omega
        obtain ⟨GK, HG⟩ : ∃ g, Hid (g < gk ∧ k + 1 + g = n) := ⟨gk - 1, by omega, by omega⟩
        have HNE : Hid (g ≠ loc i ∧ g ≠ p ∧ g ≠ wr.heap.size) := ⟨ne1, ne2, ne3⟩
        clear hk hKk sp1 sp2 hdr hce hmk HA hds hif hfr x4 x5 x6 x7 hD hR hT hkl hiK hRl
        unfold ptr at *
        go_wp2_with fail
        obtain ⟨we, hwe⟩ : ∃ we, we = wr.alloc (.cells #[.string a, .pointer (some ⟨loc i, 0, none⟩)] 102) := ⟨_, rfl⟩
        have hbe : Below wr.heap.size wr we := by rw [hwe]; exact (Below.refl _ _).alloc (Nat.le_refl _) _
        have v1 : we.cell? ⟨wr.heap.size, 1, none⟩ = some (.pointer (some ⟨loc i, 0, none⟩)) := by rw [hwe]; simp
        have v2 := cell_later hbe x8
        have v3 := cell_later hbe x9
        have v4 := cell_later hbe z0
        have v5 := cell_later hbe y2
        have v6 : we.frozen? ⟨g, k * 2 + 1, none⟩ = false := (hbe.frozen hgl).trans y3
        have HGE : Hid (w.grownBy we (some p)) := grown_trans HGR.out (below_grown hbe _)
        rw [← hwe]
        have HBE := Hid.intro hbe
        clear hwe hbe
        go_region_held (fun w' => w'.cell? ⟨wr.heap.size, 1, none⟩ = some (.pointer (some ⟨loc i, 0, none⟩)) ∧ w'.cell? ⟨loc i, 0, none⟩ = some (.slice fo D fc) ∧ w'.cell? ⟨loc i, 1, none⟩ = some (.int .i64 (sure : Int))) (exact ⟨v1, v2, v3⟩) (first | (go_at_call 75; refine (HNK.out _ (grown_trans HGE.out (grow_drew _ _))).mono ?_; rintro e w5 ⟨rfl, rfl⟩))
        go_wp2_with fail
        go_region_held_law (fun w' => w'.cell? ⟨wr.heap.size, 1, none⟩ = some (.pointer (some ⟨loc i, 0, none⟩)) ∧ w'.cell? ⟨loc i, 0, none⟩ = some (.slice fo D fc) ∧ w'.cell? ⟨p, 1, none⟩ = some (.slice (some ⟨g, 0, none⟩) n cap)) (first | exact ⟨v1, v2, v4⟩ | exact ⟨k1, k2, k4⟩ | exact ⟨kb1 _, kb2 _, kb4 _⟩ | exact ⟨cell_set_alloc k1 ne3 _ _ _, cell_set_alloc k2 ne1 _ _ _, cell_set_alloc k4 ne2 _ _ _⟩) (first | (refine step_app rfl (.const (.slice none 0 0)) (.tmp 68) rfl we.heap.size _ [] rfl (Row.nil _ _) fo (sure + R) fc (xof data) rfl (HXN.out) (HXB.out _ HBE.out) HXL.out (Nat.le_refl _) ?_; intro o1 o2 o3 w6 hr6 hg6; have hb6 : Below we.heap.size we w6 := (Below.refl _ _).drew.drew.trans (grown_none hg6); have k1 := cell_later hb6 v1; have k2 := cell_later hb6 v2; have k4 := cell_later hb6 v4; have k5 := cell_later hb6 v5; have k6 := (hb6.frozen (p := ⟨g, k * 2 + 1, none⟩) (block_lt_of_cell v5)).trans v6; have k7 := block_lt_of_cell k5; have kb1 := fun o => cell_later ((Below.refl _ _).alloc (Nat.le_refl _) o) k1; have kb2 := fun o => cell_later ((Below.refl _ _).alloc (Nat.le_refl _) o) k2; have kb4 := fun o => cell_later ((Below.refl _ _).alloc (Nat.le_refl _) o) k4))
        go_wp2_with fail
        go_roundg GK
        case measure => exact HG.out.1
        case rel =>
          have hb6r : Below wr.heap.size wr w6 := HBE.out.trans (hb6.mono HBE.out.size)
          have hws : w.heap.size ≤ wr.heap.size := HGR.out.size
          have hrow : Row w.heap.size w6 (.slice o1 o2 o3) (fileQ σ.fl (is P pl) (a, i) k).1 := by
            rw [HQ.out]
            rw [List.nil_append, bs_take data HX4.out.2.2.1 (sure + R) (by have := HX4.out; omega)] at hr6
            exact hr6.base (by have := HBE.out.size; omega)
          have hst := (HM.out.2.2.later hb6r).step HKK.out HKN.out hrow ((sure : Int) + (R : Int)) (by rw [HQ.out]; rfl)
          rw [World.setCell_alloc_past _ _ _ _ k7] at hst
          refine ⟨k + 1, _, HG.out.2, by go_num, ⟨?_, ?_, ?_, ?_, fun b hb hn => ?_⟩, ?_, hst⟩
          · exact hb6r.os.trans HGR.out.os
          · exact hb6r.tape.trans HGR.out.tape
          · exact hb6r.output.trans HGR.out.output
          · have := hb6r.size
            simp [World.setCell]
            omega
          · rw [Below.heap_alloc _ _ _ (by have := hb6r.size; simp [World.setCell]; omega), Below.heap_setCell _ _ _ _ (show b ≠ g by have := HGW.out; omega), hb6r.block b (by omega)]
            exact HGR.out.block b hb hn
          · unfold Dk
            rw [Below.heap_alloc _ _ _ (by have := hb6r.size; simp [World.setCell]; omega), Below.heap_setCell _ _ _ _ (show p ≠ g from fun e => HNE.out.2.1 e.symm), hb6r.block p hpw]
            exact HM.out.2.1
      · have h' : (n : Int) ≤ (k : Int) := by omega
        have hkn : k = K.length := by have := HNN.out; omega
        have hcr := HM.out.2.2
        rw [hkn] at hcr
        have HCR := Hid.intro hcr
        have HDK := Hid.intro HM.out.2.1
        have HGR := Hid.intro HM.out.1
        have hmix : mixK σ.nx K K.length = renK σ.nx 0 K := by
          unfold mixK
          rw [List.take_of_length_le (by rw [renK_len]; exact Nat.le_refl _), List.drop_length, List.append_nil]
        have hrow := hcr.row
        rw [hmix] at hrow
        have k6 := rcopied_any (fun _ => True) (locM σ.nx loc M) (.slice ao n cap) (renK σ.nx 0 K) wr (hrow.dir fun _ _ _ => trivial) (by rw [renK_len, ← HNN.out]; omega)
        have c1 := cell_of HDK.out 1
        have c2 := cell_of HDK.out 2
        have c4 := cell_of HDK.out 4
        have c5 := cell_of HDK.out 5
        have c6 := cell_of HDK.out 6
        have c7 := cell_of HDK.out 7
        simp only [List.getElem?_toArray, List.getElem?_cons_succ, List.getElem?_cons_zero] at c1 c2 c4 c5 c6 c7
        have hpw : p < wr.heap.size := block_lt_of_cell c1
        have HF : Hid (∀ k, wr.frozen? ⟨p, k, none⟩ = false) := fun k => frozen_of HDK.out k
        clear hk hkn hcr hmix hrow
        go_wp2_with (go_at_call 74; refine k6.mono ?_; rintro e w2 ⟨v2, rfl, r2, b2⟩; obtain ⟨o1, o2, o3, rfl⟩ := DRow.slice r2; have d2 := cell_later b2 c2; have d4 := cell_later b2 c4; have d5 := cell_later b2 c5; have d6 := cell_later b2 c6; have d7 := cell_later b2 c7; have e2 := (b2.frozen (p := ⟨p, 2, none⟩) hpw).trans (HF.out 2); have e4 := (b2.frozen (p := ⟨p, 4, none⟩) hpw).trans (HF.out 4); have e5 := (b2.frozen (p := ⟨p, 5, none⟩) hpw).trans (HF.out 5); have e6 := (b2.frozen (p := ⟨p, 6, none⟩) hpw).trans (HF.out 6); have e7 := (b2.frozen (p := ⟨p, 7, none⟩) hpw).trans (HF.out 7); have hp2 := block_lt_of_cell d2)
        go_end0
        refine ⟨rfl, ?_⟩
        have q1 : ∀ (x : World) (j : Nat) (v : Value), p < x.heap.size → p < (x.setCell ⟨p, j, none⟩ v).heap.size := fun x j v hx => by simpa [World.setCell] using hx
        rw [← World.setCell_alloc_past _ _ _ _ (q1 _ _ _ (q1 _ _ _ (q1 _ _ _ (q1 _ _ _ hp2)))), ← World.setCell_alloc_past _ _ _ _ (q1 _ _ _ (q1 _ _ _ (q1 _ _ _ hp2))), ← World.setCell_alloc_past _ _ _ _ (q1 _ _ _ (q1 _ _ _ hp2)), ← World.setCell_alloc_past _ _ _ _ (q1 _ _ _ hp2), ← World.setCell_alloc_past _ _ _ _ hp2]
        have hdk : Dk (w2.alloc (.cells #[.slice o1 o2 o3] 53)) p σ.room (.slice ao n cap) (.slice (some ⟨gw, 0, none⟩) wl wcp) σ.c := (HDK.out.later b2).later ((Below.refl _ _).alloc (Nat.le_refl _) _)
        exact crash_end HR.out HK.out HGR.out HDK.out.ty HCR.out b2 r2 (grown_trans (grown_trans (grown_trans (grown_trans (grown_set _ _ _ _) (grown_set _ _ _ _)) (grown_set _ _ _ _)) (grown_set _ _ _ _)) (grown_set _ _ _ _)) (by simp [World.setCell]) (((((hdk.set2 _).set4 _).set5 _).set6 _).set7 _)
end Go.Proofs.YtligofmcmjblpaaGreat

/- A call, and what the document's own disk makes of it. -/
namespace Go.Proofs.YtligofmcmjblpaaGreat
open Go.RowKit
set_option linter.unusedVariables false

/-- A call's values. -/
structure CV where
  op : Int
  name : ByteArray
  other : ByteArray
  dao : Option Addr
  dlen : Nat
  dcap : Nat
  dX : Nat → Nat
  n : Int
  k : Int
  pos : Int
  pao : Option Addr
  plen : Nat
  pcap : Nat
  P : Nat → Int
def CV.cells (c : CV) : Array Value := #[.int .i64 c.op, .string c.name, .string c.other, .slice c.dao c.dlen c.dcap, .int .i64 c.n, .int .i64 c.k, .int .i64 c.pos, .slice c.pao c.plen c.pcap]
def CV.val (c : CV) : Value := .agg c.cells
structure CV.Ok (c : CV) (w : World) : Prop where
  name : c.name.size ≤ 2 ^ 63 - 1
  other : c.other.size ≤ 2 ^ 63 - 1
  byt : Byt w c.dao c.dlen c.dX
  dnil : c.dao = none → c.dlen = 0 ∧ c.dcap = 0
  dl : c.dlen ≤ 2 ^ 63 - 1
  n : -9223372036854775808 ≤ c.n ∧ c.n ≤ 9223372036854775807
  k : -9223372036854775808 ≤ c.k ∧ c.k ≤ 9223372036854775807
  pos : -9223372036854775808 ≤ c.pos ∧ c.pos ≤ 9223372036854775807
  ints : Ints w c.pao c.plen c.P
  pl : c.plen ≤ c.pcap ∧ c.pcap ≤ 2 ^ 63 - 1
/-- The call's memory is not of F. -/
structure CV.Off (c : CV) (F : Nat → Prop) : Prop where
  d : 0 < c.dlen → ∀ a, c.dao = some a → ¬ F a.block
  p : 0 < c.plen → ∀ a, c.pao = some a → ¬ F a.block
def DS.doC (σ : DS) (c : CV) : Int × DS :=
  if c.op = 0 then σ.create c.name
  else if c.op = 1 then σ.append c.name (bs c.dX c.dlen)
  else if c.op = 2 then σ.sync c.name
  else if c.op = 3 then σ.rename c.name c.other
  else if c.op = 4 then σ.remove c.name
  else if c.op = 5 then σ.syncDir
  else if c.op = 6 then (0, σ.setFuse c.n)
  else if c.op = 7 then (0, σ.setFault c.n c.k)
  else if c.op = 8 then (0, σ.crash (is c.P c.plen))
  else (if (σ.spoil c.name c.pos (c.n % 256)).1 = true then 0 else 7, (σ.spoil c.name c.pos (c.n % 256)).2)
theorem Inv.doC {σ : DS} (h : Inv σ) (hl : σ.c.calls < 1048576) (c : CV) {w : World} (hc : c.Ok w) : Inv (σ.doC c).2 := by
  unfold DS.doC
  split
  · exact h.create hl _
  · split
    · exact h.append hl _ _ (okb_bs hc.byt)
    · split
      · exact h.sync hl _
      · split
        · exact h.rename hl _ _
        · split
          · exact h.remove hl _
          · split
            · exact h.syncDir hl
            · split
              · exact h.setFuse _ hc.n.2
              · split
                · exact h.setFault _ _ hc.n.2 hc.k.2
                · split
                  · exact h.crash _
                  · exact h.spoil _ _ _ ⟨by omega, by omega⟩
theorem CV.Ok.later {c : CV} {w w' : World} (h : c.Ok w) (hb : Below w.heap.size w w') : c.Ok w' := ⟨h.name, h.other, h.byt.later hb, h.dnil, h.dl, h.n, h.k, h.pos, h.ints.later hb, h.pl⟩
theorem CV.Ok.kept {c : CV} {w w' : World} {F : Nat → Prop} (h : c.Ok w) (hk : Kept F w w') (ho : c.Off F) : c.Ok w' := ⟨h.name, h.other, h.byt.kept hk ho.d, h.dnil, h.dl, h.n, h.k, h.pos, h.ints.kept hk ho.p, h.pl⟩
theorem CV.Off.of {c : CV} {w : World} {F : Nat → Prop} (h : c.Ok w) (hF : ∀ k, F k → w.heap.size ≤ k) : c.Off F := by
  refine ⟨fun hl a e hf => ?_, fun hl a e hf => ?_⟩
  · obtain ⟨_, b, off, e', hc⟩ := h.byt 0 hl
    rw [e] at e'
    simp only [Option.some.injEq] at e'
    subst e'
    have h1 := World.block_lt_of_cell? w _ hc
    have h2 := hF _ hf
    simp only at h1 h2
    omega
  · obtain ⟨_, b, off, e', hc⟩ := h.ints 0 hl
    rw [e] at e'
    simp only [Option.some.injEq] at e'
    subst e'
    have h1 := World.block_lt_of_cell? w _ hc
    have h2 := hF _ hf
    simp only at h1 h2
    omega
theorem wrapB (n : Int) : IntKind.u8.wrap n = n % 256 := by simp [IntKind.wrap, IntKind.bits, IntKind.signed]

set_option maxHeartbeats 2000000 in
set_option maxRecDepth 100000 in
theorem model_any (p : Nat) (σ : DS) (F A : Nat → Prop) (loc : Nat → Nat) (lv wv : Value) (c : CV) (w : World) (h : RefAt w p σ F A loc lv wv) (hi : Inv σ) (hc : c.Ok w) (ho : c.Off F) (hd : c.dlen ≤ 2 ^ 47) :
    Calls Tryz.prog 9 #[ptr p, c.val] w fun e w' => e = .returned (.int .i64 (σ.doC c).1) ∧ Nxt w p (σ.doC c).2 F w' := by
  have hb : Below w.heap.size w (w.alloc (.cells c.cells 30)) := (Below.refl _ _).alloc (Nat.le_refl _) _
  have h1 := h.later hb
  have c1 := hc.later hb
  have HE : Hid (∀ {σ' : DS} {w' : World}, Nxt (w.alloc (.cells c.cells 30)) p σ' F w' → Nxt w p σ' F w') := fun x => Nxt.start hb x
  have wB := wrapB c.n
  obtain ⟨op, name, other, dao, dlen, dcap, dX, n, k, pos, pao, plen, pcap, P⟩ := c
  unfold CV.val CV.cells at *
  simp only at *
  unfold DS.doC
  simp only
  by_cases q0 : op = 0
  · rw [if_pos q0]
    subst q0
    have k1 := rcreate_any p σ F A loc lv wv name _ h1 hi c1.name
    unfold ptr at *
    clear h hi hc ho hb h1 c1 wB hd
    go_enter Tryz.func9, Tryz.ntmps9
    go_wp2_with (go_at_call 27; refine k1.mono ?_; rintro e w1 ⟨rfl, n1⟩)
    go_ret
    exact ⟨rfl, HE.out n1⟩
  rw [if_neg q0]
  by_cases q1 : op = 1
  · rw [if_pos q1]
    subst q1
    have k1 := rappend_any p σ F A loc lv wv name dao dlen dcap dX _ h1 hi c1.byt c1.dnil ho.d hd
    unfold ptr at *
    clear h hi hc ho hb h1 c1 wB hd q0
    go_enter Tryz.func9, Tryz.ntmps9
    go_wp2_with (go_at_call 28; refine k1.mono ?_; rintro e w1 ⟨rfl, n1⟩)
    go_ret
    exact ⟨rfl, HE.out n1⟩
  rw [if_neg q1]
  by_cases q2 : op = 2
  · rw [if_pos q2]
    subst q2
    have k1 := rsync_any p σ F A loc lv wv name _ h1 hi
    unfold ptr at *
    clear h hi hc ho hb h1 c1 wB hd q0 q1
    go_enter Tryz.func9, Tryz.ntmps9
    go_wp2_with (go_at_call 29; refine k1.mono ?_; rintro e w1 ⟨rfl, n1⟩)
    go_ret
    exact ⟨rfl, HE.out n1⟩
  rw [if_neg q2]
  by_cases q3 : op = 3
  · rw [if_pos q3]
    subst q3
    have k1 := rrename_any p σ F A loc lv wv name other _ h1 hi c1.other
    unfold ptr at *
    clear h hi hc ho hb h1 c1 wB hd q0 q1 q2
    go_enter Tryz.func9, Tryz.ntmps9
    go_wp2_with (go_at_call 30; refine k1.mono ?_; rintro e w1 ⟨rfl, n1⟩)
    go_ret
    exact ⟨rfl, HE.out n1⟩
  rw [if_neg q3]
  by_cases q4 : op = 4
  · rw [if_pos q4]
    subst q4
    have k1 := rremove_any p σ F A loc lv wv name _ h1 hi
    unfold ptr at *
    clear h hi hc ho hb h1 c1 wB hd q0 q1 q2 q3
    go_enter Tryz.func9, Tryz.ntmps9
    go_wp2_with (go_at_call 31; refine k1.mono ?_; rintro e w1 ⟨rfl, n1⟩)
    go_ret
    exact ⟨rfl, HE.out n1⟩
  rw [if_neg q4]
  by_cases q5 : op = 5
  · rw [if_pos q5]
    subst q5
    have k1 := rsyncDir_any p σ F A loc lv wv _ h1 hi
    unfold ptr at *
    clear h hi hc ho hb h1 c1 wB hd q0 q1 q2 q3 q4
    go_enter Tryz.func9, Tryz.ntmps9
    go_wp2_with (go_at_call 32; refine k1.mono ?_; rintro e w1 ⟨rfl, n1⟩)
    go_ret
    exact ⟨rfl, HE.out n1⟩
  rw [if_neg q5]
  by_cases q6 : op = 6
  · rw [if_pos q6]
    subst q6
    have k1 := rsetFuse_any p σ F A loc lv wv n _ h1
    unfold ptr at *
    clear h hi hc ho hb h1 c1 wB hd q0 q1 q2 q3 q4 q5
    go_enter Tryz.func9, Tryz.ntmps9
    go_wp2_with (go_at_call 33; refine k1.mono ?_; rintro e w1 ⟨rfl, n1⟩)
    go_ret
    exact ⟨rfl, HE.out n1⟩
  rw [if_neg q6]
  by_cases q7 : op = 7
  · rw [if_pos q7]
    subst q7
    have k1 := rsetFault_any p σ F A loc lv wv n k _ h1
    unfold ptr at *
    clear h hi hc ho hb h1 c1 wB hd q0 q1 q2 q3 q4 q5 q6
    go_enter Tryz.func9, Tryz.ntmps9
    go_wp2_with (go_at_call 34; refine k1.mono ?_; rintro e w1 ⟨rfl, n1⟩)
    go_ret
    exact ⟨rfl, HE.out n1⟩
  rw [if_neg q7]
  by_cases q8 : op = 8
  · rw [if_pos q8]
    subst q8
    have k1 := rcrash_any p σ F A loc lv wv pao plen pcap P _ h1 hi c1.ints ho.p (Nat.le_trans c1.pl.1 c1.pl.2)
    unfold ptr at *
    clear h hi hc ho hb h1 c1 wB hd q0 q1 q2 q3 q4 q5 q6 q7
    go_enter Tryz.func9, Tryz.ntmps9
    go_wp2_with (go_at_call 35; refine k1.mono ?_; rintro e w1 ⟨rfl, n1⟩)
    go_ret
    exact ⟨rfl, HE.out n1⟩
  rw [if_neg q8]
  have k1 := rspoil_any p σ F A loc lv wv name pos (n % 256) _ h1 hi
  have b0 : (op == 0) = false := beq_eq_false_iff_ne.2 q0
  have b1 : (op == 1) = false := beq_eq_false_iff_ne.2 q1
  have b2 : (op == 2) = false := beq_eq_false_iff_ne.2 q2
  have b3 : (op == 3) = false := beq_eq_false_iff_ne.2 q3
  have b4 : (op == 4) = false := beq_eq_false_iff_ne.2 q4
  have b5 : (op == 5) = false := beq_eq_false_iff_ne.2 q5
  have b6 : (op == 6) = false := beq_eq_false_iff_ne.2 q6
  have b7 : (op == 7) = false := beq_eq_false_iff_ne.2 q7
  have b8 : (op == 8) = false := beq_eq_false_iff_ne.2 q8
  unfold ptr at *
  clear h hi hc ho hb h1 c1 hd q0 q1 q2 q3 q4 q5 q6 q7 q8
  generalize σ.spoil name pos (n % 256) = S at k1 ⊢
  obtain ⟨B, σ'⟩ := S
  simp only at k1 ⊢
  cases B with
  | true =>
    simp only [if_true]
    go_enter Tryz.func9, Tryz.ntmps9
    go_wp2_with (go_at_call 36; refine k1.mono ?_; rintro e w1 ⟨rfl, n1⟩)
    go_ret
    exact ⟨rfl, HE.out n1⟩
  | false =>
    simp only [Bool.false_eq_true, if_false]
    go_enter Tryz.func9, Tryz.ntmps9
    go_wp2_with (go_at_call 36; refine k1.mono ?_; rintro e w1 ⟨rfl, n1⟩)
    go_ret
    exact ⟨rfl, HE.out n1⟩
end Go.Proofs.YtligofmcmjblpaaGreat
