import Derived.Deep.RegionHeld
import Derived.Test.YtligofmcmjblpaaGreatPk12
import Derived.Test.YtligofmcmjblpaaGreatPk13
/- What is asked of a program's disk, beside the document's own. -/
namespace Go.Proofs.YtligofmcmjblpaaGreat
open Go.RowKit
set_option linter.unusedVariables false

theorem RefAt.kept {w w' : World} {p : Nat} {σ : DS} {F A G : Nat → Prop} {loc : Nat → Nat} {lv wv : Value} (h : RefAt w p σ F A loc lv wv) (hk : Kept G w w') (hd : ∀ k, F k → ¬ G k) : RefAt w' p σ F A loc lv wv := h.same fun k hF => hk.block k (h.lt k hF) (hd k hF)
end Go.Proofs.YtligofmcmjblpaaGreat

/- What a program's disk makes of a call. -/
namespace Go.Proofs.YtligofmcmjblpaaGreat
open Go.RowKit
set_option linter.unusedVariables false

set_option maxHeartbeats 2000000 in
set_option maxRecDepth 100000 in
theorem do_any (D : PD) (p : Nat) (σ : DS) (F : Nat → Prop) (c : CV) (w : World) (h : D.R w p σ F) (hi : Inv σ) (hc : c.Ok w) (ho : c.Off F) (hd : c.dlen ≤ 2 ^ 47) :
    Calls Tryz.prog 8 #[ptr p, c.val] w fun e w' => e = .returned (.int .i64 (σ.doC c).1) ∧ Nx D.R w p (σ.doC c).2 F w' := by
  have hb : Below w.heap.size w (w.alloc (.cells c.cells 30)) := (Below.refl _ _).alloc (Nat.le_refl _) _
  have h1 := PD.later h hb
  have c1 := hc.later hb
  have HE : Hid (∀ {σ' : DS} {w' : World}, Nx D.R (w.alloc (.cells c.cells 30)) p σ' F w' → Nx D.R w p σ' F w') := fun x => Nx.start hb x
  have wB := wrapB c.n
  obtain ⟨op, name, other, dao, dlen, dcap, dX, n, k, pos, pao, plen, pcap, P⟩ := c
  unfold CV.val CV.cells at *
  simp only at *
  unfold DS.doC
  simp only
  by_cases q0 : op = 0
  · rw [if_pos q0]
    subst q0
    have k1 := D.create name h1 hi c1.name
    unfold ptr at *
    clear h hi hc ho hb h1 c1 wB hd
    go_enter Tryz.func8, Tryz.ntmps8
    go_wp2_with (go_at_call 17; refine k1.mono ?_; rintro e w1 ⟨rfl, n1⟩)
    go_ret
    exact ⟨rfl, HE.out n1⟩
  rw [if_neg q0]
  by_cases q1 : op = 1
  · rw [if_pos q1]
    subst q1
    have k1 := D.append name dao dlen dcap dX h1 hi c1.byt c1.dnil ho.d hd
    unfold ptr at *
    clear h hi hc ho hb h1 c1 wB hd q0
    go_enter Tryz.func8, Tryz.ntmps8
    go_wp2_with (go_at_call 18; refine k1.mono ?_; rintro e w1 ⟨rfl, n1⟩)
    go_ret
    exact ⟨rfl, HE.out n1⟩
  rw [if_neg q1]
  by_cases q2 : op = 2
  · rw [if_pos q2]
    subst q2
    have k1 := D.sync name h1 hi
    unfold ptr at *
    clear h hi hc ho hb h1 c1 wB hd q0 q1
    go_enter Tryz.func8, Tryz.ntmps8
    go_wp2_with (go_at_call 19; refine k1.mono ?_; rintro e w1 ⟨rfl, n1⟩)
    go_ret
    exact ⟨rfl, HE.out n1⟩
  rw [if_neg q2]
  by_cases q3 : op = 3
  · rw [if_pos q3]
    subst q3
    have k1 := D.rename name other h1 hi c1.other
    unfold ptr at *
    clear h hi hc ho hb h1 c1 wB hd q0 q1 q2
    go_enter Tryz.func8, Tryz.ntmps8
    go_wp2_with (go_at_call 20; refine k1.mono ?_; rintro e w1 ⟨rfl, n1⟩)
    go_ret
    exact ⟨rfl, HE.out n1⟩
  rw [if_neg q3]
  by_cases q4 : op = 4
  · rw [if_pos q4]
    subst q4
    have k1 := D.remove name h1 hi
    unfold ptr at *
    clear h hi hc ho hb h1 c1 wB hd q0 q1 q2 q3
    go_enter Tryz.func8, Tryz.ntmps8
    go_wp2_with (go_at_call 21; refine k1.mono ?_; rintro e w1 ⟨rfl, n1⟩)
    go_ret
    exact ⟨rfl, HE.out n1⟩
  rw [if_neg q4]
  by_cases q5 : op = 5
  · rw [if_pos q5]
    subst q5
    have k1 := D.syncDir h1 hi
    unfold ptr at *
    clear h hi hc ho hb h1 c1 wB hd q0 q1 q2 q3 q4
    go_enter Tryz.func8, Tryz.ntmps8
    go_wp2_with (go_at_call 22; refine k1.mono ?_; rintro e w1 ⟨rfl, n1⟩)
    go_ret
    exact ⟨rfl, HE.out n1⟩
  rw [if_neg q5]
  by_cases q6 : op = 6
  · rw [if_pos q6]
    subst q6
    have k1 := D.fuse n h1 hi c1.n.1 c1.n.2
    unfold ptr at *
    clear h hi hc ho hb h1 c1 wB hd q0 q1 q2 q3 q4 q5
    go_enter Tryz.func8, Tryz.ntmps8
    go_wp2_with (go_at_call 23; refine k1.mono ?_; rintro e w1 ⟨rfl, n1⟩)
    go_ret
    exact ⟨rfl, HE.out n1⟩
  rw [if_neg q6]
  by_cases q7 : op = 7
  · rw [if_pos q7]
    subst q7
    have k1 := D.fault n k h1 hi c1.n c1.k
    unfold ptr at *
    clear h hi hc ho hb h1 c1 wB hd q0 q1 q2 q3 q4 q5 q6
    go_enter Tryz.func8, Tryz.ntmps8
    go_wp2_with (go_at_call 24; refine k1.mono ?_; rintro e w1 ⟨rfl, n1⟩)
    go_ret
    exact ⟨rfl, HE.out n1⟩
  rw [if_neg q7]
  by_cases q8 : op = 8
  · rw [if_pos q8]
    subst q8
    have k1 := D.crash pao plen pcap P h1 hi c1.ints ho.p c1.pl
    unfold ptr at *
    clear h hi hc ho hb h1 c1 wB hd q0 q1 q2 q3 q4 q5 q6 q7
    go_enter Tryz.func8, Tryz.ntmps8
    go_wp2_with (go_at_call 25; refine k1.mono ?_; rintro e w1 ⟨rfl, n1⟩)
    go_ret
    exact ⟨rfl, HE.out n1⟩
  rw [if_neg q8]
  have k1 := D.spoil name pos (n % 256) h1 hi c1.pos ⟨by omega, by omega⟩
  have b0 : (op == 0) = false := beq_eq_false_iff_ne.2 q0
  have b1 : (op == 1) = false := beq_eq_false_iff_ne.2 q1
  have b2 : (op == 2) = false := beq_eq_false_iff_ne.2 q2
  have b3 : (op == 3) = false := beq_eq_false_iff_ne.2 q3
  have b4 : (op == 4) = false := beq_eq_false_iff_ne.2 q4
  have b5 : (op == 5) = false := beq_eq_false_iff_ne.2 q5
  have b6 : (op == 6) = false := beq_eq_false_iff_ne.2 q6
  have b7 : (op == 7) = false := beq_eq_false_iff_ne.2 q7
  have b8 : (op == 8) = false := beq_eq_false_iff_ne.2 q8
  unfold ptr at *
  clear h hi hc ho hb h1 c1 hd q0 q1 q2 q3 q4 q5 q6 q7 q8
  generalize σ.spoil name pos (n % 256) = S at k1 ⊢
  obtain ⟨B, σ'⟩ := S
  simp only at k1 ⊢
  cases B with
  | true =>
    simp only [if_true]
    go_enter Tryz.func8, Tryz.ntmps8
    go_wp2_with (go_at_call 26; refine k1.mono ?_; rintro e w1 ⟨rfl, n1⟩)
    go_ret
    exact ⟨rfl, HE.out n1⟩
  | false =>
    simp only [Bool.false_eq_true, if_false]
    go_enter Tryz.func8, Tryz.ntmps8
    go_wp2_with (go_at_call 26; refine k1.mono ?_; rintro e w1 ⟨rfl, n1⟩)
    go_ret
    exact ⟨rfl, HE.out n1⟩
end Go.Proofs.YtligofmcmjblpaaGreat

/- Is what is seen the same? -/
namespace Go.Proofs.YtligofmcmjblpaaGreat
open Go.RowKit
set_option linter.unusedVariables false

set_option maxHeartbeats 1000000 in
set_option maxRecDepth 100000 in
theorem same_any (u v : Value) (xs : List ByteArray) (w : World) (hu : StrsR w u xs) (hv : StrsR w v xs) (hl : xs.length ≤ 2 ^ 40) : Calls Tryz.prog 37 #[u, v] w fun e w' => e = .returned (.bool true) ∧ Below w.heap.size w w' := by
  obtain ⟨ao, cap, rfl, hc⟩ := hu
  obtain ⟨bo, bcap, rfl, hd⟩ := hv
  have HC := Hid.intro hc
  have HD := Hid.intro hd
  obtain ⟨n, hn⟩ : ∃ n, n = xs.length := ⟨_, rfl⟩
  have HN := Hid.intro hn
  have hn2 : n ≤ 2 ^ 40 := by omega
  rw [← hn]
  clear hc hd hl hn
  go_enter Tryz.func37, Tryz.ntmps37
  go_wp2_with fail
  go_loopg [13] n (fun g i wr => ∃ k : Nat, k + g = n ∧ i = .int .i64 (k : Int) ∧ Below w.heap.size w wr)
  case atStart => exact ⟨0, by omega, rfl, Below.refl _ _⟩
  case round =>
    obtain ⟨k, hk, rfl, hw⟩ := hrel
    by_cases h : k < n
    · have h' : (k : Int) < (n : Int) := by omega
      obtain ⟨s, hs⟩ : ∃ s, xs[k]? = some s := ⟨_, List.getElem?_eq_getElem (by rw [← HN.out]; exact h)⟩
      obtain ⟨b, off, rfl, x1⟩ := HC.out k s hs
      obtain ⟨b', off', rfl, x2⟩ := HD.out k s hs
      have y1 := cell_later hw x1
      have y2 := cell_later hw x2
      obtain ⟨GK, HG⟩ : ∃ g, Hid (g < gk ∧ k + 1 + g = n) := ⟨gk - 1, by omega, by omega⟩
      have HW : Hid (Below w.heap.size w wr) := hw
      clear hk x1 x2 hw hs
      go_wp2_with fail
      go_quiet (fail)
      go_wp2_with fail
      go_roundg GK
      case measure => exact HG.out.1
      case rel => exact ⟨k + 1, HG.out.2, by go_num, below_drewN HW.out _⟩
    · have h' : (n : Int) ≤ (k : Int) := by omega
      go_wp2_with fail
      go_ret
      exact ⟨rfl, hw⟩

theorem BytR.str {w : World} {v : Value} {xs : List Int} (h : BytR w v xs) : ∃ ao m c, v = .slice ao m c ∧ ∀ w', Below w.heap.size w w' → (convert 27 9 (.slice ao m c)).run Tryz.prog w' = .ok (.string (strOfNums xs)) w' := by
  obtain ⟨ao, m, c, Y, rfl, h1, h2, h3⟩ := h
  refine ⟨ao, m, c, rfl, fun w' hb => ?_⟩
  rw [← h3]
  exact run_str (h2.later hb) h1
theorem list_len {σ : DS} (hi : Inv σ) : σ.list.length ≤ 1048576 := by
  unfold DS.list
  split
  · simp
  · rw [List.length_map]
    exact hi.dn

set_option maxHeartbeats 4000000 in
set_option maxRecDepth 100000 in
theorem like_any (D : PD) (q p : Nat) (σ : DS) (F G A : Nat → Prop) (loc : Nat → Nat) (lv wv : Value) (w : World) (hq : D.R w q σ F) (hp : RefAt w p σ G A loc lv wv) (hi : Inv σ) :
    Calls Tryz.prog 10 #[ptr q, ptr p] w fun e w' => e = .returned (.bool true) ∧ Below w.heap.size w w' := by
  have HQ : Hid (∀ wx, Below w.heap.size w wx → D.R wx q σ F) := fun wx hb => PD.later hq hb
  have HP : Hid (∀ wx, Below w.heap.size w wx → RefAt wx p σ G A loc lv wv) := fun wx hb => hp.later hb
  have HI := Hid.intro hi
  have c3 := cell_of hp.blk 3
  have c7 := cell_of hp.blk 7
  simp only [List.getElem?_toArray, List.getElem?_cons_succ, List.getElem?_cons_zero] at c3 c7
  have kL := fun wx (hb : Below w.heap.size w wx) => D.list (HQ.out wx hb) hi
  have kM := fun wx (hb : Below w.heap.size w wx) => rlist_any p σ G A loc lv wv wx (HP.out wx hb) hi
  have kU := fun wx (hb : Below w.heap.size w wx) => D.used (HQ.out wx hb) hi
  have kV := fun wx (hb : Below w.heap.size w wx) => rused_any p σ G A loc lv wv wx (HP.out wx hb) hi.dn hi.fls
  have kC := fun wx (hb : Below w.heap.size w wx) => D.calls (HQ.out wx hb) hi
  have kO := fun wx (hb : Below w.heap.size w wx) => D.down (HQ.out wx hb) hi
  have HLL := Hid.intro (list_len hi)
  unfold ptr at *
  clear hq hp hi
  go_enter Tryz.func10, Tryz.ntmps10
  go_upto_region 1 with fail
  go_cut [41] from 11 to 41 (fun s41 wx => s41 = .bool false ∧ Hid (Below w.heap.size w wx))
  case first =>
    go_region_held (fun w' => w'.cell? ⟨p, 3, none⟩ = some (.int .i64 σ.c.calls) ∧ w'.cell? ⟨p, 7, none⟩ = some (.bool σ.c.off)) (first | exact ⟨c3, c7⟩ | exact ⟨cell_later B7 c3, cell_later B7 c7⟩ | exact ⟨cell_later B6 c3, cell_later B6 c7⟩ | exact ⟨cell_later B5 c3, cell_later B5 c7⟩ | exact ⟨cell_later B4 c3, cell_later B4 c7⟩ | exact ⟨cell_later B3 c3, cell_later B3 c7⟩ | exact ⟨cell_later B2 c3, cell_later B2 c7⟩ | exact ⟨cell_later B1 c3, cell_later B1 c7⟩) (first | (go_at_call 38; refine (kL _ (Below.refl _ _).drew).mono ?_; rintro e w1 ⟨v1, rfl, s1, b1⟩; have B1 : Below w.heap.size w w1 := (Below.refl _ _).drew.trans b1) | (go_at_call 39; refine (kM _ B1).mono ?_; rintro e w2 ⟨v2, rfl, s2, b2⟩; have B2 : Below w.heap.size w w2 := B1.trans (b2.mono B1.size)) | (go_at_call 37; refine (same_any _ _ _ _ (s1.later b2) s2.strs (Nat.le_trans HLL.out (by decide))).mono ?_; rintro e w3 ⟨rfl, b3⟩; have B3 : Below w.heap.size w w3 := B2.trans (b3.mono B2.size)) | (go_at_call 40; refine (kU _ B3).mono ?_; rintro e w4 ⟨rfl, b4⟩; have B4 : Below w.heap.size w w4 := B3.trans (b4.mono B3.size)) | (go_at_call 41; refine (kV _ B4).mono ?_; rintro e w5 ⟨rfl, b5⟩; have B5 : Below w.heap.size w w5 := B4.trans (b5.mono B4.size)) | (go_at_call 42; refine (kC _ B5).mono ?_; rintro e w6 ⟨rfl, b6⟩; have B6 : Below w.heap.size w w6 := B5.trans (b6.mono B5.size)) | (go_at_call 43; refine (kO _ B6).mono ?_; rintro e w7 ⟨rfl, b7⟩; have B7 : Below w.heap.size w w7 := B6.trans (b7.mono B6.size)))
    all_goals
      go_wp2_with fail
      go_meet
      exact ⟨rfl, B7⟩
  case rest =>
    obtain ⟨rfl, hcut⟩ := hcut
    have HB := Hid.intro hcut
    have kM2 := kM _ hcut.out
    have HRR : Hid (∀ wx, Below w.heap.size w wx → ∀ s, Calls Tryz.prog 44 #[.pointer (some ⟨q, 0, none⟩), .string s] wx fun e w' => ∃ v, e = .returned (.tuple #[v, .int .i64 (σ.read s).2]) ∧ BytR w' v ((σ.read s).1.getD []) ∧ Below wx.heap.size wx w') := fun wx hb s => D.read s (HQ.out wx hb) HI.out
    have HRM : Hid (∀ wx, Below w.heap.size w wx → ∀ s, Calls Tryz.prog 15 #[.pointer (some ⟨p, 0, none⟩), .string s] wx fun e w' => ∃ v, e = .returned (.tuple #[v, .int .i64 (σ.read s).2]) ∧ Row wx.heap.size w' v ((σ.read s).1.getD []) ∧ Below wx.heap.size wx w') := fun wx hb s => rread_any p σ G A loc lv wv s wx (HP.out wx hb) HI.out
    have HOK : Hid (∀ s, Okb ((σ.read s).1.getD [])) := fun s => (read_ok HI.out s).1
    clear kL kM kU kV kC kO hcut
    go_wp2_with (go_at_call 39; refine kM2.mono ?_; rintro e w2 ⟨v2, rfl, s2, b2⟩; obtain ⟨ao, cap, rfl, hce⟩ := s2.strs; have HCE := Hid.intro hce; clear hce)
    obtain ⟨n, hn⟩ : ∃ n, n = σ.list.length := ⟨_, rfl⟩
    have HN := Hid.intro hn
    have hn2 : n ≤ 2 ^ 40 := by rw [hn]; exact Nat.le_trans HLL.out (by decide)
    rw [← hn]
    have hb2 : Below w.heap.size w w2 := HB.out.out.trans (b2.mono HB.out.out.size)
    clear hn
    go_loopg [45] n (fun g i wr => ∃ k : Nat, k + g = n ∧ i = .int .i64 (k : Int) ∧ Below w2.heap.size w2 wr)
    case atStart => exact ⟨0, by omega, rfl, Below.refl _ _⟩
    case round =>
      obtain ⟨k, hk, rfl, hw⟩ := hrel
      by_cases h : k < n
      · have h' : (k : Int) < (n : Int) := by omega
        obtain ⟨s, hs⟩ : ∃ s, σ.list[k]? = some s := ⟨_, List.getElem?_eq_getElem (by rw [← HN.out]; exact h)⟩
        obtain ⟨b, off, rfl, x1⟩ := HCE.out k s hs
        have y1 := cell_later hw x1
        have hwr : Below w.heap.size w wr := hb2.trans (hw.mono hb2.size)
        have k1 := HRR.out wr hwr s
        have HR2 : Hid (∀ wx, Below w.heap.size w wx → Calls Tryz.prog 15 #[.pointer (some ⟨p, 0, none⟩), .string s] wx fun e w' => ∃ v, e = .returned (.tuple #[v, .int .i64 (σ.read s).2]) ∧ Row wx.heap.size w' v ((σ.read s).1.getD []) ∧ Below wx.heap.size wx w') := fun wx hb => HRM.out wx hb s
        have HO := Hid.intro (HOK.out s)
        generalize (σ.read s).2 = E at k1 HR2
        generalize (σ.read s).1.getD [] = xs at k1 HR2 HO
        obtain ⟨GK, HG⟩ : ∃ g, Hid (g < gk ∧ k + 1 + g = n) := ⟨gk - 1, by omega, by omega⟩
        have HW := Hid.intro hw
        have HWR := Hid.intro hwr
        clear hk x1 hw hs hwr
        go_wp2_with (first | (go_at_call 44; refine k1.mono ?_; rintro e w3 ⟨v3, rfl, s3, b3⟩; obtain ⟨o1, o2, o3, rfl, t3⟩ := s3.str; have HB3 := Hid.intro b3) | (go_at_call 15; refine (HR2.out _ (HWR.out.trans (HB3.out.mono HWR.out.size))).mono ?_; rintro e w4 ⟨v4, rfl, s4, b4⟩; obtain ⟨p1, p2, p3, rfl, t4⟩ := (s4.bytR HO.out).str; have u3 := t3 _ b4; have u4 := t4 _ (Below.refl _ _); have HB4 := Hid.intro b4))
        go_roundg GK
        case measure => exact HG.out.1
        case rel =>
          have h3 : Below w2.heap.size w2 w3 := HW.out.trans (HB3.out.mono HW.out.size)
          exact ⟨k + 1, HG.out.2, by go_num, h3.trans (HB4.out.mono h3.size)⟩
      · have h' : (n : Int) ≤ (k : Int) := by omega
        go_wp2_with fail
        go_ret
        exact ⟨rfl, hb2.trans (hw.mono hb2.size)⟩
end Go.Proofs.YtligofmcmjblpaaGreat
