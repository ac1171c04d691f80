import Derived.Lib.SlMapMerge
import Derived.Test.YtligofmcmjblpaaGreatPk31
/- The landed disk: the directory behind so many changes. -/
namespace Go.Proofs.YtligofmcmjblpaaGreat
open Go.RowKit Go.Maps
set_option linter.unusedVariables false
set_option linter.unusedSimpArgs false

theorem pt_last {l : List Ent} {e : Ent} (h : ∀ x ∈ l, Op.bytesLess x.1.toList e.1.toList = true) : pt l e.1 e.2 = l ++ [e] := by
  induction l with
  | nil => rfl
  | cons x r ih =>
    rw [pt, if_pos (h x (by simp)), ih fun y hy => h y (by simp [hy])]
    rfl
theorem merge_go (loc : Nat → Nat) : ∀ (l m : List Ent), Srt (m ++ l) → (l.map (dE loc)).foldl (fun D p => D.put p.1 p.2) (dD loc m) = dD loc (m ++ l)
  | [], m, _ => by simp
  | e :: r, m, h => by
    have hm : Srt m := (List.pairwise_append.1 h).1
    rw [List.map_cons, List.foldl_cons]
    have h1 : (dD loc m).put (dE loc e).1 (dE loc e).2 = dD loc (m ++ [e]) := by
      show (dD loc m).put (nm e.1) (.lit (.int .u64 (loc e.2))) = _
      rw [dD_put loc m hm, pt_last fun x hx => (List.pairwise_append.1 h).2.2 x hx e (by simp)]
    rw [h1, merge_go loc r (m ++ [e]) (by simpa using h)]
    simp
theorem merge_nil (loc : Nat → Nat) (l : List Ent) (h : Srt l) : Lib.mergeD (.map []) (dD loc l) = dD loc l := merge_go loc l [] h
/-- What lies in a map, laid into an empty one. -/
theorem mapsCopy_any (bd : Nat) (F : Nat → Prop) (loc : Nat → Nat) (v : Value) (l : List Ent) (w : World) (hd : MapL w bd loc []) (h : DirM w F loc v l) (hs : Srt l) (hl : l.length ≤ 1048577) (hne : v ≠ .map (some bd)) :
    Calls Tryz.prog 84 #[.map (some bd), v] w fun e w' => e = .returned (.tuple #[]) ∧ MapL w' bd loc l ∧ w.grownBy w' (some bd) := by
  rcases h with ⟨rfl, rfl⟩ | ⟨b, rfl, hF, hM⟩
  · refine (AnyX.maps_Copy_opt Tryz.copyM keyL fileE bd 0 none (dD loc []) .nil w hd (.inl ⟨rfl, rfl⟩) (by simp) (by simp [Maps.size, maxLen])).mono ?_
    rintro e w' ⟨he, h1, h2⟩
    exact ⟨he, MapL.exact h1, h2⟩
  · refine (AnyX.maps_Copy_opt Tryz.copyM keyL fileE bd 0 (some b) (dD loc []) (dD loc l) w hd (.inr ⟨b, l.length, rfl, hM⟩) (fun e => hne (by rw [Option.some.inj e])) (by rw [dD_size]; unfold maxLen; omega)).mono ?_
    rintro e w' ⟨he, h1, h2⟩
    have e1 : Lib.mergeD (dD loc []) (dD loc l) = dD loc l := merge_nil loc l hs
    rw [e1] at h1
    exact ⟨he, MapL.exact h1, h2⟩
theorem chC_at (loc : Nat → Nat) (ch : List Chg) (k : Nat) (c : Chg) (h : ch[k]? = some c) : (ch.flatMap (chC loc))[k * 3]? = some (.string c.gone) ∧ (ch.flatMap (chC loc))[k * 3 + 1]? = some (.string c.set) ∧ (ch.flatMap (chC loc))[k * 3 + 2]? = some (pv loc c.f) := by
  induction ch generalizing k with
  | nil => simp at h
  | cons x r ih =>
    cases k with
    | zero =>
      simp only [List.getElem?_cons_zero, Option.some.injEq] at h
      subst h
      exact ⟨rfl, rfl, rfl⟩
    | succ k =>
      have := ih k (by simpa using h)
      rw [show (k + 1) * 3 = k * 3 + 3 by omega, show k * 3 + 3 + 1 = k * 3 + 1 + 3 by omega, show k * 3 + 3 + 2 = k * 3 + 2 + 3 by omega]
      exact this
theorem ChR.shape {w : World} {F : Nat → Prop} {loc : Nat → Nat} {v : Value} {ch : List Chg} (h : ChR w F loc v ch) : (v = .slice none 0 0 ∧ ch = []) ∨ ∃ g cap, v = .slice (some ⟨g, 0, none⟩) ch.length cap ∧ g < w.heap.size ∧ ∀ k c, ch[k]? = some c → w.cell? ⟨g, k * 3, none⟩ = some (.string c.gone) ∧ w.cell? ⟨g, k * 3 + 1, none⟩ = some (.string c.set) ∧ w.cell? ⟨g, k * 3 + 2, none⟩ = some (pv loc c.f) := by
  have hcells : ∀ g, v.ownBlock = some g → _ := fun g hg => World.ownsRow.cells h.row (g := g) hg
  rcases h.row.2 with ⟨rfl, h0⟩ | ⟨g, cap, cur, rfl, hb, hgg, h1, h2, h3, h4⟩
  · exact .inl ⟨rfl, List.eq_nil_of_length_eq_zero h0⟩
  · refine .inr ⟨g, cap, rfl, (Array.getElem?_eq_some_iff.1 hgg).1, fun k c hk => ?_⟩
    obtain ⟨z1, z2, z3⟩ := chC_at loc ch k c hk
    have a1 := hcells g rfl _ _ z1
    have a2 := hcells g rfl _ _ z2
    have a3 := hcells g rfl _ _ z3
    rw [Addr.add_lit] at a1 a2 a3
    simp only [Nat.zero_add] at a1 a2 a3
    exact ⟨a1, a2, a3⟩
theorem lastD_take_succ (sd : List Ent) (ch : List Chg) (k : Nat) (c : Chg) (h : ch[k]? = some c) : lastD sd (ch.take (k + 1)) = c.ap (lastD sd (ch.take k)) := by
  have : ch.take (k + 1) = ch.take k ++ [c] := by
    rw [List.take_add_one, h]
    rfl
  rw [this, lastD_snoc]

set_option maxHeartbeats 2000000 in
set_option maxRecDepth 100000 in
theorem behind_any (p : Nat) (σ : DS) (F A : Nat → Prop) (loc : Nat → Nat) (dv : Nat → Value) (nv sv cv : Value) (sd : List Ent) (ch : List Chg) (many : Nat) (w : World) (h : LAt w p σ F A loc dv nv sv cv sd ch) (hl : ∀ l ∈ σ.was, l.length ≤ 1048577) (hcl : ch.length ≤ 1048577) (hm : many ≤ ch.length) :
    Calls Tryz.prog 65 #[ptr p, .int .i64 (many : Int)] w fun e w' => e = .returned (.map (some w.heap.size)) ∧ MapL w' w.heap.size loc (lastD sd (ch.take many)) ∧ Below w.heap.size w w' := by
  have hmm := @run_makeMap Tryz.prog
  have HG : Hid (∀ k, k ≤ ch.length → Srt (lastD sd (ch.take k)) ∧ (lastD sd (ch.take k)).length ≤ 1048577) := fun k hk => by
    have hmem : lastD sd (ch.take k) ∈ σ.was := by rw [h.was]; exact List.mem_of_getElem? (hist_get sd ch k hk)
    exact ⟨(h.gd _ hmem).srt, hl _ hmem⟩
  have hb0 : Below w.heap.size w (w.alloc (.map #[] 0)) := (Below.refl _ _).alloc (Nat.le_refl _) _
  have hx := h.later hb0
  have kc := mapsCopy_any w.heap.size F loc sv sd (w.alloc (.map #[] 0)) (MapL.exact (n := 0) (World.ownsMap_made w Tryz.prog 9 fileE)) hx.sure (HG.out 0 (Nat.zero_le _)).1 (HG.out 0 (Nat.zero_le _)).2 (fun e => by
    rcases h.sure with ⟨e2, _⟩ | ⟨b2, e2, hF, hM⟩
    · rw [e2] at e; cases e
    · rw [e2] at e
      simp only [Value.map.injEq, Option.some.injEq] at e
      have := hM.lt
      omega)
  have c2 : w.cell? ⟨p, 2, none⟩ = some sv := cell_of h.blk 2
  have c3 : w.cell? ⟨p, 3, none⟩ = some cv := cell_of h.blk 3
  have hp := h.lt p h.fp
  have HB1 : Hid (∀ w1, (w.alloc (.map #[] 0)).grownBy w1 (some w.heap.size) → Below w.heap.size w w1) := fun w1 g1 => hb0.grown g1 hb0.size fun j hj => by cases hj; exact Nat.le_refl _
  have HM64 : Hid (∀ c ∈ ch, c.gone.size ≤ 64 ∧ c.set.size ≤ 64) := h.chm
  have HC3 : Hid (∀ wx, Below w.heap.size w wx → wx.cell? ⟨p, 3, none⟩ = some cv) := fun wx hx => cell_later hx c3
  rcases ChR.shape h.chs with ⟨rfl, rfl⟩ | ⟨g, cap, rfl, hg, hcc⟩
  · obtain rfl : many = 0 := by simpa using hm
    obtain ⟨L, hL⟩ : ∃ L, L = lastD sd (([] : List Chg).take 0) := ⟨_, rfl⟩
    have HLs : Hid (L = sd) := hL
    rw [← hL]
    clear h hx HG hl hcl hm HM64 hL
    unfold ptr
    go_enter Tryz.func65, Tryz.ntmps65
    go_wp2_with fail
    refine wp_scope_jumps 0 (fun a' w' => Hid (MapL w' w.heap.size loc L ∧ Below w.heap.size w w') ∧ ∃ (u0 u1 u2 u3 u4 u6 u7 u8 u9 u10 u11 u12 u13 u14 u15 u16 u17 u18 u19 u20 u21 u22 u23 u24 u25 u26 u27 u28 u29 u30 u31 u32 : Value), a' = { tmps := #[u0, u1, u2, u3, u4, .map (some w.heap.size), u6, u7, u8, u9, u10, u11, u12, u13, u14, u15, u16, u17, u18, u19, u20, u21, u22, u23, u24, u25, u26, u27, u28, u29, u30, u31, u32], defers := [] }) (fun _ _ => 0) rfl ?_ ?_
    · go_wp2_with (first | (go_at_call 84; refine kc.mono ?_; rintro e w1 ⟨rfl, m1, g1⟩; have hb1 := HB1.out _ g1; have y3 := HC3.out _ hb1))
      refine wp_loop_rounds 1 ?_
      rw [rounds_succ]
      go_wp2_with fail
      go_step3
      go_wp2_with fail
      simp only [Exit.jump]
      refine bodyPost_ret (v := .map (some w.heap.size)) (by simp [results, Tryz.results65, go_sem]) rfl ⟨rfl, by rw [HLs.out]; exact m1, hb1⟩
    · rintro a' w' ⟨HJ, u0, u1, u2, u3, u4, u6, u7, u8, u9, u10, u11, u12, u13, u14, u15, u16, u17, u18, u19, u20, u21, u22, u23, u24, u25, u26, u27, u28, u29, u30, u31, u32, rfl⟩
      obtain ⟨j1, j2⟩ := HJ.out
      go_wp2_with fail
      simp only [Exit.jump]
      refine bodyPost_ret (v := .map (some w.heap.size)) (by simp [results, Tryz.results65, go_sem]) rfl ⟨rfl, j1, j2⟩
  · obtain ⟨L, hL⟩ : ∃ L, L = lastD sd (ch.take many) := ⟨_, rfl⟩
    have HLs : Hid (L = lastD sd (ch.take many)) := hL
    rw [← hL]
    obtain ⟨n, hn⟩ : ∃ n, n = ch.length := ⟨_, rfl⟩
    have HNL : Hid (n = ch.length ∧ n ≤ 1048577 ∧ many ≤ n) := ⟨hn, by omega, by omega⟩
    have HCC : Hid (∀ wx, Below w.heap.size w wx → ∀ k c, ch[k]? = some c → wx.cell? ⟨g, k * 3, none⟩ = some (.string c.gone) ∧ wx.cell? ⟨g, k * 3 + 1, none⟩ = some (.string c.set) ∧ wx.cell? ⟨g, k * 3 + 2, none⟩ = some (pv loc c.f)) := fun wx hx k c hk => by
      obtain ⟨a1, a2, a3⟩ := hcc k c hk
      exact ⟨cell_later hx a1, cell_later hx a2, cell_later hx a3⟩
    have HAP : Hid (∀ wx k c, k < n → ch[k]? = some c → MapL wx w.heap.size loc (lastD sd (ch.take k)) → Calls Tryz.prog 79 #[.agg #[.string c.gone, .string c.set, pv loc c.f], .map (some w.heap.size)] wx fun e w' => e = .returned (.tuple #[]) ∧ MapL w' w.heap.size loc (lastD sd (ch.take (k + 1))) ∧ wx.grownBy w' (some w.heap.size)) := fun wx k c hk hc hm => by
      obtain ⟨g1, g2⟩ := HG.out k (by omega)
      have h64 := HM64.out c (List.mem_of_getElem? hc)
      have := apply_any c loc w.heap.size _ wx hm g1 (by unfold maxLen; omega) (by unfold maxLen; omega) (by unfold maxLen; omega)
      rw [lastD_take_succ sd ch k c hc]
      exact this
    rw [← hn] at c3 HC3
    clear h hx hl hcl hm HM64 hL hcc hn
    have hml := HNL.out.2.2
    have hn2 := HNL.out.2.1
    unfold ptr
    go_enter Tryz.func65, Tryz.ntmps65
    go_wp2_with fail
    refine wp_scope_jumps 0 (fun a' w' => Hid (MapL w' w.heap.size loc L ∧ Below w.heap.size w w') ∧ ∃ (u0 u1 u2 u3 u4 u6 u7 u8 u9 u10 u11 u12 u13 u14 u15 u16 u17 u18 u19 u20 u21 u22 u23 u24 u25 u26 u27 u28 u29 u30 u31 u32 : Value), a' = { tmps := #[u0, u1, u2, u3, u4, .map (some w.heap.size), u6, u7, u8, u9, u10, u11, u12, u13, u14, u15, u16, u17, u18, u19, u20, u21, u22, u23, u24, u25, u26, u27, u28, u29, u30, u31, u32], defers := [] }) (fun _ _ => 0) rfl ?_ ?_
    · go_wp2_with (first | (go_at_call 84; refine kc.mono ?_; rintro e w1 ⟨rfl, m1, g1⟩; have hb1 := HB1.out _ g1; have y3 := HC3.out _ hb1))
      clear kc
      go_loopg [20] many (fun gk i wr => ∃ k : Nat, i = .int .i64 (k : Int) ∧ k + gk = many ∧ Hid (MapL wr w.heap.size loc (lastD sd (ch.take k)) ∧ Below w.heap.size w wr))
      case atStart => exact ⟨0, rfl, by omega, m1, hb1⟩
      case round =>
        obtain ⟨k, rfl, hk, HR⟩ := hrel
        obtain ⟨r1, r2⟩ := HR.out
        by_cases hkm : k = many
        · subst hkm
          have HJ : Hid (∀ o, MapL (wr.alloc o) w.heap.size loc L ∧ Below w.heap.size w (wr.alloc o)) := fun o => by
            rw [HLs.out]
            exact ⟨r1.same (Below.heap_alloc _ _ _ r1.lt), r2.alloc r2.size _⟩
          have HJ0 : Hid (MapL wr w.heap.size loc L ∧ Below w.heap.size w wr) := by
            show _ ∧ _
            rw [HLs.out]
            exact ⟨r1, r2⟩
          by_cases hkn : k < n
          · obtain ⟨c, hc⟩ : ∃ c, ch[k]? = some c := ⟨_, List.getElem?_eq_getElem (by rw [← HNL.out.1]; exact hkn)⟩
            obtain ⟨a1, a2, a3⟩ := HCC.out _ r2 k c hc
            have hki : (k : Int) < (n : Int) := by omega
            obtain ⟨o, ho⟩ : ∃ o, pv loc c.f = .pointer o := by cases c.f with | none => exact ⟨_, rfl⟩ | some i => exact ⟨_, rfl⟩
            rw [ho] at a3
            clear hk HR r1 r2 ho
            go_wp2_with fail
            go_step3
            exact ⟨rfl, HJ.out _, _, _, _, _, _, _, _, _, _, _, _, _, _, _, _, _, _, _, _, _, _, _, _, _, _, _, _, _, _, _, _, _, rfl⟩
          · have hki : ¬ (k : Int) < (n : Int) := by omega
            clear hk HR r1 r2
            go_wp2_with fail
            go_step3
            go_wp2_with fail
            simp only [Exit.jump]
            refine bodyPost_ret (v := .map (some w.heap.size)) (by simp [results, Tryz.results65, go_sem]) rfl ⟨rfl, HJ0.out.1, HJ0.out.2⟩
        · obtain ⟨c, hc⟩ : ∃ c, ch[k]? = some c := ⟨_, List.getElem?_eq_getElem (by rw [← HNL.out.1]; omega)⟩
          obtain ⟨a1, a2, a3⟩ := HCC.out _ r2 k c hc
          have hki : (k : Int) < (n : Int) := by omega
          have hkb : ((k : Int) == (many : Int)) = false := by simp; omega
          obtain ⟨o, ho⟩ : ∃ o, pv loc c.f = .pointer o := by cases c.f with | none => exact ⟨_, rfl⟩ | some i => exact ⟨_, rfl⟩
          have ka := HAP.out (wr.alloc (.cells #[.string c.gone, .string c.set, .pointer o] 83)) k c (by omega) hc (r1.same (Below.heap_alloc _ _ _ r1.lt))
          rw [ho] at a3 ka
          have HN : Hid (∀ w2, (wr.alloc (.cells #[.string c.gone, .string c.set, .pointer o] 83)).grownBy w2 (some w.heap.size) → Below w.heap.size w w2) := fun w2 g2 => by
            have hb2 := r2.alloc r2.size (.cells #[.string c.gone, .string c.set, .pointer o] 83)
            exact hb2.grown g2 hb2.size fun j hj => by cases hj; exact Nat.le_refl _
          obtain ⟨G, HGK⟩ : ∃ G, Hid (G < gk ∧ k + 1 + G = many) := ⟨gk - 1, by omega, by omega⟩
          clear hk HR r1 r2 ho hkm hc
          go_wp2_with (go_at_call 79; refine ka.mono ?_; rintro e w2 ⟨rfl, m2, g2⟩)
          go_roundg G
          case measure => exact HGK.out.1
          case rel => exact ⟨k + 1, by simp, HGK.out.2, m2, HN.out _ g2⟩
    · rintro a' w' ⟨HJ, u0, u1, u2, u3, u4, u6, u7, u8, u9, u10, u11, u12, u13, u14, u15, u16, u17, u18, u19, u20, u21, u22, u23, u24, u25, u26, u27, u28, u29, u30, u31, u32, rfl⟩
      obtain ⟨j1, j2⟩ := HJ.out
      go_wp2_with fail
      simp only [Exit.jump]
      refine bodyPost_ret (v := .map (some w.heap.size)) (by simp [results, Tryz.results65, go_sem]) rfl ⟨rfl, j1, j2⟩
end Go.Proofs.YtligofmcmjblpaaGreat
