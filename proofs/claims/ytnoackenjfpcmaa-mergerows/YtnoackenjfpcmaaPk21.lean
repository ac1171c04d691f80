import Derived.Deep.RegionHeldLaw
import Derived.Test.YtnoackenjfpcmaaPk10
import Derived.Test.YtnoackenjfpcmaaPk15
import Derived.Test.YtnoackenjfpcmaaPk16
import Derived.Test.YtnoackenjfpcmaaPk20
/- The landed merge: rows are put together. -/
namespace Go.Proofs.Ytnoackenjfpcmaa
open Go.RowKit
set_option linter.unusedVariables false
set_option linter.unusedSimpArgs false

def slen (v : Value) : Nat := match v with | .slice _ n _ => n | _ => 0
theorem slen_mk (a : Option Addr) (n c : Nat) : slen (.slice a n c) = n := rfl
theorem RowF.isl {α : Type} {E : El α} {B : Nat} {F : Nat → Prop} {w : World} {v : Value} {xs : List α} (h : RowF E B F w v xs) : ∃ a c, v = .slice a xs.length c := by
  obtain ⟨a, c, e, _⟩ := h.rsg
  exact ⟨a, c, e⟩
theorem mk_below {w w' : World} (h : w.grownBy w' none) : Below w.heap.size w w' := ⟨h.os, h.tape, h.output, h.size, fun k hk => h.block k hk (by simp)⟩
set_option maxHeartbeats 8000000 in
set_option maxRecDepth 100000 in
theorem merged_t {w : World} {ao : Option Addr} {n cap tot : Nat} {rs : List (List EntV)} (h : ErRow w ao n cap rs) (hn : n ≤ 64) (ho : ∀ l ∈ rs, ordE l) (ht : (rs.map List.length).sum = tot) (ht2 : tot ≤ 40000) (hs : ∀ l ∈ rs, ∀ e ∈ l, e.key.length ≤ 1000000 ∧ e.val.length ≤ 1000000) :
    Calls Try.prog 26 #[.slice ao n cap, .int .i64 (tot : Int)] w fun r w' => ∃ v, r = .returned v ∧ RowS entE w.heap.size w' v (mrgE rs) ∧ Below w.heap.size w w' := by
  have H0 := hidM h
  have HS : Hid ((∀ l ∈ rs, ordE l) ∧ (rs.map List.length).sum = tot ∧ tot ≤ 40000 ∧ (∀ l ∈ rs, ∀ e ∈ l, e.key.length ≤ 1000000 ∧ e.val.length ≤ 1000000) ∧ n ≤ 64) := ⟨ho, ht, ht2, hs, hn⟩
  have mixed : Try.prog.follows .mixedOrders = true := by kernel_rfl
  have ht3 : tot ≤ 2 ^ 20 := by omega
  obtain ⟨i0, hi0, hz0, hs0, hb0⟩ := info_parts entE_info
  have HI : Hid (Try.prog.info? 35 = some i0 ∧ i0.size = 5 ∧ i0.bytes * tot ≤ 281474976710656) := ⟨hi0, hs0, by rw [hb0]; omega⟩
  have HZ := hidM hz0
  clear h hn ho ht ht2 hs hi0 hz0 hs0 hb0
  go_enter Try.func26, Try.ntmps26
  go_wp2_with fail
  refine scope_back 0 (fun a' wr => ∃ (g : Nat) (v : Value) (ha : Option Addr) (hc N : Nat) (dn : List EntV) (H : List HpV), Hid (MG w rs g wr v dn H ∧ H.length = N ∧ N ≤ hc ∧ hc ≤ maxLen ∧ (H ≠ [] → ha = some ⟨g, 0, none⟩ ∧ w.heap.size ≤ g ∧ g < wr.heap.size ∧ HpAt wr g H)) ∧ ∃ (u2 u3 u4 u7 u8 u9 u10 u11 u12 u13 u14 u15 u16 u17 u18 u19 u20 u21 u22 u23 u24 u25 u26 u27 u28 u29 u30 u31 u32 u33 u34 u35 u36 u37 u38 u39 u40 u41 u42 u43 u44 u45 u46 u47 u48 u49 u50 u51 u52 u53 u54 u55 u56 : Value), a' = { tmps := #[.slice ao n cap, .int .i64 (tot : Int), u2, u3, u4, v, .slice ha N hc, u7, u8, u9, u10, u11, u12, u13, u14, u15, u16, u17, u18, u19, u20, u21, u22, u23, u24, u25, u26, u27, u28, u29, u30, u31, u32, u33, u34, u35, u36, u37, u38, u39, u40, u41, u42, u43, u44, u45, u46, u47, u48, u49, u50, u51, u52, u53, u54, u55, u56], defers := [] }) (fun a _ => tot - slen (a.eval (.tmp 5))) rfl ?_ ?_
  rotate_left
  · intro pass
    go_wp2_with (first | (at_make; refine wpList_make_own w rfl (.const _) (.tmp 8) 27 rfl w.heap.size 35 i0 _ 5 Try.underlying27 HI.out.1 HZ.out HI.out.2.1 .i64 .i64 _ tot rfl rfl rfl HI.out.2.2 (by unfold maxLen; omega) (Nat.le_refl _) ?_; intro w1 hown hg1; have HO : Hid (w1.ownsRow w.heap.size 35 5 (.slice (some ⟨w.heap.size, 0, none⟩) 0 tot) 0 [] ∧ Below w.heap.size w w1) := ⟨hown, mk_below hg1⟩; clear hown hg1) | (go_at_call 32; refine (heaped_t H0.out HO.out.2 HS.out.2.2.2.2).mono ?_; rintro r w2 ⟨its, ha, hc, rfl, hh⟩; have HH := hidM hh; clear hh))
    refine wp_label ?_
    rename_i hk
    refine hk _ _ ?_
    obtain ⟨h1, h2, h3, h4, h5, h6, h7, h8, h9⟩ := HH.out
    have hv : w.heap.size < w1.heap.size := (World.ownsRow.lt HO.out.1 w.heap.size rfl).2
    have hmg : ∀ g, g ≠ w.heap.size → MG w rs g w2 (.slice (some ⟨w.heap.size, 0, none⟩) 0 tot) [] its := fun g hg => by
      refine ⟨RowF.later (w := w1) ⟨[], HO.out.1, rfl, (fun u hu => by cases hu), fun u hu => by cases hu⟩ h6, fun e => hg (by simpa [Value.ownBlock] using e.symm), h3, h4, fun x hx => HS.out.1 _ (h8 x hx), fun x hx => HS.out.2.2.2.1 _ (h8 x hx), ⟨mrgT rs, mrgT_srt HS.out.1, (mrgT_perm rs).trans h5.symm, rfl⟩, HO.out.2.trans (h6.mono HO.out.2.size), h7⟩
    by_cases hi : its = []
    · exact pass _ _ ⟨w.heap.size + 1, _, ha, hc, its.length, [], its, ⟨hmg _ (by omega), rfl, h1, h2, fun q => absurd hi q⟩, _, _, _, _, _, _, _, _, _, _, _, _, _, _, _, _, _, _, _, _, _, _, _, _, _, _, _, _, _, _, _, _, _, _, _, _, _, _, _, _, _, _, _, _, _, _, _, _, _, _, _, _, _, rfl⟩
    · obtain ⟨g, q1, q2, q3, q4⟩ := h9 hi
      exact pass _ _ ⟨g, _, ha, hc, its.length, [], its, ⟨hmg g (by omega), rfl, h1, h2, fun _ => ⟨q1, by omega, q3, q4⟩⟩, _, _, _, _, _, _, _, _, _, _, _, _, _, _, _, _, _, _, _, _, _, _, _, _, _, _, _, _, _, _, _, _, _, _, _, _, _, _, _, _, _, _, _, _, _, _, _, _, _, _, _, _, _, rfl⟩
  · rintro a1 wr ⟨g, v, ha, hc, N, dn, H, HK, u2, u3, u4, u7, u8, u9, u10, u11, u12, u13, u14, u15, u16, u17, u18, u19, u20, u21, u22, u23, u24, u25, u26, u27, u28, u29, u30, u31, u32, u33, u34, u35, u36, u37, u38, u39, u40, u41, u42, u43, u44, u45, u46, u47, u48, u49, u50, u51, u52, u53, u54, u55, u56, rfl⟩
    obtain ⟨oa, oc, hv⟩ := HK.out.1.row.isl
    obtain ⟨dl, hdl⟩ : ∃ d, d = dn.length := ⟨_, rfl⟩
    rw [← hdl] at hv
    subst hv
    have HDL := hidM hdl
    clear hdl
    by_cases hH : H = []
    · subst hH
      have hN : N = 0 := HK.out.2.1.symm
      subst hN
      go_wp2_with fail
      simp only [Exit.jump]
      refine bodyPost_ret (v := .slice oa dl oc) (by simp [results, Try.results26, go_sem]) rfl ⟨_, rfl, ?_, HK.out.1.bel⟩
      have := HK.out.1.row.s
      rwa [HK.out.1.end] at this
    · obtain ⟨x, H2, rfl⟩ : ∃ x H2, H = x :: H2 := by cases H with | nil => exact absurd rfl hH | cons x H2 => exact ⟨x, H2, rfl⟩
      obtain ⟨rfl, hwg, hgr, hat⟩ := HK.out.2.2.2.2 hH
      obtain ⟨m, rfl⟩ : ∃ m, N = m + 1 := ⟨H2.length, HK.out.2.1.symm⟩
      have hx := HK.out.1.its x (List.mem_cons_self ..)
      obtain ⟨e, q, hl⟩ : ∃ e q, x.l = e :: q := by cases hxl : x.l with | nil => exact absurd hxl hx.2 | cons e q => exact ⟨e, q, rfl⟩
      obtain ⟨b, off, ka, kc, va, vc, hxa, d0, d1, d2, d3, d4, s1, s2, i1, i2⟩ := RS.ent (hx.1.1.later HK.out.1.bel) (i := 0) (o := e) (by rw [hl]; rfl)
      rw [Nat.zero_mul, Nat.add_zero] at d0 d1 d2 d3 d4
      have hsm := HK.out.1.sml x (List.mem_cons_self ..) e (by rw [hl]; exact List.mem_cons_self ..)
      have HCP : Hid (Calls Try.prog 30 #[.agg #[.slice ka e.key.length kc, .int .i64 e.seq, .bool e.gone, .int .i64 e.till, .slice va e.val.length vc]] wr fun r w' => ∃ ka' kc' va' vc', r = .returned (.agg #[.slice ka' e.key.length kc', .int .i64 e.seq, .bool e.gone, .int .i64 e.till, .slice va' e.val.length vc']) ∧ Sl w' ka' e.key.length kc' e.key ∧ Sl w' va' e.val.length vc' e.val ∧ (∀ b, Refs (.slice ka' e.key.length kc') b → wr.heap.size ≤ b) ∧ (∀ b, Refs (.slice va' e.val.length vc') b → wr.heap.size ≤ b) ∧ Below wr.heap.size wr w') := by
        have := copied_t s1 s2 hsm.1 hsm.2
        unfold entA at this
        exact this
      have HAPP : Hid (∀ w5 ka va kc vc, (Sl w5 ka e.key.length kc e.key ∧ Sl w5 va e.val.length vc e.val ∧ (∀ b, Refs (.slice ka e.key.length kc) b → wr.heap.size ≤ b) ∧ (∀ b, Refs (.slice va e.val.length vc) b → wr.heap.size ≤ b) ∧ Below wr.heap.size wr w5) →
          RowF entE w.heap.size (fun b => w.heap.size ≤ b ∧ b ≠ g) (w5.alloc (.cells #[.slice ka e.key.length kc, .int .i64 e.seq, .bool e.gone, .int .i64 e.till, .slice va e.val.length vc] 35)) (.slice oa dl oc) dn ∧
          RSu entE (w5.alloc (.cells #[.slice ka e.key.length kc, .int .i64 e.seq, .bool e.gone, .int .i64 e.till, .slice va e.val.length vc] 35)) (some ⟨w5.heap.size, 0, none⟩) 1 1 [.slice ka e.key.length kc, .int .i64 e.seq, .bool e.gone, .int .i64 e.till, .slice va e.val.length vc] [e] ∧
          (∀ u ∈ [Value.slice ka e.key.length kc, .int .i64 e.seq, .bool e.gone, .int .i64 e.till, .slice va e.val.length vc], ∀ b, Refs u b → (Value.slice oa dl oc).ownBlock ≠ some b) ∧
          (∀ u ∈ [Value.slice ka e.key.length kc, .int .i64 e.seq, .bool e.gone, .int .i64 e.till, .slice va e.val.length vc], ∀ b, Refs u b → w.heap.size ≤ b ∧ b ≠ g) ∧
          Below wr.heap.size wr (w5.alloc (.cells #[.slice ka e.key.length kc, .int .i64 e.seq, .bool e.gone, .int .i64 e.till, .slice va e.val.length vc] 35))) := fun w5 ka va kc vc h5 => HK.out.1.app hgr i1 i2 h5
      have HCT : Hid (dn.length + 1 ≤ tot ∧ tot ≤ 40000 ∧ w.heap.size ≤ wr.heap.size ∧ m ≤ 63 ∧ w.heap.size ≤ g) := ⟨by have := HK.out.1.cnt; have := HS.out.2.1; rw [hl, List.length_cons] at *; omega, HS.out.2.2.1, HK.out.1.bel.size, by have := HK.out.1.len; have := HK.out.2.1; omega, hwg⟩
      have hta := RS.tailE hx.1.1 (by rw [hl]; simp)
      rw [hl] at hta
      have hcut := fun w => run_fromE w x.la x.l.length x.lc 1 (by rw [hl]; simp) hx.1.1.len.2.1
      have c0 := (hat 0 x rfl).1.1
      have c1 := (hat 0 x rfl).1.2
      rw [Nat.zero_mul] at c0 c1
      rw [hl] at c0 hcut
      rw [hxa] at c0 hcut hta
      have hmc : m + 1 ≤ hc := HK.out.2.2.1
      have HX := hidM (And.intro hx (And.intro hl hxa))
      have HTA := hidM hta
      obtain ⟨k, hk⟩ : ∃ k, k = q.length := ⟨_, rfl⟩
      have HKL := hidM hk
      have e1 : (e :: q).length = k + 1 := by rw [hk]; rfl
      rw [e1] at c0 hcut
      have hcut' : ∀ w, (Instr.slice 27 (.slice (some ⟨b, off, none⟩) (k + 1) x.lc) (some (.int .i64 (1 : Int))) none none).run Try.prog w = .ok (.slice (cutS (some ⟨b, off, none⟩) x.lc 1 5) k (x.lc - 1)) w := fun w => by
        have := hcut w
        simpa using this
      have HTA2 : Hid (RS entE w (cutS (some ⟨b, off, none⟩) x.lc 1 5) k (x.lc - 1) q) := by
        show RS entE w _ k _ q
        have := HTA.out
        rw [e1] at this
        simpa using this
      have hk62 : k ≤ 2 ^ 60 := by have := HK.out.1.cnt; have := HS.out.2.1; have := HCT.out; rw [hl, e1] at *; omega
      have hm62 : m ≤ 2 ^ 60 := by have := HCT.out; omega
      have hdl62 : dl ≤ 2 ^ 60 := by have := HCT.out; have := HDL.out; omega
      generalize cutS (some ⟨b, off, none⟩) x.lc 1 5 = ca at hcut' HTA2
      obtain ⟨xc1, hxc1⟩ : ∃ c, c = x.lc - 1 := ⟨_, rfl⟩
      rw [← hxc1] at hcut' HTA2
      obtain ⟨xc, hxc⟩ : ∃ c, c = x.lc := ⟨_, rfl⟩
      rw [← hxc] at hcut' c0
      obtain ⟨xr, hxr⟩ : ∃ r, r = x.row := ⟨_, rfl⟩
      have HXR := hidM hxr
      rw [← hxr] at c1
      generalize e.key.length = kl at d0 HCP HAPP
      generalize e.val.length = vl at d4 HCP HAPP
      generalize e.seq = sq at d1 HCP HAPP
      generalize e.gone = gn at d2 HCP HAPP
      generalize e.till = tl at d3 HCP HAPP
      have HPUT : Hid (∀ w6 w9 v9, Below wr.heap.size wr w6 → RowF entE w.heap.size (fun b => w.heap.size ≤ b ∧ b ≠ g) w9 v9 (dn ++ [e]) → w6.grownBy w9 (Value.slice oa dl oc).ownBlock → Moved w6 (.slice oa dl oc) v9 → (HpAt w9 g (x :: H2) ∧ v9.ownBlock ≠ some g ∧ Below w.heap.size w w9 ∧ g < w9.heap.size) ∧ w9.cell? ⟨g, 0, none⟩ = some (.slice (some ⟨b, off, none⟩) (k + 1) xc) ∧ w9.cell? ⟨g, 1, none⟩ = some (.int .i64 xr) ∧ w9.frozen? ⟨g, 0, none⟩ = false ∧ w9.frozen? ⟨g, 1, none⟩ = false) := fun w6 w9 v9 hb r9 g9 m9 => by
        have hh := HK.out.1.put hgr hat hwg hb r9 g9 m9
        obtain ⟨⟨a0, a1⟩, a2, a3⟩ := hh.1 0 x rfl
        rw [Nat.zero_mul] at a0 a1 a2 a3
        rw [hl, hxa, e1, ← hxc] at a0
        rw [← hxr] at a1
        exact ⟨hh, a0, a1, a2, a3⟩
      clear hta hcut hx hl hxa s1 s2 i1 i2 hsm hat hk e1 hxc1 hxc hxr HTA hH
      have HQ : Hid (HpIts w (x :: H2) ∧ (∀ y ∈ x :: H2, ordE y.l) ∧ (∀ y ∈ x :: H2, ∀ z ∈ y.l, z.key.length ≤ 1000000 ∧ z.val.length ≤ 1000000) ∧ (x :: H2).length ≤ 64 ∧ H2.length = m) := ⟨HK.out.1.its, HK.out.1.ord, HK.out.1.sml, HK.out.1.len, by have := HK.out.2.1; simpa using this⟩
      by_cases qk : k = 0
      · subst qk
        go_upto_region 9 with (first | (go_at_call 30; refine HCP.out.mono ?_; rintro r w5 ⟨ka', kc', va', vc', rfl, hs5⟩; have HS5 := hidM hs5; clear hs5) | (at_builtin; refine wpList_appF entE (t := 27) (z := .agg #[.slice none 0 0, .int .i64 0, .bool false, .int .i64 0, .slice none 0 0]) (bytes := 72) Try.underlying27 entE_info rfl (by decide) rfl (.tmp 18) (.tmp 26) rfl rfl (HAPP.out _ _ _ _ _ HS5.out).1 rfl (HAPP.out _ _ _ _ _ HS5.out).2.1 (HAPP.out _ _ _ _ _ HS5.out).2.2.1 (HAPP.out _ _ _ _ _ HS5.out).2.2.2.1 (by have := HCT.out; omega) (by have := HCT.out; omega) (Nat.le_trans HCT.out.2.2.1 (HAPP.out _ _ _ _ _ HS5.out).2.2.2.2.size) ?_; intro v9 w9 r9 g9 m9; have hp9 := HPUT.out _ _ _ (HAPP.out _ _ _ _ _ HS5.out).2.2.2.2 r9 g9 m9; have HR9 := hidM (And.intro r9 hp9.1); obtain ⟨-, q0, q1, q2, q3⟩ := hp9; clear r9 g9 m9))
        obtain ⟨hl, hxa⟩ := HX.out.2
        have hq0 : q = [] := List.eq_nil_of_length_eq_zero HKL.out.symm
        subst hq0
        have hat9 : HpAt (w9.setCell ⟨g, 0, none⟩ (.slice ca 0 xc1)) g (⟨[], x.row, ca, xc1⟩ :: H2) := HR9.out.2.1.set0 (x := x) rfl [] ca xc1
        obtain ⟨y, hy⟩ : ∃ y, ((⟨[], x.row, ca, xc1⟩ : HpV) :: H2)[m]? = some y := ⟨_, List.getElem?_eq_getElem (by rw [List.length_cons, HQ.out.2.2.2.2]; omega)⟩
        have hlt := last_turn (x' := ⟨[], x.row, ca, xc1⟩) (y := y) (H2 := H2) (N := m + 1) (by rw [List.length_cons, HQ.out.2.2.2.2]) hy
        rw [Nat.add_sub_cancel] at hlt
        have hg9 : w9.grownBy (w9.setCell ⟨g, 0, none⟩ (.slice ca 0 xc1)) (some g) := hp_gset _ _ _ _
        have t0 : (w9.setCell ⟨g, 0, none⟩ (.slice ca 0 xc1)).cell? ⟨g, 0, none⟩ = some (.slice ca 0 xc1) := by rw [hp_css _ _ _ _ q0]
        have t1 : (w9.setCell ⟨g, 0, none⟩ (.slice ca 0 xc1)).cell? ⟨g, 1, none⟩ = some (.int .i64 xr) := by rw [hp_cso _ _ _ _ _ (by omega), q1]
        have t2 : (w9.setCell ⟨g, 0, none⟩ (.slice ca 0 xc1)).frozen? ⟨g, 0, none⟩ = false := by rw [World.frozen?_setCell, q2]
        have t3 : (w9.setCell ⟨g, 0, none⟩ (.slice ca 0 xc1)).frozen? ⟨g, 1, none⟩ = false := by rw [World.frozen?_setCell, q3]
        generalize w9.setCell ⟨g, 0, none⟩ (.slice ca 0 xc1) = W9 at hat9 hg9 t0 t1 t2 t3 ⊢
        obtain ⟨⟨y0, y1⟩, -, -⟩ := hat9 m y hy
        have hput := hat9.put (i := 0) (x := ⟨[], x.row, ca, xc1⟩) rfl y
        rw [Nat.zero_mul, Nat.zero_add] at hput
        have hg10 : w9.grownBy ((W9.setCell ⟨g, 0, none⟩ (.slice y.la y.l.length y.lc)).setCell ⟨g, 1, none⟩ (.int .i64 y.row)) (some g) := (hg9.trans (hp_gset _ _ _ _)).trans (hp_gset _ _ _ _)
        have hb10 : Below w.heap.size w ((W9.setCell ⟨g, 0, none⟩ (.slice y.la y.l.length y.lc)).setCell ⟨g, 1, none⟩ (.int .i64 y.row)) := HR9.out.2.2.2.1.grown hg10 HR9.out.2.2.2.1.size (fun z hz => by have := HCT.out; simp only [Option.some.injEq] at hz; omega)
        have hi3 : HpIts w ((((⟨[], x.row, ca, xc1⟩ : HpV) :: H2).set 0 y).take m) := fun z hz => HQ.out.1 z (List.mem_cons_of_mem _ (hlt.1.mem_iff.1 hz))
        have hp3 : Hp ((((⟨[], x.row, ca, xc1⟩ : HpV) :: H2).set 0 y).take m) 0 := HK.out.1.hp.start fun i h0 hi => by
          rw [hlt.2 i h0 hi]
          obtain ⟨j, rfl⟩ : ∃ j, i = j + 1 := ⟨i - 1, by omega⟩
          rw [List.getElem?_cons_succ, List.getElem?_cons_succ]
        have hs := sink_t (cap := hc) (n := m) (by rw [hlt.1.length_eq]; exact HQ.out.2.2.2.2) (hput.take m) hi3 hp3 hb10 HCT.out.2.2.2.2 (Nat.lt_of_lt_of_le HR9.out.2.2.2.2 hg10.size) (by have := HCT.out; omega) (by omega)
        have HN : Hid (∀ wy H4, H4.Perm ((((⟨[], x.row, ca, xc1⟩ : HpV) :: H2).set 0 y).take m) → HpF H4 → ((W9.setCell ⟨g, 0, none⟩ (.slice y.la y.l.length y.lc)).setCell ⟨g, 1, none⟩ (.int .i64 y.row)).grownBy wy (some g) → MG w rs g wy v9 (dn ++ [e]) H4 ∧ H4.length = m ∧ g < wy.heap.size) := fun wy H4 p4 f4 g4 => by
          refine ⟨HK.out.1.next hl (by simpa using flatH_perm hlt.1) hi3 (fun z hz => HQ.out.2.1 z (List.mem_cons_of_mem _ (hlt.1.mem_iff.1 hz))) (fun z hz => HQ.out.2.2.1 z (List.mem_cons_of_mem _ (hlt.1.mem_iff.1 hz))) ?_ p4 f4 HR9.out.1 HR9.out.2.2.1 HR9.out.2.2.2.1 HCT.out.2.2.2.2 (hg10.trans g4), ?_, ?_⟩
          · rw [hlt.1.length_eq, HQ.out.2.2.2.2]; have := HCT.out; omega
          · rw [p4.length_eq, hlt.1.length_eq, HQ.out.2.2.2.2]
          · exact Nat.lt_of_lt_of_le HR9.out.2.2.2.2 (Nat.le_trans hg10.size g4.size)
        have hh := fun w => run_headH w g (m + 1) hc m (by omega)
        obtain ⟨a9, c9, hv9⟩ := HR9.out.1.isl
        generalize (((⟨[], x.row, ca, xc1⟩ : HpV) :: H2).set 0 y).take m = H3 at hs HN
        generalize y.l.length = yl at y0 hs HN
        generalize y.la = ya at y0 hs HN
        generalize y.lc = yc at y0 hs HN
        generalize y.row = yr at y1 hs HN
        have HV9 := hidM hv9
        clear hlt hat9 hput hg10 hb10 hi3 hp3 hl hxa hy hg9 q0 q1 q2 q3 hv9
        go_wp2_with (go_at_call 33; refine hs.mono ?_; rintro r w7 ⟨rfl, H4, p4, f4, a4, g4⟩)
        go_step3
        have hn := HN.out w7 H4 p4 f4 g4
        exact ⟨rfl, ⟨g, v9, some ⟨g, 0, none⟩, hc, m, dn ++ [e], H4, ⟨hn.1, hn.2.1, by omega, HK.out.2.2.2.1, fun _ => ⟨rfl, HCT.out.2.2.2.2, hn.2.2, a4⟩⟩, _, _, _, _, _, _, _, _, _, _, _, _, _, _, _, _, _, _, _, _, _, _, _, _, _, _, _, _, _, _, _, _, _, _, _, _, _, _, _, _, _, _, _, _, _, _, _, _, _, _, _, _, _, rfl⟩, (by have := HCT.out; have := HDL.out; show tot - slen v9 < tot - slen (.slice oa dl oc); rw [HV9.out, slen_mk, slen_mk, List.length_append, List.length_singleton]; omega)⟩
      · have qk' : ((k : Int) == 0) = false := by simp; omega
        go_upto_region 11 with (first | (go_at_call 30; refine HCP.out.mono ?_; rintro r w5 ⟨ka', kc', va', vc', rfl, hs5⟩; have HS5 := hidM hs5; clear hs5) | (at_builtin; refine wpList_appF entE (t := 27) (z := .agg #[.slice none 0 0, .int .i64 0, .bool false, .int .i64 0, .slice none 0 0]) (bytes := 72) Try.underlying27 entE_info rfl (by decide) rfl (.tmp 18) (.tmp 26) rfl rfl (HAPP.out _ _ _ _ _ HS5.out).1 rfl (HAPP.out _ _ _ _ _ HS5.out).2.1 (HAPP.out _ _ _ _ _ HS5.out).2.2.1 (HAPP.out _ _ _ _ _ HS5.out).2.2.2.1 (by have := HCT.out; omega) (by have := HCT.out; omega) (Nat.le_trans HCT.out.2.2.1 (HAPP.out _ _ _ _ _ HS5.out).2.2.2.2.size) ?_; intro v9 w9 r9 g9 m9; have hp9 := HPUT.out _ _ _ (HAPP.out _ _ _ _ _ HS5.out).2.2.2.2 r9 g9 m9; have HR9 := hidM (And.intro r9 hp9.1); obtain ⟨-, q0, q1, q2, q3⟩ := hp9; clear r9 g9 m9))
        obtain ⟨hl, hxa⟩ := HX.out.2
        have hkl := HKL.out
        have hqn : q ≠ [] := fun e' => qk (by rw [hkl, e']; rfl)
        have hat9 : HpAt (w9.setCell ⟨g, 0, none⟩ (.slice ca k xc1)) g (⟨q, x.row, ca, xc1⟩ :: H2) := by rw [hkl]; exact HR9.out.2.1.set0 (x := x) rfl q ca xc1
        have hg9 : w9.grownBy (w9.setCell ⟨g, 0, none⟩ (.slice ca k xc1)) (some g) := hp_gset _ _ _ _
        generalize w9.setCell ⟨g, 0, none⟩ (.slice ca k xc1) = W9 at hat9 hg9 ⊢
        have hb10 : Below w.heap.size w W9 := HR9.out.2.2.2.1.grown hg9 HR9.out.2.2.2.1.size (fun z hz => by have := HCT.out; simp only [Option.some.injEq] at hz; omega)
        have hi3 : HpIts w ((⟨q, x.row, ca, xc1⟩ : HpV) :: H2) := fun z hz => by
          rcases List.mem_cons.1 hz with rfl | hz
          · exact ⟨⟨by have := HTA2.out; rw [hkl] at this; exact this, HX.out.1.1.2⟩, hqn⟩
          · exact HQ.out.1 z (List.mem_cons_of_mem _ hz)
        have hp3 : Hp ((⟨q, x.row, ca, xc1⟩ : HpV) :: H2) 0 := HK.out.1.hp.start fun i h0 hi => by
          obtain ⟨j, rfl⟩ : ∃ j, i = j + 1 := ⟨i - 1, by omega⟩
          rw [List.getElem?_cons_succ, List.getElem?_cons_succ]
        have hs := sink_t (cap := hc) (n := m + 1) (by rw [List.length_cons, HQ.out.2.2.2.2]) hat9 hi3 hp3 hb10 HCT.out.2.2.2.2 (Nat.lt_of_lt_of_le HR9.out.2.2.2.2 hg9.size) (by have := HCT.out; omega) hmc
        have HN : Hid (∀ wy H4, H4.Perm ((⟨q, x.row, ca, xc1⟩ : HpV) :: H2) → HpF H4 → W9.grownBy wy (some g) → MG w rs g wy v9 (dn ++ [e]) H4 ∧ H4.length = m + 1 ∧ g < wy.heap.size) := fun wy H4 p4 f4 g4 => by
          refine ⟨HK.out.1.next hl (by rw [flatH_cons]) hi3 (fun z hz => ?_) (fun z hz => ?_) ?_ p4 f4 HR9.out.1 HR9.out.2.2.1 HR9.out.2.2.2.1 HCT.out.2.2.2.2 (hg9.trans g4), ?_, ?_⟩
          · rcases List.mem_cons.1 hz with rfl | hz
            · have := HQ.out.2.1 x (List.mem_cons_self ..)
              rw [hl] at this
              exact (List.pairwise_cons.1 this).2
            · exact HQ.out.2.1 z (List.mem_cons_of_mem _ hz)
          · rcases List.mem_cons.1 hz with rfl | hz
            · intro z' hz'
              exact HQ.out.2.2.1 x (List.mem_cons_self ..) z' (by rw [hl]; exact List.mem_cons_of_mem _ hz')
            · exact HQ.out.2.2.1 z (List.mem_cons_of_mem _ hz)
          · rw [List.length_cons, HQ.out.2.2.2.2]; have := HCT.out; omega
          · rw [p4.length_eq, List.length_cons, HQ.out.2.2.2.2]
          · exact Nat.lt_of_lt_of_le HR9.out.2.2.2.2 (Nat.le_trans hg9.size g4.size)
        obtain ⟨a9, c9, hv9⟩ := HR9.out.1.isl
        generalize (⟨q, x.row, ca, xc1⟩ : HpV) :: H2 = H3 at hs HN
        have HV9 := hidM hv9
        clear hat9 hb10 hi3 hp3 hl hxa hg9 q0 q1 q2 q3 hv9 hkl
        go_wp2_with (go_at_call 33; refine hs.mono ?_; rintro r w7 ⟨rfl, H4, p4, f4, a4, g4⟩)
        go_step3
        have hn := HN.out w7 H4 p4 f4 g4
        exact ⟨rfl, ⟨g, v9, some ⟨g, 0, none⟩, hc, m + 1, dn ++ [e], H4, ⟨hn.1, hn.2.1, by omega, HK.out.2.2.2.1, fun _ => ⟨rfl, HCT.out.2.2.2.2, hn.2.2, a4⟩⟩, _, _, _, _, _, _, _, _, _, _, _, _, _, _, _, _, _, _, _, _, _, _, _, _, _, _, _, _, _, _, _, _, _, _, _, _, _, _, _, _, _, _, _, _, _, _, _, _, _, _, _, _, _, rfl⟩, (by have := HCT.out; have := HDL.out; show tot - slen v9 < tot - slen (.slice oa dl oc); rw [HV9.out, slen_mk, slen_mk, List.length_append, List.length_singleton]; omega)⟩
end Go.Proofs.Ytnoackenjfpcmaa

/- The landed block: which entry stands ahead; Ordered. -/
namespace Go.Proofs.Ytnoackenjfpcmaa
open Go.RowKit
set_option linter.unusedVariables false
set_option linter.unusedSimpArgs false

/-- Is the entry ahead of that key and number? -/
def ahK (e : EntV) (key : List Int) (s : Int) : Bool := decide (cmp e.key key < 0 ∨ cmp e.key key = 0 ∧ s < e.seq)
theorem ahK_ahead (a b : EntV) : ahK a b.key b.seq = true ↔ ahead a b < 0 := by
  unfold ahK ahead
  simp only [decide_eq_true_eq]
  have := cmp_vals a.key b.key
  by_cases h : cmp a.key b.key = 0
  · rw [if_neg (not_not_intro h)]
    by_cases q : b.seq < a.seq
    · simp [h, q]
    · rw [if_neg q]
      have : ¬ ((if a.seq < b.seq then (1 : Int) else 0) < 0) := by split <;> decide
      simp [h, q, this]
  · rw [if_pos h]
    simp [h]

set_option maxHeartbeats 2000000 in
set_option maxRecDepth 100000 in
theorem ahd_k {w : World} {ka va ba : Option Addr} {kc vc lb cb : Nat} {e : EntV} {key : List Int} {s : Int} (hk : Sl w ka e.key.length kc e.key) (hb : Sl w ba lb cb key) :
    Calls Try.prog 31 #[entA ka kc va vc e, .slice ba lb cb, .int .i64 s] w fun r w' => r = .returned (.bool (ahK e key s)) ∧ Below w.heap.size w w' := by
  obtain ⟨k0, seq, gone, till, vl⟩ := e
  unfold entA ahK
  simp only at hk ⊢
  obtain ⟨W, hW⟩ : ∃ W, W = w.alloc (.cells #[.slice ka k0.length kc, .int .i64 seq, .bool gone, .int .i64 till, .slice va vl.length vc] 35) := ⟨_, rfl⟩
  have b1 : Below w.heap.size w W := by rw [hW]; exact (Below.refl _ _).alloc (Nat.le_refl _) _
  have hc := compare_l (hk.later b1) (hb.later b1)
  have y1 : W.cell? ⟨w.heap.size, 1, none⟩ = some (.int .i64 seq) := by rw [hW, cell_of (heap_alloc_new w _)]; rfl
  have HB := hid b1
  have hv := cmp_vals k0 key
  generalize cmp k0 key = c at hc hv ⊢
  generalize k0.length = kl at hc hW
  generalize vl.length = ln at hW
  rw [hW] at hc y1 HB
  clear hk hb b1 hW
  go_enter Try.func31, Try.ntmps31
  rcases hv with rfl | rfl | rfl
  · go_wp2_with (go_at_call 29; refine hc.mono ?_; rintro e w' ⟨rfl, hw⟩; obtain rfl := hw.symm)
    exact bodyPost_ret (v := .bool true) (by simp [results, Try.results31, go_sem]) rfl ⟨by simp, HB.out⟩
  · by_cases q : s < seq
    · go_wp2_with (go_at_call 29; refine hc.mono ?_; rintro e w' ⟨rfl, hw⟩; obtain rfl := hw.symm)
      exact bodyPost_ret (v := .bool true) (by simp [results, Try.results31, go_sem, q]) rfl ⟨by simp [q], HB.out⟩
    · go_wp2_with (go_at_call 29; refine hc.mono ?_; rintro e w' ⟨rfl, hw⟩; obtain rfl := hw.symm)
      exact bodyPost_ret (v := .bool false) (by simp [results, Try.results31, go_sem, q]) rfl ⟨by simp [q], HB.out⟩
  · go_wp2_with (go_at_call 29; refine hc.mono ?_; rintro e w' ⟨rfl, hw⟩; obtain rfl := hw.symm)
    exact bodyPost_ret (v := .bool false) (by simp [results, Try.results31, go_sem]) rfl ⟨by simp, HB.out⟩

set_option maxHeartbeats 4000000 in
set_option maxRecDepth 100000 in
theorem ord_k {w : World} {ao : Option Addr} {len cap : Nat} {l : List EntV} (h : RS entE w ao len cap l) (hl : len ≤ 1000000) :
    Calls Try.prog 25 #[.slice ao len cap] w fun r w' => r = .returned (.bool (ordB l)) ∧ Below w.heap.size w w' := by
  have HS : Hid (RS entE w ao len cap l ∧ True ∧ len ≤ 1000000) := ⟨h, trivial, hl⟩
  have hln : l.length = len := h.len.1
  have hl62 : len ≤ 2 ^ 61 := by omega
  clear h hl
  go_enter Try.func25, Try.ntmps25
  go_wp2_with fail
  go_loopg [3] len (fun g i wr => ∃ k : Nat, (k + g = len ∨ (k = 0 ∧ g = len)) ∧ i = .int .i64 ((k + 1 : Nat) : Int) ∧ Hid (Below w.heap.size w wr) ∧ Hid (∀ j (h : j + 1 < l.length), j < k → ahead l[j] l[j + 1] < 0))
  case atStart => exact ⟨0, .inr ⟨rfl, rfl⟩, rfl, Below.refl _ _, fun j _ h => absurd h (by omega)⟩
  case round =>
    obtain ⟨k, hk, rfl, HK, HC⟩ := hrel
    by_cases hkl : k + 1 < len
    · have hkl' : (k : Int) + 1 < (len : Int) := by omega
      have hdl : decide ((k : Int) + 1 < (len : Int)) = true := by simpa using hkl'
      have hx1 : k < l.length := by omega
      have hx2 : k + 1 < l.length := by omega
      obtain ⟨b, off, ka, kc, va, vc, hab, d0, d1, d2, d3, d4, s1, s2, i1, i2⟩ := RS.ent (HS.out.1.later HK.out) (List.getElem?_eq_getElem hx1)
      obtain ⟨b', off', kb, kd, vb, vd, hab', e0, e1, e2, e3, e4, t1, t2, j1, j2⟩ := RS.ent (HS.out.1.later HK.out) (List.getElem?_eq_getElem hx2)
      rw [hab] at hab'
      simp only [Option.some.injEq, Addr.mk.injEq, and_true] at hab'
      obtain ⟨rfl, rfl⟩ := hab'
      subst hab
      have hah := ahK_ahead l[k] l[k + 1]
      have HN : Hid (ahK l[k] l[k + 1].key l[k + 1].seq = false → ordB l = false) := fun q => ordB_not hx2 (fun q2 => by rw [hah.2 q2] at q; cases q)
      have HP : Hid (ahK l[k] l[k + 1].key l[k + 1].seq = true → ∀ j (h : j + 1 < l.length), j < k + 1 → ahead l[j] l[j + 1] < 0) := fun q j hj hjk => if e : j = k then by subst e; exact hah.1 q else HC.out j hj (by omega)
      have hA := ahd_k (va := va) (vc := vc) (s := l[k + 1].seq) (s1.drewN 1) (t1.drewN 1)
      unfold entA at hA
      clear hah
      generalize ahK l[k] l[k + 1].key l[k + 1].seq = c at hA HN HP
      generalize l[k] = o at d0 d1 d2 d3 d4 hA
      generalize l[k + 1] = o' at e0 e1 e2 e3 e4 hA
      generalize o.key.length = kl at d0 hA
      generalize o.val.length = ln at d4 hA
      generalize o.seq = seq at d1 hA
      generalize o.gone = gone at d2 hA
      generalize o.till = till at d3 hA
      generalize o'.key.length = kl2 at e0 hA
      generalize o'.seq = seq2 at e1 hA
      have hk62 : k ≤ 2 ^ 60 := by have := HS.out.2.2; omega
      have hwa : IntKind.i64.wrap ((k : Int) + 1 - 1) = (k : Int) := by rw [IntKind.wrap_i64]; omega
      have hwb : wrap64 ((k : Int) + 1 - 1) = (k : Int) := by unfold wrap64; omega
      have hwc : IntKind.i64.wrap (k : Int) = (k : Int) := by rw [IntKind.wrap_i64]; omega
      have hwd : wrap64 (k : Int) = (k : Int) := by unfold wrap64; omega
      have hkl0 : (k : Int) < (len : Int) := by omega
      have hkl3 : k < len := by omega
      obtain ⟨GK, HG⟩ : ∃ g, Hid (g < gk ∧ k + 1 + g = len) := ⟨len - (k + 1), by omega, by omega⟩
      have HKB : Hid (∀ wx, Below wr.drew.heap.size wr.drew wx → Below w.heap.size w wx) := fun wx hb => HK.out.drew.trans (hb.mono HK.out.drew.size)
      clear s1 s2 i1 i2 t1 t2 j1 j2 hk e2 e3 e4
      go_wp2_with fail
      go_region_held_law (fun w' => (w'.cell? ⟨b, off + k * 5, none⟩ = some (.slice ka kl kc) ∧ w'.cell? ⟨b, off + k * 5 + 1, none⟩ = some (.int .i64 seq) ∧ w'.cell? ⟨b, off + k * 5 + 2, none⟩ = some (.bool gone) ∧ w'.cell? ⟨b, off + k * 5 + 3, none⟩ = some (.int .i64 till) ∧ w'.cell? ⟨b, off + k * 5 + 4, none⟩ = some (.slice va ln vc)) ∧ (w'.cell? ⟨b, off + (k + 1) * 5, none⟩ = some (.slice kb kl2 kd) ∧ w'.cell? ⟨b, off + (k + 1) * 5 + 1, none⟩ = some (.int .i64 seq2))) (first | exact ⟨⟨d0, d1, d2, d3, d4⟩, ⟨e0, e1⟩⟩ | exact ⟨⟨cell_later hb5 d0, cell_later hb5 d1, cell_later hb5 d2, cell_later hb5 d3, cell_later hb5 d4⟩, ⟨cell_later hb5 e0, cell_later hb5 e1⟩⟩) (first | (go_at_call 31; refine hA.mono ?_; rintro e w5 ⟨rfl, hb5⟩))
      all_goals
        cases c with
        | true =>
          go_wp2_with fail
          go_roundg GK
          case measure => exact HG.out.1
          case rel => exact ⟨k + 1, .inl HG.out.2, by go_num, HKB.out _ hb5, HP.out (by first | exact trivial | rfl)⟩
        | false =>
          go_wp2_with fail
          exact bodyPost_ret (v := .bool false) (by simp [results, Try.results25, go_sem]) rfl ⟨by rw [HN.out (by first | exact trivial | rfl)], HKB.out _ hb5⟩
    · have hkl' : (len : Int) ≤ (k : Int) + 1 := by omega
      have HT : Hid (ordB l = true) := ordB_chain fun j hj => HC.out j hj (by omega)
      clear hk hkl
      go_wp2_with fail
      exact bodyPost_ret (v := .bool true) (by simp [results, Try.results25, go_sem]) rfl ⟨by rw [HT.out], HK.out⟩
end Go.Proofs.Ytnoackenjfpcmaa

/- The landed merge: Merge. -/
namespace Go.Proofs.Ytnoackenjfpcmaa
open Go.RowKit
set_option linter.unusedVariables false
set_option linter.unusedSimpArgs false

def sumR (rs : List (List EntV)) : Nat := (rs.map List.length).sum
/-- What Merge answers. -/
def mrC (rs : List (List EntV)) : Nat := if rs.all ordB = true then (if 64 < rs.length ∨ 40000 < sumR rs then 13 else 0) else 11
def mrV (rs : List (List EntV)) : List EntV := if mrC rs = 0 then mrgE rs else []
theorem sumR_snoc (rs : List (List EntV)) (l : List EntV) : sumR (rs ++ [l]) = sumR rs + l.length := by unfold sumR; simp
theorem sumR_take : ∀ (rs : List (List EntV)) (k : Nat), sumR (rs.take k) ≤ sumR rs
  | [], k => by simp [sumR]
  | l :: rs, 0 => by simp [sumR]
  | l :: rs, k + 1 => by
    have := sumR_take rs k
    unfold sumR at *
    rw [List.take_succ_cons, List.map_cons, List.map_cons, List.sum_cons, List.sum_cons]
    omega
theorem all_ord {rs : List (List EntV)} (h : rs.all ordB = true) : ∀ l ∈ rs, ordE l := fun l hl => by
  have := List.all_eq_true.1 h l hl
  unfold ordB at this
  exact of_decide_eq_true (p := l.Pairwise fun a b => ahead a b < 0) this
theorem ord_all {rs : List (List EntV)} (h : ∀ l ∈ rs, ordE l) : rs.all ordB = true := List.all_eq_true.2 fun l hl => by unfold ordB; exact decide_eq_true (p := l.Pairwise fun a b => ahead a b < 0) (h l hl)
/-- What is asked of the rows' size. -/
structure Szr (rs : List (List EntV)) : Prop where
  len : rs.length ≤ 1000000
  row : ∀ l ∈ rs, l.length ≤ 1000000
  ent : ∀ l ∈ rs, ∀ e ∈ l, e.key.length ≤ 1000000 ∧ e.val.length ≤ 1000000
theorem Szr.sum {rs : List (List EntV)} (h : Szr rs) : sumR rs ≤ 1000000000000 := by
  have : ∀ (rs : List (List EntV)), (∀ l ∈ rs, l.length ≤ 1000000) → sumR rs ≤ rs.length * 1000000 := by
    intro rs
    induction rs with
    | nil => intro _; simp [sumR]
    | cons l r ih =>
      intro hr
      have h1 := ih fun l' hl => hr l' (List.mem_cons_of_mem _ hl)
      have h2 := hr l (List.mem_cons_self ..)
      unfold sumR at *
      rw [List.map_cons, List.sum_cons, List.length_cons, Nat.add_mul]
      omega
  have h1 := this rs h.row
  have h2 := h.len
  omega
set_option maxHeartbeats 4000000 in
set_option maxRecDepth 100000 in
theorem merge_t {w : World} {ao : Option Addr} {n cap : Nat} {rs : List (List EntV)} (h : ErRow w ao n cap rs) (hz : Szr rs) :
    Calls Try.prog 12 #[.slice ao n cap] w fun r w' => ∃ v, r = .returned (.tuple #[v, .int .i64 (mrC rs : Nat)]) ∧ RowS entE w.heap.size w' v (mrV rs) ∧ Below w.heap.size w w' := by
  have H0 := hidM h
  have HZ := hidM hz
  have HLN : Hid (rs.length = n ∧ n ≤ 1000000) := ⟨h.len.1, by have := hz.len; have := h.len.1; omega⟩
  have hn62 : n ≤ 2 ^ 60 := by have := HLN.out; omega
  have HF : Hid (∀ (wr : World) (c : Nat), mrC rs = c → c ≠ 0 → Below w.heap.size w wr → RowS entE w.heap.size wr (.slice none 0 0) (mrV rs)) := fun wr c hc h0 hb => by
    unfold mrV
    rw [hc, if_neg h0]
    exact RowS.nil _ _
  have HCC : Hid ((rs.all ordB = false → mrC rs = 11) ∧ (rs.all ordB = true → (64 < rs.length ∨ 40000 < sumR rs) → mrC rs = 13) ∧ (rs.all ordB = true → ¬ (64 < rs.length ∨ 40000 < sumR rs) → mrC rs = 0)) := by
    refine ⟨fun h1 => ?_, fun h1 h2 => ?_, fun h1 h2 => ?_⟩
    · unfold mrC; rw [h1]; rfl
    · unfold mrC; rw [if_pos h1, if_pos h2]
    · unfold mrC; rw [if_pos h1, if_neg h2]
  obtain ⟨C, hC⟩ : ∃ c, c = mrC rs := ⟨_, rfl⟩
  rw [← hC] at HCC ⊢
  have HEC := hidM hC
  clear h hz hC
  go_enter Try.func12, Try.ntmps12
  go_wp2_with fail
  go_loopg [4, 9] n (fun kx s4 s9 wr => ∃ (k tot : Nat), s9 = .int .i64 (k : Int) ∧ s4 = .int .i64 (tot : Int) ∧ k + kx = n ∧ Hid ((rs.take k).all ordB = true ∧ tot = sumR (rs.take k) ∧ Below w.heap.size w wr))
  case atStart => exact ⟨0, 0, rfl, rfl, by omega, by simp, by simp [sumR], Below.refl _ _⟩
  case round =>
    obtain ⟨k, tot, rfl, rfl, hg, HK⟩ := hrel
    have ht62 : tot ≤ 2 ^ 60 := by have := HK.out.2.1; have := sumR_take rs k; have := HZ.out.sum; omega
    by_cases hk : k < n
    · have hk' : (k : Int) < (n : Int) := by omega
      obtain ⟨l, hl⟩ : ∃ l, rs[k]? = some l := ⟨_, List.getElem?_eq_getElem (by have := HLN.out; omega)⟩
      obtain ⟨b, off, la, lc, rfl, c0, hrl⟩ := H0.out.at' k l hl
      replace c0 := cell_later HK.out.2.2 c0
      have hlm := List.mem_of_getElem? hl
      have hord := ord_k (hrl.later HK.out.2.2) (HZ.out.row l hlm)
      have hll : l.length ≤ 2 ^ 60 := by have := HZ.out.row l hlm; omega
      have HT1 : Hid (ordB l = true → (rs.take (k + 1)).all ordB = true ∧ tot + l.length = sumR (rs.take (k + 1))) := fun hb => by
        rw [List.take_add_one, hl]
        show (rs.take k ++ [l]).all ordB = true ∧ tot + l.length = sumR (rs.take k ++ [l])
        rw [List.all_append, HK.out.1, sumR_snoc, HK.out.2.1]
        exact ⟨by simp [hb], rfl⟩
      have HT2 : Hid (ordB l = false → C = 11) := fun hb => HCC.out.1 (by rw [List.all_eq_false]; exact ⟨l, hlm, by simp [hb]⟩)
      have HG := hidM (And.intro hg hk)
      have hk62 : k ≤ 2 ^ 60 := by omega
      generalize ordB l = ob at hord HT1 HT2
      generalize l.length = L at c0 hord hll HT1
      clear hg hk hl hrl hlm
      cases ob with
      | true =>
        have HT3 := hidM (HT1.out rfl)
        go_wp2_with (go_at_call 25; refine hord.mono ?_; rintro r w5 ⟨rfl, hb5⟩)
        go_roundg (n - (k + 1))
        case measure => have := HG.out; omega
        case rel => exact ⟨k + 1, tot + L, by go_num, by go_num, by have := HG.out; omega, HT3.out.1, HT3.out.2, HK.out.2.2.trans (hb5.mono HK.out.2.2.size)⟩
      | false =>
        have HT3 := hidM (HT2.out rfl)
        go_wp2_with (go_at_call 25; refine hord.mono ?_; rintro r w5 ⟨rfl, hb5⟩)
        have hb6 := HK.out.2.2.trans (hb5.mono HK.out.2.2.size)
        exact bodyPost_ret (v := .tuple #[.slice none 0 0, .int .i64 11]) (by simp [results, Try.results12, go_sem]) rfl ⟨_, by rw [HT3.out]; rfl, HF.out _ 11 (by rw [← HEC.out, HT3.out]) (by decide) hb6, hb6⟩
    · have hk' : ¬ (k : Int) < (n : Int) := by omega
      have HA : Hid (rs.all ordB = true ∧ tot = sumR rs) := by
        have h1 := HK.out.1
        have h2 := HK.out.2.1
        rw [List.take_of_length_le (by have := HLN.out; omega)] at h1 h2
        exact ⟨h1, h2⟩
      clear hg hk
      by_cases q64 : 64 < n
      · have q64' : (64 : Int) < (n : Int) := by omega
        have HT3 := hidM (HCC.out.2.1 HA.out.1 (.inl (by have := HLN.out; omega)))
        go_wp2_with fail
        exact bodyPost_ret (v := .tuple #[.slice none 0 0, .int .i64 13]) (by simp [results, Try.results12, go_sem]) rfl ⟨_, by rw [HT3.out]; rfl, HF.out _ 13 (by rw [← HEC.out, HT3.out]) (by decide) HK.out.2.2, HK.out.2.2⟩
      · have q64' : ¬ (64 : Int) < (n : Int) := by omega
        by_cases qt : 40000 < tot
        · have qt' : (40000 : Int) < (tot : Int) := by omega
          have HT3 := hidM (HCC.out.2.1 HA.out.1 (.inr (by have := HA.out.2; omega)))
          go_wp2_with fail
          exact bodyPost_ret (v := .tuple #[.slice none 0 0, .int .i64 13]) (by simp [results, Try.results12, go_sem]) rfl ⟨_, by rw [HT3.out]; rfl, HF.out _ 13 (by rw [← HEC.out, HT3.out]) (by decide) HK.out.2.2, HK.out.2.2⟩
        · have qt' : ¬ (40000 : Int) < (tot : Int) := by omega
          have HT3 := hidM (HCC.out.2.2 HA.out.1 (by have := HLN.out; have := HA.out.2; omega))
          have hm := merged_t (tot := tot) (H0.out.later HK.out.2.2) (by omega) (all_ord HA.out.1) HA.out.2.symm (by omega) HZ.out.ent
          clear q64 qt
          go_wp2_with (go_at_call 26; refine hm.mono ?_; rintro r w5 ⟨v, rfl, hr, hb5⟩)
          refine bodyPost_ret (v := .tuple #[v, .int .i64 0]) (by simp [results, Try.results12, go_sem]) rfl ⟨v, by rw [HT3.out]; rfl, ?_, HK.out.2.2.trans (hb5.mono HK.out.2.2.size)⟩
          have e0 : mrV rs = mrgE rs := by unfold mrV; rw [← HEC.out, HT3.out]; rfl
          rw [e0]
          exact hr.base HK.out.2.2.size
end Go.Proofs.Ytnoackenjfpcmaa
