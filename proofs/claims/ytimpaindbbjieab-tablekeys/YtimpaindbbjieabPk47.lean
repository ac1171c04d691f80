import Derived.Test.YtimpaindbbjieabPk17
import Derived.Test.YtimpaindbbjieabPk40
import Derived.Test.YtimpaindbbjieabPk43
import Derived.Test.YtimpaindbbjieabPk46
/- The landed table: Open. -/
namespace Go.Proofs.Ytimpaindbbjieab
open Go.RowKit
set_option linter.unusedVariables false
set_option linter.unusedSimpArgs false

set_option maxHeartbeats 8000000 in
set_option maxRecDepth 100000 in
theorem open_t {w : World} {ao : Option Addr} {len cap : Nat} {b : List Int} (h : Sl w ao len cap b) (hl : len ≤ 5000000) :
    Calls Try.prog 8 #[.slice ao len cap] w fun e w' => OpR b e w' ∧ Below w.heap.size w w' := by
  have hln : b.length = len := h.1
  have HS : Hid (Sl w ao len cap b ∧ len ≤ 5000000 ∧ b.length = len ∧ len ≤ cap) := ⟨h, hl, hln, h.2.2.2.1⟩
  have HP : Hid ((opT tkD b).1 = 0 → tblE (opT tkD b).2 = 0 ∧ tblB (opT tkD b).2 = b ∧ ∀ e ∈ (opT tkD b).2, OkE e) := fun z => opT_is h.2.1 z
  have HPF : Hid ((opT tkD b).1 = 0 → ftE b = (0, ixS (opT tkD b).2, flS (opT tkD b).2) ∧ okS b (ixS (opT tkD b).2) = true ∧ okS b (flS (opT tkD b).2) = true ∧ (∀ n, (ofS b (ixS (opT tkD b).2)).length ≤ n → ixT n (ofS b (ixS (opT tkD b).2)) (ixS (opT tkD b).2).1 = some (rowsT (opT tkD b).2)) ∧ (spU ((rowsT (opT tkD b).2).map (·.sp))).all (okS b) = true ∧ teK ((spU ((rowsT (opT tkD b).2).map (·.sp))).map (ofS b)) [] = (0, (opT tkD b).2)) := fun z => by
    obtain ⟨z1, z2, z3⟩ := HP.out z
    exact opn_facts z1 z3 z2
  obtain ⟨⟨E1, ⟨i0, i1⟩, ⟨f0, f1⟩⟩, hft⟩ : ∃ x, ftE b = x := ⟨_, rfl⟩
  have hfoot := foot_t h hl
  rw [hft] at hfoot
  unfold spT at hfoot
  try simp only at hfoot
  have HFT := hid hft
  clear h hl hln hft
  go_enter Try.func8, Try.ntmps8
  go_wp2_with fail
  refine wp_scope_jumps 0 (fun a' w' => ∃ E : Nat, (E ≠ 0 ∧ (opT tkD b).1 ≠ 0 ∧ Below w.heap.size w w') ∧ ∃ (u0 u1 u2 u3 u4 u5 u6 u7 u8 u9 u11 u12 u13 u14 u15 u16 u17 u18 u19 u20 u21 u22 u23 u24 u25 u26 u27 u28 u29 u30 u31 u32 u33 u34 u35 u36 u37 u38 u39 u40 u41 u42 u43 u44 u45 u46 u47 u48 u49 u50 u51 u52 u53 u54 u55 u56 u57 u58 u59 u60 u61 u62 u63 u64 u65 u66 u67 u68 u69 u70 u71 u72 : Value), a' = { tmps := #[u0, u1, u2, u3, u4, u5, u6, u7, u8, u9, .int .i64 (E : Int), u11, u12, u13, u14, u15, u16, u17, u18, u19, u20, u21, u22, u23, u24, u25, u26, u27, u28, u29, u30, u31, u32, u33, u34, u35, u36, u37, u38, u39, u40, u41, u42, u43, u44, u45, u46, u47, u48, u49, u50, u51, u52, u53, u54, u55, u56, u57, u58, u59, u60, u61, u62, u63, u64, u65, u66, u67, u68, u69, u70, u71, u72], defers := [] }) (fun _ _ => 0) rfl ?_ ?_
  · go_upto_region 6 with (go_at_call 28; refine hfoot.mono ?_; rintro e w1 ⟨rfl, b1⟩)
    obtain ⟨W1, hW1⟩ : ∃ W, (w1.alloc (.cells #[.int .i64 (i0 : Int), .int .i64 (i1 : Int)] 59)).alloc (.cells #[.int .i64 (f0 : Int), .int .i64 (f1 : Int)] 59) = W := ⟨_, rfl⟩
    have hsz1 : (w1.alloc (.cells #[.int .i64 (i0 : Int), .int .i64 (i1 : Int)] 59)).heap.size = w1.heap.size + 1 := by simp
    have bA : Below w1.heap.size w1 (w1.alloc (.cells #[.int .i64 (i0 : Int), .int .i64 (i1 : Int)] 59)) := (Below.refl _ _).alloc (Nat.le_refl _) _
    have bB : Below (w1.heap.size + 1) (w1.alloc (.cells #[.int .i64 (i0 : Int), .int .i64 (i1 : Int)] 59)) W1 := by rw [← hW1, ← hsz1]; exact (Below.refl _ _).alloc (Nat.le_refl _) _
    have hbi : W1.heap[w1.heap.size]? = some (.cells #[.int .i64 (i0 : Int), .int .i64 (i1 : Int)] 59 (0, 0)) := by rw [bB.block _ (by omega)]; exact heap_alloc_new w1 _
    have hbf : W1.heap[w1.heap.size + 1]? = some (.cells #[.int .i64 (f0 : Int), .int .i64 (f1 : Int)] 59 (0, 0)) := by rw [← hW1, ← hsz1]; exact heap_alloc_new _ _
    have B1 : Below w.heap.size w W1 := b1.trans ((bA.trans (bB.mono (by omega))).mono b1.size)
    have HBX : Hid (∀ wx, Below W1.heap.size W1 wx → wx.cell? ⟨w1.heap.size, 0, none⟩ = some (.int .i64 (i0 : Int)) ∧ wx.cell? ⟨w1.heap.size, 1, none⟩ = some (.int .i64 (i1 : Int)) ∧ wx.cell? ⟨w1.heap.size + 1, 0, none⟩ = some (.int .i64 (f0 : Int)) ∧ wx.cell? ⟨w1.heap.size + 1, 1, none⟩ = some (.int .i64 (f1 : Int))) := fun wx hb =>
      ⟨cell_later hb (by rw [cell_of hbi]; rfl), cell_later hb (by rw [cell_of hbi]; rfl), cell_later hb (by rw [cell_of hbf]; rfl), cell_later hb (by rw [cell_of hbf]; rfl)⟩
    have HB1 := hid B1
    rw [hW1]
    clear hW1 hsz1 bA bB hbi hbf B1 b1 hfoot
    by_cases q1 : E1 = 0
    · subst q1
      obtain ⟨hin1, hin2, hin3⟩ := ftE_in HFT.out
      rw [HS.out.2.2.1] at hin1 hin2 hin3
      replace hin2 : i0 + i1 + 4 ≤ len := hin2
      replace hin3 : f0 + f1 + 4 ≤ len := hin3
      have hlen5 := HS.out.2.1
      obtain ⟨x0, x1, x2, x3⟩ := HBX.out W1 (Below.refl _ _)
      obtain ⟨C1, hC1⟩ : ∃ C : Int, C = if [(i0, i1), (f0, f1)].all (okS b) = true then 0 else 4 := ⟨_, rfl⟩
      have bT : Below W1.heap.size W1 (W1.alloc (.cells #[.int .i64 (i0 : Int), .int .i64 (i1 : Int), .int .i64 (f0 : Int), .int .i64 (f1 : Int)] 59)) := (Below.refl _ _).alloc (Nat.le_refl _) _
      have hcs := csum_t ((HS.out.1.later HB1.out).later bT) HS.out.2.1 (spn_two W1 (i0, i1) (f0, f1)) (by omega) (fun s hs => by
        simp only [List.mem_cons, List.not_mem_nil, or_false] at hs
        rcases hs with rfl | rfl
        · exact hin2
        · exact hin3) hC1
      try simp only at hcs
      have HBT := hid bT
      have HC1 := hid hC1
      clear hC1
      have HIN : Hid (i0 + i1 + 4 ≤ len ∧ f0 + f1 + 4 ≤ len ∧ len ≤ 5000000) := ⟨hin2, hin3, hlen5⟩
      clear bT
      go_upto_region 8 with (go_at_call 29; refine hcs.mono ?_; rintro e w2 ⟨rfl, b2⟩)
      have HBX2 := hid (HBT.out.trans (b2.mono HBT.out.size))
      have HB2 := hid (HB1.out.trans (HBX2.out.mono HB1.out.size))
      clear hcs b2 x0 x1 x2 x3 HBT
      by_cases q2 : [(i0, i1), (f0, f1)].all (okS b) = true
      · have hC1 : C1 = 0 := by have := HC1.out; rw [if_pos q2] at this; exact this
        subst hC1
        clear HC1
        have hsl := (HS.out.1.later HB2.out).cut i0 (i0 + i1) (by omega) (by omega)
        rw [show i0 + i1 - i0 = i1 by omega] at hsl
        have HSX : Hid (∀ wx, Below w2.heap.size w2 wx → Sl wx (cutA ao cap i0) i1 (cap - i0) (ofS b (i0, i1))) := fun wx hb => hsl.later hb
        have HOF : Hid (∀ wx, Calls Try.prog 31 #[.agg #[.int .i64 (i0 : Int), .int .i64 (i1 : Int)], .slice ao len cap] wx fun e w' => e = .returned (.slice (cutA ao cap i0) i1 (cap - i0)) ∧ Below wx.heap.size wx w') := fun wx => spof_t (by have := HS.out.2.2.2; omega) (by omega) (by omega)
        have hol : (ofS b (i0, i1)).length = i1 := hsl.1
        obtain ⟨O, hO⟩ : ∃ O, O = ixT i1 (ofS b (i0, i1)) i0 := ⟨_, rfl⟩
        have HIX : Hid (∀ wx, Sl wx (cutA ao cap i0) i1 (cap - i0) (ofS b (i0, i1)) → Calls Try.prog 30 #[.slice (cutA ao cap i0) i1 (cap - i0), .int .i64 (i0 : Int)] wx fun e w' => IxR O e w' ∧ Below wx.heap.size wx w') := fun wx hs => by rw [hO]; exact index_t hs (by have := HIN.out; omega) (by have := HIN.out; omega) (Nat.le_refl _)
        have HOO : Hid (O = ixT i1 (ofS b (i0, i1)) i0 ∧ (ofS b (i0, i1)).length = i1) := ⟨hO, hol⟩
        have HQ2 := hid q2
        have HBD : Hid (Below w2.heap.size w2 w2.drew) := (Below.refl _ w2).drew
        have HY : Hid (∀ wx, Below w2.heap.size w2 wx → wx.cell? ⟨w1.heap.size, 0, none⟩ = some (.int .i64 (i0 : Int)) ∧ wx.cell? ⟨w1.heap.size, 1, none⟩ = some (.int .i64 (i1 : Int))) := fun wx hb => by
          obtain ⟨a1, a2, _, _⟩ := HBX.out wx (HBX2.out.trans (hb.mono HBX2.out.size))
          exact ⟨a1, a2⟩
        obtain ⟨y0, y1⟩ := HY.out w2 (Below.refl _ _)
        have hi62 : i0 ≤ 2 ^ 60 := by omega
        have hi63 : i1 ≤ 2 ^ 60 := by omega
        generalize cutA ao cap i0 = ca at HSX HOF HIX
        generalize cap - i0 = cc at HSX HOF HIX
        clear hsl hol hO q2 hin1 hin2 hin3 hlen5
        have HIN2 : Hid (∀ wx, Sl wx ca i1 cc (ofS b (i0, i1)) → Calls Try.prog 30 #[.slice ca i1 cc, .int .i64 (i0 : Int)] wx fun e w' => ∃ (v : Value) (E3 : Nat), e = .returned (.tuple #[v, .int .i64 (E3 : Int)]) ∧ ((E3 = 3 ∧ O = none) ∨ (E3 = 0 ∧ ∃ rows, O = some rows ∧ RSV rowE w' v rows)) ∧ Below wx.heap.size wx w') := fun wx hs => (HIX.out wx hs).mono fun e w' ⟨hR, hb⟩ => by
          rcases hR with ⟨hz, rfl⟩ | ⟨rs, v, hz, rfl, hrs⟩
          · exact ⟨_, 3, rfl, .inl ⟨rfl, hz⟩, hb⟩
          · exact ⟨v, 0, rfl, .inr ⟨rfl, rs, hz, hrs⟩, hb⟩
        clear HIX
        go_upto_region 9 with fail
        go_region_held_law (fun w' => w'.cell? ⟨w1.heap.size, 0, none⟩ = some (.int .i64 (i0 : Int)) ∧ w'.cell? ⟨w1.heap.size, 1, none⟩ = some (.int .i64 (i1 : Int))) (first | exact HY.out _ B6 | exact HY.out _ B5 | exact HY.out _ HBD.out | exact ⟨y0, y1⟩) (first | (go_at_call 31; refine (HOF.out _).mono ?_; rintro e w5 ⟨rfl, b5⟩; have B5 := HBD.out.trans (b5.mono HBD.out.size); clear b5) | (go_at_call 30; refine (HIN2.out _ (HSX.out _ B5)).mono ?_; rintro e w6 ⟨v6, E3, rfl, hR6, b6⟩; have B6 := B5.trans (b6.mono B5.size); clear b6))
        all_goals
          have HB6 := hid (HB2.out.trans (B6.mono HB2.out.size))
          have HBX6 := hid (HBX2.out.trans (B6.mono HBX2.out.size))
          clear B5 B6 y0 y1 HIN2 HSX HOF HY HBD HB2 HBX2 HB1
          rcases hR6 with ⟨rfl, hO⟩ | ⟨rfl, rows, hO, a6, c6, rfl, rs6⟩
          · have HNP : Hid ((opT tkD b).1 ≠ 0) := fun z => by
              obtain ⟨z1, z2, z3, z4, z5, z6⟩ := HPF.out z
              rw [HFT.out] at z1
              simp only [Prod.mk.injEq, true_and] at z1
              rw [← z1.1] at z4
              have := z4 i1 (by rw [HOO.out.2]; exact Nat.le_refl _)
              have h9 := HOO.out.1
              simp only at this
              rw [this, hO] at h9
              cases h9
            clear hO HPF HP
            go_wp2_with fail
            go_step3
            exact ⟨rfl, 3, ⟨by decide, HNP.out, HB6.out⟩, _, _, _, _, _, _, _, _, _, _, _, _, _, _, _, _, _, _, _, _, _, _, _, _, _, _, _, _, _, _, _, _, _, _, _, _, _, _, _, _, _, _, _, _, _, _, _, _, _, _, _, _, _, _, _, _, _, _, _, _, _, _, _, _, _, _, _, _, _, _, _, _, rfl⟩
          · obtain ⟨hri, hrl⟩ := ixT_in (HOO.out.1.symm.trans hO)
            rw [HOO.out.2] at hrl
            have HRI : Hid ((∀ r ∈ rows, r.sp.1 + r.sp.2 + 4 ≤ i0) ∧ rows.length ≤ 5000000 ∧ i0 ≤ 5000000) := ⟨hri, by have := HIN.out; omega, by have := HIN.out; omega⟩
            have HROW : Hid (∀ l, tblE l = 0 → tblB l = b → (∀ e ∈ l, OkE e) → rows = rowsT l ∧ (f0, f1) = flS l ∧ opT tkD b = (0, l)) := fun l z1 z2 z3 => by
              obtain ⟨y1, y2, y3, y4, y5, y6⟩ := opn_facts z1 z3 z2
              rw [HFT.out] at y1
              simp only [Prod.mk.injEq, true_and] at y1
              rw [← y1.1] at y4
              have := y4 i1 (by rw [HOO.out.2]; exact Nat.le_refl _)
              have h9 := HOO.out.1
              simp only at this
              rw [this, hO] at h9
              cases h9
              refine ⟨rfl, y1.2, ?_⟩
              rw [← z2]
              exact opT_of_tbl z1 z3
            have HRP : Hid ((opT tkD b).1 = 0 → rows = rowsT (opT tkD b).2) := fun z => by
              obtain ⟨z1, z2, z3⟩ := HP.out z
              exact (HROW.out _ z1 z2 z3).1
            have HRS6 := hid rs6
            obtain ⟨RL, hRL⟩ : ∃ n, n = rows.length := ⟨_, rfl⟩
            rw [← hRL] at HRS6 ⊢
            have HRL : Hid (RL = rows.length ∧ RL ≤ 5000000) := ⟨hRL, by rw [hRL]; exact HRI.out.2.1⟩
            have hRL62 : RL ≤ 2 ^ 60 := by have := HRL.out.2; omega
            clear rs6 hri hrl hRL hO
            have hspn := spans_t HRS6.out HRL.out.2 (fun r hr => by have := HRI.out.1 r hr; have := HRI.out.2.2; exact ⟨by omega, by omega⟩)
            go_upto_region 12 with (go_at_call 32; refine hspn.mono ?_; rintro e w7 ⟨v7, rfl, ⟨a7, c7, rfl, rs7⟩, b7⟩)
            obtain ⟨SS, hSS⟩ : ∃ S, S = spU (rows.map (·.sp)) := ⟨_, rfl⟩
            rw [← hSS] at rs7 ⊢
            have HSS := hid hSS
            have hsl : SS.length ≤ 5000000 := by rw [hSS]; have := spU_len (rows.map (·.sp)); rw [List.length_map] at this; have := HRI.out.2.1; omega
            have HSI : Hid (∀ s ∈ SS, s.1 + s.2 + 4 ≤ len) := fun s hs => by
              rw [hSS] at hs
              obtain ⟨r, hr, rfl⟩ := List.mem_map.1 (spU_mem.1 hs)
              have := HRI.out.1 r hr
              have := HIN.out
              omega
            have HB7 := hid (HB6.out.trans (b7.mono HB6.out.size))
            have HBX7 := hid (HBX6.out.trans (b7.mono HBX6.out.size))
            have HRS7 := hid (HRS6.out.later b7)
            have HSP7 := hid rs7
            obtain ⟨SL, hSL⟩ : ∃ n, n = SS.length := ⟨_, rfl⟩
            rw [← hSL] at HSP7 hsl ⊢
            have hSL62 : SL ≤ 2 ^ 60 := by omega
            obtain ⟨C2, hC2⟩ : ∃ C : Int, C = if SS.all (okS b) = true then 0 else 4 := ⟨_, rfl⟩
            have hcs2 := csum_t (HS.out.1.later HB7.out) HS.out.2.1 HSP7.out (by omega) HSI.out hC2
            have HC2 := hid hC2
            have HSL : Hid (SL ≤ 5000000) := hsl
            clear hspn rs7 b7 hSS hSL hsl hC2 HB6 HBX6 HRS6
            go_upto_region 13 with (go_at_call 29; refine hcs2.mono ?_; rintro e w8 ⟨rfl, b8⟩)
            have HB8 := hid (HB7.out.trans (b8.mono HB7.out.size))
            have HBX8 := hid (HBX7.out.trans (b8.mono HBX7.out.size))
            have HRS8 := hid (HRS7.out.later b8)
            have HSP8 := hid (HSP7.out.later b8)
            clear hcs2 b8 HB7 HBX7 HRS7 HSP7
            by_cases q4 : SS.all (okS b) = true
            · have hC2 : C2 = 0 := by have := HC2.out; rw [if_pos q4] at this; exact this
              subst hC2
              clear HC2 q4
              have hen := ents_t (HS.out.1.later HB8.out) HS.out.2.1 HSP8.out (by have := HSL.out; omega) HSI.out
              obtain ⟨⟨E5, L⟩, hT⟩ : ∃ T, teK (SS.map (ofS b)) [] = T := ⟨_, rfl⟩
              have hLl : L.length ≤ 4401 := by have := teK_len (SS.map (ofS b)) [] (by simp); rw [hT] at this; exact this
              rw [hT] at hen
              replace hen : Calls Try.prog 33 #[.slice ao len cap, .slice a7 SL c7] w8 fun e w' => ∃ v, e = .returned (.tuple #[v, .int .i64 (E5 : Int)]) ∧ RSV entE w' v L ∧ Below w8.heap.size w8 w' := hen
              have HT := hid hT
              have HLL : Hid (L.length ≤ 4401) := hLl
              clear hT hLl
              go_upto_region 15 with (go_at_call 33; refine hen.mono ?_; rintro e w9 ⟨v9, rfl, ⟨a9, c9, rfl, rs9⟩, b9⟩)
              have HB9 := hid (HB8.out.trans (b9.mono HB8.out.size))
              have HBX9 := hid (HBX8.out.trans (b9.mono HBX8.out.size))
              have HRS9 := hid (HRS8.out.later b9)
              have HEN9 := hid rs9
              clear hen b9 rs9 HB8 HBX8 HRS8 HSP8
              by_cases q5 : E5 = 0
              · subst q5
                have hbu := build_t HEN9.out (by have := HLL.out; omega)
                have HOK9 := hid HEN9.out.okET
                obtain ⟨LL, hLL⟩ : ∃ n, n = L.length := ⟨_, rfl⟩
                rw [← hLL] at hbu ⊢
                have HLE := hid hLL
                have hLL62 : LL ≤ 2 ^ 60 := by have := HLL.out; omega
                obtain ⟨E6, hE6⟩ : ∃ E, E = tblE L := ⟨_, rfl⟩
                rw [← hE6] at hbu
                have HE6 := hid hE6
                obtain ⟨X, hX⟩ : ∃ X, X = (if E6 = 0 then tblB L else []) := ⟨_, rfl⟩
                rw [← hX] at hbu
                have HX := hid hX
                clear hLL hE6 hX
                go_upto_region 17 with (go_at_call 6; refine hbu.mono ?_; rintro e w10 ⟨v10, rfl, ⟨a10, c10, rfl, s10⟩, b10⟩)
                have HB10 := hid (HB9.out.trans (b10.mono HB9.out.size))
                have HBX10 := hid (HBX9.out.trans (b10.mono HBX9.out.size))
                have HRS10 := hid (HRS9.out.later b10)
                have HS10 := hid s10
                have heq := eql_m s10 (HS.out.1.later HB10.out)
                obtain ⟨XL, hXL⟩ : ∃ n, n = X.length := ⟨_, rfl⟩
                rw [← hXL] at heq HS10 ⊢
                have HXL := hid hXL
                clear hbu b10 s10 HB9 HBX9 HRS9 hXL
                by_cases q6 : E6 = 0
                · subst q6
                  by_cases q7 : X = b
                  · rw [decide_eq_true q7] at heq
                    have hXt : X = tblB L := by have := HX.out; rw [if_pos rfl] at this; exact this
                    have HG : Hid (tblE L = 0 ∧ tblB L = b ∧ (∀ e ∈ L, OkE e)) := ⟨HE6.out.symm, by rw [← hXt]; exact q7, HOK9.out⟩
                    obtain ⟨g1, g2, g3⟩ := HROW.out L HG.out.1 HG.out.2.1 HG.out.2.2
                    obtain ⟨x0, x1, x2, x3⟩ := HBX.out w10 HBX10.out
                    have bF : Below w10.heap.size w10 (w10.alloc (.cells #[.slice a10 XL c10, .slice a6 RL c6, .int .i64 (f0 : Int), .int .i64 (f1 : Int), .int .i64 (LL : Int)] 71)) := (Below.refl _ _).alloc (Nat.le_refl _) _
                    have hl1 : XL = (tblB L).length := by rw [HXL.out, hXt]
                    have hl2 : RL = (rowsT L).length := by rw [HRL.out.1, g1]
                    have hl3 : f0 = (flS L).1 ∧ f1 = (flS L).2 := by rw [← g2]; exact ⟨rfl, rfl⟩
                    have HRT : Hid (RTb (w10.alloc (.cells #[.slice a10 XL c10, .slice a6 RL c6, .int .i64 (f0 : Int), .int .i64 (f1 : Int), .int .i64 (LL : Int)] 71)) w10.heap.size L) := by
                      refine ⟨HG.out.1, HG.out.2.2, a10, c10, a6, c6, ?_, ?_, ?_⟩
                      · rw [← hl1, ← hl2, ← hl3.1, ← hl3.2, ← HLE.out]
                        exact heap_alloc_new w10 _
                      · rw [← hl1, ← hXt]
                        exact HS10.out.later bF
                      · rw [← hl2, ← g1]
                        exact HRS10.out.later bF
                    have HB11 := hid (HB10.out.trans (bF.mono HB10.out.size))
                    have HOP := hid g3
                    clear q7 HPF HP HROW HRP HX HT hXt g1 g2 g3 hl1 hl2 hl3 bF
                    go_wp2_with (go_at_call 34; refine heq.mono ?_; rintro e w11 ⟨rfl, hw⟩; obtain rfl := hw.symm)
                    simp only [Exit.jump]
                    exact bodyPost_ret (v := .tuple #[.pointer (some ⟨w10.heap.size, 0, none⟩), .int .i64 0]) (by simp [results, Try.results8, go_sem]) rfl ⟨⟨_, 0, rfl, ⟨fun _ => by rw [HOP.out], fun _ => rfl⟩, fun z => absurd rfl z, fun _ => ⟨_, rfl, by rw [HOP.out]; exact HRT.out⟩⟩, HB11.out⟩
                  · rw [decide_eq_false q7] at heq
                    have HNP : Hid ((opT tkD b).1 ≠ 0) := fun z => by
                      obtain ⟨z1, z2, z3⟩ := HP.out z
                      obtain ⟨_, _, _, _, _, z6⟩ := HPF.out z
                      rw [← HRP.out z, ← HSS.out, HT.out] at z6
                      simp only [Prod.mk.injEq, true_and] at z6
                      have hXt : X = tblB L := by have := HX.out; rw [if_pos rfl] at this; exact this
                      exact q7 (by rw [hXt, z6, z2])
                    clear q7 HPF HP HROW HRP HX HT
                    go_wp2_with (go_at_call 34; refine heq.mono ?_; rintro e w11 ⟨rfl, hw⟩; obtain rfl := hw.symm)
                    go_step3
                    exact ⟨rfl, 3, ⟨by decide, HNP.out, HB10.out⟩, _, _, _, _, _, _, _, _, _, _, _, _, _, _, _, _, _, _, _, _, _, _, _, _, _, _, _, _, _, _, _, _, _, _, _, _, _, _, _, _, _, _, _, _, _, _, _, _, _, _, _, _, _, _, _, _, _, _, _, _, _, _, _, _, _, _, _, _, _, _, _, _, rfl⟩
                · have HNP : Hid ((opT tkD b).1 ≠ 0) := fun z => by
                    obtain ⟨z1, z2, z3⟩ := HP.out z
                    obtain ⟨_, _, _, _, _, z6⟩ := HPF.out z
                    rw [← HRP.out z, ← HSS.out, HT.out] at z6
                    simp only [Prod.mk.injEq, true_and] at z6
                    exact q6 (by rw [HE6.out, z6, z1])
                  have q6' : ¬ ((E6 : Int) = 0) := by omega
                  clear q6 HPF HP HROW HRP HX HT heq
                  go_wp2_with fail
                  go_step3
                  exact ⟨rfl, 3, ⟨by decide, HNP.out, HB10.out⟩, _, _, _, _, _, _, _, _, _, _, _, _, _, _, _, _, _, _, _, _, _, _, _, _, _, _, _, _, _, _, _, _, _, _, _, _, _, _, _, _, _, _, _, _, _, _, _, _, _, _, _, _, _, _, _, _, _, _, _, _, _, _, _, _, _, _, _, _, _, _, _, _, rfl⟩
              · have HNP : Hid ((opT tkD b).1 ≠ 0) := fun z => by
                  obtain ⟨_, _, _, _, _, z6⟩ := HPF.out z
                  rw [← HRP.out z, ← HSS.out, HT.out] at z6
                  simp only [Prod.mk.injEq] at z6
                  exact q5 z6.1
                have HQ5 := hid q5
                have q5' : ¬ ((E5 : Int) = 0) := by omega
                clear q5 HPF HP HROW HRP HT
                go_wp2_with fail
                go_step3
                exact ⟨rfl, E5, ⟨HQ5.out, HNP.out, HB9.out⟩, _, _, _, _, _, _, _, _, _, _, _, _, _, _, _, _, _, _, _, _, _, _, _, _, _, _, _, _, _, _, _, _, _, _, _, _, _, _, _, _, _, _, _, _, _, _, _, _, _, _, _, _, _, _, _, _, _, _, _, _, _, _, _, _, _, _, _, _, _, _, _, _, rfl⟩
            · have hC2 : C2 = 4 := by have := HC2.out; rw [if_neg q4] at this; exact this
              subst hC2
              have HNP : Hid ((opT tkD b).1 ≠ 0) := fun z => by
                obtain ⟨_, _, _, _, z5, _⟩ := HPF.out z
                rw [← HRP.out z, ← HSS.out] at z5
                exact q4 z5
              clear HC2 q4 HPF HP HROW HRP
              go_wp2_with fail
              go_step3
              exact ⟨rfl, 4, ⟨by decide, HNP.out, HB8.out⟩, _, _, _, _, _, _, _, _, _, _, _, _, _, _, _, _, _, _, _, _, _, _, _, _, _, _, _, _, _, _, _, _, _, _, _, _, _, _, _, _, _, _, _, _, _, _, _, _, _, _, _, _, _, _, _, _, _, _, _, _, _, _, _, _, _, _, _, _, _, _, _, _, rfl⟩
      · have hC1 : C1 = 4 := by have := HC1.out; rw [if_neg q2] at this; exact this
        subst hC1
        have HNP : Hid ((opT tkD b).1 ≠ 0) := fun z => by
          obtain ⟨z1, z2, z3, _⟩ := HPF.out z
          rw [HFT.out] at z1
          simp only [Prod.mk.injEq, true_and] at z1
          rw [← z1.1] at z2
          rw [← z1.2] at z3
          exact q2 (by simp [z2, z3])
        clear HC1 q2 hin1 hin2 hin3 hlen5
        go_wp2_with fail
        go_step3
        exact ⟨rfl, 4, ⟨by decide, HNP.out, HB2.out⟩, _, _, _, _, _, _, _, _, _, _, _, _, _, _, _, _, _, _, _, _, _, _, _, _, _, _, _, _, _, _, _, _, _, _, _, _, _, _, _, _, _, _, _, _, _, _, _, _, _, _, _, _, _, _, _, _, _, _, _, _, _, _, _, _, _, _, _, _, _, _, _, _, rfl⟩
    · have HNP : Hid ((opT tkD b).1 ≠ 0) := fun z => by
        obtain ⟨z1, _⟩ := HPF.out z
        rw [HFT.out] at z1
        simp only [Prod.mk.injEq] at z1
        exact q1 z1.1
      have HQ1 := hid q1
      have q1' : ¬ ((E1 : Int) = 0) := by omega
      clear q1
      go_wp2_with fail
      go_step3
      exact ⟨rfl, E1, ⟨HQ1.out, HNP.out, HB1.out⟩, _, _, _, _, _, _, _, _, _, _, _, _, _, _, _, _, _, _, _, _, _, _, _, _, _, _, _, _, _, _, _, _, _, _, _, _, _, _, _, _, _, _, _, _, _, _, _, _, _, _, _, _, _, _, _, _, _, _, _, _, _, _, _, _, _, _, _, _, _, _, _, _, rfl⟩
  · rintro a' w' ⟨E, ⟨hE, hNP, hB⟩, u0, u1, u2, u3, u4, u5, u6, u7, u8, u9, u11, u12, u13, u14, u15, u16, u17, u18, u19, u20, u21, u22, u23, u24, u25, u26, u27, u28, u29, u30, u31, u32, u33, u34, u35, u36, u37, u38, u39, u40, u41, u42, u43, u44, u45, u46, u47, u48, u49, u50, u51, u52, u53, u54, u55, u56, u57, u58, u59, u60, u61, u62, u63, u64, u65, u66, u67, u68, u69, u70, u71, u72, rfl⟩
    have HF := hid (And.intro hE (And.intro hNP hB))
    clear hE hNP hB
    go_wp2_with fail
    simp only [Exit.jump]
    exact bodyPost_ret (v := .tuple #[.pointer none, .int .i64 (E : Int)]) (by simp [results, Try.results8, go_sem]) rfl ⟨⟨.pointer none, E, rfl, ⟨fun z => absurd z HF.out.1, fun z => absurd z HF.out.2.1⟩, fun _ => rfl, fun z => absurd z HF.out.1⟩, HF.out.2.2⟩
end Go.Proofs.Ytimpaindbbjieab

/- The landed table: that it is awake; a table that there is not. -/
namespace Go.Proofs.Ytimpaindbbjieab
open Go.RowKit
set_option linter.unusedVariables false
set_option linter.unusedSimpArgs false

/-- : what is asked of a program's tables at the least. -/
structure PTA where
  R : World → Nat → List EntV → Prop
  later : ∀ {w w' : World} {p : Nat} {l : List EntV}, R w p l → Below w.heap.size w w' → R w' p l
  build : ∀ {w : World} {ao : Option Addr} {len cap : Nat} {l : List EntV}, RS entE w ao len cap l → len ≤ 4010 → (∀ e ∈ l, e.key.length ≤ 3000 ∧ e.val.length ≤ 3000) → Calls Try.prog 6 #[.slice ao len cap] w fun e w' => ∃ v, e = .returned (.tuple #[v, .int .i64 ((tblE l : Nat) : Int)]) ∧ SlV w' v (tblX l) ∧ Below w.heap.size w w'
  opn : ∀ {w : World} {ao : Option Addr} {len cap : Nat} {b : List Int}, Sl w ao len cap b → len ≤ 5000000 → Calls Try.prog 8 #[.slice ao len cap] w fun e w' => ∃ (v : Value) (E : Nat), e = .returned (.tuple #[v, .int .i64 (E : Int)]) ∧ (E = 0 ↔ (opT tkD b).1 = 0) ∧ (E ≠ 0 → v = .pointer none) ∧ (E = 0 → ∃ p, v = pm p ∧ R w' p (opT tkD b).2) ∧ Below w.heap.size w w'
  len : ∀ {w : World} {p : Nat} {l : List EntV}, R w p l → Calls Try.prog 27 #[pm p] w fun r w' => r = .returned (.int .i64 (l.length : Nat)) ∧ Below w.heap.size w w'
  most : ∀ {w : World} {p : Nat} {l : List EntV}, R w p l → Calls Try.prog 14 #[pm p] w fun r w' => ∃ v, r = .returned v ∧ SlV w' v (lastK [] l) ∧ Below w.heap.size w w'
set_option maxHeartbeats 1000000 in
set_option maxRecDepth 100000 in
theorem awake12_a (D : PTA) (w : World) : Calls Try.prog 7 #[] w fun e w' => e = .returned (.bool true) ∧ Below w.heap.size w w' := by
  have hcv2 : ∀ (w : World) X, (convert 24 24 (.slice (some ⟨w.heap.size + 1, 0, none⟩) 1 1)).run Try.prog ((w.alloc X).alloc (.cells #[.int .u8 120] 5)) = .ok (.slice (some ⟨w.heap.size + 1, 0, none⟩) 1 1) ((w.alloc X).alloc (.cells #[.int .u8 120] 5 (1, 2))) := fun w X => by
    have := Lib.run_convert_bytes_const (P := Try.prog) (w.alloc X) 24 5 #[.int .u8 120] 1 1 Try.underlying24 Try.underlying5
    simpa using this
  have hcv := fun (w : World) a l c => Lib.run_convert_bytes_const (P := Try.prog) w 24 5 a l c Try.underlying24 Try.underlying5
  obtain ⟨W3, hW3⟩ : ∃ W, W = (w.alloc (.cells #[.int .u8 97] 5 (1, 2))).alloc (.cells #[.int .u8 120] 5 (1, 2)) := ⟨_, rfl⟩
  have b2 : Below w.heap.size w W3 := by rw [hW3]; exact ((Below.refl _ w).alloc (Nat.le_refl _) _).alloc (by simp) _
  have s1 : Sl W3 (some ⟨w.heap.size, 0, none⟩) 1 1 [97] := by rw [hW3]; exact (sl_byte w 97 (by decide)).later ((Below.refl _ _).alloc (Nat.le_refl _) _)
  have s2 : Sl W3 (some ⟨w.heap.size + 1, 0, none⟩) 1 1 [120] := by
    have := sl_byte (w.alloc (.cells #[.int .u8 97] 5 (1, 2))) 120 (by decide)
    rw [hW3]
    simpa using this
  have hM : entE.M W3 [.slice (some ⟨w.heap.size, 0, none⟩) 1 1, .int .i64 1, .bool false, .int .i64 0, .slice (some ⟨w.heap.size + 1, 0, none⟩) 1 1] eT := ⟨_, 1, _, 1, rfl, s1, s2, ⟨by decide, by decide⟩, ⟨by decide, by decide⟩⟩
  have hone := rs_one hM
  obtain ⟨L, hL⟩ : ∃ L, L = [eT] := ⟨_, rfl⟩
  rw [← hL] at hone
  have t1 : tblE L = 0 := by rw [hL]; exact tbl_t
  have t2 : ∀ e ∈ L, OkE e := by rw [hL]; exact ok_t
  have t3 : ∀ e ∈ L, e.key.length ≤ 3000 ∧ e.val.length ≤ 3000 := by rw [hL]; exact fun e he => by rw [List.mem_singleton.1 he]; exact ⟨by decide, by decide⟩
  have t4 : L.length = 1 := by rw [hL]; rfl
  have t5 : lastK [] L = [97] := by rw [hL]; rfl
  clear hL
  have hp := D.build ⟨_, hone⟩ (by decide) t3
  have hX : tblX L = tblB L := by unfold tblX; rw [if_pos t1]
  rw [t1, hX] at hp
  have hsz : W3.heap.size = w.heap.size + 2 := by rw [hW3]; simp
  have HB : Hid (Below w.heap.size w (W3.alloc (.cells #[.slice (some ⟨w.heap.size, 0, none⟩) 1 1, .int .i64 1, .bool false, .int .i64 0, .slice (some ⟨w.heap.size + 1, 0, none⟩) 1 1] 36))) := b2.alloc b2.size _
  have ho := opT_of_tbl t1 t2
  have hbl := (tblE_ok t1).2.2.2.2
  obtain ⟨X, hXX⟩ : ∃ X, X = tblB L := ⟨_, rfl⟩
  rw [← hXX] at hp ho hbl
  obtain ⟨N, hN⟩ : ∃ n, n = X.length := ⟨_, rfl⟩
  have HN : Hid (N = X.length ∧ N ≤ 4194304) := ⟨hN, by rw [hN]; exact hbl⟩
  have HOP : Hid (∀ {wx : World} {a : Option Addr} {c : Nat}, Sl wx a N c X → Calls Try.prog 8 #[.slice a N c] wx fun e w' => ∃ p, e = .returned (.tuple #[.pointer (some ⟨p, 0, none⟩), .int .i64 0]) ∧ D.R w' p L ∧ Below wx.heap.size wx w') := fun {wx a c} hs => (D.opn hs (by have := HN.out.2; omega)).mono fun e w' ⟨v, E, he, h1, h2, h3, h4⟩ => by
    rw [ho] at h1 h3
    have hE := h1.2 rfl
    obtain ⟨p, hv, hR⟩ := h3 hE
    exact ⟨p, by rw [he, hE, hv]; rfl, hR, h4⟩
  have HT : Hid (L.length = 1 ∧ lastK [] L = [97]) := ⟨t4, t5⟩
  clear t1 t2 t3 t4 t5 ho hbl hXX
  rw [hsz] at hp
  rw [hW3] at hp HB
  clear hM hone b2 s1 s2 hsz hW3 hX hN
  go_enter Try.func7, Try.ntmps7
  go_upto_region 2 with (go_at_call 6; refine hp.mono ?_; rintro e w1 ⟨v1, rfl, ⟨a1, c1, hv1, s1⟩, b1⟩; rw [← HN.out.1] at hv1 s1; subst hv1)
  have ho := HOP.out s1
  have HB1 := hid (HB.out.trans (b1.mono HB.out.size))
  clear hp s1 b1 hcv hcv2 HB
  go_upto_region 3 with (go_at_call 8; refine ho.mono ?_; rintro e w2 ⟨p, rfl, hR, b2⟩)
  have HB2 := hid (HB1.out.trans (b2.mono HB1.out.size))
  have hl := D.len hR
  rw [HT.out.1] at hl
  have HMO : Hid (∀ wx, Below w2.heap.size w2 wx → Calls Try.prog 14 #[.pointer (some ⟨p, 0, none⟩)] wx fun r w' => ∃ a c, r = .returned (.slice a 1 c) ∧ Sl w' a 1 c [97] ∧ Below wx.heap.size wx w') := fun wx hb => (D.most (D.later hR hb)).mono fun e w' ⟨v, he, ⟨a, c, hv, hs⟩, hb'⟩ => by
    rw [HT.out.2] at hv hs
    exact ⟨a, c, by rw [he, hv]; rfl, hs, hb'⟩
  unfold pm at hl
  clear ho hR b2
  go_wp2_with (first | (go_at_call 27; refine hl.mono ?_; rintro e w3 ⟨rfl, b3⟩) | (go_at_call 14; refine (HMO.out _ b3).mono ?_; rintro e w4 ⟨a4, c4, rfl, s4, b4⟩; have hst := str_l s4; rw [show strOfNums [97] = ⟨#[97]⟩ from rfl] at hst))
  exact bodyPost_ret (v := .bool true) (by simp [results, Try.results7, go_sem]) rfl ⟨rfl, (HB2.out.trans (b3.mono HB2.out.size)).trans (b4.mono (Nat.le_trans HB2.out.size b3.size))⟩

theorem opnT {w : World} {ao : Option Addr} {len cap : Nat} {b : List Int} (h : Sl w ao len cap b) (hl : len ≤ 5000000) : Calls Try.prog 8 #[.slice ao len cap] w fun e w' => ∃ (v : Value) (E : Nat), e = .returned (.tuple #[v, .int .i64 (E : Int)]) ∧ (E = 0 ↔ (opT tkD b).1 = 0) ∧ (E ≠ 0 → v = .pointer none) ∧ (E = 0 → ∃ p, v = pm p ∧ RTb w' p (opT tkD b).2) ∧ Below w.heap.size w w' := (open_t h hl).mono fun e w' ⟨⟨v, E, h1, h2, h3, h4⟩, h5⟩ => ⟨v, E, h1, h2, h3, h4, h5⟩
/-- -/
def theTa : PTA where
  R := RTb
  later := fun h hb => h.later hb
  build := fun {w ao len cap l} h hl _ => build_t h (by omega)
  opn := fun h hl => opnT h hl
  len := fun h => lenA_t h
  most := fun h => most_t h
/-- -/
theorem theTn : PTN where
  len := lenN_t
  least := leastN_t
  most := mostN_t
  get := fun _ _ => getN_t
  may := fun _ => mayN2_t
  list := fun _ _ => listN_t
  all := allN_t
end Go.Proofs.Ytimpaindbbjieab

/- The landed table: all that is asked of it. -/
namespace Go.Proofs.Ytimpaindbbjieab
open Go.RowKit
set_option linter.unusedVariables false
set_option linter.unusedSimpArgs false

set_option maxRecDepth 100000 in
theorem all_t {w : World} {p : Nat} {l : List EntV} (hT : RTb w p l) : Calls Try.prog 10 #[.pointer (some ⟨p, 0, none⟩)] w fun r w' => ∃ v, r = .returned v ∧ RSV entE w' v l ∧ Below w.heap.size w w' := by
  have hf := list_t hT (Sl.nil w) (Sl.nil w)
  rw [listE_all] at hf
  clear hT
  go_enter Try.func10, Try.ntmps10
  go_wp2_with (go_at_call 36; refine hf.mono ?_; rintro e w1 ⟨v1, rfl, ⟨a1, c1, rfl, hr⟩, b1⟩)
  exact bodyPost_ret (v := .slice a1 l.length c1) (by simp [results, Try.results10, go_sem]) rfl ⟨_, rfl, ⟨a1, c1, rfl, hr⟩, b1⟩
/-- -/
def theT : PT where
  R := RTb
  later := fun h hb => h.later hb
  build := fun {w ao len cap l} h hl _ => build_t h (by omega)
  opn := fun h hl => opnT h hl
  len := fun h => lenA_t h
  least := fun h => least_t h
  most := fun h => most_t h
  get := fun h hk hs => get_t h hk hs
  may := fun h hk => may_t h hk
  list := fun h hf ht => list_t h hf ht
  all := fun h => all_t h
end Go.Proofs.Ytimpaindbbjieab
