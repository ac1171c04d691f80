import Derived.BigQuiet
import Derived.Deep.RegionHeldLaw
import Derived.Test.YtimpaindbbjieaaPk10
import Derived.Test.YtimpaindbbjieaaPk17
import Derived.Test.YtimpaindbbjieaaPk29
import Derived.Test.YtimpaindbbjieaaPk32
import Derived.Test.YtimpaindbbjieaaPk38
/- The landed table: Open. -/
namespace Go.Proofs.Ytimpaindbbjieaa
open Go.RowKit
set_option linter.unusedVariables false
set_option linter.unusedSimpArgs false

set_option maxHeartbeats 8000000 in
set_option maxRecDepth 100000 in
theorem open_t {w : World} {ao : Option Addr} {len cap : Nat} {b : List Int} (h : Sl w ao len cap b) (hl : len ≤ 5000000) :
    Calls Try.prog 12 #[.slice ao len cap] w fun e w' => OpR b e w' ∧ Below w.heap.size w w' := by
  have hln : b.length = len := h.1
  have HS : Hid (Sl w ao len cap b ∧ len ≤ 5000000 ∧ b.length = len ∧ len ≤ cap) := ⟨h, hl, hln, h.2.2.2.1⟩
  have HP : Hid ((opT tkD b).1 = 0 → tblE (opT tkD b).2 = 0 ∧ tblB (opT tkD b).2 = b ∧ ∀ e ∈ (opT tkD b).2, OkE e) := fun z => opT_is h.2.1 z
  have HPF : Hid ((opT tkD b).1 = 0 → ftE b = (0, ixS (opT tkD b).2, flS (opT tkD b).2) ∧ okS b (ixS (opT tkD b).2) = true ∧ okS b (flS (opT tkD b).2) = true ∧ (∀ n, (ofS b (ixS (opT tkD b).2)).length ≤ n → ixT n (ofS b (ixS (opT tkD b).2)) (ixS (opT tkD b).2).1 = some (rowsT (opT tkD b).2)) ∧ (spU ((rowsT (opT tkD b).2).map (·.sp))).all (okS b) = true ∧ teK ((spU ((rowsT (opT tkD b).2).map (·.sp))).map (ofS b)) [] = (0, (opT tkD b).2)) := fun z => by
    obtain ⟨z1, z2, z3⟩ := HP.out z
    exact opn_facts z1 z3 z2
  obtain ⟨⟨E1, ⟨i0, i1⟩, ⟨f0, f1⟩⟩, hft⟩ : ∃ x, ftE b = x := ⟨_, rfl⟩
  have hfoot := foot_t h hl
  rw [hft] at hfoot
  unfold spT at hfoot
  try simp only at hfoot
  have HFT := hid hft
  clear h hl hln hft
  go_enter Try.func12, Try.ntmps12
  go_wp2_with fail
  refine wp_scope_jumps 0 (fun a' w' => ∃ E : Nat, (E ≠ 0 ∧ (opT tkD b).1 ≠ 0 ∧ Below w.heap.size w w') ∧ ∃ (u0 u1 u2 u3 u4 u5 u6 u7 u8 u9 u11 u12 u13 u14 u15 u16 u17 u18 u19 u20 u21 u22 u23 u24 u25 u26 u27 u28 u29 u30 u31 u32 u33 u34 u35 u36 u37 u38 u39 u40 u41 u42 u43 u44 u45 u46 u47 u48 u49 u50 u51 u52 u53 u54 u55 u56 u57 u58 u59 u60 u61 u62 u63 u64 u65 u66 u67 u68 u69 u70 u71 u72 : Value), a' = { tmps := #[u0, u1, u2, u3, u4, u5, u6, u7, u8, u9, .int .i64 (E : Int), u11, u12, u13, u14, u15, u16, u17, u18, u19, u20, u21, u22, u23, u24, u25, u26, u27, u28, u29, u30, u31, u32, u33, u34, u35, u36, u37, u38, u39, u40, u41, u42, u43, u44, u45, u46, u47, u48, u49, u50, u51, u52, u53, u54, u55, u56, u57, u58, u59, u60, u61, u62, u63, u64, u65, u66, u67, u68, u69, u70, u71, u72], defers := [] }) (fun _ _ => 0) rfl ?_ ?_
  · go_upto_region 6 with (go_at_call 44; refine hfoot.mono ?_; rintro e w1 ⟨rfl, b1⟩)
    obtain ⟨W1, hW1⟩ : ∃ W, (w1.alloc (.cells #[.int .i64 (i0 : Int), .int .i64 (i1 : Int)] 74)).alloc (.cells #[.int .i64 (f0 : Int), .int .i64 (f1 : Int)] 74) = W := ⟨_, rfl⟩
    have hsz1 : (w1.alloc (.cells #[.int .i64 (i0 : Int), .int .i64 (i1 : Int)] 74)).heap.size = w1.heap.size + 1 := by simp
    have bA : Below w1.heap.size w1 (w1.alloc (.cells #[.int .i64 (i0 : Int), .int .i64 (i1 : Int)] 74)) := (Below.refl _ _).alloc (Nat.le_refl _) _
    have bB : Below (w1.heap.size + 1) (w1.alloc (.cells #[.int .i64 (i0 : Int), .int .i64 (i1 : Int)] 74)) W1 := by rw [← hW1, ← hsz1]; exact (Below.refl _ _).alloc (Nat.le_refl _) _
    have hbi : W1.heap[w1.heap.size]? = some (.cells #[.int .i64 (i0 : Int), .int .i64 (i1 : Int)] 74 (0, 0)) := by rw [bB.block _ (by omega)]; exact heap_alloc_new w1 _
    have hbf : W1.heap[w1.heap.size + 1]? = some (.cells #[.int .i64 (f0 : Int), .int .i64 (f1 : Int)] 74 (0, 0)) := by rw [← hW1, ← hsz1]; exact heap_alloc_new _ _
    have B1 : Below w.heap.size w W1 := b1.trans ((bA.trans (bB.mono (by omega))).mono b1.size)
    have HBX : Hid (∀ wx, Below W1.heap.size W1 wx → wx.cell? ⟨w1.heap.size, 0, none⟩ = some (.int .i64 (i0 : Int)) ∧ wx.cell? ⟨w1.heap.size, 1, none⟩ = some (.int .i64 (i1 : Int)) ∧ wx.cell? ⟨w1.heap.size + 1, 0, none⟩ = some (.int .i64 (f0 : Int)) ∧ wx.cell? ⟨w1.heap.size + 1, 1, none⟩ = some (.int .i64 (f1 : Int))) := fun wx hb =>
      ⟨cell_later hb (by rw [cell_of hbi]; rfl), cell_later hb (by rw [cell_of hbi]; rfl), cell_later hb (by rw [cell_of hbf]; rfl), cell_later hb (by rw [cell_of hbf]; rfl)⟩
    have HB1 := hid B1
    rw [hW1]
    clear hW1 hsz1 bA bB hbi hbf B1 b1 hfoot
    by_cases q1 : E1 = 0
    · subst q1
      obtain ⟨hin1, hin2, hin3⟩ := ftE_in HFT.out
      rw [HS.out.2.2.1] at hin1 hin2 hin3
      replace hin2 : i0 + i1 + 4 ≤ len := hin2
      replace hin3 : f0 + f1 + 4 ≤ len := hin3
      have hlen5 := HS.out.2.1
      obtain ⟨x0, x1, x2, x3⟩ := HBX.out W1 (Below.refl _ _)
      obtain ⟨C1, hC1⟩ : ∃ C : Int, C = if [(i0, i1), (f0, f1)].all (okS b) = true then 0 else 4 := ⟨_, rfl⟩
      have bT : Below W1.heap.size W1 (W1.alloc (.cells #[.int .i64 (i0 : Int), .int .i64 (i1 : Int), .int .i64 (f0 : Int), .int .i64 (f1 : Int)] 74)) := (Below.refl _ _).alloc (Nat.le_refl _) _
      have hcs := csum_t ((HS.out.1.later HB1.out).later bT) HS.out.2.1 (spn_two W1 (i0, i1) (f0, f1)) (by omega) (fun s hs => by
        simp only [List.mem_cons, List.not_mem_nil, or_false] at hs
        rcases hs with rfl | rfl
        · exact hin2
        · exact hin3) hC1
      try simp only at hcs
      have HBT := hid bT
      have HC1 := hid hC1
      clear hC1
      have HIN : Hid (i0 + i1 + 4 ≤ len ∧ f0 + f1 + 4 ≤ len ∧ len ≤ 5000000) := ⟨hin2, hin3, hlen5⟩
      clear bT
      go_upto_region 8 with (go_at_call 45; refine hcs.mono ?_; rintro e w2 ⟨rfl, b2⟩)
      have HBX2 := hid (HBT.out.trans (b2.mono HBT.out.size))
      have HB2 := hid (HB1.out.trans (HBX2.out.mono HB1.out.size))
      clear hcs b2 x0 x1 x2 x3 HBT
      by_cases q2 : [(i0, i1), (f0, f1)].all (okS b) = true
      · have hC1 : C1 = 0 := by have := HC1.out; rw [if_pos q2] at this; exact this
        subst hC1
        clear HC1
        have hsl := (HS.out.1.later HB2.out).cut i0 (i0 + i1) (by omega) (by omega)
        rw [show i0 + i1 - i0 = i1 by omega] at hsl
        have HSX : Hid (∀ wx, Below w2.heap.size w2 wx → Sl wx (cutA ao cap i0) i1 (cap - i0) (ofS b (i0, i1))) := fun wx hb => hsl.later hb
        have HOF : Hid (∀ wx, Calls Try.prog 47 #[.agg #[.int .i64 (i0 : Int), .int .i64 (i1 : Int)], .slice ao len cap] wx fun e w' => e = .returned (.slice (cutA ao cap i0) i1 (cap - i0)) ∧ Below wx.heap.size wx w') := fun wx => spof_t (by have := HS.out.2.2.2; omega) (by omega) (by omega)
        have hol : (ofS b (i0, i1)).length = i1 := hsl.1
        obtain ⟨O, hO⟩ : ∃ O, O = ixT i1 (ofS b (i0, i1)) i0 := ⟨_, rfl⟩
        have HIX : Hid (∀ wx, Sl wx (cutA ao cap i0) i1 (cap - i0) (ofS b (i0, i1)) → Calls Try.prog 46 #[.slice (cutA ao cap i0) i1 (cap - i0), .int .i64 (i0 : Int)] wx fun e w' => IxR O e w' ∧ Below wx.heap.size wx w') := fun wx hs => by rw [hO]; exact index_t hs (by have := HIN.out; omega) (by have := HIN.out; omega) (Nat.le_refl _)
        have HOO : Hid (O = ixT i1 (ofS b (i0, i1)) i0 ∧ (ofS b (i0, i1)).length = i1) := ⟨hO, hol⟩
        have HQ2 := hid q2
        have HBD : Hid (Below w2.heap.size w2 w2.drew) := (Below.refl _ w2).drew
        have HY : Hid (∀ wx, Below w2.heap.size w2 wx → wx.cell? ⟨w1.heap.size, 0, none⟩ = some (.int .i64 (i0 : Int)) ∧ wx.cell? ⟨w1.heap.size, 1, none⟩ = some (.int .i64 (i1 : Int))) := fun wx hb => by
          obtain ⟨a1, a2, _, _⟩ := HBX.out wx (HBX2.out.trans (hb.mono HBX2.out.size))
          exact ⟨a1, a2⟩
        obtain ⟨y0, y1⟩ := HY.out w2 (Below.refl _ _)
        have hi62 : i0 ≤ 2 ^ 60 := by omega
        have hi63 : i1 ≤ 2 ^ 60 := by omega
        generalize cutA ao cap i0 = ca at HSX HOF HIX
        generalize cap - i0 = cc at HSX HOF HIX
        clear hsl hol hO q2 hin1 hin2 hin3 hlen5
        have HIN2 : Hid (∀ wx, Sl wx ca i1 cc (ofS b (i0, i1)) → Calls Try.prog 46 #[.slice ca i1 cc, .int .i64 (i0 : Int)] wx fun e w' => ∃ (v : Value) (E3 : Nat), e = .returned (.tuple #[v, .int .i64 (E3 : Int)]) ∧ ((E3 = 3 ∧ O = none) ∨ (E3 = 0 ∧ ∃ rows, O = some rows ∧ RSV rowE w' v rows)) ∧ Below wx.heap.size wx w') := fun wx hs => (HIX.out wx hs).mono fun e w' ⟨hR, hb⟩ => by
          rcases hR with ⟨hz, rfl⟩ | ⟨rs, v, hz, rfl, hrs⟩
          · exact ⟨_, 3, rfl, .inl ⟨rfl, hz⟩, hb⟩
          · exact ⟨v, 0, rfl, .inr ⟨rfl, rs, hz, hrs⟩, hb⟩
        clear HIX
        go_upto_region 9 with fail
        go_region_held_law (fun w' => w'.cell? ⟨w1.heap.size, 0, none⟩ = some (.int .i64 (i0 : Int)) ∧ w'.cell? ⟨w1.heap.size, 1, none⟩ = some (.int .i64 (i1 : Int))) (first | exact HY.out _ B6 | exact HY.out _ B5 | exact HY.out _ HBD.out | exact ⟨y0, y1⟩) (first | (go_at_call 47; refine (HOF.out _).mono ?_; rintro e w5 ⟨rfl, b5⟩; have B5 := HBD.out.trans (b5.mono HBD.out.size); clear b5) | (go_at_call 46; refine (HIN2.out _ (HSX.out _ B5)).mono ?_; rintro e w6 ⟨v6, E3, rfl, hR6, b6⟩; have B6 := B5.trans (b6.mono B5.size); clear b6))
        all_goals
          have HB6 := hid (HB2.out.trans (B6.mono HB2.out.size))
          have HBX6 := hid (HBX2.out.trans (B6.mono HBX2.out.size))
          clear B5 B6 y0 y1 HIN2 HSX HOF HY HBD HB2 HBX2 HB1
          rcases hR6 with ⟨rfl, hO⟩ | ⟨rfl, rows, hO, a6, c6, rfl, rs6⟩
          · have HNP : Hid ((opT tkD b).1 ≠ 0) := fun z => by
              obtain ⟨z1, z2, z3, z4, z5, z6⟩ := HPF.out z
              rw [HFT.out] at z1
              simp only [Prod.mk.injEq, true_and] at z1
              rw [← z1.1] at z4
              have := z4 i1 (by rw [HOO.out.2]; exact Nat.le_refl _)
              have h9 := HOO.out.1
              simp only at this
              rw [this, hO] at h9
              cases h9
            clear hO HPF HP
            go_wp2_with fail
            go_step3
            exact ⟨rfl, 3, ⟨by decide, HNP.out, HB6.out⟩, _, _, _, _, _, _, _, _, _, _, _, _, _, _, _, _, _, _, _, _, _, _, _, _, _, _, _, _, _, _, _, _, _, _, _, _, _, _, _, _, _, _, _, _, _, _, _, _, _, _, _, _, _, _, _, _, _, _, _, _, _, _, _, _, _, _, _, _, _, _, _, _, rfl⟩
          · obtain ⟨hri, hrl⟩ := ixT_in (HOO.out.1.symm.trans hO)
            rw [HOO.out.2] at hrl
            have HRI : Hid ((∀ r ∈ rows, r.sp.1 + r.sp.2 + 4 ≤ i0) ∧ rows.length ≤ 5000000 ∧ i0 ≤ 5000000) := ⟨hri, by have := HIN.out; omega, by have := HIN.out; omega⟩
            have HROW : Hid (∀ l, tblE l = 0 → tblB l = b → (∀ e ∈ l, OkE e) → rows = rowsT l ∧ (f0, f1) = flS l ∧ opT tkD b = (0, l)) := fun l z1 z2 z3 => by
              obtain ⟨y1, y2, y3, y4, y5, y6⟩ := opn_facts z1 z3 z2
              rw [HFT.out] at y1
              simp only [Prod.mk.injEq, true_and] at y1
              rw [← y1.1] at y4
              have := y4 i1 (by rw [HOO.out.2]; exact Nat.le_refl _)
              have h9 := HOO.out.1
              simp only at this
              rw [this, hO] at h9
              cases h9
              refine ⟨rfl, y1.2, ?_⟩
              rw [← z2]
              exact opT_of_tbl z1 z3
            have HRP : Hid ((opT tkD b).1 = 0 → rows = rowsT (opT tkD b).2) := fun z => by
              obtain ⟨z1, z2, z3⟩ := HP.out z
              exact (HROW.out _ z1 z2 z3).1
            have HRS6 := hid rs6
            obtain ⟨RL, hRL⟩ : ∃ n, n = rows.length := ⟨_, rfl⟩
            rw [← hRL] at HRS6 ⊢
            have HRL : Hid (RL = rows.length ∧ RL ≤ 5000000) := ⟨hRL, by rw [hRL]; exact HRI.out.2.1⟩
            have hRL62 : RL ≤ 2 ^ 60 := by have := HRL.out.2; omega
            clear rs6 hri hrl hRL hO
            have hspn := spans_t HRS6.out HRL.out.2 (fun r hr => by have := HRI.out.1 r hr; have := HRI.out.2.2; exact ⟨by omega, by omega⟩)
            go_upto_region 12 with (go_at_call 48; refine hspn.mono ?_; rintro e w7 ⟨v7, rfl, ⟨a7, c7, rfl, rs7⟩, b7⟩)
            obtain ⟨SS, hSS⟩ : ∃ S, S = spU (rows.map (·.sp)) := ⟨_, rfl⟩
            rw [← hSS] at rs7 ⊢
            have HSS := hid hSS
            have hsl : SS.length ≤ 5000000 := by rw [hSS]; have := spU_len (rows.map (·.sp)); rw [List.length_map] at this; have := HRI.out.2.1; omega
            have HSI : Hid (∀ s ∈ SS, s.1 + s.2 + 4 ≤ len) := fun s hs => by
              rw [hSS] at hs
              obtain ⟨r, hr, rfl⟩ := List.mem_map.1 (spU_mem.1 hs)
              have := HRI.out.1 r hr
              have := HIN.out
              omega
            have HB7 := hid (HB6.out.trans (b7.mono HB6.out.size))
            have HBX7 := hid (HBX6.out.trans (b7.mono HBX6.out.size))
            have HRS7 := hid (HRS6.out.later b7)
            have HSP7 := hid rs7
            obtain ⟨SL, hSL⟩ : ∃ n, n = SS.length := ⟨_, rfl⟩
            rw [← hSL] at HSP7 hsl ⊢
            have hSL62 : SL ≤ 2 ^ 60 := by omega
            obtain ⟨C2, hC2⟩ : ∃ C : Int, C = if SS.all (okS b) = true then 0 else 4 := ⟨_, rfl⟩
            have hcs2 := csum_t (HS.out.1.later HB7.out) HS.out.2.1 HSP7.out (by omega) HSI.out hC2
            have HC2 := hid hC2
            have HSL : Hid (SL ≤ 5000000) := hsl
            clear hspn rs7 b7 hSS hSL hsl hC2 HB6 HBX6 HRS6
            go_upto_region 13 with (go_at_call 45; refine hcs2.mono ?_; rintro e w8 ⟨rfl, b8⟩)
            have HB8 := hid (HB7.out.trans (b8.mono HB7.out.size))
            have HBX8 := hid (HBX7.out.trans (b8.mono HBX7.out.size))
            have HRS8 := hid (HRS7.out.later b8)
            have HSP8 := hid (HSP7.out.later b8)
            clear hcs2 b8 HB7 HBX7 HRS7 HSP7
            by_cases q4 : SS.all (okS b) = true
            · have hC2 : C2 = 0 := by have := HC2.out; rw [if_pos q4] at this; exact this
              subst hC2
              clear HC2 q4
              have hen := ents_t (HS.out.1.later HB8.out) HS.out.2.1 HSP8.out (by have := HSL.out; omega) HSI.out
              obtain ⟨⟨E5, L⟩, hT⟩ : ∃ T, teK (SS.map (ofS b)) [] = T := ⟨_, rfl⟩
              have hLl : L.length ≤ 4401 := by have := teK_len (SS.map (ofS b)) [] (by simp); rw [hT] at this; exact this
              rw [hT] at hen
              replace hen : Calls Try.prog 49 #[.slice ao len cap, .slice a7 SL c7] w8 fun e w' => ∃ v, e = .returned (.tuple #[v, .int .i64 (E5 : Int)]) ∧ RSV entE w' v L ∧ Below w8.heap.size w8 w' := hen
              have HT := hid hT
              have HLL : Hid (L.length ≤ 4401) := hLl
              clear hT hLl
              go_upto_region 15 with (go_at_call 49; refine hen.mono ?_; rintro e w9 ⟨v9, rfl, ⟨a9, c9, rfl, rs9⟩, b9⟩)
              have HB9 := hid (HB8.out.trans (b9.mono HB8.out.size))
              have HBX9 := hid (HBX8.out.trans (b9.mono HBX8.out.size))
              have HRS9 := hid (HRS8.out.later b9)
              have HEN9 := hid rs9
              clear hen b9 rs9 HB8 HBX8 HRS8 HSP8
              by_cases q5 : E5 = 0
              · subst q5
                have hbu := build_t HEN9.out (by have := HLL.out; omega)
                have HOK9 := hid HEN9.out.okET
                obtain ⟨LL, hLL⟩ : ∃ n, n = L.length := ⟨_, rfl⟩
                rw [← hLL] at hbu ⊢
                have HLE := hid hLL
                have hLL62 : LL ≤ 2 ^ 60 := by have := HLL.out; omega
                obtain ⟨E6, hE6⟩ : ∃ E, E = tblE L := ⟨_, rfl⟩
                rw [← hE6] at hbu
                have HE6 := hid hE6
                obtain ⟨X, hX⟩ : ∃ X, X = (if E6 = 0 then tblB L else []) := ⟨_, rfl⟩
                rw [← hX] at hbu
                have HX := hid hX
                clear hLL hE6 hX
                go_upto_region 17 with (go_at_call 9; refine hbu.mono ?_; rintro e w10 ⟨v10, rfl, ⟨a10, c10, rfl, s10⟩, b10⟩)
                have HB10 := hid (HB9.out.trans (b10.mono HB9.out.size))
                have HBX10 := hid (HBX9.out.trans (b10.mono HBX9.out.size))
                have HRS10 := hid (HRS9.out.later b10)
                have HS10 := hid s10
                have heq := eql_m s10 (HS.out.1.later HB10.out)
                obtain ⟨XL, hXL⟩ : ∃ n, n = X.length := ⟨_, rfl⟩
                rw [← hXL] at heq HS10 ⊢
                have HXL := hid hXL
                clear hbu b10 s10 HB9 HBX9 HRS9 hXL
                by_cases q6 : E6 = 0
                · subst q6
                  by_cases q7 : X = b
                  · rw [decide_eq_true q7] at heq
                    have hXt : X = tblB L := by have := HX.out; rw [if_pos rfl] at this; exact this
                    have HG : Hid (tblE L = 0 ∧ tblB L = b ∧ (∀ e ∈ L, OkE e)) := ⟨HE6.out.symm, by rw [← hXt]; exact q7, HOK9.out⟩
                    obtain ⟨g1, g2, g3⟩ := HROW.out L HG.out.1 HG.out.2.1 HG.out.2.2
                    obtain ⟨x0, x1, x2, x3⟩ := HBX.out w10 HBX10.out
                    have bF : Below w10.heap.size w10 (w10.alloc (.cells #[.slice a10 XL c10, .slice a6 RL c6, .int .i64 (f0 : Int), .int .i64 (f1 : Int), .int .i64 (LL : Int)] 84)) := (Below.refl _ _).alloc (Nat.le_refl _) _
                    have hl1 : XL = (tblB L).length := by rw [HXL.out, hXt]
                    have hl2 : RL = (rowsT L).length := by rw [HRL.out.1, g1]
                    have hl3 : f0 = (flS L).1 ∧ f1 = (flS L).2 := by rw [← g2]; exact ⟨rfl, rfl⟩
                    have HRT : Hid (RTb (w10.alloc (.cells #[.slice a10 XL c10, .slice a6 RL c6, .int .i64 (f0 : Int), .int .i64 (f1 : Int), .int .i64 (LL : Int)] 84)) w10.heap.size L) := by
                      refine ⟨HG.out.1, HG.out.2.2, a10, c10, a6, c6, ?_, ?_, ?_⟩
                      · rw [← hl1, ← hl2, ← hl3.1, ← hl3.2, ← HLE.out]
                        exact heap_alloc_new w10 _
                      · rw [← hl1, ← hXt]
                        exact HS10.out.later bF
                      · rw [← hl2, ← g1]
                        exact HRS10.out.later bF
                    have HB11 := hid (HB10.out.trans (bF.mono HB10.out.size))
                    have HOP := hid g3
                    clear q7 HPF HP HROW HRP HX HT hXt g1 g2 g3 hl1 hl2 hl3 bF
                    go_wp2_with (go_at_call 50; refine heq.mono ?_; rintro e w11 ⟨rfl, hw⟩; obtain rfl := hw.symm)
                    simp only [Exit.jump]
                    exact bodyPost_ret (v := .tuple #[.pointer (some ⟨w10.heap.size, 0, none⟩), .int .i64 0]) (by simp [results, Try.results12, go_sem]) rfl ⟨⟨_, 0, rfl, ⟨fun _ => by rw [HOP.out], fun _ => rfl⟩, fun z => absurd rfl z, fun _ => ⟨_, rfl, by rw [HOP.out]; exact HRT.out⟩⟩, HB11.out⟩
                  · rw [decide_eq_false q7] at heq
                    have HNP : Hid ((opT tkD b).1 ≠ 0) := fun z => by
                      obtain ⟨z1, z2, z3⟩ := HP.out z
                      obtain ⟨_, _, _, _, _, z6⟩ := HPF.out z
                      rw [← HRP.out z, ← HSS.out, HT.out] at z6
                      simp only [Prod.mk.injEq, true_and] at z6
                      have hXt : X = tblB L := by have := HX.out; rw [if_pos rfl] at this; exact this
                      exact q7 (by rw [hXt, z6, z2])
                    clear q7 HPF HP HROW HRP HX HT
                    go_wp2_with (go_at_call 50; refine heq.mono ?_; rintro e w11 ⟨rfl, hw⟩; obtain rfl := hw.symm)
                    go_step3
                    exact ⟨rfl, 3, ⟨by decide, HNP.out, HB10.out⟩, _, _, _, _, _, _, _, _, _, _, _, _, _, _, _, _, _, _, _, _, _, _, _, _, _, _, _, _, _, _, _, _, _, _, _, _, _, _, _, _, _, _, _, _, _, _, _, _, _, _, _, _, _, _, _, _, _, _, _, _, _, _, _, _, _, _, _, _, _, _, _, _, rfl⟩
                · have HNP : Hid ((opT tkD b).1 ≠ 0) := fun z => by
                    obtain ⟨z1, z2, z3⟩ := HP.out z
                    obtain ⟨_, _, _, _, _, z6⟩ := HPF.out z
                    rw [← HRP.out z, ← HSS.out, HT.out] at z6
                    simp only [Prod.mk.injEq, true_and] at z6
                    exact q6 (by rw [HE6.out, z6, z1])
                  have q6' : ¬ ((E6 : Int) = 0) := by omega
                  clear q6 HPF HP HROW HRP HX HT heq
                  go_wp2_with fail
                  go_step3
                  exact ⟨rfl, 3, ⟨by decide, HNP.out, HB10.out⟩, _, _, _, _, _, _, _, _, _, _, _, _, _, _, _, _, _, _, _, _, _, _, _, _, _, _, _, _, _, _, _, _, _, _, _, _, _, _, _, _, _, _, _, _, _, _, _, _, _, _, _, _, _, _, _, _, _, _, _, _, _, _, _, _, _, _, _, _, _, _, _, _, rfl⟩
              · have HNP : Hid ((opT tkD b).1 ≠ 0) := fun z => by
                  obtain ⟨_, _, _, _, _, z6⟩ := HPF.out z
                  rw [← HRP.out z, ← HSS.out, HT.out] at z6
                  simp only [Prod.mk.injEq] at z6
                  exact q5 z6.1
                have HQ5 := hid q5
                have q5' : ¬ ((E5 : Int) = 0) := by omega
                clear q5 HPF HP HROW HRP HT
                go_wp2_with fail
                go_step3
                exact ⟨rfl, E5, ⟨HQ5.out, HNP.out, HB9.out⟩, _, _, _, _, _, _, _, _, _, _, _, _, _, _, _, _, _, _, _, _, _, _, _, _, _, _, _, _, _, _, _, _, _, _, _, _, _, _, _, _, _, _, _, _, _, _, _, _, _, _, _, _, _, _, _, _, _, _, _, _, _, _, _, _, _, _, _, _, _, _, _, _, rfl⟩
            · have hC2 : C2 = 4 := by have := HC2.out; rw [if_neg q4] at this; exact this
              subst hC2
              have HNP : Hid ((opT tkD b).1 ≠ 0) := fun z => by
                obtain ⟨_, _, _, _, z5, _⟩ := HPF.out z
                rw [← HRP.out z, ← HSS.out] at z5
                exact q4 z5
              clear HC2 q4 HPF HP HROW HRP
              go_wp2_with fail
              go_step3
              exact ⟨rfl, 4, ⟨by decide, HNP.out, HB8.out⟩, _, _, _, _, _, _, _, _, _, _, _, _, _, _, _, _, _, _, _, _, _, _, _, _, _, _, _, _, _, _, _, _, _, _, _, _, _, _, _, _, _, _, _, _, _, _, _, _, _, _, _, _, _, _, _, _, _, _, _, _, _, _, _, _, _, _, _, _, _, _, _, _, rfl⟩
      · have hC1 : C1 = 4 := by have := HC1.out; rw [if_neg q2] at this; exact this
        subst hC1
        have HNP : Hid ((opT tkD b).1 ≠ 0) := fun z => by
          obtain ⟨z1, z2, z3, _⟩ := HPF.out z
          rw [HFT.out] at z1
          simp only [Prod.mk.injEq, true_and] at z1
          rw [← z1.1] at z2
          rw [← z1.2] at z3
          exact q2 (by simp [z2, z3])
        clear HC1 q2 hin1 hin2 hin3 hlen5
        go_wp2_with fail
        go_step3
        exact ⟨rfl, 4, ⟨by decide, HNP.out, HB2.out⟩, _, _, _, _, _, _, _, _, _, _, _, _, _, _, _, _, _, _, _, _, _, _, _, _, _, _, _, _, _, _, _, _, _, _, _, _, _, _, _, _, _, _, _, _, _, _, _, _, _, _, _, _, _, _, _, _, _, _, _, _, _, _, _, _, _, _, _, _, _, _, _, _, rfl⟩
    · have HNP : Hid ((opT tkD b).1 ≠ 0) := fun z => by
        obtain ⟨z1, _⟩ := HPF.out z
        rw [HFT.out] at z1
        simp only [Prod.mk.injEq] at z1
        exact q1 z1.1
      have HQ1 := hid q1
      have q1' : ¬ ((E1 : Int) = 0) := by omega
      clear q1
      go_wp2_with fail
      go_step3
      exact ⟨rfl, E1, ⟨HQ1.out, HNP.out, HB1.out⟩, _, _, _, _, _, _, _, _, _, _, _, _, _, _, _, _, _, _, _, _, _, _, _, _, _, _, _, _, _, _, _, _, _, _, _, _, _, _, _, _, _, _, _, _, _, _, _, _, _, _, _, _, _, _, _, _, _, _, _, _, _, _, _, _, _, _, _, _, _, _, _, _, rfl⟩
  · rintro a' w' ⟨E, ⟨hE, hNP, hB⟩, u0, u1, u2, u3, u4, u5, u6, u7, u8, u9, u11, u12, u13, u14, u15, u16, u17, u18, u19, u20, u21, u22, u23, u24, u25, u26, u27, u28, u29, u30, u31, u32, u33, u34, u35, u36, u37, u38, u39, u40, u41, u42, u43, u44, u45, u46, u47, u48, u49, u50, u51, u52, u53, u54, u55, u56, u57, u58, u59, u60, u61, u62, u63, u64, u65, u66, u67, u68, u69, u70, u71, u72, rfl⟩
    have HF := hid (And.intro hE (And.intro hNP hB))
    clear hE hNP hB
    go_wp2_with fail
    simp only [Exit.jump]
    exact bodyPost_ret (v := .tuple #[.pointer none, .int .i64 (E : Int)]) (by simp [results, Try.results12, go_sem]) rfl ⟨⟨.pointer none, E, rfl, ⟨fun z => absurd z HF.out.1, fun z => absurd z HF.out.2.1⟩, fun _ => rfl, fun z => absurd z HF.out.1⟩, HF.out.2.2⟩
end Go.Proofs.Ytimpaindbbjieaa

/- The landed table: what is read off it: Len, Most, May; a table that there is not. -/
namespace Go.Proofs.Ytimpaindbbjieaa
open Go.RowKit
set_option linter.unusedVariables false
set_option linter.unusedSimpArgs false

theorem RTb.facts {w : World} {p : Nat} {l : List EntV} (h : RTb w p l) : ∃ wa wc ra rc, w.cell? ⟨p, 0, none⟩ = some (.slice wa (tblB l).length wc) ∧ w.cell? ⟨p, 1, none⟩ = some (.slice ra (rowsT l).length rc) ∧ w.cell? ⟨p, 2, none⟩ = some (.int .i64 ((flS l).1 : Int)) ∧ w.cell? ⟨p, 3, none⟩ = some (.int .i64 ((flS l).2 : Int)) ∧ w.cell? ⟨p, 4, none⟩ = some (.int .i64 (l.length : Int)) ∧ Sl w wa (tblB l).length wc (tblB l) ∧ RS rowE w ra (rowsT l).length rc (rowsT l) := by
  obtain ⟨h1, h2, wa, wc, ra, rc, h3, h4, h5⟩ := h
  exact ⟨wa, wc, ra, rc, by rw [cell_of h3]; rfl, by rw [cell_of h3]; rfl, by rw [cell_of h3]; rfl, by rw [cell_of h3]; rfl, by rw [cell_of h3]; rfl, h4, h5⟩
theorem lenA_t {w : World} {p : Nat} {l : List EntV} (h : RTb w p l) : Calls Try.prog 16 #[.pointer (some ⟨p, 0, none⟩)] w fun r w' => r = .returned (.int .i64 (l.length : Nat)) ∧ Below w.heap.size w w' := by
  obtain ⟨wa, wc, ra, rc, c0, c1, c2, c3, c4, _, _⟩ := h.facts
  clear h
  generalize l.length = n at c4 ⊢
  go_enter Try.func16, Try.ntmps16
  go_wp2_with fail
  exact bodyPost_ret (v := .int .i64 (n : Int)) (by simp [results, Try.results16, go_sem]) rfl ⟨rfl, Below.refl _ _⟩
theorem lenN_t {w : World} : Calls Try.prog 16 #[.pointer none] w fun r w' => r = .returned (.int .i64 0) ∧ Below w.heap.size w w' := by
  go_enter Try.func16, Try.ntmps16
  go_wp2_with fail
  exact bodyPost_ret (v := .int .i64 0) (by simp [results, Try.results16, go_sem]) rfl ⟨rfl, Below.refl _ _⟩
theorem mostN_t {w : World} : Calls Try.prog 18 #[.pointer none] w fun r w' => ∃ a c, r = .returned (.slice a 0 c) ∧ Below w.heap.size w w' := by
  go_enter Try.func18, Try.ntmps18
  go_wp2_with fail
  exact bodyPost_ret (v := .slice none 0 0) (by simp [results, Try.results18, go_sem]) rfl ⟨none, 0, rfl, Below.refl _ _⟩
theorem mayN2_t {w : World} {ka : Option Addr} {kl kc : Nat} : Calls Try.prog 23 #[.pointer none, .slice ka kl kc] w fun r w' => r = .returned (.bool false) ∧ Below w.heap.size w w' := by
  go_enter Try.func23, Try.ntmps23
  go_wp2_with fail
  go_quiet (fail)
  go_wp2_with fail
  exact bodyPost_ret (v := .bool false) (by simp [results, Try.results23, go_sem]) rfl ⟨rfl, below_drewN (Below.refl _ _) _⟩
theorem fromN_t {w : World} {ka : Option Addr} {kl kc : Nat} {s : Int} : Calls Try.prog 53 #[.pointer none, .slice ka kl kc, .int .i64 s] w fun r w' => r = .returned (.slice none 0 0) ∧ Below w.heap.size w w' := by
  have HB : Hid (Below w.heap.size w (((w.alloc (.cells #[.pointer none] 30)).alloc (.cells #[.slice ka kl kc] 25)).alloc (.cells #[.int .i64 s] 2))) := (((Below.refl _ w).alloc (Nat.le_refl _) _).alloc (by simp) _).alloc (by simp; omega) _
  go_enter Try.func53, Try.ntmps53
  go_wp2_with fail
  exact bodyPost_ret (v := .slice none 0 0) (by simp [results, Try.results53, go_sem]) rfl ⟨rfl, HB.out⟩
end Go.Proofs.Ytimpaindbbjieaa

/- What the laws on blocks lean on: what a program's own must keep; the simple ones. -/
namespace Go.Proofs.Ytimpaindbbjieaa
open Go.RowKit
set_option linter.unusedVariables false
set_option linter.unusedSimpArgs false

def encX (l : List EntV) : List Int := if blkE l = 0 then blkB l else []
/-- No key and no value is longer than a law may hand in. -/
def Lgt (l : List EntV) : Prop := ∀ e ∈ l, e.key.length ≤ 3000 ∧ e.val.length ≤ 3000
/-- The first that is not ahead. -/
def skE (l : List EntV) (key : List Int) (s : Int) : Option EntV := l.find? fun e => decide (0 < cmp e.key key ∨ cmp e.key key = 0 ∧ e.seq ≤ s)
/-- : what is asked of a program's blocks. -/
structure PBk : Prop where
  ordered : ∀ {w : World} {ao : Option Addr} {len cap : Nat} {l : List EntV}, RS entE w ao len cap l → len ≤ 450 → Lgt l → Calls Try.prog 29 #[.slice ao len cap] w fun e w' => e = .returned (.bool (ordB l)) ∧ Below w.heap.size w w'
  encode : ∀ {w : World} {ao : Option Addr} {len cap : Nat} {l : List EntV}, RS entE w ao len cap l → len ≤ 450 → Lgt l → Calls Try.prog 62 #[.slice ao len cap] w fun e w' => ∃ v, e = .returned (.tuple #[v, .int .i64 ((blkE l : Nat) : Int)]) ∧ SlV w' v (encX l) ∧ Below w.heap.size w w'
/-- : what is asked of a program's Decode: whether there is a block, and its entries. -/
structure PBd : Prop where
  decode : ∀ {w : World} {ao : Option Addr} {len cap : Nat} {d : List Int}, Sl w ao len cap d → len ≤ 5000000 → Calls Try.prog 54 #[.slice ao len cap] w fun e w' => ∃ (v : Value) (E : Nat), e = .returned (.tuple #[v, .int .i64 (E : Int)]) ∧ (E = 0 ↔ tkE d = 0) ∧ RSV entE w' v (tkB d) ∧ Below w.heap.size w w'
/-- : what is asked of a program's Seek. -/
structure PBs : Prop where
  seek : ∀ {w : World} {ao ka : Option Addr} {len cap kl kc : Nat} {d key : List Int} {s : Int}, Sl w ao len cap d → len ≤ 2000000 → Sl w ka kl kc key → In64 s → Calls Try.prog 77 #[.slice ao len cap, .slice ka kl kc, .int .i64 s] w fun r w' => (∃ B, GotE B (skE (tkB d) key s) r w') ∧ Below w.heap.size w w'

theorem sl_two (w : World) (c d : Nat) (hc : c < 256) (hd : d < 256) : Sl (w.alloc (.cells #[.int .u8 (c : Int), .int .u8 (d : Int)] 5 (2, 3))) (some ⟨w.heap.size, 0, none⟩) 2 2 [(c : Int), (d : Int)] := by
  refine ⟨rfl, fun x hx => by simp at hx; omega, (fun e => by cases e), Nat.le_refl _, by unfold maxLen; omega, fun k hk => ?_⟩
  have e : (w.alloc (.cells #[.int .u8 (c : Int), .int .u8 (d : Int)] 5 (2, 3))).heap[w.heap.size]? = some (.cells #[.int .u8 (c : Int), .int .u8 (d : Int)] 5 (2, 3)) := heap_alloc_new w _
  match k, hk with
  | 0, _ =>
    refine ⟨by simpa [xof] using hc, w.heap.size, 0, rfl, ?_⟩
    unfold World.cell?
    rw [e]
    simp [xof]
  | 1, _ =>
    refine ⟨by simpa [xof] using hd, w.heap.size, 0, rfl, ?_⟩
    unfold World.cell?
    rw [e]
    simp [xof]
def eK : EntV := ⟨[97, 98], 3, false, 0, [120]⟩
theorem blk_k : blkE [eK] = 0 := by decide
theorem enc_k : encX [eK] = [0, 2, 97, 98, 3, 0, 0, 1, 120, 0, 0, 0, 0, 0, 0, 0, 1] := by
  unfold encX
  rw [if_pos blk_k]
  simp [blkB, enEs, enTl, enE, shI, lb, uv_lt, eK, fx]
end Go.Proofs.Ytimpaindbbjieaa
