import Derived.BigQuiet
import Derived.Deep.RegionHeldLaw
import Derived.Test.YtfecopldepnicaaPk18
import Derived.Test.YtfecopldepnicaaPk21
import Derived.Test.YtfecopldepnicaaPk31
import Derived.Test.YtfecopldepnicaaPk32
import Derived.Test.YtfecopldepnicaaPk34
import Derived.Test.YtfecopldepnicaaPk35
/- The document's own Table: what it gives. -/
namespace Go.Proofs.Ytfecopldepnicaa
open Go.RowKit
set_option linter.unusedVariables false
set_option linter.unusedSimpArgs false

theorem hidE3 {p : Prop} (h : p) : Hid p := h
theorem idxB_pre : ∀ (bs : List (List EntV)) (pos q : Nat), (idxB pos (bs.take q)).length ≤ (idxB pos bs).length
  | [], pos, q => by simp
  | c :: r, pos, 0 => by simp [idxB]
  | c :: r, pos, q + 1 => by
    rw [List.take_succ_cons]
    unfold idxB
    have := idxB_pre r (pos + (blkB c).length + 4) q
    simp only [List.length_append]
    omega
theorem wrM1 {m : Nat} (h : m ≤ 2 ^ 60) : wrap64 (((m + 1 : Nat) : Int) - 1) = (m : Int) := by unfold wrap64; omega
theorem wrM2 {m : Nat} (h : m ≤ 2 ^ 60) : IntKind.i64.wrap (((m + 1 : Nat) : Int) - 1) = (m : Int) := by rw [IntKind.wrap_i64]; omega
theorem lb_len8 (xs : List Int) (h : xs.length ≤ 1000000) : (lb xs).length ≤ xs.length + 10 := by
  unfold lb
  rw [List.length_append]
  have := uv_len64 (n := xs.length) (by omega)
  omega
set_option maxRecDepth 100000 in
theorem putTb (x0 x1 x2 x3 x4 x5 x6 x7 x8 x9 x10 x11 x12 x13 x14 x15 x16 x17 x18 x19 x20 x21 x22 x23 x24 x25 x26 x27 x28 x29 x30 x31 x32 x33 x34 x35 x36 x37 x38 x39 x40 x41 x42 x43 x44 x45 x46 x47 x48 x49 x50 x51 x52 x53 x54 x55 x56 x57 x58 x59 x60 x61 x62 x63 x64 x65 x66 x67 x68 x69 x70 x71 x72 x73 x74 x75 x76 x77 x78 x79 x80 x81 x82 x83 x84 x85 x86 x87 x88 x89 x90 x91 x92 x93 x94 x95 x96 x97 x98 x99 x100 x101 x102 x103 x104 x105 x106 x107 x108 x109 x110 x111 x112 x113 x114 x115 x116 x117 x118 x119 x120 x121 x122 x123 x124 x125 x126 x127 x128 x129 x130 x131 x132 x133 x134 x135 x136 x137 x138 x139 x140 x141 x142 x143 y83 y84 y85 y86 y87 y88 y89 y90 y91 y92 y93 y94 y95 : Value) : putL ⟨#[x0, x1, x2, x3, x4, x5, x6, x7, x8, x9, x10, x11, x12, x13, x14, x15, x16, x17, x18, x19, x20, x21, x22, x23, x24, x25, x26, x27, x28, x29, x30, x31, x32, x33, x34, x35, x36, x37, x38, x39, x40, x41, x42, x43, x44, x45, x46, x47, x48, x49, x50, x51, x52, x53, x54, x55, x56, x57, x58, x59, x60, x61, x62, x63, x64, x65, x66, x67, x68, x69, x70, x71, x72, x73, x74, x75, x76, x77, x78, x79, x80, x81, x82, x83, x84, x85, x86, x87, x88, x89, x90, x91, x92, x93, x94, x95, x96, x97, x98, x99, x100, x101, x102, x103, x104, x105, x106, x107, x108, x109, x110, x111, x112, x113, x114, x115, x116, x117, x118, x119, x120, x121, x122, x123, x124, x125, x126, x127, x128, x129, x130, x131, x132, x133, x134, x135, x136, x137, x138, x139, x140, x141, x142, x143], []⟩ (List.zip [83, 84, 85, 86, 87, 88, 89, 90, 91, 92, 93, 94, 95] [y83, y84, y85, y86, y87, y88, y89, y90, y91, y92, y93, y94, y95]) = ⟨#[x0, x1, x2, x3, x4, x5, x6, x7, x8, x9, x10, x11, x12, x13, x14, x15, x16, x17, x18, x19, x20, x21, x22, x23, x24, x25, x26, x27, x28, x29, x30, x31, x32, x33, x34, x35, x36, x37, x38, x39, x40, x41, x42, x43, x44, x45, x46, x47, x48, x49, x50, x51, x52, x53, x54, x55, x56, x57, x58, x59, x60, x61, x62, x63, x64, x65, x66, x67, x68, x69, x70, x71, x72, x73, x74, x75, x76, x77, x78, x79, x80, x81, x82, y83, y84, y85, y86, y87, y88, y89, y90, y91, y92, y93, y94, y95, x96, x97, x98, x99, x100, x101, x102, x103, x104, x105, x106, x107, x108, x109, x110, x111, x112, x113, x114, x115, x116, x117, x118, x119, x120, x121, x122, x123, x124, x125, x126, x127, x128, x129, x130, x131, x132, x133, x134, x135, x136, x137, x138, x139, x140, x141, x142, x143], []⟩ := by kernel_rfl
theorem elemBr : Try.prog.elem 38 = 25 := by kernel_rfl
theorem wrS1 {m : Nat} (h : m ≤ 2 ^ 60) : IntKind.i64.wrap (m : Int) = (m : Int) := by rw [IntKind.wrap_i64]; omega
theorem wrS2 {m : Nat} (h : m ≤ 2 ^ 60) : wrap64 (m : Int) = (m : Int) := by unfold wrap64; omega
theorem ky_len : ∀ (xs : List EntV) (k : List (List Int)), (xs.foldl ky1 k).length ≤ k.length + xs.length
  | [], k => by simp
  | e :: r, k => by
    rw [List.foldl_cons]
    have h1 := ky_len r (ky1 k e)
    have h2 : (ky1 k e).length ≤ k.length + 1 := by
      unfold ky1
      split
      · simp
      · omega
    simp only [List.length_cons]
    omega
theorem wrU {n : Nat} (h : n ≤ 2 ^ 60) : IntKind.u64.wrap (n : Int) = (n : Int) := wrap64u (by omega)
theorem bodT_pre (bs : List (List EntV)) (q : Nat) : (bodT (bs.take q)).length ≤ (bodT bs).length := by
  have : bodT bs = bodT (bs.take q) ++ bodT (bs.drop q) := by unfold bodT; rw [← List.flatten_append, ← List.map_append, List.take_append_drop]
  rw [this, List.length_append]
  omega

theorem run_ix5_0 (x0 x1 x2 x3 x4 : Int) (w : World) : (Instr.index 67 (.agg #[.int .i64 x0, .int .i64 x1, .int .i64 x2, .int .i64 x3, .int .i64 x4]) (.int .i64 0)).run Try.prog w = .ok (.int .i64 x0) w := by kernel_rfl
theorem run_ix5_1 (x0 x1 x2 x3 x4 : Int) (w : World) : (Instr.index 67 (.agg #[.int .i64 x0, .int .i64 x1, .int .i64 x2, .int .i64 x3, .int .i64 x4]) (.int .i64 1)).run Try.prog w = .ok (.int .i64 x1) w := by kernel_rfl
theorem run_ix5_2 (x0 x1 x2 x3 x4 : Int) (w : World) : (Instr.index 67 (.agg #[.int .i64 x0, .int .i64 x1, .int .i64 x2, .int .i64 x3, .int .i64 x4]) (.int .i64 2)).run Try.prog w = .ok (.int .i64 x2) w := by kernel_rfl
theorem run_ix5_3 (x0 x1 x2 x3 x4 : Int) (w : World) : (Instr.index 67 (.agg #[.int .i64 x0, .int .i64 x1, .int .i64 x2, .int .i64 x3, .int .i64 x4]) (.int .i64 3)).run Try.prog w = .ok (.int .i64 x3) w := by kernel_rfl
theorem run_ix5_4 (x0 x1 x2 x3 x4 : Int) (w : World) : (Instr.index 67 (.agg #[.int .i64 x0, .int .i64 x1, .int .i64 x2, .int .i64 x3, .int .i64 x4]) (.int .i64 4)).run Try.prog w = .ok (.int .i64 x4) w := by kernel_rfl
set_option maxHeartbeats 8000000 in
set_option maxRecDepth 100000 in
theorem rtbl_good {w : World} {ao : Option Addr} {len cap : Nat} {l : List EntV} (h : RS entE w ao len cap l) (h1 : 1 ≤ len) (h4 : len ≤ 4000) (hm : l.all mayE = true ∧ ordB l = true) {C : Int} {X : List Int} (hC : C = if 4194304 < (tblB l).length then 8 else 0) (hX : X = if 4194304 < (tblB l).length then [] else tblB l) :
    Calls Try.prog 10 #[.slice ao len cap] w fun e w' => ∃ v, e = .returned (.tuple #[v, .int .i64 C]) ∧ SlV w' v X ∧ Below w.heap.size w w' := by
  have HCX : Hid (C = (if 4194304 < (tblB l).length then 8 else 0) ∧ X = if 4194304 < (tblB l).length then [] else tblB l) := ⟨hC, hX⟩
  clear hC hX
  have hl0 : ¬ ((len : Int) = 0) := by omega
  have hl4 : ¬ ((4000 : Int) < (len : Int)) := by omega
  have hl62 : len ≤ 2 ^ 61 := by omega
  have hln : l.length = len := h.len.1
  have HS : Hid (RS entE w ao len cap l ∧ (l.all mayE = true ∧ ordB l = true) ∧ len ≤ 1000000 ∧ len ≤ 4000) := ⟨h, hm, by omega, h4⟩
  clear h hm h1 h4
  go_enter Try.func10, Try.ntmps10
  go_wp2_with fail
  go_loopg [5, 30] len (fun g _ i wr => ∃ k : Nat, k + g = len ∧ i = .int .i64 (k : Int) ∧ Hid (Below w.heap.size w wr))
  case atStart => exact ⟨0, by omega, rfl, Below.refl _ _⟩
  case round =>
    obtain ⟨k, hk, rfl, HK⟩ := hrel
    by_cases hkl : k < len
    · have hkl' : (k : Int) < (len : Int) := by omega
      have hkx : k < l.length := by omega
      have bel := HK.out
      obtain ⟨b, off, ka, kc, va, vc, rfl, d0, d1, d2, d3, d4, sk, sv, i1, i2⟩ := RS.ent (HS.out.1.later bel) (List.getElem?_eq_getElem hkx)
      have HMA : Hid (mayE l[k] = true) := List.all_eq_true.1 HS.out.2.1.1 _ (List.getElem_mem hkx)
      generalize l[k] = o at d0 d1 d2 d3 d4 HMA
      have hk62 : k ≤ 2 ^ 61 := by omega
      obtain ⟨GK, HG⟩ : ∃ g, Hid (g < gk ∧ k + 1 + g = len) := ⟨gk - 1, by omega, by omega⟩
      obtain ⟨W1, hW1⟩ : ∃ W1, W1 = wr.alloc (.cells #[.slice ka o.key.length kc, .int .i64 o.seq, .bool o.gone, .int .i64 o.till, .slice va o.val.length vc] 34) := ⟨_, rfl⟩
      have b1 : Below wr.heap.size wr W1 := by rw [hW1]; exact (Below.refl _ _).alloc (Nat.le_refl _) _
      have hbx : ∀ wx, Below W1.heap.size W1 wx → _ := fun wx hb => box_cells wr (.slice ka o.key.length kc) (.int .i64 o.seq) (.bool o.gone) (.int .i64 o.till) (.slice va o.val.length vc) 34 (wx := wx) (by rw [← hW1]; exact hb)
      have HBX := hid hbx
      have HBw : Hid (∀ wx, Below W1.heap.size W1 wx → Below w.heap.size w wx) := fun wx hb => bel.trans ((b1.trans (hb.mono b1.size)).mono bel.size)
      have HM1 : Hid (∀ wx, Calls Try.prog 35 #[entA ka kc va vc o] wx fun r w' => r = .returned (.bool (mayE o)) ∧ Below wx.heap.size wx w') := fun wx => rmayE_any
      have HW1 := hid hW1
      unfold entA at HM1
      clear sk sv i1 i2 hbx hW1 hk bel b1
      go_upto_region 6 with fail
      rw [← HW1.out]
      obtain ⟨y0, y1, y2, y3, y4⟩ := HBX.out _ (Below.refl _ _)
      clear d0 d1 d2 d3 d4
      have hmo : mayE o = true := HMA.out
      rw [hmo] at HM1
      go_wp2_with (go_at_call 35; refine (HM1.out _).mono ?_; rintro e w2 ⟨rfl, b2⟩)
      go_roundg GK
      case measure => exact HG.out.1
      case rel => exact ⟨k + 1, HG.out.2, by go_num, HBw.out _ b2⟩
    · have hkl' : (len : Int) ≤ (k : Int) := by omega
      have hO := rord_any (HS.out.1.later HK.out) HS.out.2.2.1
      rw [HS.out.2.1.2] at hO
      clear hk hkl
      have hmE : ∀ e ∈ l, mayE e = true := List.all_eq_true.1 HS.out.2.1.1
      have HCU : Hid (∀ wx, Below w.heap.size w wx → Calls Try.prog 37 #[.slice ao len cap] wx fun e w' => ∃ v, e = .returned v ∧ RowS valE wx.heap.size w' v ((bnd 0 0 0 l).map (slE ao cap)) ∧ Below wx.heap.size wx w') := fun wx hb => rcut_any (HS.out.1.later hb) HS.out.2.2.2 hmE
      have HBK := hid HK.out
      clear HK hmE
      go_wp2_with (first | (go_at_call 36; refine hO.mono ?_; rintro e w2 ⟨rfl, b2⟩; have B2 := HBK.out.trans (b2.mono HBK.out.size)) | (go_at_call 37; refine (HCU.out _ B2).mono ?_; rintro e W ⟨vc0, rfl, rc, b3⟩; have B3 := B2.trans (b3.mono B2.size); obtain ⟨ac, cc, hvc, rsc⟩ := rc.rs; subst hvc))
      obtain ⟨N, hN⟩ : ∃ n, n = (bnd 0 0 0 l).length := ⟨_, rfl⟩
      rw [List.length_map] at rsc
      rw [← hN] at rsc ⊢
      have HRC := hid rsc
      have HBW := hid B3
      have HNN : Hid (N = (bnd 0 0 0 l).length ∧ N ≤ 4000) := ⟨hN, by have := bnd_len l 0 0 0; have := HS.out.2.2.2; omega⟩
      have hN62 : N ≤ 2 ^ 61 := by have := HNN.out.2; omega
      have H0 : Hid (Tri W W (.slice none 0 0) (.slice none 0 0) (.slice none 0 0) (bodT ((cutT l).take 0)) (idxB 0 ((cutT l).take 0)) (kys ((cutT l).take 0).flatten)) := Tri.nil (Below.refl _ _)
      clear hO b2 B2 b3 B3 rc rsc hN HCU HBK
      go_loopg [6, 7, 8, 10, 11, 12, 14, 15, 44] N (fun g vb vi vk _ _ _ _ _ i wr => ∃ q : Nat, q + g = N ∧ i = .int .i64 (q : Int) ∧ Hid (Tri W wr vb vi vk (bodT ((cutT l).take q)) (idxB 0 ((cutT l).take q)) (kys ((cutT l).take q).flatten)))
      case atStart => exact ⟨0, by omega, rfl, H0⟩
      case round =>
        obtain ⟨q, hq, rfl, HP⟩ := hrel
        have hmE : ∀ e ∈ l, mayE e = true := List.all_eq_true.1 HS.out.2.1.1
        have hokE : ∀ e ∈ l, OkE e := HS.out.1.okET
        have hokc : ∀ c ∈ (cutT l).take q, ∀ e ∈ c, OkE e := fun c hc e he => hokE e (by rw [← cutT_flat l]; exact List.mem_flatten.2 ⟨c, List.mem_of_mem_take hc, he⟩)
        have hsh := cut_short (bs := cutT l) (r := []) (l := l) (by have := HS.out.2.2.2; have := HS.out.1.len.1; omega) hmE (by simp [cutT, cutB])
        have hsh1 := bodT_pre (cutT l) q
        have hsh2 := idxB_pre (cutT l) 0 q
        obtain ⟨ab, cb, hvb, -⟩ := Sl.ofRow HP.out.rb (okb_bodT hokc)
        obtain ⟨ak, ck, hvk, -⟩ := HP.out.rk.rsg
        subst hvb hvk
        by_cases hql : q < N
        · have hql' : (q : Int) < (N : Int) := by omega
          have hqx : q < (bnd 0 0 0 l).length := by have := HNN.out.1; omega
          obtain ⟨⟨i, j⟩, hij⟩ : ∃ p, (bnd 0 0 0 l)[q]? = some p := ⟨_, List.getElem?_eq_getElem hqx⟩
          have hpin := bnd_in l 0 0 0 (Nat.le_refl _) (i, j) (List.mem_of_getElem? hij)
          simp only at hpin
          have hlnl := HS.out.1.len.1
          have hcT : (cutT l)[q]? = some (pcE l (i, j)) := by rw [bnd_T, List.getElem?_map, hij]; rfl
          have hlc : len ≤ cap := by obtain ⟨_, hu⟩ := HS.out.1; exact hu.2.2.1
          have hpc : RS entE W (cutS ao cap i 5) (j - i) (cap - i) (pcE l (i, j)) := ((RSG.any (HS.out.1.later HBW.out)).cut (by decide) i j (by omega) (by omega)).rs
          obtain ⟨cb0, co0, vs0, hac, ⟨rfl, -, -⟩, hcell⟩ := RS.at HRC.out (by decide) (i := q) (x := slE ao cap (i, j)) (by rw [List.getElem?_map, hij]; rfl)
          have d0 := hcell 0 _ rfl
          subst hac
          unfold slE at d0
          simp only at d0
          have hcb := cutT_blk hmE (by have := HS.out.2.1.2; unfold ordB at this; unfold ordE; simpa using this) _ (List.mem_of_getElem? hcT)
          have hcn := cutB_ne l 0 [] _ (List.mem_of_getElem? hcT)
          obtain ⟨m, hm⟩ : ∃ m, j - i = m + 1 := ⟨j - i - 1, by omega⟩
          have hclen : (pcE l (i, j)).length = j - i := hpc.len.1
          have hml : m < (pcE l (i, j)).length := by omega
          obtain ⟨b1, o1, ka, kc, va, vc, ha1, e0, -, -, -, -, sk, -, -, -⟩ := RS.ent hpc (List.getElem?_eq_getElem hml)
          have hls : lastK [] (pcE l (i, j)) = (pcE l (i, j))[m].key := by
            have := lastK_take (pcE l (i, j)) m [] hml
            rw [List.take_of_length_le (by omega)] at this
            exact this
          rw [← hls] at e0 sk
          have hkl5 : (lastK [] (pcE l (i, j))).length ≤ 512 := by rw [hls]; exact (mayE_ok (hmE _ (hcb.2 _ (List.getElem_mem hml)))).2.1
          have hobk : Okb (blkB (pcE l (i, j))) := okb_blkB (fun e he => hokE e (hcb.2 e he))
          have HBL : Hid (∀ wx, Below W.heap.size W wx → Calls Try.prog 38 #[.slice (cutS ao cap i 5) (j - i) (cap - i)] wx fun e w' => ∃ v, e = .returned (.tuple #[v, .int .i64 0]) ∧ Row wx.heap.size w' v (blkB (pcE l (i, j))) ∧ Below wx.heap.size wx w') := fun wx hb => by
            have := rblk_any (hpc.later hb) (by have := HS.out.2.2.2; omega)
            rw [hcb.1, if_pos rfl] at this
            exact this
          have hbl2 : (blkB (pcE l (i, j))).length ≤ 20000000 := by
            have h1 := bodT_snoc ((cutT l).take q) (pcE l (i, j))
            have h2 := bodT_pre (cutT l) (q + 1)
            rw [List.take_add_one, hcT] at h2
            simp only [Option.toList] at h2
            rw [h1, List.length_append, sm_len] at h2
            omega
          have HNEXT : Hid ((cutT l).take (q + 1) = (cutT l).take q ++ [pcE l (i, j)]) := by show _ = _; rw [List.take_add_one, hcT]; rfl
          have d1 : wr.cell? ⟨cb0, co0 + q, none⟩ = some (.slice (cutS ao cap i 5) (j - i) (cap - i)) := by
            have h9 := cell_later HP.out.bel d0
            rw [show q * valE.size + 0 = q from Nat.mul_one q] at h9
            exact h9
          have HPC := hid hpc
          have HLEN : Hid ((bodT ((cutT l).take q)).length ≤ 20000000 ∧ (idxB 0 ((cutT l).take q)).length ≤ 20000000 ∧ (blkB (pcE l (i, j))).length ≤ 20000000 ∧ (lastK [] (pcE l (i, j))).length ≤ 512 ∧ (pcE l (i, j)).length = m + 1) := ⟨by omega, by omega, hbl2, hkl5, by omega⟩
          generalize hcc : pcE l (i, j) = c at HBL HPC HLEN HNEXT e0 sk hobk
          generalize hBB : bodT ((cutT l).take q) = bb at HP HLEN
          generalize hII : idxB 0 ((cutT l).take q) = ii at HP HLEN
          generalize hKK : kys ((cutT l).take q).flatten = kk at HP
          have HEQ : Hid (bodT ((cutT l).take q) = bb ∧ idxB 0 ((cutT l).take q) = ii ∧ kys ((cutT l).take q).flatten = kk) := ⟨hBB, hII, hKK⟩
          have HSK := hid sk
          have HOKB := hid hobk
          have HC1 : Hid (∀ wx, Below W.heap.size W wx → wx.cell? ⟨b1, o1 + m * 5, none⟩ = some (.slice ka (lastK [] c).length kc)) := fun wx hb => cell_later hb e0
          rw [hm] at HBL HPC d1
          rw [ha1] at HBL HPC d1
          generalize hLK : lastK [] c = lk at HSK HC1 HLEN
          have HLK := hid hLK
          have hBL60 : bb.length ≤ 2 ^ 60 := by have := HLEN.out; omega
          have hBK60 : (blkB c).length ≤ 2 ^ 60 := by have := HLEN.out; omega
          generalize hBN : (blkB c).length = BN at hBK60
          generalize hBl : bb.length = Bl at hBL60 HP ⊢
          have HBN := hid (And.intro hBN hBl)
          have hw1 : IntKind.u64.wrap (Bl : Int) = (Bl : Int) := wrU hBL60
          have hw2 : IntKind.u64.wrap (BN : Int) = (BN : Int) := wrU hBK60
          have HCN0 : Hid (m ≤ 4000) := by show _ ≤ _; have := HS.out.2.2.2; omega
          have hm60 : m ≤ 2 ^ 60 := by have := HCN0.out; omega
          have hq62 : q ≤ 2 ^ 60 := by have := HNN.out.2; omega
          obtain ⟨GK, HG⟩ : ∃ g, Hid (g < gk ∧ q + 1 + g = N) := ⟨gk - 1, by omega, by omega⟩
          clear hcc hBB hII hKK hls hkl5 hobk hbl2 hsh hsh1 hsh2 hpin hlnl hcT hlc hpc hcell d0 hcb hcn hclen hml ha1 e0 sk hokc hokE hmE hij hqx hq hm hLK hBN hBl H0
          go_upto_region 17 with (go_at_call 38; refine (HBL.out _ HP.out.bel).mono ?_; rintro e w4 ⟨v4, rfl, r4, b4⟩; obtain ⟨ax, cx, hv4, X4⟩ := HP.out.beside b4 r4 HOKB.out; rw [HBN.out.1] at hv4 X4; subst hv4)
          have HT17 := HLEN
          have HCN : Hid (m ≤ 2 ^ 59) := by show _ ≤ _; have := HCN0.out; omega
          have f0 := HC1.out _ X4.t.bel
          have hm1 : wrap64 (((m + 1 : Nat) : Int) - 1) = (m : Int) := wrM1 hm60
          have hm2 : IntKind.i64.wrap (((m + 1 : Nat) : Int) - 1) = (m : Int) := wrM2 hm60
          have hpb := X4.pby HSK.out (by have := HLEN.out; omega) (by have := HLEN.out; omega)
          have HX4 := hid X4
          clear d1 HBL b4 r4 X4
          go_upto_region 20 with (first | (go_at_call 39; refine hpb.mono ?_; rintro e w5 ⟨v5, rfl, X5⟩) | (go_at_call 40; refine (X6.put (k := BN) (by have := HLEN.out; have := HBN.out; omega) (by have := HLEN.out; have h8 := uv_len64 (n := Bl) (by omega); have h7 := lb_len8 lk (by omega); simp only [List.length_append]; omega)).mono ?_; rintro e w7 ⟨v7, rfl, X7⟩) | (go_at_call 40; refine (X5.put (k := Bl) (by have := HLEN.out; have := HBN.out; omega) (by have := HLEN.out; have h7 := lb_len8 lk (by omega); simp only [List.length_append]; omega)).mono ?_; rintro e w6 ⟨v6, rfl, X6⟩) | (go_at_call 41; refine (rsmd_any X7.s (by have := HLEN.out; have := HBN.out; omega)).mono ?_; rintro e w8 ⟨v8, rfl, r8, b8⟩; obtain ⟨a8, c8, hv8, X8⟩ := X7.t.beside b8 r8 (okb_sm HOKB.out); obtain ⟨SL, hSL⟩ : ∃ n, n = (sm (blkB c)).length := ⟨_, rfl⟩; rw [← hSL] at hv8 X8; subst hv8; have HSL := hid hSL; clear hSL) | (at_builtin; refine wpList_applN (B := W.heap.size) (xs := bb) (ys := sm (blkB c)) (ao := a8) (m := SL) (c := c8) rfl (.tmp 71) (.tmp 73) rfl rfl X8.t.rb rfl X8.s (by have := HLEN.out; have h6 := HSL.out; rw [sm_len] at h6; omega) X8.t.bel.size ?_; intro v9 w9 r9 g9 m9; have T9 := X8.t.growB g9 m9 r9))
          have HT9 := hid T9
          have HPCn : Hid (RS entE W (some ⟨b1, o1, none⟩) (m + 1) (cap - i) c ∧ c.length = m + 1) := ⟨HPC.out, HLEN.out.2.2.2.2⟩
          have HNS : Hid (m ≤ 4000 ∧ l.length = len) := ⟨HCN0.out, HS.out.1.len.1⟩
          generalize hnn : m + 1 = nn at HPCn ⊢
          have hnn62 : nn ≤ 2 ^ 60 := by rw [← hnn]; have := HLEN.out.2.2.2.2; have := HCN.out; omega
          have HI0 : Hid (Tri W w9 v9 v7 (.slice ak kk.length ck) (bb ++ sm (blkB c)) (ii ++ lb lk ++ uv Bl ++ uv BN) ((c.take 0).foldl ky1 kk)) := T9
          have HNS2 : Hid (nn ≤ 4001) := by show _ ≤ _; rw [← hnn]; have := HNS.out; omega
          clear T9 hnn
          go_wp2_with fail
          go_loopg [8, 14, 15, 77] nn (fun g vk _ _ i wr => ∃ t : Nat, t + g = nn ∧ i = .int .i64 (t : Int) ∧ Hid (Tri W wr v9 v7 vk (bb ++ sm (blkB c)) (ii ++ lb lk ++ uv Bl ++ uv BN) ((c.take t).foldl ky1 kk)))
          case atStart => exact ⟨0, by omega, rfl, HI0⟩
          case round =>
            obtain ⟨t, ht, rfl, HT⟩ := hrel
            by_cases htl : t < nn
            · have htl' : (t : Int) < (nn : Int) := by omega
              have htx : t < c.length := by have := HPCn.out.2; omega
              obtain ⟨b2, o2, ka2, kc2, va2, vc2, ha2, e0, e1, e2, e3, e4, sk2, sv2, -, -⟩ := RS.ent HPCn.out.1 (List.getElem?_eq_getElem htx)
              simp only [Option.some.injEq, Addr.mk.injEq, and_true] at ha2
              obtain ⟨rfl, rfl⟩ := ha2
              have bel := HT.out.bel
              have d0 := cell_later bel e0
              have d1 := cell_later bel e1
              have d2 := cell_later bel e2
              have d3 := cell_later bel e3
              have d4 := cell_later bel e4
              have HST0 : Hid ((c.take (t + 1)).foldl ky1 kk = ky1 ((c.take t).foldl ky1 kk) c[t]) := by show _ = _; rw [List.take_add_one, List.getElem?_eq_getElem htx, List.foldl_append]; rfl
              generalize c[t] = o at d0 d1 d2 d3 d4 sk2 HST0
              obtain ⟨W1, hW1⟩ : ∃ Wx, wr.alloc (.cells #[.slice ka2 o.key.length kc2, .int .i64 o.seq, .bool o.gone, .int .i64 o.till, .slice va2 o.val.length vc2] 34) = Wx := ⟨_, rfl⟩
              have bW1 : Below wr.heap.size wr W1 := by rw [← hW1]; exact (Below.refl _ _).alloc (Nat.le_refl _) _
              have y0 : W1.cell? ⟨wr.heap.size, 0, none⟩ = some (.slice ka2 o.key.length kc2) := by rw [← hW1, cell_of (heap_alloc_new wr _)]; rfl
              obtain ⟨KS, hKS⟩ : ∃ x, x = (c.take t).foldl ky1 kk := ⟨_, rfl⟩
              rw [← hKS] at HT HST0
              have HSTU : Hid ((c.take (t + 1)).foldl ky1 kk = if KS = [] ∨ KS.getLast? ≠ some o.key then KS ++ [o.key] else KS) := HST0.out
              clear HST0
              have HKL : Hid (KS.length ≤ 9000) := by
                show _ ≤ _
                have h1 := ky_len (c.take t) kk
                rw [← hKS] at h1
                have h2 := kys_len ((cutT l).take q).flatten
                rw [HEQ.out.2.2] at h2
                have h3 : ((cutT l).take q).flatten.length ≤ l.length := by
                  have h4 := congrArg List.length (cutT_flat l)
                  rw [← List.take_append_drop q (cutT l), List.flatten_append, List.length_append] at h4
                  omega
                have h5 := List.length_take_le t c
                have h6 := HPCn.out.2
                have h7 := HS.out.2.2.2
                have h8 := HNS.out
                have h9 := HNS2.out
                omega
              obtain ⟨ak2, ck2, hvk2, rk2⟩ := HT.out.rk.rsg
              subst hvk2
              have HRB := hid (rs_rb rk2.rs)
              have HADD : Hid (∀ W2, Below W1.heap.size W1 W2 → RSu byE (W2.alloc (.cells #[.slice ka2 o.key.length kc2] 25)) (some ⟨W2.heap.size, 0, none⟩) 1 1 [.slice ka2 o.key.length kc2] [o.key] ∧ Tri W (W2.alloc (.cells #[.slice ka2 o.key.length kc2] 25)) v9 v7 (.slice ak2 KS.length ck2) (bb ++ sm (blkB c)) (ii ++ lb lk ++ uv Bl ++ uv BN) KS ∧ (∀ u ∈ [Value.slice ka2 o.key.length kc2], ∀ b, Refs u b → (Value.slice ak2 KS.length ck2).ownBlock ≠ some b) ∧ (∀ u ∈ [Value.slice ka2 o.key.length kc2], ∀ b, Refs u b → b < W.heap.size)) := fun W2 hb => by
                have b3 : Below W2.heap.size W2 (W2.alloc (.cells #[.slice ka2 o.key.length kc2] 25)) := (Below.refl _ _).alloc (Nat.le_refl _) _
                have hB1 := bel.trans (bW1.mono bel.size)
                have hB2 := hB1.trans (hb.mono hB1.size)
                refine ⟨rs_one (E := byE) (w := W2) (vs := [.slice ka2 o.key.length kc2]) (x := o.key) ⟨ka2, kc2, rfl, sk2.later hB2⟩, ((HT.out.later bW1).later hb).later b3, fun u hu b hr e => ?_, fun u hu b hr => ?_⟩
                · rw [List.mem_singleton.1 hu] at hr
                  have h2 := sk2.lt hr
                  have h3 := (HT.out.rk.own_lt e).1
                  omega
                · rw [List.mem_singleton.1 hu] at hr
                  exact sk2.lt hr
              have HCMP : Hid (∀ wx, Below W1.heap.size W1 wx → ∀ {ar : Option Addr} {cr : Nat} {r : List Int}, Sl wr ar r.length cr r → Calls Try.prog 15 #[.slice ar r.length cr, .slice ka2 o.key.length kc2] wx fun e w' => e = .returned (.int .i64 (cmp r o.key)) ∧ Below wx.heap.size wx w') := fun wx hb {ar cr r} hs => rcmp_any ((hs.later bW1).later hb) (((sk2.later bel).later bW1).later hb)
              have HT1 := hid (HT.out.later bW1)
              have HBW1 := hid bW1
              have ht62 : t ≤ 2 ^ 60 := by omega
              obtain ⟨GT, HGT⟩ : ∃ g, Hid (g < gk ∧ t + 1 + g = nn) := ⟨gk - 1, by omega, by omega⟩
              have HKL2 : Hid (KS.length ≤ 9000) := HKL.out
              obtain ⟨KSL, hKSL⟩ : ∃ n, n = KS.length := ⟨_, rfl⟩
              rw [← hKSL] at HADD HT1 HRB HKL ⊢
              have hKSL60 : KSL ≤ 2 ^ 60 := by have := HKL.out; omega
              have HKSL := hid hKSL
              generalize o.key = ky at d0 hW1 y0 HADD HCMP HSTU sk2
              generalize hkyl : ky.length = kyl at d0 hW1 y0 HADD HCMP
              generalize o.val.length = vn at d4 hW1
              generalize o.seq = sq at d1 hW1
              generalize o.gone = gn at d2 hW1
              generalize o.till = ti at d3 hW1
              clear ht e0 e1 e2 e3 e4 sk2 sv2 bel bW1 rk2 HT HI0 htx hkyl hKSL
              by_cases hk0 : KSL = 0
              · have HST : Hid ((c.take (t + 1)).foldl ky1 kk = KS ++ [ky]) := by
                  show _ = _
                  rw [HSTU.out, if_pos (.inl (List.eq_nil_of_length_eq_zero (by rw [← HKSL.out]; exact hk0)))]
                subst hk0
                go_upto_region 24 with fail
                clear d0 d1 d2 d3 d4
                refine wp_region_vals (by kernel_rfl) (by decide +kernel) 144 rfl (by decide +kernel) [.int .i64 0, .bool true, .bool true, undef, undef, undef, undef, undef, undef, undef, undef, undef, .bool true] rfl ?_ [83, 84, 85, 86, 87, 88, 89, 90, 91, 92, 93, 94, 95] (by decide +kernel) ?_
                rotate_left
                · intro w6 B6
                  rename_i hk
                  refine hk _ _ ?_
                  rw [putTb]
                  obtain ⟨A1, A2, A4, A5⟩ := HADD.out w6 B6
                  have y9 := cell_later B6 y0
                  go_wp2_with (at_builtin; refine wpList_appF byE (t := 38) (z := .slice none 0 0) (bytes := 24) (B := W.heap.size) Try.underlying38 byE_info rfl (by decide) rfl (.tmp 96) (.tmp 99) rfl rfl A2.rk rfl A1 A4 A5 (by have := HKL2.out; omega) (by have := HKL2.out; omega) A2.bel.size ?_; intro v10 w10 r10 g10 m10; have HT10 := hid (A2.growK g10 m10 r10))
                  go_roundg GT
                  case measure => exact HGT.out.1
                  case rel => exact ⟨t + 1, HGT.out.2, by go_num, by rw [HST.out]; exact HT10.out⟩
                -- 0: slot 83
                refine ⟨fun a w c => ?_, ?_⟩
                · exact goalR_move (c.want0 rfl) (.tmp 15) (.inl rfl) ((c.old 15 rfl).trans rfl) rfl
                -- 1: slot 84
                refine ⟨fun a w c => ?_, ?_⟩
                · have hw := c.want0 rfl
                  have e83 : a.eval (.tmp 83) = _ := c.val 0 _ rfl rfl
                  exact goalR_val hw (by have ec : ∀ v, a.eval (.const v) = v := fun _ => rfl; generalize a.eval = ρ at ec e83 ⊢; simp [execOp, go_sem, ec, e83]) rfl
                -- 2: slot 85
                refine ⟨fun a w c => ?_, ?_⟩
                · exact goalR_move (c.want0 rfl) (.tmp 84) (.inl rfl) (c.val 1 _ rfl rfl) rfl
                -- 3: slot 86
                refine ⟨fun a w c => ?_, ?_⟩
                · exact goalR_skip (c.skip 2 false true rfl rfl rfl (by decide)) rfl
                -- 4: slot 87
                refine ⟨fun a w c => ?_, ?_⟩
                · exact goalR_skip (c.skip 2 false true rfl rfl rfl (by decide)) rfl
                -- 5: slot 88
                refine ⟨fun a w c => ?_, ?_⟩
                · exact goalR_skip (c.skip 2 false true rfl rfl rfl (by decide)) rfl
                -- 6: slot 89
                refine ⟨fun a w c => ?_, ?_⟩
                · exact goalR_skip (c.skip 2 false true rfl rfl rfl (by decide)) rfl
                -- 7: slot 90
                refine ⟨fun a w c => ?_, ?_⟩
                · exact goalR_skip (c.skip 2 false true rfl rfl rfl (by decide)) rfl
                -- 8: slot 91
                refine ⟨fun a w c => ?_, ?_⟩
                · exact goalR_skip (c.skip 2 false true rfl rfl rfl (by decide)) rfl
                -- 9: slot 92
                refine ⟨fun a w c => ?_, ?_⟩
                · exact goalR_skip (c.skip 2 false true rfl rfl rfl (by decide)) rfl
                -- 10: slot 93
                refine ⟨fun a w c => ?_, ?_⟩
                · exact goalR_skip (c.skip 2 false true rfl rfl rfl (by decide)) rfl
                -- 11: slot 94
                refine ⟨fun a w c => ?_, ?_⟩
                · exact goalR_skip (c.skip 2 false true rfl rfl rfl (by decide)) rfl
                -- 12: slot 95
                refine ⟨fun a w c => ?_, ?_⟩
                · have hw := c.want0 rfl
                  have e85 : a.eval (.tmp 85) = _ := c.val 2 _ rfl rfl
                  exact goalR_val hw (by have ec : ∀ v, a.eval (.const v) = v := fun _ => rfl; generalize a.eval = ρ at ec e85 ⊢; simp [execOp, go_sem, ec, e85]) rfl
                exact True.intro
              · obtain ⟨s, hs1⟩ : ∃ s, KSL = s + 1 := ⟨KSL - 1, by omega⟩
                have hsx : s < KS.length := by rw [← HKSL.out]; omega
                obtain ⟨bk, ok, ar, cr, hak, f0, sr⟩ := HRB.out.2.2.2.2 s KS[s] (List.getElem?_eq_getElem hsx)
                subst hak
                have HLT : Hid (KS.getLast? = some KS[s]) := by
                  show _ = _
                  rw [List.getLast?_eq_getElem?, ← HKSL.out, hs1, Nat.add_sub_cancel]
                  exact List.getElem?_eq_getElem hsx
                have HNE : Hid (KS ≠ []) := fun z => by rw [z] at hsx; cases hsx
                generalize KS[s] = r at f0 sr HLT
                have HCM : Hid (∀ wx, Below W1.heap.size W1 wx → Calls Try.prog 15 #[.slice ar r.length cr, .slice ka2 kyl kc2] wx fun e w' => e = .returned (.int .i64 (cmp r ky)) ∧ Below wx.heap.size wx w') := fun wx hb => HCMP.out wx hb sr
                have HCL : Hid (∀ wx, Below W1.heap.size W1 wx → wx.cell? ⟨bk, ok + s, none⟩ = some (.slice ar r.length cr) ∧ wx.cell? ⟨wr.heap.size, 0, none⟩ = some (.slice ka2 kyl kc2)) := fun wx hb => ⟨cell_later hb (cell_later HBW1.out f0), cell_later hb y0⟩
                generalize r.length = rl at HCM HCL
                have hg1 : ((KSL : Int) == 0) = false := by simpa using hk0
                have hg2 : decide ((KSL : Int) = 0) = false := by simpa using hk0
                have hs60 : s ≤ 2 ^ 60 := by omega
                have hi3 : wrap64 ((KSL : Int) - 1) = (s : Int) := by rw [hs1]; exact wrM1 hs60
                have hi4 : IntKind.i64.wrap ((KSL : Int) - 1) = (s : Int) := by rw [hs1]; exact wrM2 hs60
                have hj1 : IntKind.i64.wrap (s : Int) = (s : Int) := wrS1 hs60
                have hj2 : wrap64 (s : Int) = (s : Int) := wrS2 hs60
                have hj3 : 0 ≤ (s : Int) := Int.natCast_nonneg s
                have hj4 : (s : Int) < (KSL : Int) := by omega
                have hj5 : ¬ ((KSL : Int) ≤ (s : Int)) := by omega
                have hj6 : s < KSL := by omega
                clear HRB HCMP f0 sr hsx hs1 hk0
                by_cases qr : r = ky
                · have HST : Hid ((c.take (t + 1)).foldl ky1 kk = KS) := by
                    show _ = _
                    rw [HSTU.out, if_neg (fun z => z.elim HNE.out (fun z => z (by rw [HLT.out, qr])))]
                  rw [show cmp r ky = 0 from cmp_zero.2 qr] at HCM
                  have hcb : ((0 : Int) == 0) = true := rfl
                  have hc0 : True := trivial
                  clear qr
                  go_upto_region 24 with fail
                  clear d0 d1 d2 d3 d4
                  refine wp_region_vals (by kernel_rfl) (by decide +kernel) 144 rfl (by decide +kernel) [.int .i64 (KSL : Int), .bool false, .bool false, .slice (some ⟨bk, ok, none⟩) KSL ck2, .int .i64 (KSL : Int), .int .i64 (s : Int), .pointer (some ⟨bk, ok + s, none⟩), .slice ar rl cr, .pointer (some ⟨wr.heap.size, 0, none⟩), .slice ka2 kyl kc2, .int .i64 0, .bool false, .bool false] rfl ?_ [83, 84, 85, 86, 87, 88, 89, 90, 91, 92, 93, 94, 95] (by decide +kernel) ?_
                  rotate_left
                  · intro w6 B6
                    rename_i hk
                    refine hk _ _ ?_
                    rw [putTb]
                    go_wp2_with fail
                    go_roundg GT
                    case measure => exact HGT.out.1
                    case rel => exact ⟨t + 1, HGT.out.2, by go_num, by rw [HST.out]; exact HT1.out.later B6⟩
                  -- 0: slot 83
                  refine ⟨fun a w c => ?_, ?_⟩
                  · exact goalR_move (c.want0 rfl) (.tmp 15) (.inl rfl) ((c.old 15 rfl).trans rfl) rfl
                  -- 1: slot 84
                  refine ⟨fun a w c => ?_, ?_⟩
                  · have hw := c.want0 rfl
                    have e83 : a.eval (.tmp 83) = _ := c.val 0 _ rfl rfl
                    exact goalR_val hw (by have ec : ∀ v, a.eval (.const v) = v := fun _ => rfl; generalize a.eval = ρ at ec e83 ⊢; simp [execOp, go_sem, ec, e83, hg1, hg2]) rfl
                  -- 2: slot 85
                  refine ⟨fun a w c => ?_, ?_⟩
                  · exact goalR_move (c.want0 rfl) (.tmp 84) (.inl rfl) (c.val 1 _ rfl rfl) rfl
                  -- 3: slot 86
                  refine ⟨fun a w c => ?_, ?_⟩
                  · exact goalR_move (c.want 2 false rfl rfl rfl) (.tmp 8) (.inl rfl) ((c.old 8 rfl).trans rfl) rfl
                  -- 4: slot 87
                  refine ⟨fun a w c => ?_, ?_⟩
                  · exact goalR_move (c.want 2 false rfl rfl rfl) (.tmp 15) (.inl rfl) ((c.old 15 rfl).trans rfl) rfl
                  -- 5: slot 88
                  refine ⟨fun a w c => ?_, ?_⟩
                  · have hw := c.want 2 false rfl rfl rfl
                    have e87 : a.eval (.tmp 87) = _ := c.val 4 _ rfl rfl
                    exact goalR_val hw (by have ec : ∀ v, a.eval (.const v) = v := fun _ => rfl; generalize a.eval = ρ at ec e87 ⊢; simp [execOp, go_sem, ec, e87, hi3, hi4]) rfl
                  -- 6: slot 89
                  refine ⟨fun a w c => ?_, ?_⟩
                  · have hw := c.want 2 false rfl rfl rfl
                    have e86 : a.eval (.tmp 86) = _ := c.val 3 _ rfl rfl
                    have e88 : a.eval (.tmp 88) = _ := c.val 5 _ rfl rfl
                    exact goalR_val hw (by have ec : ∀ v, a.eval (.const v) = v := fun _ => rfl; generalize a.eval = ρ at ec e86 e88 ⊢; simp [execOp, go_sem, ec, e86, e88, elemBr, hj1, hj2, hj3, hj4, hj5, hj6]) rfl
                  -- 7: slot 90
                  refine ⟨fun a w c => ?_, ?_⟩
                  · have hw := c.want 2 false rfl rfl rfl
                    have y9 := (HCL.out w c.below).1
                    have e89 : a.eval (.tmp 89) = _ := c.val 6 _ rfl rfl
                    exact goalR_val hw (by have ec : ∀ v, a.eval (.const v) = v := fun _ => rfl; generalize a.eval = ρ at ec e89 ⊢; simp [execOp, go_sem, ec, e89, y9]) rfl
                  -- 8: slot 91
                  refine ⟨fun a w c => ?_, ?_⟩
                  · have hw := c.want 2 false rfl rfl rfl
                    have e14 : a.eval (.tmp 14) = _ := (c.old 14 rfl).trans rfl
                    exact goalR_val hw (by have ec : ∀ v, a.eval (.const v) = v := fun _ => rfl; generalize a.eval = ρ at ec e14 ⊢; simp [execOp, go_sem, ec, e14]) rfl
                  -- 9: slot 92
                  refine ⟨fun a w c => ?_, ?_⟩
                  · have hw := c.want 2 false rfl rfl rfl
                    have y9 := (HCL.out w c.below).2
                    have e91 : a.eval (.tmp 91) = _ := c.val 8 _ rfl rfl
                    exact goalR_val hw (by have ec : ∀ v, a.eval (.const v) = v := fun _ => rfl; generalize a.eval = ρ at ec e91 ⊢; simp [execOp, go_sem, ec, e91, y9]) rfl
                  -- 10: slot 93
                  refine ⟨fun a w c => ?_, ?_⟩
                  · have hw := c.want 2 false rfl rfl rfl
                    have e90 : a.eval (.tmp 90) = _ := c.val 7 _ rfl rfl
                    have e92 : a.eval (.tmp 92) = _ := c.val 9 _ rfl rfl
                    exact goalR_fn hw rfl (by simp only [List.map_toArray, List.map_cons, List.map_nil, e90, e92]) (by kernel_rfl) ((HCM.out w c.below).mono fun e w' ⟨he, hb⟩ => ⟨_, he, outR_val rfl hb⟩)
                  -- 11: slot 94
                  refine ⟨fun a w c => ?_, ?_⟩
                  · have hw := c.want 2 false rfl rfl rfl
                    have e93 : a.eval (.tmp 93) = _ := c.val 10 _ rfl rfl
                    exact goalR_val hw (by have ec : ∀ v, a.eval (.const v) = v := fun _ => rfl; generalize a.eval = ρ at ec e93 ⊢; simp [execOp, go_sem, ec, e93, hcb, hc0]) rfl
                  -- 12: slot 95
                  refine ⟨fun a w c => ?_, ?_⟩
                  · have hw := c.want0 rfl
                    have e85 : a.eval (.tmp 85) = _ := c.val 2 _ rfl rfl
                    have e94 : a.eval (.tmp 94) = _ := c.val 11 _ rfl rfl
                    exact goalR_val hw (by have ec : ∀ v, a.eval (.const v) = v := fun _ => rfl; generalize a.eval = ρ at ec e85 e94 ⊢; simp [execOp, go_sem, ec, e85, e94]) rfl
                  exact True.intro
                · have HST : Hid ((c.take (t + 1)).foldl ky1 kk = KS ++ [ky]) := by
                    show _ = _
                    rw [HSTU.out, if_pos (.inr (fun z => qr (by rw [HLT.out] at z; exact Option.some.inj z)))]
                  have hc0 : ¬ (cmp r ky = 0) := fun z => qr (cmp_zero.1 z)
                  generalize cmp r ky = CM at HCM hc0
                  have hcb : (CM == 0) = false := by simpa using hc0
                  clear qr
                  go_upto_region 24 with fail
                  clear d0 d1 d2 d3 d4
                  refine wp_region_vals (by kernel_rfl) (by decide +kernel) 144 rfl (by decide +kernel) [.int .i64 (KSL : Int), .bool false, .bool false, .slice (some ⟨bk, ok, none⟩) KSL ck2, .int .i64 (KSL : Int), .int .i64 (s : Int), .pointer (some ⟨bk, ok + s, none⟩), .slice ar rl cr, .pointer (some ⟨wr.heap.size, 0, none⟩), .slice ka2 kyl kc2, .int .i64 CM, .bool true, .bool true] rfl ?_ [83, 84, 85, 86, 87, 88, 89, 90, 91, 92, 93, 94, 95] (by decide +kernel) ?_
                  rotate_left
                  · intro w6 B6
                    rename_i hk
                    refine hk _ _ ?_
                    rw [putTb]
                    obtain ⟨A1, A2, A4, A5⟩ := HADD.out w6 B6
                    have y9 := cell_later B6 y0
                    go_wp2_with (at_builtin; refine wpList_appF byE (t := 38) (z := .slice none 0 0) (bytes := 24) (B := W.heap.size) Try.underlying38 byE_info rfl (by decide) rfl (.tmp 96) (.tmp 99) rfl rfl A2.rk rfl A1 A4 A5 (by have := HKL2.out; omega) (by have := HKL2.out; omega) A2.bel.size ?_; intro v10 w10 r10 g10 m10; have HT10 := hid (A2.growK g10 m10 r10))
                    go_roundg GT
                    case measure => exact HGT.out.1
                    case rel => exact ⟨t + 1, HGT.out.2, by go_num, by rw [HST.out]; exact HT10.out⟩
                  -- 0: slot 83
                  refine ⟨fun a w c => ?_, ?_⟩
                  · exact goalR_move (c.want0 rfl) (.tmp 15) (.inl rfl) ((c.old 15 rfl).trans rfl) rfl
                  -- 1: slot 84
                  refine ⟨fun a w c => ?_, ?_⟩
                  · have hw := c.want0 rfl
                    have e83 : a.eval (.tmp 83) = _ := c.val 0 _ rfl rfl
                    exact goalR_val hw (by have ec : ∀ v, a.eval (.const v) = v := fun _ => rfl; generalize a.eval = ρ at ec e83 ⊢; simp [execOp, go_sem, ec, e83, hg1, hg2]) rfl
                  -- 2: slot 85
                  refine ⟨fun a w c => ?_, ?_⟩
                  · exact goalR_move (c.want0 rfl) (.tmp 84) (.inl rfl) (c.val 1 _ rfl rfl) rfl
                  -- 3: slot 86
                  refine ⟨fun a w c => ?_, ?_⟩
                  · exact goalR_move (c.want 2 false rfl rfl rfl) (.tmp 8) (.inl rfl) ((c.old 8 rfl).trans rfl) rfl
                  -- 4: slot 87
                  refine ⟨fun a w c => ?_, ?_⟩
                  · exact goalR_move (c.want 2 false rfl rfl rfl) (.tmp 15) (.inl rfl) ((c.old 15 rfl).trans rfl) rfl
                  -- 5: slot 88
                  refine ⟨fun a w c => ?_, ?_⟩
                  · have hw := c.want 2 false rfl rfl rfl
                    have e87 : a.eval (.tmp 87) = _ := c.val 4 _ rfl rfl
                    exact goalR_val hw (by have ec : ∀ v, a.eval (.const v) = v := fun _ => rfl; generalize a.eval = ρ at ec e87 ⊢; simp [execOp, go_sem, ec, e87, hi3, hi4]) rfl
                  -- 6: slot 89
                  refine ⟨fun a w c => ?_, ?_⟩
                  · have hw := c.want 2 false rfl rfl rfl
                    have e86 : a.eval (.tmp 86) = _ := c.val 3 _ rfl rfl
                    have e88 : a.eval (.tmp 88) = _ := c.val 5 _ rfl rfl
                    exact goalR_val hw (by have ec : ∀ v, a.eval (.const v) = v := fun _ => rfl; generalize a.eval = ρ at ec e86 e88 ⊢; simp [execOp, go_sem, ec, e86, e88, elemBr, hj1, hj2, hj3, hj4, hj5, hj6]) rfl
                  -- 7: slot 90
                  refine ⟨fun a w c => ?_, ?_⟩
                  · have hw := c.want 2 false rfl rfl rfl
                    have y9 := (HCL.out w c.below).1
                    have e89 : a.eval (.tmp 89) = _ := c.val 6 _ rfl rfl
                    exact goalR_val hw (by have ec : ∀ v, a.eval (.const v) = v := fun _ => rfl; generalize a.eval = ρ at ec e89 ⊢; simp [execOp, go_sem, ec, e89, y9]) rfl
                  -- 8: slot 91
                  refine ⟨fun a w c => ?_, ?_⟩
                  · have hw := c.want 2 false rfl rfl rfl
                    have e14 : a.eval (.tmp 14) = _ := (c.old 14 rfl).trans rfl
                    exact goalR_val hw (by have ec : ∀ v, a.eval (.const v) = v := fun _ => rfl; generalize a.eval = ρ at ec e14 ⊢; simp [execOp, go_sem, ec, e14]) rfl
                  -- 9: slot 92
                  refine ⟨fun a w c => ?_, ?_⟩
                  · have hw := c.want 2 false rfl rfl rfl
                    have y9 := (HCL.out w c.below).2
                    have e91 : a.eval (.tmp 91) = _ := c.val 8 _ rfl rfl
                    exact goalR_val hw (by have ec : ∀ v, a.eval (.const v) = v := fun _ => rfl; generalize a.eval = ρ at ec e91 ⊢; simp [execOp, go_sem, ec, e91, y9]) rfl
                  -- 10: slot 93
                  refine ⟨fun a w c => ?_, ?_⟩
                  · have hw := c.want 2 false rfl rfl rfl
                    have e90 : a.eval (.tmp 90) = _ := c.val 7 _ rfl rfl
                    have e92 : a.eval (.tmp 92) = _ := c.val 9 _ rfl rfl
                    exact goalR_fn hw rfl (by simp only [List.map_toArray, List.map_cons, List.map_nil, e90, e92]) (by kernel_rfl) ((HCM.out w c.below).mono fun e w' ⟨he, hb⟩ => ⟨_, he, outR_val rfl hb⟩)
                  -- 11: slot 94
                  refine ⟨fun a w c => ?_, ?_⟩
                  · have hw := c.want 2 false rfl rfl rfl
                    have e93 : a.eval (.tmp 93) = _ := c.val 10 _ rfl rfl
                    exact goalR_val hw (by have ec : ∀ v, a.eval (.const v) = v := fun _ => rfl; generalize a.eval = ρ at ec e93 ⊢; simp [execOp, go_sem, ec, e93, hcb, hc0]) rfl
                  -- 12: slot 95
                  refine ⟨fun a w c => ?_, ?_⟩
                  · have hw := c.want0 rfl
                    have e85 : a.eval (.tmp 85) = _ := c.val 2 _ rfl rfl
                    have e94 : a.eval (.tmp 94) = _ := c.val 11 _ rfl rfl
                    exact goalR_val hw (by have ec : ∀ v, a.eval (.const v) = v := fun _ => rfl; generalize a.eval = ρ at ec e85 e94 ⊢; simp [execOp, go_sem, ec, e85, e94]) rfl
                  exact True.intro
            · have htl' : (nn : Int) ≤ (t : Int) := by omega
              have htc : c.take t = c := List.take_of_length_le (by have := HPCn.out.2; omega)
              have h1 := HT.out
              rw [htc] at h1
              have HFIN : Hid (Tri W wr v9 v7 u8 (bodT ((cutT l).take (q + 1))) (idxB 0 ((cutT l).take (q + 1))) (kys ((cutT l).take (q + 1)).flatten)) := by
                show Tri _ _ _ _ _ _ _ _
                rw [HNEXT.out, bodT_snoc, idxB_snoc, HEQ.out.1, HEQ.out.2.1, HLK.out, HBN.out.1, Nat.zero_add, HBN.out.2, List.flatten_append]
                have h2 : kys (((cutT l).take q).flatten ++ [c].flatten) = c.foldl ky1 kk := by
                  unfold kys
                  rw [List.foldl_append, show List.foldl ky1 [] ((cutT l).take q).flatten = kk from HEQ.out.2.2]
                  simp
                rw [h2, ← List.append_assoc, ← List.append_assoc]
                exact h1
              clear ht htl HT h1 htc
              go_wp2_with fail
              go_roundg GK
              case measure => exact HG.out.1
              case rel => exact ⟨q + 1, HG.out.2, by go_num, HFIN⟩
        · have hql' : (N : Int) ≤ (q : Int) := by omega
          have hcN : (cutT l).length = N := by rw [bnd_T, List.length_map]; exact HNN.out.1.symm
          have hall : (cutT l).take q = cutT l := List.take_of_length_le (by omega)
          rw [hall] at HP hsh1 hsh2 hokc ⊢
          rw [cutT_flat] at HP ⊢
          have P := HP.out
          obtain ⟨ai, ci, hvi, SI⟩ := P.sx (okb_idxB hokc)
          subst hvi
          obtain ⟨ak9, ck9, hk9, rk9⟩ := P.rk.rsg
          simp only [Value.slice.injEq] at hk9
          obtain ⟨rfl, -, rfl⟩ := hk9
          have hkn := kys_len l
          have hfi := rfilter_any (rs_rb rk9.rs) (by have := HS.out.2.2.2; omega)
          have hfl : (filT l).length ≤ 100000 := by unfold filT; rw [fil_len]; unfold fsz; have := HS.out.2.2.2; omega
          have HFT : Hid (wdsT [(bodT (cutT l)).length, (idxT l).length, (bodT (cutT l)).length + (idxT l).length + 4, (filT l).length, len] = ftT l) := by show _ = _; unfold wdsT ftT; rw [hln]; simp
          have HL9 : Hid ((bodT (cutT l)).length ≤ 20000000 ∧ (idxB 0 (cutT l)).length ≤ 20000000 ∧ (filT l).length ≤ 100000 ∧ len ≤ 4000) := ⟨hsh.1, hsh.2, hfl, HS.out.2.2.2⟩
          have HOK : Hid (Okb (bodT (cutT l)) ∧ Okb (idxT l) ∧ Okb (filT l) ∧ Okb (ftT l) ∧ Okb (tblB l)) := ⟨okb_bodT hokc, okb_idxB hokc, fil_ok _, (okb_fx _ _).app ((okb_fx _ _).app ((okb_fx _ _).app ((okb_fx _ _).app (okb_fx _ _)))), okb_tblB hokE⟩
          have HTB : Hid (tblB l = bodT (cutT l) ++ (sm (idxT l) ++ (sm (filT l) ++ (sm (ftT l) ++ magT)))) := rfl
          have HSI := hid SI
          have HTL : Hid (Tl W wr (.slice ab (bodT (cutT l)).length cb) (bodT (cutT l))) := ⟨P.rb, P.bel⟩
          obtain ⟨KY, hKY⟩ : ∃ x, x = kys l := ⟨_, rfl⟩
          have HKY : Hid (fil KY = filT l) := by show _ = _; rw [hKY]; rfl
          rw [← hKY] at hfi hkn ⊢
          have hky62 : KY.length ≤ 2 ^ 60 := by have := HS.out.2.2.2; omega
          clear hKY P SI rk9 hsh hsh1 hsh2 hokc hokE hmE hfl hcN hall HP hq hql H0
          go_upto_region 29 with (go_at_call 25; refine hfi.mono ?_; rintro e w1 ⟨vf, rfl, rf, b1⟩)
          obtain ⟨af, cf, hvf, SF⟩ := Sx.new HTL.out.row b1 rf (fil_ok _)
          subst hvf
          have HSF : Hid (Sx (.slice ab (bodT (cutT l)).length cb) w1 af (filT l).length cf (filT l)) := by
            have : fil KY = filT l := HKY.out
            rw [this] at SF
            exact SF
          have hflen : (fil KY).length = (filT l).length := by rw [show fil KY = filT l from HKY.out]
          rw [hflen]
          have HSI1 := hid (HSI.out.later b1)
          have HTL1 := hid (HTL.out.later b1)
          generalize hBLL : (bodT (cutT l)).length = BL at HSF HSI1 HTL1 HFT HL9 ⊢
          generalize hILL : (idxB 0 (cutT l)).length = IL at HSI1 HL9 ⊢
          rw [show (idxT l).length = IL from hILL] at HFT
          generalize hFLL : (filT l).length = FL at HSF HFT HL9 ⊢
          have HLLL := hid (And.intro hBLL (And.intro hILL hFLL))
          obtain ⟨NUM, hNUM⟩ : ∃ x, x = [BL, IL, BL + IL + 4, FL, len] := ⟨_, rfl⟩
          rw [← hNUM] at HFT
          have HN5 : Hid (NUM[0]? = some BL ∧ NUM[1]? = some IL ∧ NUM[2]? = some (BL + IL + 4) ∧ NUM[3]? = some FL ∧ NUM[4]? = some len) := by rw [hNUM]; exact ⟨rfl, rfl, rfl, rfl, rfl⟩
          have HN6 : Hid (NUM.length = 5) := by rw [hNUM]; rfl
          have HST5 : Hid (∀ i x, NUM[i]? = some x → wdsT (NUM.take (i + 1)) = wdsT (NUM.take i) ++ fx x 4) := fun i x hx => by
            obtain ⟨h1, h2⟩ := List.getElem?_eq_some_iff.1 hx
            rw [wdsT_take h1, h2]
          have HWL : Hid (∀ i, i ≤ 5 → (wdsT (NUM.take i)).length ≤ 40) := fun i hi => by
            rw [hNUM]
            match i, hi with
            | 0, _ => simp [wdsT]
            | 1, _ => simp [wdsT, fx4]
            | 2, _ => simp [wdsT, fx4]
            | 3, _ => simp [wdsT, fx4]
            | 4, _ => simp [wdsT, fx4]
            | 5, _ => simp [wdsT, fx4]
          have hBL60 : BL ≤ 2 ^ 60 := by have := HL9.out; omega
          have hIL60 : IL ≤ 2 ^ 60 := by have := HL9.out; omega
          have hFL60 : FL ≤ 2 ^ 60 := by have := HL9.out; omega
          have hw1 : IntKind.u64.wrap (BL : Int) = (BL : Int) := wrU hBL60
          have hw2 : IntKind.u64.wrap (IL : Int) = (IL : Int) := wrU hIL60
          have hw3 : IntKind.u64.wrap ((BL : Int) + (IL : Int) + 4) = ((BL + IL + 4 : Nat) : Int) := by
            have h := wrU (n := BL + IL + 4) (by have := HL9.out; omega)
            rw [← h]
            congr 1
          have hw4 : IntKind.u64.wrap (FL : Int) = (FL : Int) := wrU hFL60
          have hw5 : IntKind.u64.wrap (len : Int) = (len : Int) := wrU (by have := HL9.out; omega)
          have H5 : Hid (Row w1.heap.size w1 (.slice none 0 0) (wdsT (NUM.take 0)) ∧ Below w1.heap.size w1 w1) := ⟨Row.nil _ _, Below.refl _ _⟩
          clear hfi rf b1 SF hflen hBLL hILL hFLL hNUM HSI HTL
          go_wp2_with fail
          go_loopg [17, 19, 120] 5 (fun g v _ i wr => ∃ k : Nat, k + g = 5 ∧ i = .int .i64 (k : Int) ∧ Hid (Row w1.heap.size wr v (wdsT (NUM.take k)) ∧ Below w1.heap.size w1 wr))
          case atStart => exact ⟨0, by omega, rfl, H5⟩
          case round =>
            obtain ⟨k5, hk5, rfl, HK⟩ := hrel
            by_cases hlt : k5 < 5
            · match k5, hk5, hlt, HK with
              | 0, hk5, _, HK =>
                have hfx := rfixed_any w1.heap.size u17 (wdsT (NUM.take 0)) BL 4 wr HK.out.1 HK.out.2.size (by have := HWL.out 0 (by omega); omega)
                rw [fxs4b] at hfx
                have hix := fun wx => run_ix5_0 (BL : Int) (IL : Int) ((BL : Int) + (IL : Int) + 4) (FL : Int) (len : Int) wx
                have HR5 : Hid (wdsT (NUM.take (0 + 1)) = wdsT (NUM.take 0) ++ fx BL 4) := HST5.out 0 BL HN5.out.1
                go_wp2_with (go_at_call 42; refine hfx.mono ?_; rintro e w2 ⟨v2, rfl, r2, g2, m2⟩)
                go_roundg (5 - (0 + 1))
                case measure => omega
                case rel => exact ⟨0 + 1, by omega, rfl, by rw [HR5.out]; exact r2, HK.out.2.trans (grown_below HK.out.1 g2 HK.out.2.size)⟩
              | 1, hk5, _, HK =>
                have hfx := rfixed_any w1.heap.size u17 (wdsT (NUM.take 1)) IL 4 wr HK.out.1 HK.out.2.size (by have := HWL.out 1 (by omega); omega)
                rw [fxs4b] at hfx
                have hix := fun wx => run_ix5_1 (BL : Int) (IL : Int) ((BL : Int) + (IL : Int) + 4) (FL : Int) (len : Int) wx
                have HR5 : Hid (wdsT (NUM.take (1 + 1)) = wdsT (NUM.take 1) ++ fx IL 4) := HST5.out 1 IL HN5.out.2.1
                go_wp2_with (go_at_call 42; refine hfx.mono ?_; rintro e w2 ⟨v2, rfl, r2, g2, m2⟩)
                go_roundg (5 - (1 + 1))
                case measure => omega
                case rel => exact ⟨1 + 1, by omega, rfl, by rw [HR5.out]; exact r2, HK.out.2.trans (grown_below HK.out.1 g2 HK.out.2.size)⟩
              | 2, hk5, _, HK =>
                have hfx := rfixed_any w1.heap.size u17 (wdsT (NUM.take 2)) (BL + IL + 4) 4 wr HK.out.1 HK.out.2.size (by have := HWL.out 2 (by omega); omega)
                rw [fxs4b] at hfx
                have hix := fun wx => run_ix5_2 (BL : Int) (IL : Int) ((BL : Int) + (IL : Int) + 4) (FL : Int) (len : Int) wx
                have HR5 : Hid (wdsT (NUM.take (2 + 1)) = wdsT (NUM.take 2) ++ fx (BL + IL + 4) 4) := HST5.out 2 (BL + IL + 4) HN5.out.2.2.1
                go_wp2_with (go_at_call 42; refine hfx.mono ?_; rintro e w2 ⟨v2, rfl, r2, g2, m2⟩)
                go_roundg (5 - (2 + 1))
                case measure => omega
                case rel => exact ⟨2 + 1, by omega, rfl, by rw [HR5.out]; exact r2, HK.out.2.trans (grown_below HK.out.1 g2 HK.out.2.size)⟩
              | 3, hk5, _, HK =>
                have hfx := rfixed_any w1.heap.size u17 (wdsT (NUM.take 3)) FL 4 wr HK.out.1 HK.out.2.size (by have := HWL.out 3 (by omega); omega)
                rw [fxs4b] at hfx
                have hix := fun wx => run_ix5_3 (BL : Int) (IL : Int) ((BL : Int) + (IL : Int) + 4) (FL : Int) (len : Int) wx
                have HR5 : Hid (wdsT (NUM.take (3 + 1)) = wdsT (NUM.take 3) ++ fx FL 4) := HST5.out 3 FL HN5.out.2.2.2.1
                go_wp2_with (go_at_call 42; refine hfx.mono ?_; rintro e w2 ⟨v2, rfl, r2, g2, m2⟩)
                go_roundg (5 - (3 + 1))
                case measure => omega
                case rel => exact ⟨3 + 1, by omega, rfl, by rw [HR5.out]; exact r2, HK.out.2.trans (grown_below HK.out.1 g2 HK.out.2.size)⟩
              | 4, hk5, _, HK =>
                have hfx := rfixed_any w1.heap.size u17 (wdsT (NUM.take 4)) len 4 wr HK.out.1 HK.out.2.size (by have := HWL.out 4 (by omega); omega)
                rw [fxs4b] at hfx
                have hix := fun wx => run_ix5_4 (BL : Int) (IL : Int) ((BL : Int) + (IL : Int) + 4) (FL : Int) (len : Int) wx
                have HR5 : Hid (wdsT (NUM.take (4 + 1)) = wdsT (NUM.take 4) ++ fx len 4) := HST5.out 4 len HN5.out.2.2.2.2
                go_wp2_with (go_at_call 42; refine hfx.mono ?_; rintro e w2 ⟨v2, rfl, r2, g2, m2⟩)
                go_roundg (5 - (4 + 1))
                case measure => omega
                case rel => exact ⟨4 + 1, by omega, rfl, by rw [HR5.out]; exact r2, HK.out.2.trans (grown_below HK.out.1 g2 HK.out.2.size)⟩
              | n + 5, _, hlt, _ => omega
            · obtain rfl : k5 = 5 := by omega
              have HTK : Hid (NUM.take 5 = NUM) := by show _ = _; rw [List.take_of_length_le (by rw [HN6.out]; exact Nat.le_refl _)]
              have hr5 := HK.out.1
              rw [HTK.out, show wdsT NUM = ftT l from HFT.out] at hr5
              have hb5 := HK.out.2
              obtain ⟨aq, cq, hq5, SQ⟩ := Sx.new HTL1.out.row hb5 hr5 HOK.out.2.2.2.1
              subst hq5
              have SIr := HSI1.out.later hb5
              have SFr := HSF.out.later hb5
              have TLr := HTL1.out.later hb5
              have HLF : Hid ((ftT l).length = 20) := by show _ = _; unfold ftT; simp [fx4]
              have HIT : Hid (idxB 0 (cutT l) = idxT l) := rfl
              have HZ := hidE3 (And.intro SIr (And.intro SFr (And.intro SQ TLr)))
              have HLN : Hid ((bodT (cutT l)).length = BL ∧ (idxT l).length = IL ∧ (filT l).length = FL) := ⟨HLLL.out.1, by rw [← HIT.out]; exact HLLL.out.2.1, HLLL.out.2.2⟩
              have hC1 := rsmd_any HZ.out.1.1 (by have := HL9.out; omega)
              rw [HIT.out] at hC1
              have HC2 : Hid (∀ (wx : World) (u : Value), Sx u wx af FL cf (filT l) → Calls Try.prog 41 #[.slice af FL cf] wx fun e w' => ∃ v, e = .returned v ∧ Row wx.heap.size w' v (sm (filT l)) ∧ Below wx.heap.size wx w') := fun wx u hs => rsmd_any hs.1 (by have := HL9.out; omega)
              have HC3 : Hid (∀ (wx : World) (u : Value), Sx u wx aq (ftT l).length cq (ftT l) → Calls Try.prog 41 #[.slice aq (ftT l).length cq] wx fun e w' => ∃ v, e = .returned v ∧ Row wx.heap.size w' v (sm (ftT l)) ∧ Below wx.heap.size wx w') := fun wx u hs => rsmd_any hs.1 (by have := HLF.out; omega)
              have HOS : Hid (Okb (sm (idxT l)) ∧ Okb (sm (filT l)) ∧ Okb (sm (ftT l))) := ⟨okb_sm HOK.out.2.1, okb_sm HOK.out.2.2.1, okb_sm HOK.out.2.2.2.1⟩
              have HBND : Hid ((bodT (cutT l)).length ≤ 20000000 ∧ (sm (idxT l)).length ≤ 20000010 ∧ (sm (filT l)).length ≤ 100010 ∧ (sm (ftT l)).length = 24) := by
                refine ⟨by rw [HLN.out.1]; have := HL9.out; omega, ?_, ?_, by rw [sm_len, HLF.out]⟩
                · rw [sm_len, HLN.out.2.1]; have := HL9.out; omega
                · rw [sm_len, HLN.out.2.2]; have := HL9.out; omega
              clear hk5 hlt HK hr5 hb5 SQ SIr SFr TLr hw1 hw2 hw3 hw4 hw5 H5
              go_upto_region 36 with (first
                | (go_at_call 41; refine (HC3.out _ _ X4.out.2.1).mono ?_; rintro e w6 ⟨v6, rfl, r6, b6⟩; obtain ⟨a6, c6, hv6, s6⟩ := Sl.ofRow r6 HOS.out.2.2; subst hv6; have X6 := hidE3 (And.intro (X4.out.1.later b6) s6); clear r6 s6 b6 HC3)
                | (at_builtin; refine wpList_applN rfl (.tmp 134) (.tmp 136) rfl rfl X6.out.1.row rfl X6.out.2 (by have := HBND.out; simp only [List.length_append]; omega) X6.out.1.bel.size ?_; intro v7 w7 r7 g7 m7; have X7 := hidE3 (X6.out.1.grow g7 r7); clear r7 g7 m7)
                | (go_at_call 41; refine (HC2.out _ _ X2.out.2.1).mono ?_; rintro e w4 ⟨v4, rfl, r4, b4⟩; obtain ⟨a4, c4, hv4, s4⟩ := Sl.ofRow r4 HOS.out.2.1; subst hv4; have X3 := hidE3 (And.intro (X2.out.1.later b4) (And.intro s4 (X2.out.2.2.later b4))); clear r4 s4 b4 HC2)
                | (at_builtin; refine wpList_applN rfl (.tmp 131) (.tmp 133) rfl rfl X3.out.1.row rfl X3.out.2.1 (by have := HBND.out; simp only [List.length_append]; omega) X3.out.1.bel.size ?_; intro v5 w5 r5 g5 m5; have X4 := hidE3 (And.intro (X3.out.1.grow g5 r5) (And.intro (X3.out.2.2.grow g5 m5) trivial)); clear r5 g5 m5)
                | (go_at_call 41; refine hC1.mono ?_; rintro e w2 ⟨v2, rfl, r2, b2⟩; obtain ⟨a2, c2, hv2, s2⟩ := Sl.ofRow r2 HOS.out.1; subst hv2; have X1 := hidE3 (And.intro (HZ.out.2.2.2.later b2) (And.intro s2 (And.intro (HZ.out.2.1.later b2) (HZ.out.2.2.1.later b2)))); clear r2 s2 b2 hC1)
                | (at_builtin; refine wpList_applN rfl (.tmp 128) (.tmp 130) rfl rfl X1.out.1.row rfl X1.out.2.1 (by have := HBND.out; omega) X1.out.1.bel.size ?_; intro v3 w3 r3 g3 m3; have X2 := hidE3 (And.intro (X1.out.1.grow g3 r3) (And.intro (X1.out.2.2.1.grow g3 m3) (X1.out.2.2.2.grow g3 m3))); clear r3 g3 m3))
              have HMG : Hid (bodT (cutT l) ++ sm (idxT l) ++ sm (filT l) ++ sm (ftT l) ++ magT = tblB l) := by show _ = _; rw [HTB.out]; simp only [List.append_assoc]
              have HLX : Hid ((bodT (cutT l) ++ sm (idxT l) ++ sm (filT l) ++ sm (ftT l)).length ≤ 60000000) := by show _ ≤ _; have := HBND.out; simp only [List.length_append]; omega
              go_upto_region 37 with (at_builtin; refine wpList_str (B := W.heap.size) (ys := magT) rfl (.tmp 138) (.const (.string ⟨#[104, 97, 108, 121, 97, 114, 100, 49]⟩)) rfl rfl X7.out.row rfl (by rfl) (by have := HLX.out; have : magT.length = 8 := rfl; omega) X7.out.bel.size ?_; intro v9 w9 r9 g9; have HBF := hidE3 (HBW.out.trans ((X7.out.bel.trans (grown_below X7.out.row g9 X7.out.bel.size)).mono HBW.out.size)); clear g9)
              rw [HMG.out] at r9
              obtain ⟨a9, c9, hv9, s9⟩ := Sl.ofRow r9 HOK.out.2.2.2.2
              subst hv9
              have HS9 := hidE3 s9
              have hTL : (tblB l).length ≤ 100000000 := by rw [← HMG.out, List.length_append]; have := HLX.out; have : magT.length = 8 := rfl; omega
              generalize hT : tblB l = TBL at hTL HCX HS9 ⊢
              generalize hT2 : TBL.length = TL at hTL HCX ⊢
              have HTL := hidE3 hT2
              clear r9 s9 hT hT2 X7
              have hTL62 : TL ≤ 2 ^ 61 := by omega
              by_cases q : 4194304 < TL
              · have q' : (4194304 : Int) < (TL : Int) := by omega
                have HV : Hid (C = 8 ∧ X = []) := by have := HCX.out; rw [if_pos q, if_pos q] at this; exact this
                clear q HCX
                go_wp2_with fail
                exact bodyPost_ret (v := .tuple #[.slice none 0 0, .int .i64 8]) (by simp [results, Try.results10, go_sem]) rfl ⟨.slice none 0 0, by rw [HV.out.1], by rw [HV.out.2]; exact slv_nil _, HBF.out⟩
              · have q' : ¬ ((4194304 : Int) < (TL : Int)) := by omega
                have HV : Hid (C = 0 ∧ X = TBL) := by have := HCX.out; rw [if_neg q, if_neg q] at this; exact this
                clear q HCX
                go_wp2_with fail
                exact bodyPost_ret (v := .tuple #[.slice a9 TL c9, .int .i64 0]) (by simp [results, Try.results10, go_sem]) rfl ⟨.slice a9 TL c9, by rw [HV.out.1], by rw [HV.out.2, ← HTL.out]; exact ⟨a9, c9, by rw [HTL.out], by rw [HTL.out] at HS9 ⊢; exact HS9.out⟩, HBF.out⟩
end Go.Proofs.Ytfecopldepnicaa

/- The landed table: parts of bytes, their sums. -/
namespace Go.Proofs.Ytfecopldepnicaa
open Go.RowKit
set_option linter.unusedVariables false
set_option linter.unusedSimpArgs false

set_option maxRecDepth 100000 in
theorem spend_t {w : World} {p n : Nat} (hp : p ≤ 100000000) (hn : n ≤ 100000000) :
    Calls Try.prog 75 #[.agg #[.int .i64 (p : Int), .int .i64 (n : Int)]] w fun e w' => e = .returned (.int .i64 ((p + n : Nat) : Int)) ∧ Below w.heap.size w w' := by
  have HB : Hid (Below w.heap.size w (w.alloc (.cells #[.int .i64 (p : Int), .int .i64 (n : Int)] 74))) := (Below.refl _ _).alloc (Nat.le_refl _) _
  have hp62 : p ≤ 2 ^ 61 := by omega
  have hn62 : n ≤ 2 ^ 61 := by omega
  go_enter Try.func75, Try.ntmps75
  go_wp2_with fail
  exact bodyPost_ret (v := .int .i64 ((p : Int) + (n : Int))) (by simp [results, Try.results75, go_sem]) rfl ⟨by rw [show ((p + n : Nat) : Int) = (p : Int) + (n : Int) by omega], HB.out⟩
set_option maxHeartbeats 1000000 in
set_option maxRecDepth 100000 in
theorem spof_t {w : World} {ao : Option Addr} {len cap p n : Nat} (hpn : p + n ≤ cap) (hp : p ≤ 100000000) (hn : n ≤ 100000000) :
    Calls Try.prog 47 #[.agg #[.int .i64 (p : Int), .int .i64 (n : Int)], .slice ao len cap] w fun e w' => e = .returned (.slice (cutA ao cap p) n (cap - p)) ∧ Below w.heap.size w w' := by
  have hcut := fun w => run_cut w ao len cap p (p + n) (by omega) hpn
  rw [show p + n - p = n by omega] at hcut
  have y0 : (w.alloc (.cells #[.int .i64 (p : Int), .int .i64 (n : Int)] 74)).cell? ⟨w.heap.size, 0, none⟩ = some (.int .i64 (p : Int)) := by rw [cell_of (heap_alloc_new w _)]; rfl
  have y1 : (w.alloc (.cells #[.int .i64 (p : Int), .int .i64 (n : Int)] 74)).cell? ⟨w.heap.size, 1, none⟩ = some (.int .i64 (n : Int)) := by rw [cell_of (heap_alloc_new w _)]; rfl
  have HB : Hid (Below w.heap.size w (w.alloc (.cells #[.int .i64 (p : Int), .int .i64 (n : Int)] 74))) := (Below.refl _ _).alloc (Nat.le_refl _) _
  have HE : Hid (∀ wx, Calls Try.prog 75 #[.agg #[.int .i64 (p : Int), .int .i64 (n : Int)]] wx fun e w' => e = .returned (.int .i64 ((p + n : Nat) : Int)) ∧ Below wx.heap.size wx w') := fun wx => spend_t hp hn
  have hpn' : (p : Int) ≤ ((p + n : Nat) : Int) := by omega
  have hp62 : p ≤ 2 ^ 61 := by omega
  have hn62 : n ≤ 2 ^ 61 := by omega
  generalize cutA ao cap p = a1 at hcut ⊢
  generalize cap - p = c1 at hcut ⊢
  generalize hPN : p + n = PN at hcut HE hpn'
  have hPN62 : PN ≤ 2 ^ 61 := by omega
  clear hpn hp hn hPN
  generalize hW : w.alloc (.cells #[.int .i64 (p : Int), .int .i64 (n : Int)] 74) = W at y0 y1 HB
  go_enter Try.func47, Try.ntmps47
  go_wp2_with fail
  go_region_held_law (fun w' => w'.cell? ⟨w.heap.size, 0, none⟩ = some (.int .i64 (p : Int)) ∧ w'.cell? ⟨w.heap.size, 1, none⟩ = some (.int .i64 (n : Int))) (first | exact ⟨y0, y1⟩ | exact ⟨cell_later hb5 y0, cell_later hb5 y1⟩) (first | (go_at_call 75; refine (HE.out _).mono ?_; rintro e w5 ⟨rfl, hb5⟩))
  all_goals
    go_wp2_with fail
    exact bodyPost_ret (v := .slice a1 n c1) (by simp [results, Try.results47, go_sem]) rfl ⟨rfl, HB.out.drew.trans (hb5.mono HB.out.drew.size)⟩
set_option maxRecDepth 100000 in
theorem word_t {w : World} {ao : Option Addr} {len cap : Nat} {xs : List Int} (h : Sl w ao len cap xs) {i : Nat} (hi : i + 4 ≤ len) (hl : len ≤ 100000000) :
    Calls Try.prog 74 #[.slice ao len cap, .int .i64 (i : Int)] w fun e w' => e = .returned (.int .u64 ((wd xs i : Nat) : Int)) ∧ w' = w := by
  have hr := read4_l (h.from i (by omega)) (by omega)
  have hcf := fun w => run_from w ao len cap i (by omega) h.2.2.2.1
  unfold wd
  generalize fv (xof (xs.drop i)) 4 = V at hr ⊢
  generalize cutA ao cap i = a1 at hcf hr
  generalize len - i = n1 at hcf hr
  generalize cap - i = c1 at hcf hr
  clear h
  have hi62 : i ≤ 2 ^ 61 := by omega
  go_enter Try.func74, Try.ntmps74
  go_wp2_with (go_at_call 96; refine hr.mono ?_; rintro e w' ⟨rfl, hw⟩; obtain rfl := hw.symm)
  exact bodyPost_ret (v := .int .u64 (V : Int)) (by simp [results, Try.results74, go_sem]) rfl ⟨rfl, rfl⟩
/-- What spanWithin answers. -/
def spR (o : Option (Nat × Nat)) : Value := match o with
  | some s => .tuple #[.agg #[.int .i64 (s.1 : Int), .int .i64 (s.2 : Int)], .bool true]
  | none => .tuple #[.agg #[.int .i64 0, .int .i64 0], .bool false]
/-- Two cells, laid. -/
def lay2 (p : Nat) (wx : World) (x0 x1 : Value) : World := (wx.setCell ⟨p, 0, none⟩ x0).setCell ⟨p, 1, none⟩ x1
theorem lay2_grown (p : Nat) (wx : World) (x0 x1 : Value) : wx.grownBy (lay2 p wx x0 x1) (some p) := grown_trans (grown_set _ _ _ _) (grown_set _ _ _ _)
theorem lay2_block {p : Nat} {wx : World} {y0 y1 : Value} {t : TypeId} (h : wx.heap[p]? = some (.cells #[y0, y1] t (0, 0))) (x0 x1 : Value) : (lay2 p wx x0 x1).heap[p]? = some (.cells #[x0, x1] t (0, 0)) := by
  have hb := heap_set (heap_set h 0 x0) 1 x1
  unfold lay2
  rw [hb]
  rfl
theorem lay2_below {B p : Nat} {w wx : World} (h : Below B w wx) (hB : B ≤ w.heap.size) (hp : B ≤ p) (x0 x1 : Value) : Below B w (lay2 p wx x0 x1) := by
  refine h.trans (Below.grown (Below.refl B wx) (lay2_grown p wx x0 x1) (Nat.le_trans hB h.size) fun k e => ?_)
  simp only [Option.some.injEq] at e
  omega
set_option maxHeartbeats 1000000 in
set_option maxRecDepth 100000 in
theorem spw_t {w : World} {P N m : Nat} (hP : P < 18446744073709551616) (hN : N < 18446744073709551616) (hm : m ≤ 100000000) :
    Calls Try.prog 73 #[.int .u64 (P : Int), .int .u64 (N : Int), .int .i64 (m : Int)] w fun e w' => e = .returned (spR (spO P N m)) ∧ Below w.heap.size w w' := by
  have hm62 : m ≤ 2 ^ 61 := by omega
  have hwm : IntKind.u64.wrap (m : Int) = (m : Int) := wrap64u (by omega)
  have HZ : Hid (Below w.heap.size w (w.alloc (.cells #[.int .i64 0, .int .i64 0] 74))) := (Below.refl _ _).alloc (Nat.le_refl _) _
  by_cases q1 : m < P
  · have e1 : spO P N m = none := by unfold spO; rw [if_neg (by omega)]
    rw [e1]
    have q1' : (m : Int) < (P : Int) := by omega
    clear hm hP hN q1 e1
    go_enter Try.func73, Try.ntmps73
    go_wp2_with fail
    exact bodyPost_ret (v := .tuple #[.agg #[.int .i64 0, .int .i64 0], .bool false]) (by simp [results, Try.results73, go_sem]) rfl ⟨rfl, HZ.out⟩
  · have q1' : ¬ ((m : Int) < (P : Int)) := by omega
    by_cases q2 : m < N
    · have e1 : spO P N m = none := by unfold spO; rw [if_neg (by omega)]
      rw [e1]
      have q2' : (m : Int) < (N : Int) := by omega
      clear hm hP hN q1 q2 e1
      go_enter Try.func73, Try.ntmps73
      go_wp2_with fail
      exact bodyPost_ret (v := .tuple #[.agg #[.int .i64 0, .int .i64 0], .bool false]) (by simp [results, Try.results73, go_sem]) rfl ⟨rfl, HZ.out⟩
    · have q2' : ¬ ((m : Int) < (N : Int)) := by omega
      have hP62 : P ≤ 2 ^ 61 := by omega
      have hN62 : N ≤ 2 ^ 61 := by omega
      by_cases q3 : m < P + N + 4
      · have e1 : spO P N m = none := by unfold spO; rw [if_neg (by omega)]
        rw [e1]
        have q3' : (m : Int) < (P : Int) + (N : Int) + 4 := by omega
        clear hm hP hN q1 q2 q3 e1
        go_enter Try.func73, Try.ntmps73
        go_wp2_with fail
        exact bodyPost_ret (v := .tuple #[.agg #[.int .i64 0, .int .i64 0], .bool false]) (by simp [results, Try.results73, go_sem]) rfl ⟨rfl, HZ.out⟩
      · have e1 : spO P N m = some (P, N) := by unfold spO; rw [if_pos (by omega)]
        rw [e1]
        have q3' : ¬ ((m : Int) < (P : Int) + (N : Int) + 4) := by omega
        have HX : Hid (Below w.heap.size w (w.alloc (.cells #[.int .i64 (P : Int), .int .i64 (N : Int)] 74))) := (Below.refl _ _).alloc (Nat.le_refl _) _
        have hwP : IntKind.i64.wrap (P : Int) = (P : Int) := by rw [IntKind.wrap_i64]; omega
        have hwN : IntKind.i64.wrap (N : Int) = (N : Int) := by rw [IntKind.wrap_i64]; omega
        clear hm hP hN q1 q2 q3 e1 HZ
        go_enter Try.func73, Try.ntmps73
        go_wp2_with fail
        exact bodyPost_ret (v := .tuple #[.agg #[.int .i64 (P : Int), .int .i64 (N : Int)], .bool true]) (by simp [results, Try.results73, go_sem]) rfl ⟨rfl, HX.out⟩
end Go.Proofs.Ytfecopldepnicaa

/- The landed table: the sums of parts; the foot. -/
namespace Go.Proofs.Ytfecopldepnicaa
open Go.RowKit
set_option linter.unusedVariables false
set_option linter.unusedSimpArgs false

theorem all_takeS {ss : List (Nat × Nat)} {f : Nat × Nat → Bool} {k : Nat} (h : k < ss.length) : (ss.take (k + 1)).all f = ((ss.take k).all f && f ss[k]) := by
  rw [List.take_add_one, List.getElem?_eq_getElem h, List.all_append]
  simp
set_option maxHeartbeats 4000000 in
set_option maxRecDepth 100000 in
theorem csum_t {w : World} {ao pa : Option Addr} {len cap pl pc : Nat} {xs : List Int} {ss : List (Nat × Nat)} (h : Sl w ao len cap xs) (hl : len ≤ 5000000) (hs : RS spnE w pa pl pc ss) (hpl : pl ≤ 2 ^ 40) (hp : ∀ s ∈ ss, s.1 + s.2 + 4 ≤ len) {C : Int} (hC : C = if ss.all (okS xs) = true then 0 else 4) :
    Calls Try.prog 45 #[.slice ao len cap, .slice pa pl pc] w fun e w' => e = .returned (.int .i64 C) ∧ Below w.heap.size w w' := by
  have hln : ss.length = pl := hs.len.1
  have hlc := h.2.2.2.1
  have HS : Hid (Sl w ao len cap xs ∧ RS spnE w pa pl pc ss ∧ ss.length = pl ∧ (∀ s ∈ ss, s.1 + s.2 + 4 ≤ len) ∧ len ≤ 5000000 ∧ len ≤ cap) := ⟨h, hs, hln, hp, hl, hlc⟩
  have HC := hid hC
  have hpl62 : pl ≤ 2 ^ 61 := by omega
  clear h hs hp hC hl hlc
  go_enter Try.func45, Try.ntmps45
  go_wp2_with fail
  go_loopg [6, 9] pl (fun g _ i wr => ∃ k : Nat, k + g = pl ∧ i = .int .i64 (k : Int) ∧ Hid ((ss.take k).all (okS xs) = true ∧ Below w.heap.size w wr))
  case atStart => exact ⟨0, by omega, rfl, rfl, Below.refl _ _⟩
  case round =>
    obtain ⟨k, hk, rfl, HK⟩ := hrel
    by_cases hkl : k < pl
    · have hkl' : (k : Int) < (pl : Int) := by omega
      have hkx : k < ss.length := by omega
      have bel := HK.out.2
      obtain ⟨b, off, rfl, d0, d1⟩ := RS.spn (HS.out.2.1.later bel) (List.getElem?_eq_getElem hkx)
      have hsp := HS.out.2.2.2.1 _ (List.getElem_mem hkx)
      have HT := hid (all_takeS (f := okS xs) hkx)
      have HNO : Hid (okS xs ss[k] = false → C = 4) := fun q => by
        rw [HC.out, if_neg]
        intro z
        have := List.all_eq_true.1 z _ (List.getElem_mem hkx)
        rw [q] at this
        cases this
      generalize ss[k] = s at d0 d1 hsp HT HNO
      obtain ⟨p, n⟩ := s
      simp only at d0 d1 hsp
      obtain ⟨W, hW⟩ : ∃ W, wr.alloc (.cells #[.int .i64 (p : Int), .int .i64 (n : Int)] 74) = W := ⟨_, rfl⟩
      have bW : Below wr.heap.size wr W := by rw [← hW]; exact (Below.refl _ _).alloc (Nat.le_refl _) _
      have HBW := hid (bel.trans (bW.mono bel.size))
      have y0 : W.cell? ⟨wr.heap.size, 0, none⟩ = some (.int .i64 (p : Int)) := by rw [← hW, cell_of (heap_alloc_new wr _)]; rfl
      have y1 : W.cell? ⟨wr.heap.size, 1, none⟩ = some (.int .i64 (n : Int)) := by rw [← hW, cell_of (heap_alloc_new wr _)]; rfl
      have HY : Hid (∀ wx, Below W.heap.size W wx → wx.cell? ⟨wr.heap.size, 0, none⟩ = some (.int .i64 (p : Int)) ∧ wx.cell? ⟨wr.heap.size, 1, none⟩ = some (.int .i64 (n : Int))) := fun wx hb => ⟨cell_later hb y0, cell_later hb y1⟩
      have HBD : Hid (Below W.heap.size W W.drew) := (Below.refl _ W).drew
      have hlen := HS.out.2.2.2.2.1
      have HEN : Hid (∀ wx, Calls Try.prog 75 #[.agg #[.int .i64 (p : Int), .int .i64 (n : Int)]] wx fun e w' => e = .returned (.int .i64 ((p + n : Nat) : Int)) ∧ Below wx.heap.size wx w') := fun wx => spend_t (by omega) (by omega)
      have HWD : Hid (∀ wx, Below W.heap.size W wx → Calls Try.prog 74 #[.slice ao len cap, .int .i64 ((p + n : Nat) : Int)] wx fun e w' => e = .returned (.int .u64 ((wd xs (p + n) : Nat) : Int)) ∧ w' = wx) := fun wx hb => word_t ((HS.out.1.later HBW.out).later hb) (by omega) (by omega)
      have HOF : Hid (∀ wx, Calls Try.prog 47 #[.agg #[.int .i64 (p : Int), .int .i64 (n : Int)], .slice ao len cap] wx fun e w' => e = .returned (.slice (cutA ao cap p) n (cap - p)) ∧ Below wx.heap.size wx w') := fun wx => spof_t (by have := HS.out.2.2.2.2.2; omega) (by omega) (by omega)
      have HMS : Hid (∀ wx, Below W.heap.size W wx → Calls Try.prog 68 #[.slice (cutA ao cap p) n (cap - p)] wx fun e w' => e = .returned (.int .u64 (mask (more 0 (nl (ofS xs (p, n)))) : Nat)) ∧ w' = wx) := fun wx hb => by
        have := ((HS.out.1.later HBW.out).later hb).cut p (p + n) (by omega) (by omega)
        rw [show p + n - p = n by omega] at this
        exact msum_t this
      have HOK : Hid (okS xs (p, n) = decide (wd xs (p + n) = mask (more 0 (nl (ofS xs (p, n)))))) := rfl
      generalize wd xs (p + n) = V at HWD HOK
      generalize mask (more 0 (nl (ofS xs (p, n)))) = M at HMS HOK
      generalize cutA ao cap p = a1 at HOF HMS
      generalize cap - p = c1 at HOF HMS
      generalize hPN : p + n = PN at HEN HWD
      have hk62 : k ≤ 2 ^ 61 := by omega
      obtain ⟨GK, HG⟩ : ∃ g, Hid (g < gk ∧ k + 1 + g = pl) := ⟨gk - 1, by omega, by omega⟩
      have HA := hid HK.out.1
      clear hk bel bW hsp hlen HK hPN
      by_cases q : V = M
      · have HQ : Hid ((ss.take (k + 1)).all (okS xs) = true) := by show _ = _; rw [HT.out, HA.out, HOK.out, decide_eq_true q]; rfl
        subst q
        go_upto_region 4 with fail
        go_region_held_law (fun w' => w'.cell? ⟨wr.heap.size, 0, none⟩ = some (.int .i64 (p : Int)) ∧ w'.cell? ⟨wr.heap.size, 1, none⟩ = some (.int .i64 (n : Int))) (first | exact HY.out _ B6 | exact HY.out _ B5 | exact HY.out _ HBD.out | exact ⟨y0, y1⟩) (first | (go_at_call 75; refine (HEN.out _).mono ?_; rintro e w5 ⟨rfl, b5⟩; have B5 := HBD.out.trans (b5.mono HBD.out.size); clear b5) | (go_at_call 74; refine (HWD.out _ B5).mono ?_; rintro e w' ⟨rfl, hw⟩; obtain rfl := hw.symm) | (go_at_call 47; refine (HOF.out _).mono ?_; rintro e w6 ⟨rfl, b6⟩; have B6 := B5.trans (b6.mono B5.size); clear b6) | (go_at_call 68; refine (HMS.out _ B6).mono ?_; rintro e w' ⟨rfl, hw⟩; obtain rfl := hw.symm))
        all_goals
          go_wp2_with fail
          go_roundg GK
          case measure => exact HG.out.1
          case rel => exact ⟨k + 1, HG.out.2, by go_num, HQ.out, HBW.out.trans (B6.mono HBW.out.size)⟩
      · have HQ : Hid (C = 4) := HNO.out (by rw [HOK.out, decide_eq_false q])
        have q' : ¬ ((V : Int) = (M : Int)) := by omega
        clear q
        go_upto_region 4 with fail
        go_region_held_law (fun w' => w'.cell? ⟨wr.heap.size, 0, none⟩ = some (.int .i64 (p : Int)) ∧ w'.cell? ⟨wr.heap.size, 1, none⟩ = some (.int .i64 (n : Int))) (first | exact HY.out _ B6 | exact HY.out _ B5 | exact HY.out _ HBD.out | exact ⟨y0, y1⟩) (first | (go_at_call 75; refine (HEN.out _).mono ?_; rintro e w5 ⟨rfl, b5⟩; have B5 := HBD.out.trans (b5.mono HBD.out.size); clear b5) | (go_at_call 74; refine (HWD.out _ B5).mono ?_; rintro e w' ⟨rfl, hw⟩; obtain rfl := hw.symm) | (go_at_call 47; refine (HOF.out _).mono ?_; rintro e w6 ⟨rfl, b6⟩; have B6 := B5.trans (b6.mono B5.size); clear b6) | (go_at_call 68; refine (HMS.out _ B6).mono ?_; rintro e w' ⟨rfl, hw⟩; obtain rfl := hw.symm))
        all_goals
          go_wp2_with fail
          exact bodyPost_ret (v := .int .i64 4) (by simp [results, Try.results45, go_sem]) rfl ⟨by rw [HQ.out], HBW.out.trans (B6.mono HBW.out.size)⟩
    · have hkl' : (pl : Int) ≤ (k : Int) := by omega
      have HE : Hid (C = 0) := by
        have := HK.out.1
        rw [List.take_of_length_le (by omega)] at this
        show C = 0
        rw [HC.out, if_pos this]
      have HB := hid HK.out.2
      clear hk hkl HK
      go_wp2_with fail
      exact bodyPost_ret (v := .int .i64 0) (by simp [results, Try.results45, go_sem]) rfl ⟨by rw [HE.out], HB.out⟩
end Go.Proofs.Ytfecopldepnicaa
