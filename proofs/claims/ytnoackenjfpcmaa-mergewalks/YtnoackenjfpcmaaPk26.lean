import Derived.SizedLaws
import Derived.ChangeSlices
import Derived.Carry
import Derived.Test.YtnoackenjfpcmaaPk01
import Derived.Test.YtnoackenjfpcmaaPk24
import Derived.Test.YtnoackenjfpcmaaPk25
/- The law MergeWalks. -/
namespace Go.Proofs.Ytnoackenjfpcmaa
open Go.RowKit
set_option linter.unusedVariables false
set_option linter.unusedSimpArgs false

theorem elem37 : Try.prog.elem 37 = 43 := by kernel_rfl
set_option maxRecDepth 100000 in
theorem putR17 (x0 x1 x2 x3 x4 x5 x6 x7 x8 x9 x10 x11 x12 x13 x14 x15 x16 x17 x18 x19 x20 x21 x22 x23 x24 x25 x26 x27 x28 x29 x30 x31 x32 x33 x34 x35 x36 x37 x38 x39 x40 x41 x42 x43 x44 x45 x46 x47 x48 x49 x50 x51 x52 x53 x54 x55 x56 x57 x58 x59 x60 x61 x62 x63 x64 x65 x66 x67 x68 x69 x70 x71 x72 x73 x74 x75 x76 x77 x78 x79 x80 x81 x82 x83 x84 x85 x86 x87 x88 x89 x90 x91 x92 x93 x94 x95 x96 x97 x98 x99 x100 x101 x102 x103 x104 x105 x106 x107 x108 x109 x110 x111 x112 x113 x114 x115 x116 x117 x118 x119 x120 x121 x122 x123 x124 x125 x126 x127 x128 x129 y66 y67 y68 y69 y70 y71 y72 y73 y74 y75 y76 y77 y78 y79 y80 y81 y82 y83 : Value) : putVs ⟨#[x0, x1, x2, x3, x4, x5, x6, x7, x8, x9, x10, x11, x12, x13, x14, x15, x16, x17, x18, x19, x20, x21, x22, x23, x24, x25, x26, x27, x28, x29, x30, x31, x32, x33, x34, x35, x36, x37, x38, x39, x40, x41, x42, x43, x44, x45, x46, x47, x48, x49, x50, x51, x52, x53, x54, x55, x56, x57, x58, x59, x60, x61, x62, x63, x64, x65, x66, x67, x68, x69, x70, x71, x72, x73, x74, x75, x76, x77, x78, x79, x80, x81, x82, x83, x84, x85, x86, x87, x88, x89, x90, x91, x92, x93, x94, x95, x96, x97, x98, x99, x100, x101, x102, x103, x104, x105, x106, x107, x108, x109, x110, x111, x112, x113, x114, x115, x116, x117, x118, x119, x120, x121, x122, x123, x124, x125, x126, x127, x128, x129], []⟩ (List.zip [66, 67, 68, 69, 70, 71, 72, 73, 74, 75, 76, 77, 78, 79, 80, 81, 82, 83] [y66, y67, y68, y69, y70, y71, y72, y73, y74, y75, y76, y77, y78, y79, y80, y81, y82, y83]) = ⟨#[x0, x1, x2, x3, x4, x5, x6, x7, x8, x9, x10, x11, x12, x13, x14, x15, x16, x17, x18, x19, x20, x21, x22, x23, x24, x25, x26, x27, x28, x29, x30, x31, x32, x33, x34, x35, x36, x37, x38, x39, x40, x41, x42, x43, x44, x45, x46, x47, x48, x49, x50, x51, x52, x53, x54, x55, x56, x57, x58, x59, x60, x61, x62, x63, x64, x65, y66, y67, y68, y69, y70, y71, y72, y73, y74, y75, y76, y77, y78, y79, y80, y81, y82, y83, x84, x85, x86, x87, x88, x89, x90, x91, x92, x93, x94, x95, x96, x97, x98, x99, x100, x101, x102, x103, x104, x105, x106, x107, x108, x109, x110, x111, x112, x113, x114, x115, x116, x117, x118, x119, x120, x121, x122, x123, x124, x125, x126, x127, x128, x129], []⟩ := by kernel_rfl
set_option maxRecDepth 100000 in
theorem putR20 (x0 x1 x2 x3 x4 x5 x6 x7 x8 x9 x10 x11 x12 x13 x14 x15 x16 x17 x18 x19 x20 x21 x22 x23 x24 x25 x26 x27 x28 x29 x30 x31 x32 x33 x34 x35 x36 x37 x38 x39 x40 x41 x42 x43 x44 x45 x46 x47 x48 x49 x50 x51 x52 x53 x54 x55 x56 x57 x58 x59 x60 x61 x62 x63 x64 x65 x66 x67 x68 x69 x70 x71 x72 x73 x74 x75 x76 x77 x78 x79 x80 x81 x82 x83 x84 x85 x86 x87 x88 x89 x90 x91 x92 x93 x94 x95 x96 x97 x98 x99 x100 x101 x102 x103 x104 x105 x106 x107 x108 x109 x110 x111 x112 x113 x114 x115 x116 x117 x118 x119 x120 x121 x122 x123 x124 x125 x126 x127 x128 x129 y91 y92 y93 y94 y95 y96 y97 y98 y99 y100 y101 y102 y103 y104 y105 y106 y107 y108 y109 y110 y111 y112 y113 y114 y115 y116 y117 y118 : Value) : putVs ⟨#[x0, x1, x2, x3, x4, x5, x6, x7, x8, x9, x10, x11, x12, x13, x14, x15, x16, x17, x18, x19, x20, x21, x22, x23, x24, x25, x26, x27, x28, x29, x30, x31, x32, x33, x34, x35, x36, x37, x38, x39, x40, x41, x42, x43, x44, x45, x46, x47, x48, x49, x50, x51, x52, x53, x54, x55, x56, x57, x58, x59, x60, x61, x62, x63, x64, x65, x66, x67, x68, x69, x70, x71, x72, x73, x74, x75, x76, x77, x78, x79, x80, x81, x82, x83, x84, x85, x86, x87, x88, x89, x90, x91, x92, x93, x94, x95, x96, x97, x98, x99, x100, x101, x102, x103, x104, x105, x106, x107, x108, x109, x110, x111, x112, x113, x114, x115, x116, x117, x118, x119, x120, x121, x122, x123, x124, x125, x126, x127, x128, x129], []⟩ (List.zip [91, 92, 93, 94, 95, 96, 97, 98, 99, 100, 101, 102, 103, 104, 105, 106, 107, 108, 109, 110, 111, 112, 113, 114, 115, 116, 117, 118] [y91, y92, y93, y94, y95, y96, y97, y98, y99, y100, y101, y102, y103, y104, y105, y106, y107, y108, y109, y110, y111, y112, y113, y114, y115, y116, y117, y118]) = ⟨#[x0, x1, x2, x3, x4, x5, x6, x7, x8, x9, x10, x11, x12, x13, x14, x15, x16, x17, x18, x19, x20, x21, x22, x23, x24, x25, x26, x27, x28, x29, x30, x31, x32, x33, x34, x35, x36, x37, x38, x39, x40, x41, x42, x43, x44, x45, x46, x47, x48, x49, x50, x51, x52, x53, x54, x55, x56, x57, x58, x59, x60, x61, x62, x63, x64, x65, x66, x67, x68, x69, x70, x71, x72, x73, x74, x75, x76, x77, x78, x79, x80, x81, x82, x83, x84, x85, x86, x87, x88, x89, x90, y91, y92, y93, y94, y95, y96, y97, y98, y99, y100, y101, y102, y103, y104, y105, y106, y107, y108, y109, y110, y111, y112, y113, y114, y115, y116, y117, y118, x119, x120, x121, x122, x123, x124, x125, x126, x127, x128, x129], []⟩ := by kernel_rfl
set_option maxHeartbeats 4000000 in
set_option maxRecDepth 100000 in
theorem new13_t {w : World} {ao : Option Addr} {n cap : Nat} {rs : List (List EntV)} (h : ErRow w ao n cap rs) (hz : Szr rs) (h0 : mrC rs = 13) :
    Calls Try.prog 16 #[.slice ao n cap] w fun r w' => r = .returned (.tuple #[.pointer none, .int .i64 13]) ∧ Below w.heap.size w w' := by
  have HM := merge_any h hz
  rw [h0] at HM
  generalize (mrV rs).length = N at HM ⊢
  generalize mrV rs = l at HM ⊢
  clear h hz h0
  go_enter Try.func16, Try.ntmps16
  go_wp2_with (go_at_call 12; refine HM.mono ?_; rintro r w5 ⟨a, c, rfl, hr, hb⟩)
  exact bodyPost_ret (v := .tuple #[.pointer none, .int .i64 13]) (by simp [results, Try.results16, go_sem]) rfl ⟨rfl, hb⟩
set_option maxHeartbeats 4000000 in
set_option maxRecDepth 100000 in
theorem nextE_t {w : World} {p : Nat} {a : Option Addr} {n c : Nat} (hI : ItM w p a n c n) (hn : n ≤ 2 ^ 60) :
    Calls Try.prog 19 #[ptI p] w fun r w' => r = .returned (.tuple #[.agg #[.slice none 0 0, .int .i64 0, .bool false, .int .i64 0, .slice none 0 0], .bool false]) ∧ ItM w' p a n c n ∧ Below p w w' := by
  obtain ⟨W, hW⟩ : ∃ W, W = w.alloc (.cells #[.slice none 0 0, .int .i64 0, .bool false, .int .i64 0, .slice none 0 0] 35) := ⟨_, rfl⟩
  have bW : Below w.heap.size w W := by rw [hW]; exact (Below.refl _ _).alloc (Nat.le_refl _) _
  have HLF : Hid (Calls Try.prog 21 #[ptI p] W fun e w' => e = .returned (.int .i64 0) ∧ Below W.heap.size W w') := by
    have := left_t (hI.later bW) (Nat.le_refl n) hn
    rw [Nat.sub_self] at this
    exact this
  have hpw := hI.lt
  have HRC : Hid (∀ wy, Below W.heap.size W wy → (wy.cell? ⟨w.heap.size, 0, none⟩ = some (.slice none 0 0) ∧ wy.cell? ⟨w.heap.size, 1, none⟩ = some (.int .i64 0) ∧ wy.cell? ⟨w.heap.size, 2, none⟩ = some (.bool false) ∧ wy.cell? ⟨w.heap.size, 3, none⟩ = some (.int .i64 0) ∧ wy.cell? ⟨w.heap.size, 4, none⟩ = some (.slice none 0 0)) ∧ ∀ j, wy.frozen? ⟨w.heap.size, j, none⟩ = false) := fun wy hb => by
    have e : wy.heap[w.heap.size]? = some (.cells #[.slice none 0 0, .int .i64 0, .bool false, .int .i64 0, .slice none 0 0] 35) := by rw [hb.block _ (by rw [hW]; simp), hW]; exact heap_alloc_new w _
    refine ⟨⟨?_, ?_, ?_, ?_, ?_⟩, fun j => by simp [World.frozen?, e]⟩
    all_goals (rw [cell_of e]; rfl)
  have HB := hidM (And.intro hI (And.intro bW hpw))
  have HW := hidM hW
  clear hI bW hpw hW
  go_enter Try.func19, Try.ntmps19
  go_wp2_with (rw [← HW.out]; go_at_call 21; refine HLF.out.mono ?_; rintro e Y ⟨rfl, hb5⟩; have HY := hidM hb5; obtain ⟨⟨z0, z1, z2, z3, z4⟩, zf⟩ := HRC.out Y hb5; have f0 := zf 0; have f1 := zf 1; have f2 := zf 2; have f3 := zf 3; have f4 := zf 4; clear hb5 zf)
  obtain ⟨y0, y1, y2, y3, y4⟩ := set5_c z0 z1 z2 z3 z4 (.slice none 0 0) (.int .i64 0) (.bool false) (.int .i64 0) (.slice none 0 0)
  have hf := set5_far Y w.heap.size (.slice none 0 0) (.int .i64 0) (.bool false) (.int .i64 0) (.slice none 0 0)
  have hg := set5_grown Y w.heap.size (.slice none 0 0) (.int .i64 0) (.bool false) (.int .i64 0) (.slice none 0 0)
  generalize (((((Y.setCell ⟨w.heap.size, 0, none⟩ (.slice none 0 0)).setCell ⟨w.heap.size, 1, none⟩ (.int .i64 0)).setCell ⟨w.heap.size, 2, none⟩ (.bool false)).setCell ⟨w.heap.size, 3, none⟩ (.int .i64 0)).setCell ⟨w.heap.size, 4, none⟩ (.slice none 0 0)) = X5 at y0 y1 y2 y3 y4 hf hg ⊢
  have hpw := HB.out.2.2
  have hbY := HB.out.2.1.trans (HY.out.mono HB.out.2.1.size)
  refine bodyPost_ret (v := .tuple #[.agg #[.slice none 0 0, .int .i64 0, .bool false, .int .i64 0, .slice none 0 0], .bool false]) (by simp [results, Try.results19, go_sem, y0, y1, y2, y3, y4]) rfl ⟨rfl, ?_, ?_⟩
  · have := HB.out.1.later hbY
    unfold ItM at this ⊢
    rw [hf p (by omega)]
    exact this
  · exact (hbY.mono (Nat.le_of_lt hpw)).grown hg (by have := hbY.size; omega) (fun z hz => by simp only [Option.some.injEq] at hz; omega)
end Go.Proofs.Ytnoackenjfpcmaa

/- The law MergeWalks. -/
namespace Go.Proofs.Ytnoackenjfpcmaa
open Go.RowKit
set_option linter.unusedVariables false
set_option linter.unusedSimpArgs false

set_option maxHeartbeats 16000000 in
set_option maxRecDepth 100000 in
theorem mgwalks_any {w : World} {ao as0 : Option Addr} {n cap ns cs : Nat} {rs : List (List EntV)} {ss : List StpV} (h : ErRow w ao n cap rs) (hs : RS stpE w as0 ns cs ss) :
    Calls Try.prog 5 #[.slice ao n cap, .slice as0 ns cs] w fun e w' => e = .returned (.bool true) ∧ Below w.heap.size w w' := by
  have H0 := hidM h
  have HS0 := hidM hs
  have hli := light16_t h
  have hns62 : ns ≤ 2 ^ 63 - 1 := by have := hs.len.2.1; have := hs.len; unfold maxLen at this; omega
  have hsl := hs.len.1
  have HSL := hidM hsl
  by_cases hl : litW 0 0 rs = true
  · rw [hl] at hli
    obtain ⟨hz, hsum, hlen, hn70, hord⟩ := lit_srt hl
    have hn : rs.length = n := h.len.1
    have hn62 : n ≤ 1000 := by omega
    have HPU : Hid (Szr (srtR 0 rs) ∧ sumR (srtR 0 rs) ≤ 2100 ∧ (srtR 0 rs).length = n ∧ n ≤ 70) := ⟨hz, hsum, by omega, by omega⟩
    have HORD := hidM hord
    clear h hl hz hsum hlen hn70 hord hn hs hsl
    go_enter Try.func5, Try.ntmps5
    go_upto_region 4 with (first | (go_at_call 9; refine hli.mono ?_; rintro e w1 ⟨rfl, hb1⟩) | (go_at_call 11; refine (sorted16_t (H0.out.later hb1) (by omega)).mono ?_; rintro e w2 ⟨a2, c2, rfl, hr2, hb2⟩))
    have HB2 : Hid (Below w.heap.size w w2) := hb1.trans (hb2.mono hb1.size)
    have HR2 := hidM hr2
    clear hli hb1 hb2 hr2
    have hM1 := rmerge_t HR2.out HPU.out.1 HORD.out (by have := HPU.out; omega) (by have := HPU.out; omega)
    by_cases h64 : 64 < n
    · have h64' : (64 : Int) < (n : Int) := by omega
      have hc : mrC (srtR 0 rs) = 13 := by
        unfold mrC
        rw [if_pos (ord_all HORD.out), if_pos (.inl (by have := HPU.out; omega))]
      have HN : Hid (∀ wx, Below w2.heap.size w2 wx → Calls Try.prog 16 #[.slice a2 n c2] wx fun r w' => r = .returned (.tuple #[.pointer none, .int .i64 13]) ∧ Below wx.heap.size wx w') := fun wx hb => new13_t (HR2.out.later hb) HPU.out.1 hc
      clear hc h64
      go_wp2_with (first | (go_at_call 15; refine hM1.mono ?_; rintro r w5 ⟨v5, rfl, hr5, hb5⟩; have HB5 := hidM hb5; clear hr5 hb5) | (go_at_call 16; refine (HN.out _ HB5.out).mono ?_; rintro r w6 ⟨rfl, hb6⟩) | (go_at_call 10; refine (awake16_t _).mono ?_; rintro e w8 ⟨rfl, hb8⟩))
      have e1 := HB2.out.trans (HB5.out.mono HB2.out.size)
      have e2 := e1.trans (hb6.mono e1.size)
      exact bodyPost_ret (v := .bool true) (by simp [results, Try.results5, go_sem]) rfl ⟨rfl, e2.trans (hb8.mono e2.size)⟩
    · have h64' : ¬ (64 : Int) < (n : Int) := by omega
      have hc := mrC_ok HORD.out (by have := HPU.out; omega) (by have := HPU.out; omega)
      have HN : Hid (∀ wx, Below w2.heap.size w2 wx → Calls Try.prog 16 #[.slice a2 n c2] wx fun r w' => ∃ (w1 : World) (a : Option Addr) (c : Nat), r = .returned (.tuple #[ptI w1.heap.size, .int .i64 0]) ∧ RS entE w1 a (mrgE (srtR 0 rs)).length c (mrgE (srtR 0 rs)) ∧ Below wx.heap.size wx w1 ∧ ItM w' w1.heap.size a (mrgE (srtR 0 rs)).length c 0 ∧ Below w1.heap.size w1 w') := fun wx hb => new_t (HR2.out.later hb) HPU.out.1 hc
      have HSM := hidM (mrgE_small HPU.out.1)
      have HRI : Hid (Rise (mrgE (srtR 0 rs))) := by
        show Rise _
        unfold Rise
        refine (mrgE_wk HORD.out).imp fun {x y} hxy => ?_
        have hv := cmp_vals x.key y.key
        unfold ahead at hxy
        by_cases q : cmp x.key y.key = 0
        · omega
        · rw [if_pos q] at hxy; exact hxy
      have HN2 : Hid ((mrgE (srtR 0 rs)).length ≤ 2100) := by
        show _ ≤ _
        rw [mrgE_len]; exact HPU.out.2.1
      obtain ⟨N, hN⟩ : ∃ N, N = (mrgE (srtR 0 rs)).length := ⟨_, rfl⟩
      have HML : Hid (N = (mrgE (srtR 0 rs)).length) := hN
      rw [← hN] at HN HN2
      have hM2 : Calls Try.prog 15 #[.slice a2 n c2] w2 fun r w' => ∃ a c, r = .returned (.slice a N c) ∧ RS entE w' a N c (mrgE (srtR 0 rs)) ∧ Below w2.heap.size w2 w' := by
        refine hM1.mono ?_
        rintro r w' ⟨v, rfl, hr, hb⟩
        obtain ⟨a, c, rfl, hrs⟩ := hr.s.rs
        rw [← hN] at hrs ⊢
        exact ⟨a, c, rfl, hrs, hb⟩
      generalize mrgE (srtR 0 rs) = M at HN HSM HRI HML hM2
      clear hc h64 hM1 hN
      go_wp2_with (first | (go_at_call 15; refine hM2.mono ?_; rintro r w5 ⟨a5, c5, rfl, hr5, hb5⟩; have HB5 := hidM hb5; have H5R := hidM hr5; clear hr5 hb5) | (go_at_call 16; refine (HN.out _ HB5.out).mono ?_; rintro r w8 ⟨w7, a7, c7, rfl, hr7, hb7, hI7, hb8⟩; have H7 := hidM (And.intro hr7 (And.intro hb7 (And.intro hI7 hb8))); clear hr7 hb7 hI7 hb8; unfold ptI))
      obtain ⟨p, hp⟩ : ∃ p, p = w7.heap.size := ⟨_, rfl⟩
      rw [← hp] at H7 ⊢
      have HP := hidM hp
      have H57 : Hid (Below w5.heap.size w5 w7 ∧ Below w.heap.size w w7 ∧ w5.heap.size ≤ p ∧ w.heap.size ≤ p) := by
        have e1 := HB2.out.trans (HB5.out.mono HB2.out.size)
        have e3 : Below w.heap.size w w7 := e1.trans (H7.out.2.1.mono e1.size)
        exact ⟨H7.out.2.1, e3, by rw [hp]; exact H7.out.2.1.size, by rw [hp]; exact e3.size⟩
      clear hp HB5 HB2 HR2 H0 HPU HORD hM2 HN
      go_loopg [9, 10] 100 (fun kx s9 s10 wr => ∃ k at' : Nat, s9 = .int .i64 (at' : Int) ∧ s10 = .int .i64 (k : Int) ∧ k + kx = 100 ∧ Hid (ItM wr p a7 N c7 at' ∧ at' ≤ N ∧ Below p w7 wr))
      case atStart => exact ⟨0, 0, rfl, rfl, rfl, H7.out.2.2.1, Nat.zero_le _, H7.out.2.2.2⟩
      case round =>
        obtain ⟨k, at', rfl, rfl, hg, HJ⟩ := hrel
        have hN60 : N ≤ 2 ^ 60 := by have := HN2.out; omega
        have hk60 : k ≤ 2 ^ 60 := by omega
        have ht60 : at' ≤ 2 ^ 60 := by have := HJ.out.2.1; omega
        by_cases hk : k < ns
        · have hk' : (k : Int) < (ns : Int) := by omega
          have hk0 : (0 : Int) ≤ (k : Int) := by omega
          by_cases hk1 : k < 100
          · have hk1' : (k : Int) < 100 := by omega
            obtain ⟨st, hst⟩ : ∃ st, ss[k]? = some st := ⟨_, List.getElem?_eq_getElem (by have := HSL.out; omega)⟩
            have hbw : Below w.heap.size w wr := H57.out.2.1.trans (HJ.out.2.2.mono H57.out.2.2.2)
            obtain ⟨bs, os, ks, kcs, has, c0, c1, hsk⟩ := RS.stp HS0.out hst
            subst has
            have d0 := cell_later hbw c0
            have HC1 : Hid (∀ wx, Below p w7 wx → wx.cell? ⟨bs, os + k * 2 + 1, none⟩ = some (.slice ks st.key.length kcs) ∧ Sl wx ks st.key.length kcs st.key) := fun wx hb => by
              have q := H57.out.2.1.trans (hb.mono H57.out.2.2.2)
              exact ⟨cell_later q c1, hsk.later q⟩
            have HG := hidM (And.intro hg hk1)
            clear hg hk hk1 hst hbw c0 c1 hsk
            obtain ⟨seek, key⟩ := st
            simp only at d0 HC1
            cases seek with
            | true =>
              have d1 := (HC1.out wr HJ.out.2.2).1
              have hse := seek_t HJ.out.1 H7.out.1 HP.out HJ.out.2.2 (HC1.out wr HJ.out.2.2).2 (by have := HN2.out; omega) HRI.out
              unfold ptI at hse
              obtain ⟨kl, hkl⟩ : ∃ z, z = key.length := ⟨_, rfl⟩
              rw [← hkl] at HC1 hse d1
              clear hkl
              go_wp2_with (go_at_call 17; refine hse.mono ?_; rintro r wz ⟨sr, hsr, rfl, hIs, hbs⟩; have HZ := hidM (And.intro hsr (And.intro hIs (HJ.out.2.2.trans hbs))); clear hsr hIs hbs d0 d1)
              go_loopg [9] N (fun kx s9 wx => ∃ j : Nat, s9 = .int .i64 (j : Int) ∧ j + kx = N ∧ Hid (ItM wx p a7 N c7 sr ∧ Below p w7 wx ∧ ∀ (i : Nat) (e : EntV), i < j → M[i]? = some e → cmp e.key key < 0))
              case atStart => exact ⟨0, rfl, by omega, HZ.out.2.1, HZ.out.2.2, fun i e hi => absurd hi (Nat.not_lt_zero i)⟩
              case round =>
                obtain ⟨j, rfl, hg, HL⟩ := hrel
                have hj60 : j ≤ 2 ^ 60 := by omega
                by_cases hj : j < N
                · have hj1 : (0 : Int) ≤ (j : Int) := by omega
                  have hj2 : (j : Int) < (N : Int) := by omega
                  obtain ⟨x, hx⟩ : ∃ x, M[j]? = some x := ⟨_, List.getElem?_eq_getElem (by have := HML.out; omega)⟩
                  have b5r : Below w5.heap.size w5 wr := H57.out.1.trans (HL.out.2.1.mono H57.out.2.2.1)
                  obtain ⟨b5, o5, kg, kcg, vg, vcg, ha5, e0, -, -, -, -, sg1, -, -, -⟩ := RS.ent (H5R.out.later b5r) hx
                  have hat : j < N := hj
                  have HCM : Hid (∀ wx, Below wr.heap.size wr wx → Calls Try.prog 18 #[.slice kg x.key.length kcg, .slice ks kl kcs] wx fun e w' => e = .returned (.int .i64 (cmp x.key key)) ∧ Below wx.heap.size wx w') := fun wx hb => rcmp_any (sg1.later hb) ((HC1.out wr HL.out.2.1).2.later hb)
                  have f1 := (HC1.out wr HL.out.2.1).1
                  have HRC : Hid (∀ wx, Below wr.heap.size wr wx → wx.cell? ⟨b5, o5 + j * 5, none⟩ = some (.slice kg x.key.length kcg) ∧ wx.cell? ⟨bs, os + k * 2 + 1, none⟩ = some (.slice ks kl kcs)) := fun wx hb => ⟨cell_later hb e0, cell_later hb f1⟩
                  have HG2 := hidM (And.intro hg hj)
                  have hpr := HL.out.1.lt
                  have HXX := hidM hx
                  have HS5 := hidM H5R.out
                  subst ha5
                  by_cases hcx : cmp x.key key < 0
                  · have HNX : Hid (∀ (i : Nat) (e : EntV), i < j + 1 → M[i]? = some e → cmp e.key key < 0) := fun i e hi he => by
                      by_cases q : i = j
                      · subst q
                        rw [HXX.out] at he
                        simp only [Option.some.injEq] at he
                        subst he; exact hcx
                      · exact HL.out.2.2 i e (by omega) he
                    generalize cmp x.key key = cv at HCM hcx
                    generalize x.key.length = xl at HCM HRC
                    clear hg hx b5r e0 sg1 f1
                    go_upto_region 17 with fail
                    rename_i hkk
                    refine wp_region_vals (by kernel_rfl) (by decide +kernel) 130 rfl (by decide +kernel) [.int .i64 (j : Int), .slice (some ⟨b5, o5, none⟩) N c5, .int .i64 (N : Int), .bool true, .bool true, .slice (some ⟨b5, o5, none⟩) N c5, .int .i64 (j : Int), .pointer (some ⟨b5, o5 + j * 5, none⟩), .pointer (some ⟨b5, o5 + j * 5, none⟩), .slice kg xl kcg, .slice (some ⟨bs, os, none⟩) ns cs, .int .i64 (k : Int), .pointer (some ⟨bs, os + k * 2, none⟩), .pointer (some ⟨bs, os + k * 2 + 1, none⟩), .slice ks kl kcs, .int .i64 cv, .bool true, .bool true] rfl ?_ [66, 67, 68, 69, 70, 71, 72, 73, 74, 75, 76, 77, 78, 79, 80, 81, 82, 83] (by decide +kernel) ?_
                    rotate_left
                    · intro w9 B9
                      refine hkk _ _ ?_
                      rw [putR17]
                      go_wp2_with fail
                      go_roundg (N - (j + 1))
                      case measure => have := HG2.out; omega
                      case rel => exact ⟨j + 1, by go_num, by have := HG2.out; omega, HL.out.1.later B9, HL.out.2.1.trans (B9.mono (Nat.le_of_lt hpr)), HNX.out⟩
                    -- 0: slot 66
                    refine ⟨fun a w c => ?_, ?_⟩
                    · exact goalR_move (c.want0 rfl) (.tmp 9) (.inl rfl) ((c.old 9 rfl).trans rfl) rfl
                    -- 1: slot 67
                    refine ⟨fun a w c => ?_, ?_⟩
                    · exact goalR_move (c.want0 rfl) (.tmp 6) (.inl rfl) ((c.old 6 rfl).trans rfl) rfl
                    -- 2: slot 68
                    refine ⟨fun a w c => ?_, ?_⟩
                    · have e67 : a.eval (.tmp 67) = _ := c.val 1 _ rfl rfl
                      exact goalR_val (c.want0 rfl) (by have ec : ∀ v, a.eval (.const v) = v := fun _ => rfl; generalize a.eval = ρ at ec e67 ⊢; simp [execOp, go_sem, ec, e67]) rfl
                    -- 3: slot 69
                    refine ⟨fun a w c => ?_, ?_⟩
                    · have hw := c.want0 rfl
                      have e66 : a.eval (.tmp 66) = _ := c.val 0 _ rfl rfl
                      have e68 : a.eval (.tmp 68) = _ := c.val 2 _ rfl rfl
                      exact goalR_val hw (by have ec : ∀ v, a.eval (.const v) = v := fun _ => rfl; generalize a.eval = ρ at ec e66 e68 ⊢; simp [execOp, go_sem, ec, ec, e66, e68, hat]) rfl
                    -- 4: slot 70
                    refine ⟨fun a w c => ?_, ?_⟩
                    · exact goalR_move (c.want0 rfl) (.tmp 69) (.inl rfl) (c.val 3 _ rfl rfl) rfl
                    -- 5: slot 71
                    refine ⟨fun a w c => ?_, ?_⟩
                    · exact goalR_move (c.want 4 true rfl rfl rfl) (.tmp 6) (.inl rfl) ((c.old 6 rfl).trans rfl) rfl
                    -- 6: slot 72
                    refine ⟨fun a w c => ?_, ?_⟩
                    · exact goalR_move (c.want 4 true rfl rfl rfl) (.tmp 9) (.inl rfl) ((c.old 9 rfl).trans rfl) rfl
                    -- 7: slot 73
                    refine ⟨fun a w c => ?_, ?_⟩
                    · have hw := c.want 4 true rfl rfl rfl
                      have e71 : a.eval (.tmp 71) = _ := c.val 5 _ rfl rfl
                      have e72 : a.eval (.tmp 72) = _ := c.val 6 _ rfl rfl
                      exact goalR_val hw (by have ec : ∀ v, a.eval (.const v) = v := fun _ => rfl; generalize a.eval = ρ at ec e71 e72 ⊢; simp [execOp, go_sem, ec, e71, e72, elem27, Try.sizeOf35, hj1, hj2]) rfl
                    -- 8: slot 74
                    refine ⟨fun a w c => ?_, ?_⟩
                    · have e73 : a.eval (.tmp 73) = _ := c.val 7 _ rfl rfl
                      exact goalR_val (c.want 4 true rfl rfl rfl) (by have ec : ∀ v, a.eval (.const v) = v := fun _ => rfl; generalize a.eval = ρ at ec e73 ⊢; simp [execOp, go_sem, ec, e73]) rfl
                    -- 9: slot 75
                    refine ⟨fun a w c => ?_, ?_⟩
                    · have hw := c.want 4 true rfl rfl rfl
                      have e74 : a.eval (.tmp 74) = _ := c.val 8 _ rfl rfl
                      have y0 := (HRC.out w c.below).1
                      exact goalR_val hw (by have ec : ∀ v, a.eval (.const v) = v := fun _ => rfl; generalize a.eval = ρ at ec e74 ⊢; simp [execOp, go_sem, ec, e74, y0]) rfl
                    -- 10: slot 76
                    refine ⟨fun a w c => ?_, ?_⟩
                    · exact goalR_move (c.want 4 true rfl rfl rfl) (.tmp 1) (.inl rfl) ((c.old 1 rfl).trans rfl) rfl
                    -- 11: slot 77
                    refine ⟨fun a w c => ?_, ?_⟩
                    · exact goalR_move (c.want 4 true rfl rfl rfl) (.tmp 10) (.inl rfl) ((c.old 10 rfl).trans rfl) rfl
                    -- 12: slot 78
                    refine ⟨fun a w c => ?_, ?_⟩
                    · have hw := c.want 4 true rfl rfl rfl
                      have e76 : a.eval (.tmp 76) = _ := c.val 10 _ rfl rfl
                      have e77 : a.eval (.tmp 77) = _ := c.val 11 _ rfl rfl
                      exact goalR_val hw (by have ec : ∀ v, a.eval (.const v) = v := fun _ => rfl; generalize a.eval = ρ at ec e76 e77 ⊢; simp [execOp, go_sem, ec, e76, e77, elem37, Try.sizeOf43, hk0, hk']) rfl
                    -- 13: slot 79
                    refine ⟨fun a w c => ?_, ?_⟩
                    · have e78 : a.eval (.tmp 78) = _ := c.val 12 _ rfl rfl
                      exact goalR_val (c.want 4 true rfl rfl rfl) (by have ec : ∀ v, a.eval (.const v) = v := fun _ => rfl; generalize a.eval = ρ at ec e78 ⊢; simp [execOp, go_sem, ec, e78]) rfl
                    -- 14: slot 80
                    refine ⟨fun a w c => ?_, ?_⟩
                    · have hw := c.want 4 true rfl rfl rfl
                      have e79 : a.eval (.tmp 79) = _ := c.val 13 _ rfl rfl
                      have y0 := (HRC.out w c.below).2
                      exact goalR_val hw (by have ec : ∀ v, a.eval (.const v) = v := fun _ => rfl; generalize a.eval = ρ at ec e79 ⊢; simp [execOp, go_sem, ec, e79, y0]) rfl
                    -- 15: slot 81
                    refine ⟨fun a w c => ?_, ?_⟩
                    · have hw := c.want 4 true rfl rfl rfl
                      have e75 : a.eval (.tmp 75) = _ := c.val 9 _ rfl rfl
                      have e80 : a.eval (.tmp 80) = _ := c.val 14 _ rfl rfl
                      exact goalR_fn hw rfl (by simp only [List.map_toArray, List.map_cons, List.map_nil, e75, e80]) (by kernel_rfl) ((HCM.out w c.below).mono fun e w' ⟨he, hb⟩ => ⟨_, he, outR_val rfl hb⟩)
                    -- 16: slot 82
                    refine ⟨fun a w c => ?_, ?_⟩
                    · have hw := c.want 4 true rfl rfl rfl
                      have e81 : a.eval (.tmp 81) = _ := c.val 15 _ rfl rfl
                      exact goalR_val hw (by have ec : ∀ v, a.eval (.const v) = v := fun _ => rfl; generalize a.eval = ρ at ec e81 ⊢; simp [execOp, go_sem, ec, ec, e81, hcx]) rfl
                    -- 17: slot 83
                    refine ⟨fun a w c => ?_, ?_⟩
                    · have e70 : a.eval (.tmp 70) = _ := c.val 4 _ rfl rfl
                      have e82 : a.eval (.tmp 82) = _ := c.val 16 _ rfl rfl
                      exact goalR_val (c.want0 rfl) (by have ec : ∀ v, a.eval (.const v) = v := fun _ => rfl; generalize a.eval = ρ at ec e70 e82 ⊢; simp [execOp, go_sem, ec, e70, e82]) rfl
                    exact True.intro

                  · have hcz : ¬ cmp x.key key < 0 := hcx
                    have HEQ : Hid (sr = j) := HZ.out.1.uniq ⟨by have := HML.out; omega, HL.out.2.2, fun e he => by rw [HXX.out] at he; simp only [Option.some.injEq] at he; subst he; exact hcz⟩
                    generalize cmp x.key key = cv at HCM hcx hcz
                    generalize x.key.length = xl at HCM HRC
                    clear hg hx b5r e0 sg1 f1 hcz
                    go_upto_region 17 with fail
                    rename_i hkk
                    refine wp_region_vals (by kernel_rfl) (by decide +kernel) 130 rfl (by decide +kernel) [.int .i64 (j : Int), .slice (some ⟨b5, o5, none⟩) N c5, .int .i64 (N : Int), .bool true, .bool true, .slice (some ⟨b5, o5, none⟩) N c5, .int .i64 (j : Int), .pointer (some ⟨b5, o5 + j * 5, none⟩), .pointer (some ⟨b5, o5 + j * 5, none⟩), .slice kg xl kcg, .slice (some ⟨bs, os, none⟩) ns cs, .int .i64 (k : Int), .pointer (some ⟨bs, os + k * 2, none⟩), .pointer (some ⟨bs, os + k * 2 + 1, none⟩), .slice ks kl kcs, .int .i64 cv, .bool false, .bool false] rfl ?_ [66, 67, 68, 69, 70, 71, 72, 73, 74, 75, 76, 77, 78, 79, 80, 81, 82, 83] (by decide +kernel) ?_
                    rotate_left
                    · intro w9 B9
                      refine hkk _ _ ?_
                      rw [putR17]
                      have HT : Hid (ItM w9 p a7 N c7 j ∧ j ≤ N ∧ Below p w7 w9) := ⟨by have := HL.out.1.later B9; rw [HEQ.out] at this; exact this, by have := HG2.out; omega, HL.out.2.1.trans (B9.mono (Nat.le_of_lt hpr))⟩
                      have hlf := left_t HT.out.1 HT.out.2.1 hN60
                      unfold ptI at hlf
                      rw [show ((N - j : Nat) : Int) = (N : Int) - ((j : Nat) : Int) by have := HT.out.2.1; omega] at hlf
                      have ht61 : j ≤ 2 ^ 60 := by have := HT.out.2.1; omega
                      try simp only [Int.natCast_add, Int.natCast_one] at hlf
                      go_wp2_with (go_at_call 21; refine hlf.mono ?_; rintro r wl ⟨rfl, hbl⟩)
                      go_roundg (100 - (k + 1))
                      case measure => have := HG.out; omega
                      case rel => exact ⟨k + 1, j, by go_num, by go_num, by have := HG.out; omega, HT.out.1.later hbl, HT.out.2.1, HT.out.2.2.trans (hbl.mono (Nat.le_of_lt HT.out.1.lt))⟩
                    -- 0: slot 66
                    refine ⟨fun a w c => ?_, ?_⟩
                    · exact goalR_move (c.want0 rfl) (.tmp 9) (.inl rfl) ((c.old 9 rfl).trans rfl) rfl
                    -- 1: slot 67
                    refine ⟨fun a w c => ?_, ?_⟩
                    · exact goalR_move (c.want0 rfl) (.tmp 6) (.inl rfl) ((c.old 6 rfl).trans rfl) rfl
                    -- 2: slot 68
                    refine ⟨fun a w c => ?_, ?_⟩
                    · have e67 : a.eval (.tmp 67) = _ := c.val 1 _ rfl rfl
                      exact goalR_val (c.want0 rfl) (by have ec : ∀ v, a.eval (.const v) = v := fun _ => rfl; generalize a.eval = ρ at ec e67 ⊢; simp [execOp, go_sem, ec, e67]) rfl
                    -- 3: slot 69
                    refine ⟨fun a w c => ?_, ?_⟩
                    · have hw := c.want0 rfl
                      have e66 : a.eval (.tmp 66) = _ := c.val 0 _ rfl rfl
                      have e68 : a.eval (.tmp 68) = _ := c.val 2 _ rfl rfl
                      exact goalR_val hw (by have ec : ∀ v, a.eval (.const v) = v := fun _ => rfl; generalize a.eval = ρ at ec e66 e68 ⊢; simp [execOp, go_sem, ec, ec, e66, e68, hat]) rfl
                    -- 4: slot 70
                    refine ⟨fun a w c => ?_, ?_⟩
                    · exact goalR_move (c.want0 rfl) (.tmp 69) (.inl rfl) (c.val 3 _ rfl rfl) rfl
                    -- 5: slot 71
                    refine ⟨fun a w c => ?_, ?_⟩
                    · exact goalR_move (c.want 4 true rfl rfl rfl) (.tmp 6) (.inl rfl) ((c.old 6 rfl).trans rfl) rfl
                    -- 6: slot 72
                    refine ⟨fun a w c => ?_, ?_⟩
                    · exact goalR_move (c.want 4 true rfl rfl rfl) (.tmp 9) (.inl rfl) ((c.old 9 rfl).trans rfl) rfl
                    -- 7: slot 73
                    refine ⟨fun a w c => ?_, ?_⟩
                    · have hw := c.want 4 true rfl rfl rfl
                      have e71 : a.eval (.tmp 71) = _ := c.val 5 _ rfl rfl
                      have e72 : a.eval (.tmp 72) = _ := c.val 6 _ rfl rfl
                      exact goalR_val hw (by have ec : ∀ v, a.eval (.const v) = v := fun _ => rfl; generalize a.eval = ρ at ec e71 e72 ⊢; simp [execOp, go_sem, ec, e71, e72, elem27, Try.sizeOf35, hj1, hj2]) rfl
                    -- 8: slot 74
                    refine ⟨fun a w c => ?_, ?_⟩
                    · have e73 : a.eval (.tmp 73) = _ := c.val 7 _ rfl rfl
                      exact goalR_val (c.want 4 true rfl rfl rfl) (by have ec : ∀ v, a.eval (.const v) = v := fun _ => rfl; generalize a.eval = ρ at ec e73 ⊢; simp [execOp, go_sem, ec, e73]) rfl
                    -- 9: slot 75
                    refine ⟨fun a w c => ?_, ?_⟩
                    · have hw := c.want 4 true rfl rfl rfl
                      have e74 : a.eval (.tmp 74) = _ := c.val 8 _ rfl rfl
                      have y0 := (HRC.out w c.below).1
                      exact goalR_val hw (by have ec : ∀ v, a.eval (.const v) = v := fun _ => rfl; generalize a.eval = ρ at ec e74 ⊢; simp [execOp, go_sem, ec, e74, y0]) rfl
                    -- 10: slot 76
                    refine ⟨fun a w c => ?_, ?_⟩
                    · exact goalR_move (c.want 4 true rfl rfl rfl) (.tmp 1) (.inl rfl) ((c.old 1 rfl).trans rfl) rfl
                    -- 11: slot 77
                    refine ⟨fun a w c => ?_, ?_⟩
                    · exact goalR_move (c.want 4 true rfl rfl rfl) (.tmp 10) (.inl rfl) ((c.old 10 rfl).trans rfl) rfl
                    -- 12: slot 78
                    refine ⟨fun a w c => ?_, ?_⟩
                    · have hw := c.want 4 true rfl rfl rfl
                      have e76 : a.eval (.tmp 76) = _ := c.val 10 _ rfl rfl
                      have e77 : a.eval (.tmp 77) = _ := c.val 11 _ rfl rfl
                      exact goalR_val hw (by have ec : ∀ v, a.eval (.const v) = v := fun _ => rfl; generalize a.eval = ρ at ec e76 e77 ⊢; simp [execOp, go_sem, ec, e76, e77, elem37, Try.sizeOf43, hk0, hk']) rfl
                    -- 13: slot 79
                    refine ⟨fun a w c => ?_, ?_⟩
                    · have e78 : a.eval (.tmp 78) = _ := c.val 12 _ rfl rfl
                      exact goalR_val (c.want 4 true rfl rfl rfl) (by have ec : ∀ v, a.eval (.const v) = v := fun _ => rfl; generalize a.eval = ρ at ec e78 ⊢; simp [execOp, go_sem, ec, e78]) rfl
                    -- 14: slot 80
                    refine ⟨fun a w c => ?_, ?_⟩
                    · have hw := c.want 4 true rfl rfl rfl
                      have e79 : a.eval (.tmp 79) = _ := c.val 13 _ rfl rfl
                      have y0 := (HRC.out w c.below).2
                      exact goalR_val hw (by have ec : ∀ v, a.eval (.const v) = v := fun _ => rfl; generalize a.eval = ρ at ec e79 ⊢; simp [execOp, go_sem, ec, e79, y0]) rfl
                    -- 15: slot 81
                    refine ⟨fun a w c => ?_, ?_⟩
                    · have hw := c.want 4 true rfl rfl rfl
                      have e75 : a.eval (.tmp 75) = _ := c.val 9 _ rfl rfl
                      have e80 : a.eval (.tmp 80) = _ := c.val 14 _ rfl rfl
                      exact goalR_fn hw rfl (by simp only [List.map_toArray, List.map_cons, List.map_nil, e75, e80]) (by kernel_rfl) ((HCM.out w c.below).mono fun e w' ⟨he, hb⟩ => ⟨_, he, outR_val rfl hb⟩)
                    -- 16: slot 82
                    refine ⟨fun a w c => ?_, ?_⟩
                    · have hw := c.want 4 true rfl rfl rfl
                      have e81 : a.eval (.tmp 81) = _ := c.val 15 _ rfl rfl
                      exact goalR_val hw (by have ec : ∀ v, a.eval (.const v) = v := fun _ => rfl; generalize a.eval = ρ at ec e81 ⊢; simp [execOp, go_sem, ec, ec, e81, hcx]) rfl
                    -- 17: slot 83
                    refine ⟨fun a w c => ?_, ?_⟩
                    · have e70 : a.eval (.tmp 70) = _ := c.val 4 _ rfl rfl
                      have e82 : a.eval (.tmp 82) = _ := c.val 16 _ rfl rfl
                      exact goalR_val (c.want0 rfl) (by have ec : ∀ v, a.eval (.const v) = v := fun _ => rfl; generalize a.eval = ρ at ec e70 e82 ⊢; simp [execOp, go_sem, ec, e70, e82]) rfl
                    exact True.intro

                · have hjN : j = N := by omega
                  have hat : ¬ j < N := by omega
                  have HEQ : Hid (sr = j) := HZ.out.1.uniq ⟨by have := HML.out; omega, HL.out.2.2, fun e he => by have := (List.getElem?_eq_some_iff.1 he).1; have := HML.out; omega⟩
                  have hpr := HL.out.1.lt
                  have HG2 := hidM hg
                  clear hg hj hjN
                  go_upto_region 17 with fail
                  rename_i hkk
                  refine wp_region_vals (by kernel_rfl) (by decide +kernel) 130 rfl (by decide +kernel) [.int .i64 (j : Int), .slice a5 N c5, .int .i64 (N : Int), .bool false, .bool false, undef, undef, undef, undef, undef, undef, undef, undef, undef, undef, undef, undef, .bool false] rfl ?_ [66, 67, 68, 69, 70, 71, 72, 73, 74, 75, 76, 77, 78, 79, 80, 81, 82, 83] (by decide +kernel) ?_
                  rotate_left
                  · intro w9 B9
                    refine hkk _ _ ?_
                    rw [putR17]
                    have HT : Hid (ItM w9 p a7 N c7 j ∧ j ≤ N ∧ Below p w7 w9) := ⟨by have := HL.out.1.later B9; rw [HEQ.out] at this; exact this, by have := HG2.out; omega, HL.out.2.1.trans (B9.mono (Nat.le_of_lt hpr))⟩
                    have hlf := left_t HT.out.1 HT.out.2.1 hN60
                    unfold ptI at hlf
                    rw [show ((N - j : Nat) : Int) = (N : Int) - ((j : Nat) : Int) by have := HT.out.2.1; omega] at hlf
                    have ht61 : j ≤ 2 ^ 60 := by have := HT.out.2.1; omega
                    try simp only [Int.natCast_add, Int.natCast_one] at hlf
                    go_wp2_with (go_at_call 21; refine hlf.mono ?_; rintro r wl ⟨rfl, hbl⟩)
                    go_roundg (100 - (k + 1))
                    case measure => have := HG.out; omega
                    case rel => exact ⟨k + 1, j, by go_num, by go_num, by have := HG.out; omega, HT.out.1.later hbl, HT.out.2.1, HT.out.2.2.trans (hbl.mono (Nat.le_of_lt HT.out.1.lt))⟩
                  -- 0: slot 66
                  refine ⟨fun a w c => ?_, ?_⟩
                  · exact goalR_move (c.want0 rfl) (.tmp 9) (.inl rfl) ((c.old 9 rfl).trans rfl) rfl
                  -- 1: slot 67
                  refine ⟨fun a w c => ?_, ?_⟩
                  · exact goalR_move (c.want0 rfl) (.tmp 6) (.inl rfl) ((c.old 6 rfl).trans rfl) rfl
                  -- 2: slot 68
                  refine ⟨fun a w c => ?_, ?_⟩
                  · have e67 : a.eval (.tmp 67) = _ := c.val 1 _ rfl rfl
                    exact goalR_val (c.want0 rfl) (by have ec : ∀ v, a.eval (.const v) = v := fun _ => rfl; generalize a.eval = ρ at ec e67 ⊢; simp [execOp, go_sem, ec, e67]) rfl
                  -- 3: slot 69
                  refine ⟨fun a w c => ?_, ?_⟩
                  · have hw := c.want0 rfl
                    have e66 : a.eval (.tmp 66) = _ := c.val 0 _ rfl rfl
                    have e68 : a.eval (.tmp 68) = _ := c.val 2 _ rfl rfl
                    exact goalR_val hw (by have ec : ∀ v, a.eval (.const v) = v := fun _ => rfl; generalize a.eval = ρ at ec e66 e68 ⊢; simp [execOp, go_sem, ec, ec, e66, e68, hat]) rfl
                  -- 4: slot 70
                  refine ⟨fun a w c => ?_, ?_⟩
                  · exact goalR_move (c.want0 rfl) (.tmp 69) (.inl rfl) (c.val 3 _ rfl rfl) rfl
                  -- 5: slot 71
                  refine ⟨fun a w c => ?_, ?_⟩
                  · exact goalR_skip (c.skip 4 true false rfl rfl rfl (by decide)) rfl
                  -- 6: slot 72
                  refine ⟨fun a w c => ?_, ?_⟩
                  · exact goalR_skip (c.skip 4 true false rfl rfl rfl (by decide)) rfl
                  -- 7: slot 73
                  refine ⟨fun a w c => ?_, ?_⟩
                  · exact goalR_skip (c.skip 4 true false rfl rfl rfl (by decide)) rfl
                  -- 8: slot 74
                  refine ⟨fun a w c => ?_, ?_⟩
                  · exact goalR_skip (c.skip 4 true false rfl rfl rfl (by decide)) rfl
                  -- 9: slot 75
                  refine ⟨fun a w c => ?_, ?_⟩
                  · exact goalR_skip (c.skip 4 true false rfl rfl rfl (by decide)) rfl
                  -- 10: slot 76
                  refine ⟨fun a w c => ?_, ?_⟩
                  · exact goalR_skip (c.skip 4 true false rfl rfl rfl (by decide)) rfl
                  -- 11: slot 77
                  refine ⟨fun a w c => ?_, ?_⟩
                  · exact goalR_skip (c.skip 4 true false rfl rfl rfl (by decide)) rfl
                  -- 12: slot 78
                  refine ⟨fun a w c => ?_, ?_⟩
                  · exact goalR_skip (c.skip 4 true false rfl rfl rfl (by decide)) rfl
                  -- 13: slot 79
                  refine ⟨fun a w c => ?_, ?_⟩
                  · exact goalR_skip (c.skip 4 true false rfl rfl rfl (by decide)) rfl
                  -- 14: slot 80
                  refine ⟨fun a w c => ?_, ?_⟩
                  · exact goalR_skip (c.skip 4 true false rfl rfl rfl (by decide)) rfl
                  -- 15: slot 81
                  refine ⟨fun a w c => ?_, ?_⟩
                  · exact goalR_skip (c.skip 4 true false rfl rfl rfl (by decide)) rfl
                  -- 16: slot 82
                  refine ⟨fun a w c => ?_, ?_⟩
                  · exact goalR_skip (c.skip 4 true false rfl rfl rfl (by decide)) rfl
                  -- 17: slot 83
                  refine ⟨fun a w c => ?_, ?_⟩
                  · have e70 : a.eval (.tmp 70) = _ := c.val 4 _ rfl rfl
                    exact goalR_val (c.want0 rfl) (by have ec : ∀ v, a.eval (.const v) = v := fun _ => rfl; generalize a.eval = ρ at ec e70 ⊢; simp [execOp, go_sem, ec, e70]) rfl
                  exact True.intro

            | false =>
              by_cases hj : at' < N
              · have hj1 : (0 : Int) ≤ (at' : Int) := by omega
                have hj2 : (at' : Int) < (N : Int) := by omega
                have hat : at' < N := hj
                have hnx := next_t HJ.out.1 H7.out.1 HP.out HJ.out.2.2 hj HSM.out hN60
                unfold ptI at hnx
                have HJP := hidM hj
                clear hj
                go_upto_region 20 with (go_at_call 19; refine hnx.mono ?_; rintro r wy ⟨ka, va, kc, vc, x, hx, rfl, hs1, hs2, hI2, hbp⟩; have HY := hidM (And.intro hx (And.intro hs1 (And.intro hs2 (And.intro hI2 hbp)))); clear hx hs1 hs2 hI2 hbp; unfold entA)
                rename_i hkk
                obtain ⟨W, hW⟩ : ∃ z, z = wy.alloc (.cells #[.slice ka x.key.length kc, .int .i64 x.seq, .bool x.gone, .int .i64 x.till, .slice va x.val.length vc] 35) := ⟨_, rfl⟩
                have bW : Below wy.heap.size wy W := by rw [hW]; exact (Below.refl _ _).alloc (Nat.le_refl _) _
                rw [show wy.alloc (.cells #[.slice ka x.key.length kc, .int .i64 x.seq, .bool x.gone, .int .i64 x.till, .slice va x.val.length vc] 35) = W from hW.symm]
                have hpy : p < wy.heap.size := HY.out.2.2.2.1.lt
                have hBW : Below p w7 W := (HJ.out.2.2.trans HY.out.2.2.2.2).trans (bW.mono (Nat.le_of_lt hpy))
                have b5W : Below w5.heap.size w5 W := H57.out.1.trans (hBW.mono H57.out.2.2.1)
                obtain ⟨b5, o5, kg, kcg, vg, vcg, ha5, g0, g1, g2, g3, g4, sg1, sg2, -, -⟩ := RS.ent (H5R.out.later b5W) HY.out.1
                have hq : W.heap[wy.heap.size]? = some (.cells #[.slice ka x.key.length kc, .int .i64 x.seq, .bool x.gone, .int .i64 x.till, .slice va x.val.length vc] 35) := by rw [hW]; exact heap_alloc_new wy _
                have e0 : W.cell? ⟨wy.heap.size, 0, none⟩ = some (.slice ka x.key.length kc) := by rw [cell_of hq]; rfl
                have e1 : W.cell? ⟨wy.heap.size, 1, none⟩ = some (.int .i64 x.seq) := by rw [cell_of hq]; rfl
                have e2 : W.cell? ⟨wy.heap.size, 2, none⟩ = some (.bool x.gone) := by rw [cell_of hq]; rfl
                have e3 : W.cell? ⟨wy.heap.size, 3, none⟩ = some (.int .i64 x.till) := by rw [cell_of hq]; rfl
                have e4 : W.cell? ⟨wy.heap.size, 4, none⟩ = some (.slice va x.val.length vc) := by rw [cell_of hq]; rfl
                have ss1 := HY.out.2.1.later bW
                have ss2 := HY.out.2.2.1.later bW
                have HC9 : Hid (∀ wz, Below W.heap.size W wz → Calls Try.prog 20 #[.agg #[.slice ka x.key.length kc, .int .i64 x.seq, .bool x.gone, .int .i64 x.till, .slice va x.val.length vc], .agg #[.slice kg x.key.length kcg, .int .i64 x.seq, .bool x.gone, .int .i64 x.till, .slice vg x.val.length vcg]] wz fun e w' => e = .returned (.bool true) ∧ Below wz.heap.size wz w') := fun wz hb => rsameE1_eq (ss1.later hb) (ss2.later hb) (sg1.later hb) (sg2.later hb)
                have HN9 : Hid (ItM W p a7 N c7 (at' + 1) ∧ Below p w7 W ∧ p < W.heap.size) := ⟨HY.out.2.2.2.1.later bW, hBW, by have := bW.size; omega⟩
                subst ha5
                have HRC : Hid (∀ wz, Below W.heap.size W wz → (wz.cell? ⟨wy.heap.size, 0, none⟩ = some (.slice ka x.key.length kc) ∧ wz.cell? ⟨wy.heap.size, 1, none⟩ = some (.int .i64 x.seq) ∧ wz.cell? ⟨wy.heap.size, 2, none⟩ = some (.bool x.gone) ∧ wz.cell? ⟨wy.heap.size, 3, none⟩ = some (.int .i64 x.till) ∧ wz.cell? ⟨wy.heap.size, 4, none⟩ = some (.slice va x.val.length vc)) ∧ (wz.cell? ⟨b5, o5 + at' * 5, none⟩ = some (.slice kg x.key.length kcg) ∧ wz.cell? ⟨b5, o5 + at' * 5 + 1, none⟩ = some (.int .i64 x.seq) ∧ wz.cell? ⟨b5, o5 + at' * 5 + 2, none⟩ = some (.bool x.gone) ∧ wz.cell? ⟨b5, o5 + at' * 5 + 3, none⟩ = some (.int .i64 x.till) ∧ wz.cell? ⟨b5, o5 + at' * 5 + 4, none⟩ = some (.slice vg x.val.length vcg))) := fun wz hb => ⟨⟨cell_later hb e0, cell_later hb e1, cell_later hb e2, cell_later hb e3, cell_later hb e4⟩, ⟨cell_later hb g0, cell_later hb g1, cell_later hb g2, cell_later hb g3, cell_later hb g4⟩⟩
                clear g0 g1 g2 g3 g4 e0 e1 e2 e3 e4 sg1 sg2 ss1 ss2 hq bW hBW b5W hW d0 hnx
                refine wp_region_vals (by kernel_rfl) (by decide +kernel) 130 rfl (by decide +kernel) [.bool true, .int .i64 (at' : Int), .slice (some ⟨b5, o5, none⟩) N c5, .int .i64 (N : Int), .bool true, .bool false, .bool false, .bool true, .bool true, .agg #[.slice ka x.key.length kc, .int .i64 x.seq, .bool x.gone, .int .i64 x.till, .slice va x.val.length vc], .slice (some ⟨b5, o5, none⟩) N c5, .int .i64 (at' : Int), .pointer (some ⟨b5, o5 + at' * 5, none⟩), .agg #[.slice kg x.key.length kcg, .int .i64 x.seq, .bool x.gone, .int .i64 x.till, .slice vg x.val.length vcg], .bool true, .bool false, .bool false, .bool false, .bool false, .bool true, .bool false, .bool false, undef, undef, undef, undef, .bool false, .bool false] rfl ?_ [91, 92, 93, 94, 95, 96, 97, 98, 99, 100, 101, 102, 103, 104, 105, 106, 107, 108, 109, 110, 111, 112, 113, 114, 115, 116, 117, 118] (by decide +kernel) ?_
                rotate_left
                · intro w9 B9
                  refine hkk _ _ ?_
                  rw [putR20]
                  have HT : Hid (ItM w9 p a7 N c7 (at' + 1) ∧ at' + 1 ≤ N ∧ Below p w7 w9) := ⟨HN9.out.1.later B9, by have := HJP.out; omega, HN9.out.2.1.trans (B9.mono (Nat.le_of_lt HN9.out.2.2))⟩
                  have hlf := left_t HT.out.1 HT.out.2.1 hN60
                  unfold ptI at hlf
                  rw [show ((N - (at' + 1) : Nat) : Int) = (N : Int) - (((at' + 1) : Nat) : Int) by have := HT.out.2.1; omega] at hlf
                  have ht61 : (at' + 1) ≤ 2 ^ 60 := by have := HT.out.2.1; omega
                  try simp only [Int.natCast_add, Int.natCast_one] at hlf
                  go_wp2_with (go_at_call 21; refine hlf.mono ?_; rintro r wl ⟨rfl, hbl⟩)
                  go_roundg (100 - (k + 1))
                  case measure => have := HG.out; omega
                  case rel => exact ⟨k + 1, (at' + 1), by go_num, by go_num, by have := HG.out; omega, HT.out.1.later hbl, HT.out.2.1, HT.out.2.2.trans (hbl.mono (Nat.le_of_lt HT.out.1.lt))⟩
                -- 0: slot 91
                refine ⟨fun a w c => ?_, ?_⟩
                · exact goalR_move (c.want0 rfl) (.tmp 12) (.inl rfl) ((c.old 12 rfl).trans rfl) rfl
                -- 1: slot 92
                refine ⟨fun a w c => ?_, ?_⟩
                · exact goalR_move (c.want0 rfl) (.tmp 9) (.inl rfl) ((c.old 9 rfl).trans rfl) rfl
                -- 2: slot 93
                refine ⟨fun a w c => ?_, ?_⟩
                · exact goalR_move (c.want0 rfl) (.tmp 6) (.inl rfl) ((c.old 6 rfl).trans rfl) rfl
                -- 3: slot 94
                refine ⟨fun a w c => ?_, ?_⟩
                · have e93 : a.eval (.tmp 93) = _ := c.val 2 _ rfl rfl
                  exact goalR_val (c.want0 rfl) (by have ec : ∀ v, a.eval (.const v) = v := fun _ => rfl; generalize a.eval = ρ at ec e93 ⊢; simp [execOp, go_sem, ec, e93]) rfl
                -- 4: slot 95
                refine ⟨fun a w c => ?_, ?_⟩
                · have hw := c.want0 rfl
                  have e92 : a.eval (.tmp 92) = _ := c.val 1 _ rfl rfl
                  have e94 : a.eval (.tmp 94) = _ := c.val 3 _ rfl rfl
                  exact goalR_val hw (by have ec : ∀ v, a.eval (.const v) = v := fun _ => rfl; generalize a.eval = ρ at ec e92 e94 ⊢; simp [execOp, go_sem, ec, ec, e92, e94, hat]) rfl
                -- 5: slot 96
                refine ⟨fun a w c => ?_, ?_⟩
                · have e91 : a.eval (.tmp 91) = _ := c.val 0 _ rfl rfl
                  have e95 : a.eval (.tmp 95) = _ := c.val 4 _ rfl rfl
                  exact goalR_val (c.want0 rfl) (by have ec : ∀ v, a.eval (.const v) = v := fun _ => rfl; generalize a.eval = ρ at ec e91 e95 ⊢; simp [execOp, go_sem, ec, e91, e95]) rfl
                -- 6: slot 97
                refine ⟨fun a w c => ?_, ?_⟩
                · exact goalR_move (c.want0 rfl) (.tmp 96) (.inl rfl) (c.val 5 _ rfl rfl) rfl
                -- 7: slot 98
                refine ⟨fun a w c => ?_, ?_⟩
                · exact goalR_move (c.want 6 false rfl rfl rfl) (.tmp 12) (.inl rfl) ((c.old 12 rfl).trans rfl) rfl
                -- 8: slot 99
                refine ⟨fun a w c => ?_, ?_⟩
                · exact goalR_move (c.want 6 false rfl rfl rfl) (.tmp 98) (.inl rfl) (c.val 7 _ rfl rfl) rfl
                -- 9: slot 100
                refine ⟨fun a w c => ?_, ?_⟩
                · have hw := c.want 8 true rfl rfl rfl
                  have e11 : a.eval (.tmp 11) = _ := (c.old 11 rfl).trans rfl
                  obtain ⟨y0, y1, y2, y3, y4⟩ := (HRC.out w c.below).1
                  exact goalR_val hw (by have ec : ∀ v, a.eval (.const v) = v := fun _ => rfl; generalize a.eval = ρ at ec e11 ⊢; simp [execOp, go_sem, ec, e11, y0, y1, y2, y3, y4]) rfl
                -- 10: slot 101
                refine ⟨fun a w c => ?_, ?_⟩
                · exact goalR_move (c.want 8 true rfl rfl rfl) (.tmp 6) (.inl rfl) ((c.old 6 rfl).trans rfl) rfl
                -- 11: slot 102
                refine ⟨fun a w c => ?_, ?_⟩
                · exact goalR_move (c.want 8 true rfl rfl rfl) (.tmp 9) (.inl rfl) ((c.old 9 rfl).trans rfl) rfl
                -- 12: slot 103
                refine ⟨fun a w c => ?_, ?_⟩
                · have hw := c.want 8 true rfl rfl rfl
                  have e101 : a.eval (.tmp 101) = _ := c.val 10 _ rfl rfl
                  have e102 : a.eval (.tmp 102) = _ := c.val 11 _ rfl rfl
                  exact goalR_val hw (by have ec : ∀ v, a.eval (.const v) = v := fun _ => rfl; generalize a.eval = ρ at ec e101 e102 ⊢; simp [execOp, go_sem, ec, e101, e102, elem27, Try.sizeOf35, hj1, hj2]) rfl
                -- 13: slot 104
                refine ⟨fun a w c => ?_, ?_⟩
                · have hw := c.want 8 true rfl rfl rfl
                  have e103 : a.eval (.tmp 103) = _ := c.val 12 _ rfl rfl
                  obtain ⟨y0, y1, y2, y3, y4⟩ := (HRC.out w c.below).2
                  exact goalR_val hw (by have ec : ∀ v, a.eval (.const v) = v := fun _ => rfl; generalize a.eval = ρ at ec e103 ⊢; simp [execOp, go_sem, ec, e103, y0, y1, y2, y3, y4]) rfl
                -- 14: slot 105
                refine ⟨fun a w c => ?_, ?_⟩
                · have hw := c.want 8 true rfl rfl rfl
                  have e100 : a.eval (.tmp 100) = _ := c.val 9 _ rfl rfl
                  have e104 : a.eval (.tmp 104) = _ := c.val 13 _ rfl rfl
                  exact goalR_fn hw rfl (by simp only [List.map_toArray, List.map_cons, List.map_nil, e100, e104]) (by kernel_rfl) ((HC9.out w c.below).mono fun e w' ⟨he, hb⟩ => ⟨_, he, outR_val rfl hb⟩)
                -- 15: slot 106
                refine ⟨fun a w c => ?_, ?_⟩
                · have e105 : a.eval (.tmp 105) = _ := c.val 14 _ rfl rfl
                  exact goalR_val (c.want 8 true rfl rfl rfl) (by have ec : ∀ v, a.eval (.const v) = v := fun _ => rfl; generalize a.eval = ρ at ec e105 ⊢; simp [execOp, go_sem, ec, e105]) rfl
                -- 16: slot 107
                refine ⟨fun a w c => ?_, ?_⟩
                · have e99 : a.eval (.tmp 99) = _ := c.val 8 _ rfl rfl
                  have e106 : a.eval (.tmp 106) = _ := c.val 15 _ rfl rfl
                  exact goalR_val (c.want 6 false rfl rfl rfl) (by have ec : ∀ v, a.eval (.const v) = v := fun _ => rfl; generalize a.eval = ρ at ec e99 e106 ⊢; simp [execOp, go_sem, ec, e99, e106]) rfl
                -- 17: slot 108
                refine ⟨fun a w c => ?_, ?_⟩
                · have e97 : a.eval (.tmp 97) = _ := c.val 6 _ rfl rfl
                  have e107 : a.eval (.tmp 107) = _ := c.val 16 _ rfl rfl
                  exact goalR_val (c.want0 rfl) (by have ec : ∀ v, a.eval (.const v) = v := fun _ => rfl; generalize a.eval = ρ at ec e97 e107 ⊢; simp [execOp, go_sem, ec, e97, e107]) rfl
                -- 18: slot 109
                refine ⟨fun a w c => ?_, ?_⟩
                · exact goalR_move (c.want0 rfl) (.tmp 108) (.inl rfl) (c.val 17 _ rfl rfl) rfl
                -- 19: slot 110
                refine ⟨fun a w c => ?_, ?_⟩
                · exact goalR_move (c.want 18 false rfl rfl rfl) (.tmp 12) (.inl rfl) ((c.old 12 rfl).trans rfl) rfl
                -- 20: slot 111
                refine ⟨fun a w c => ?_, ?_⟩
                · have e110 : a.eval (.tmp 110) = _ := c.val 19 _ rfl rfl
                  exact goalR_val (c.want 18 false rfl rfl rfl) (by have ec : ∀ v, a.eval (.const v) = v := fun _ => rfl; generalize a.eval = ρ at ec e110 ⊢; simp [execOp, go_sem, ec, e110]) rfl
                -- 21: slot 112
                refine ⟨fun a w c => ?_, ?_⟩
                · exact goalR_move (c.want 18 false rfl rfl rfl) (.tmp 111) (.inl rfl) (c.val 20 _ rfl rfl) rfl
                -- 22: slot 113
                refine ⟨fun a w c => ?_, ?_⟩
                · exact goalR_skip (c.skip 21 true false rfl rfl rfl (by decide)) rfl
                -- 23: slot 114
                refine ⟨fun a w c => ?_, ?_⟩
                · exact goalR_skip (c.skip 21 true false rfl rfl rfl (by decide)) rfl
                -- 24: slot 115
                refine ⟨fun a w c => ?_, ?_⟩
                · exact goalR_skip (c.skip 21 true false rfl rfl rfl (by decide)) rfl
                -- 25: slot 116
                refine ⟨fun a w c => ?_, ?_⟩
                · exact goalR_skip (c.skip 21 true false rfl rfl rfl (by decide)) rfl
                -- 26: slot 117
                refine ⟨fun a w c => ?_, ?_⟩
                · have e112 : a.eval (.tmp 112) = _ := c.val 21 _ rfl rfl
                  exact goalR_val (c.want 18 false rfl rfl rfl) (by have ec : ∀ v, a.eval (.const v) = v := fun _ => rfl; generalize a.eval = ρ at ec e112 ⊢; simp [execOp, go_sem, ec, e112]) rfl
                -- 27: slot 118
                refine ⟨fun a w c => ?_, ?_⟩
                · have e109 : a.eval (.tmp 109) = _ := c.val 18 _ rfl rfl
                  have e117 : a.eval (.tmp 117) = _ := c.val 26 _ rfl rfl
                  exact goalR_val (c.want0 rfl) (by have ec : ∀ v, a.eval (.const v) = v := fun _ => rfl; generalize a.eval = ρ at ec e109 e117 ⊢; simp [execOp, go_sem, ec, e109, e117]) rfl
                exact True.intro

              · have hat : ¬ at' < N := hj
                have hjN : at' = N := by have := HJ.out.2.1; omega
                have hnx := nextE_t (hjN ▸ HJ.out.1) hN60
                unfold ptI at hnx
                have HJN := hidM hjN
                clear hj hjN
                go_upto_region 20 with (go_at_call 19; refine hnx.mono ?_; rintro r wy ⟨rfl, hI2, hbp⟩; have HY := hidM (And.intro hI2 hbp); clear hI2 hbp)
                rename_i hkk
                obtain ⟨W, hW⟩ : ∃ z, z = wy.alloc (.cells #[.slice none 0 0, .int .i64 0, .bool false, .int .i64 0, .slice none 0 0] 35) := ⟨_, rfl⟩
                have bW : Below wy.heap.size wy W := by rw [hW]; exact (Below.refl _ _).alloc (Nat.le_refl _) _
                rw [show wy.alloc (.cells #[.slice none 0 0, .int .i64 0, .bool false, .int .i64 0, .slice none 0 0] 35) = W from hW.symm]
                have hpy : p < wy.heap.size := HY.out.1.lt
                have hBW : Below p w7 W := (HJ.out.2.2.trans HY.out.2).trans (bW.mono (Nat.le_of_lt hpy))
                have hq : W.heap[wy.heap.size]? = some (.cells #[.slice none 0 0, .int .i64 0, .bool false, .int .i64 0, .slice none 0 0] 35) := by rw [hW]; exact heap_alloc_new wy _
                have e0 : W.cell? ⟨wy.heap.size, 0, none⟩ = some (.slice none 0 0) := by rw [cell_of hq]; rfl
                have e1 : W.cell? ⟨wy.heap.size, 1, none⟩ = some (.int .i64 0) := by rw [cell_of hq]; rfl
                have e2 : W.cell? ⟨wy.heap.size, 2, none⟩ = some (.bool false) := by rw [cell_of hq]; rfl
                have e3 : W.cell? ⟨wy.heap.size, 3, none⟩ = some (.int .i64 0) := by rw [cell_of hq]; rfl
                have e4 : W.cell? ⟨wy.heap.size, 4, none⟩ = some (.slice none 0 0) := by rw [cell_of hq]; rfl
                have HC9 : Hid (∀ wz, Below W.heap.size W wz → Calls Try.prog 20 #[.agg #[.slice none 0 0, .int .i64 0, .bool false, .int .i64 0, .slice none 0 0], .agg #[.slice none 0 0, .int .i64 0, .bool false, .int .i64 0, .slice none 0 0]] wz fun e w' => e = .returned (.bool true) ∧ Below wz.heap.size wz w') := fun wz hb => rsameE1_eq (key := []) (vl := []) (Sl.nil wz) (Sl.nil wz) (Sl.nil wz) (Sl.nil wz)
                have HN9 : Hid (ItM W p a7 N c7 at' ∧ Below p w7 W ∧ p < W.heap.size) := ⟨by have := HY.out.1.later bW; rw [HJN.out]; exact this, hBW, by have := bW.size; omega⟩
                have HRC : Hid (∀ wz, Below W.heap.size W wz → (wz.cell? ⟨wy.heap.size, 0, none⟩ = some (.slice none 0 0) ∧ wz.cell? ⟨wy.heap.size, 1, none⟩ = some (.int .i64 0) ∧ wz.cell? ⟨wy.heap.size, 2, none⟩ = some (.bool false) ∧ wz.cell? ⟨wy.heap.size, 3, none⟩ = some (.int .i64 0) ∧ wz.cell? ⟨wy.heap.size, 4, none⟩ = some (.slice none 0 0))) := fun wz hb => ⟨cell_later hb e0, cell_later hb e1, cell_later hb e2, cell_later hb e3, cell_later hb e4⟩
                clear e0 e1 e2 e3 e4 hq bW hBW hW d0 hnx
                refine wp_region_vals (by kernel_rfl) (by decide +kernel) 130 rfl (by decide +kernel) [.bool false, .int .i64 (at' : Int), .slice a5 N c5, .int .i64 (N : Int), .bool false, .bool false, .bool false, .bool false, .bool false, undef, undef, undef, undef, undef, undef, undef, .bool false, .bool false, .bool false, .bool false, .bool true, .bool true, .agg #[.slice none 0 0, .int .i64 0, .bool false, .int .i64 0, .slice none 0 0], .agg #[.slice none 0 0, .int .i64 0, .bool false, .int .i64 0, .slice none 0 0], .bool true, .bool false, .bool false, .bool false] rfl ?_ [91, 92, 93, 94, 95, 96, 97, 98, 99, 100, 101, 102, 103, 104, 105, 106, 107, 108, 109, 110, 111, 112, 113, 114, 115, 116, 117, 118] (by decide +kernel) ?_
                rotate_left
                · intro w9 B9
                  refine hkk _ _ ?_
                  rw [putR20]
                  have HT : Hid (ItM w9 p a7 N c7 at' ∧ at' ≤ N ∧ Below p w7 w9) := ⟨HN9.out.1.later B9, by have := HJN.out; omega, HN9.out.2.1.trans (B9.mono (Nat.le_of_lt HN9.out.2.2))⟩
                  have hlf := left_t HT.out.1 HT.out.2.1 hN60
                  unfold ptI at hlf
                  rw [show ((N - at' : Nat) : Int) = (N : Int) - ((at' : Nat) : Int) by have := HT.out.2.1; omega] at hlf
                  have ht61 : at' ≤ 2 ^ 60 := by have := HT.out.2.1; omega
                  try simp only [Int.natCast_add, Int.natCast_one] at hlf
                  go_wp2_with (go_at_call 21; refine hlf.mono ?_; rintro r wl ⟨rfl, hbl⟩)
                  go_roundg (100 - (k + 1))
                  case measure => have := HG.out; omega
                  case rel => exact ⟨k + 1, at', by go_num, by go_num, by have := HG.out; omega, HT.out.1.later hbl, HT.out.2.1, HT.out.2.2.trans (hbl.mono (Nat.le_of_lt HT.out.1.lt))⟩
                -- 0: slot 91
                refine ⟨fun a w c => ?_, ?_⟩
                · exact goalR_move (c.want0 rfl) (.tmp 12) (.inl rfl) ((c.old 12 rfl).trans rfl) rfl
                -- 1: slot 92
                refine ⟨fun a w c => ?_, ?_⟩
                · exact goalR_move (c.want0 rfl) (.tmp 9) (.inl rfl) ((c.old 9 rfl).trans rfl) rfl
                -- 2: slot 93
                refine ⟨fun a w c => ?_, ?_⟩
                · exact goalR_move (c.want0 rfl) (.tmp 6) (.inl rfl) ((c.old 6 rfl).trans rfl) rfl
                -- 3: slot 94
                refine ⟨fun a w c => ?_, ?_⟩
                · have e93 : a.eval (.tmp 93) = _ := c.val 2 _ rfl rfl
                  exact goalR_val (c.want0 rfl) (by have ec : ∀ v, a.eval (.const v) = v := fun _ => rfl; generalize a.eval = ρ at ec e93 ⊢; simp [execOp, go_sem, ec, e93]) rfl
                -- 4: slot 95
                refine ⟨fun a w c => ?_, ?_⟩
                · have hw := c.want0 rfl
                  have e92 : a.eval (.tmp 92) = _ := c.val 1 _ rfl rfl
                  have e94 : a.eval (.tmp 94) = _ := c.val 3 _ rfl rfl
                  exact goalR_val hw (by have ec : ∀ v, a.eval (.const v) = v := fun _ => rfl; generalize a.eval = ρ at ec e92 e94 ⊢; simp [execOp, go_sem, ec, ec, e92, e94, hat]) rfl
                -- 5: slot 96
                refine ⟨fun a w c => ?_, ?_⟩
                · have e91 : a.eval (.tmp 91) = _ := c.val 0 _ rfl rfl
                  have e95 : a.eval (.tmp 95) = _ := c.val 4 _ rfl rfl
                  exact goalR_val (c.want0 rfl) (by have ec : ∀ v, a.eval (.const v) = v := fun _ => rfl; generalize a.eval = ρ at ec e91 e95 ⊢; simp [execOp, go_sem, ec, e91, e95]) rfl
                -- 6: slot 97
                refine ⟨fun a w c => ?_, ?_⟩
                · exact goalR_move (c.want0 rfl) (.tmp 96) (.inl rfl) (c.val 5 _ rfl rfl) rfl
                -- 7: slot 98
                refine ⟨fun a w c => ?_, ?_⟩
                · exact goalR_move (c.want 6 false rfl rfl rfl) (.tmp 12) (.inl rfl) ((c.old 12 rfl).trans rfl) rfl
                -- 8: slot 99
                refine ⟨fun a w c => ?_, ?_⟩
                · exact goalR_move (c.want 6 false rfl rfl rfl) (.tmp 98) (.inl rfl) (c.val 7 _ rfl rfl) rfl
                -- 9: slot 100
                refine ⟨fun a w c => ?_, ?_⟩
                · exact goalR_skip (c.skip 8 true false rfl rfl rfl (by decide)) rfl
                -- 10: slot 101
                refine ⟨fun a w c => ?_, ?_⟩
                · exact goalR_skip (c.skip 8 true false rfl rfl rfl (by decide)) rfl
                -- 11: slot 102
                refine ⟨fun a w c => ?_, ?_⟩
                · exact goalR_skip (c.skip 8 true false rfl rfl rfl (by decide)) rfl
                -- 12: slot 103
                refine ⟨fun a w c => ?_, ?_⟩
                · exact goalR_skip (c.skip 8 true false rfl rfl rfl (by decide)) rfl
                -- 13: slot 104
                refine ⟨fun a w c => ?_, ?_⟩
                · exact goalR_skip (c.skip 8 true false rfl rfl rfl (by decide)) rfl
                -- 14: slot 105
                refine ⟨fun a w c => ?_, ?_⟩
                · exact goalR_skip (c.skip 8 true false rfl rfl rfl (by decide)) rfl
                -- 15: slot 106
                refine ⟨fun a w c => ?_, ?_⟩
                · exact goalR_skip (c.skip 8 true false rfl rfl rfl (by decide)) rfl
                -- 16: slot 107
                refine ⟨fun a w c => ?_, ?_⟩
                · have e99 : a.eval (.tmp 99) = _ := c.val 8 _ rfl rfl
                  exact goalR_val (c.want 6 false rfl rfl rfl) (by have ec : ∀ v, a.eval (.const v) = v := fun _ => rfl; generalize a.eval = ρ at ec e99 ⊢; simp [execOp, go_sem, ec, e99]) rfl
                -- 17: slot 108
                refine ⟨fun a w c => ?_, ?_⟩
                · have e97 : a.eval (.tmp 97) = _ := c.val 6 _ rfl rfl
                  have e107 : a.eval (.tmp 107) = _ := c.val 16 _ rfl rfl
                  exact goalR_val (c.want0 rfl) (by have ec : ∀ v, a.eval (.const v) = v := fun _ => rfl; generalize a.eval = ρ at ec e97 e107 ⊢; simp [execOp, go_sem, ec, e97, e107]) rfl
                -- 18: slot 109
                refine ⟨fun a w c => ?_, ?_⟩
                · exact goalR_move (c.want0 rfl) (.tmp 108) (.inl rfl) (c.val 17 _ rfl rfl) rfl
                -- 19: slot 110
                refine ⟨fun a w c => ?_, ?_⟩
                · exact goalR_move (c.want 18 false rfl rfl rfl) (.tmp 12) (.inl rfl) ((c.old 12 rfl).trans rfl) rfl
                -- 20: slot 111
                refine ⟨fun a w c => ?_, ?_⟩
                · have e110 : a.eval (.tmp 110) = _ := c.val 19 _ rfl rfl
                  exact goalR_val (c.want 18 false rfl rfl rfl) (by have ec : ∀ v, a.eval (.const v) = v := fun _ => rfl; generalize a.eval = ρ at ec e110 ⊢; simp [execOp, go_sem, ec, e110]) rfl
                -- 21: slot 112
                refine ⟨fun a w c => ?_, ?_⟩
                · exact goalR_move (c.want 18 false rfl rfl rfl) (.tmp 111) (.inl rfl) (c.val 20 _ rfl rfl) rfl
                -- 22: slot 113
                refine ⟨fun a w c => ?_, ?_⟩
                · have hw := c.want 21 true rfl rfl rfl
                  have e11 : a.eval (.tmp 11) = _ := (c.old 11 rfl).trans rfl
                  obtain ⟨y0, y1, y2, y3, y4⟩ := HRC.out w c.below
                  exact goalR_val hw (by have ec : ∀ v, a.eval (.const v) = v := fun _ => rfl; generalize a.eval = ρ at ec e11 ⊢; simp [execOp, go_sem, ec, e11, y0, y1, y2, y3, y4]) rfl
                -- 23: slot 114
                refine ⟨fun a w c => ?_, ?_⟩
                · have hw := c.want 21 true rfl rfl rfl
                  exact goalR_val hw (by have ec : ∀ v, a.eval (.const v) = v := fun _ => rfl; generalize a.eval = ρ at ec ⊢; simp [execOp, go_sem, ec, ec]) rfl
                -- 24: slot 115
                refine ⟨fun a w c => ?_, ?_⟩
                · have hw := c.want 21 true rfl rfl rfl
                  have e113 : a.eval (.tmp 113) = _ := c.val 22 _ rfl rfl
                  have e114 : a.eval (.tmp 114) = _ := c.val 23 _ rfl rfl
                  exact goalR_fn hw rfl (by simp only [List.map_toArray, List.map_cons, List.map_nil, e113, e114]) (by kernel_rfl) ((HC9.out w c.below).mono fun e w' ⟨he, hb⟩ => ⟨_, he, outR_val rfl hb⟩)
                -- 25: slot 116
                refine ⟨fun a w c => ?_, ?_⟩
                · have e115 : a.eval (.tmp 115) = _ := c.val 24 _ rfl rfl
                  exact goalR_val (c.want 21 true rfl rfl rfl) (by have ec : ∀ v, a.eval (.const v) = v := fun _ => rfl; generalize a.eval = ρ at ec e115 ⊢; simp [execOp, go_sem, ec, e115]) rfl
                -- 26: slot 117
                refine ⟨fun a w c => ?_, ?_⟩
                · have e112 : a.eval (.tmp 112) = _ := c.val 21 _ rfl rfl
                  have e116 : a.eval (.tmp 116) = _ := c.val 25 _ rfl rfl
                  exact goalR_val (c.want 18 false rfl rfl rfl) (by have ec : ∀ v, a.eval (.const v) = v := fun _ => rfl; generalize a.eval = ρ at ec e112 e116 ⊢; simp [execOp, go_sem, ec, e112, e116]) rfl
                -- 27: slot 118
                refine ⟨fun a w c => ?_, ?_⟩
                · have e109 : a.eval (.tmp 109) = _ := c.val 18 _ rfl rfl
                  have e117 : a.eval (.tmp 117) = _ := c.val 26 _ rfl rfl
                  exact goalR_val (c.want0 rfl) (by have ec : ∀ v, a.eval (.const v) = v := fun _ => rfl; generalize a.eval = ρ at ec e109 e117 ⊢; simp [execOp, go_sem, ec, e109, e117]) rfl
                exact True.intro

          · have hk1' : ¬ (k : Int) < 100 := by omega
            have HBF : Hid (Below w.heap.size w wr) := H57.out.2.1.trans (HJ.out.2.2.mono H57.out.2.2.2)
            clear hg hk hk1
            go_wp2_with (go_at_call 10; refine (awake16_t _).mono ?_; rintro e w9 ⟨rfl, hb9⟩)
            exact bodyPost_ret (v := .bool true) (by simp [results, Try.results5, go_sem]) rfl ⟨rfl, HBF.out.trans (hb9.mono HBF.out.size)⟩
        · have hk' : ¬ (k : Int) < (ns : Int) := by omega
          have HBF : Hid (Below w.heap.size w wr) := H57.out.2.1.trans (HJ.out.2.2.mono H57.out.2.2.2)
          clear hg hk
          go_wp2_with (go_at_call 10; refine (awake16_t _).mono ?_; rintro e w9 ⟨rfl, hb9⟩)
          exact bodyPost_ret (v := .bool true) (by simp [results, Try.results5, go_sem]) rfl ⟨rfl, HBF.out.trans (hb9.mono HBF.out.size)⟩
  · have hl' : litW 0 0 rs = false := by simpa using hl
    rw [hl'] at hli
    clear h hl hl' hs
    go_enter Try.func5, Try.ntmps5
    go_wp2_with (first | (go_at_call 9; refine hli.mono ?_; rintro e w1 ⟨rfl, hb1⟩) | (go_at_call 10; refine (awake16_t _).mono ?_; rintro e w2 ⟨rfl, hb2⟩))
    exact bodyPost_ret (v := .bool true) (by simp [results, Try.results5, go_sem]) rfl ⟨rfl, hb1.trans (hb2.mono hb1.size)⟩
end Go.Proofs.Ytnoackenjfpcmaa

/- How a slice of bytes that came in is opened. -/
namespace Go.Proofs.Ytnoackenjfpcmaa
open Go.ChangeShapes Go.WideShapes Go.ChangeAt Go.RowKit

theorem cells5 : Try.prog.cellsOf 5 = 1 := by kernel_rfl
theorem bytes5 : Try.prog.bytesOf 5 = 1 := by kernel_rfl

theorem wf_u8 {n : Int} (h : (Lit.int .u8 n).wf = true) : 0 ≤ n ∧ n < 256 := by
  simp [Lit.wf, IntKind.min, IntKind.max, IntKind.bits, IntKind.signed] at h
  omega
theorem wf_u64 {n : Int} (h : (Lit.int .u64 n).wf = true) : 0 ≤ n ∧ n < 18446744073709551616 := by
  simp [Lit.wf, IntKind.min, IntKind.max, IntKind.bits, IntKind.signed] at h
  omega
theorem wf_i64 {n : Int} (h : (Lit.int .i64 n).wf = true) : -9223372036854775808 ≤ n ∧ n ≤ 9223372036854775807 := by
  simp [Lit.wf, IntKind.min, IntKind.max, IntKind.bits, IntKind.signed] at h
  omega

set_option maxRecDepth 100000 in
theorem open33 {H : Type} {enc : TypeId × Value → H} {W : World} {base : Nat} {v : Value} {d : DataW H} {ps : List MemPlace} (hv : Value.okWide Try.prog W .any base 33 v) (h : DataW.Trod enc Try.prog W 0 (fun _ => true) true 33 v d ps) :
    ∃ (ao : Option Addr) (len cap : Nat) (X : Nat → Nat), v = .slice ao len cap ∧ (ao = none → len = 0 ∧ cap = 0) ∧ len ≤ cap ∧ cap ≤ maxLen ∧ Byt W ao len X ∧ (cap = 0 ∨ ∃ e s, d = .slice e s ∧ e.length + s.length = cap) := by
  obtain ⟨a, len, cap, rfl⟩ := okWide_slice Try.underlying33 hv
  obtain ⟨fuel, hf⟩ := h
  rcases open_ints Try.underlying33 Try.underlying5 cells5 hf with ⟨hcs, _⟩ | ⟨x, l, cp, zs, hcs, _, hl, hm, hz, hd, hc, hwf⟩
  · simp [Value.cells] at hcs
    obtain ⟨rfl, rfl, rfl⟩ := hcs
    exact ⟨none, 0, 0, fun _ => 0, rfl, fun _ => ⟨rfl, rfl⟩, Nat.le_refl _, Nat.zero_le _, fun k hk => absurd hk (by omega), .inl rfl⟩
  · simp [Value.cells] at hcs
    obtain ⟨rfl, rfl, rfl⟩ := hcs
    simp only [if_true] at hz
    refine ⟨some x, len, cap, fun k => (zs.getD k 0).toNat, rfl, (fun e => by cases e), hl, hm, fun k hk => ?_, .inr ⟨_, _, (Prod.mk.inj hd).1, ?_⟩⟩
    · have hk' : k < zs.length := by omega
      have w1 := hwf _ (List.getElem_mem hk')
      have e : zs.getD k 0 = zs[k] := by simp [List.getElem?_eq_getElem hk']
      have hr : 0 ≤ zs[k] ∧ zs[k] < 256 := by
        exact wf_u8 w1
      have hcell := hc k hk'
      obtain ⟨b, off, spot⟩ := x
      have hspot : spot = none := by
        have h0 := hc 0 (by omega)
        simpa [Addr.add] using World.cell?_spot h0
      subst hspot
      rw [Addr.add_lit, e] at hcell
      show (zs.getD k 0).toNat < 256 ∧ ∃ b' off', some (⟨b, off, none⟩ : Addr) = some ⟨b', off', none⟩ ∧ W.cell? ⟨b', off' + k, none⟩ = some (.int .u8 ((zs.getD k 0).toNat : Int))
      rw [e]
      refine ⟨by omega, b, off, rfl, ?_⟩
      rw [hcell]
      congr 2
      omega
    · simp [lits]
      omega
end Go.Proofs.Ytnoackenjfpcmaa
