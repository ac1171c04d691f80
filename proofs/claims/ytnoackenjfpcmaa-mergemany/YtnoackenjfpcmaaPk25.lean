import Derived.SizedLaws
import Derived.ChangeSlices
import Derived.Carry
import Derived.Test.YtnoackenjfpcmaaPk01
import Derived.Test.YtnoackenjfpcmaaPk23
import Derived.Test.YtnoackenjfpcmaaPk24
/- The law MergeTurned. -/
namespace Go.Proofs.Ytnoackenjfpcmaa
open Go.RowKit
set_option linter.unusedVariables false
set_option linter.unusedSimpArgs false

set_option maxRecDepth 100000 in
theorem putR4 (x0 x1 x2 x3 x4 x5 x6 x7 x8 x9 x10 x11 x12 x13 x14 x15 x16 x17 x18 x19 x20 x21 x22 x23 x24 x25 x26 x27 x28 x29 x30 x31 x32 x33 x34 x35 x36 x37 x38 x39 x40 x41 x42 x43 x44 x45 x46 x47 x48 x49 x50 x51 x52 x53 x54 x55 x56 x57 x58 x59 x60 x61 x62 x63 x64 x65 x66 x67 x68 x69 x70 x71 x72 x73 x74 x75 x76 x77 x78 x79 x80 x81 x82 x83 x84 x85 x86 x87 x88 x89 x90 x91 x92 x93 x94 x95 x96 x97 x98 x99 x100 x101 x102 x103 x104 x105 x106 x107 x108 x109 x110 x111 x112 x113 x114 x115 x116 x117 x118 x119 x120 x121 x122 x123 x124 x125 x126 x127 x128 x129 x130 x131 x132 x133 x134 x135 x136 x137 x138 x139 x140 x141 x142 x143 x144 x145 x146 x147 x148 x149 y98 y99 y100 y101 y102 y103 y104 y105 y106 y107 y108 y109 y110 y111 y112 y113 y114 y115 y116 y117 y118 y119 y120 y121 y122 y123 y124 y125 y126 y127 y128 y129 y130 y131 y132 y133 y134 y135 y136 y137 : Value) : putVs ⟨#[x0, x1, x2, x3, x4, x5, x6, x7, x8, x9, x10, x11, x12, x13, x14, x15, x16, x17, x18, x19, x20, x21, x22, x23, x24, x25, x26, x27, x28, x29, x30, x31, x32, x33, x34, x35, x36, x37, x38, x39, x40, x41, x42, x43, x44, x45, x46, x47, x48, x49, x50, x51, x52, x53, x54, x55, x56, x57, x58, x59, x60, x61, x62, x63, x64, x65, x66, x67, x68, x69, x70, x71, x72, x73, x74, x75, x76, x77, x78, x79, x80, x81, x82, x83, x84, x85, x86, x87, x88, x89, x90, x91, x92, x93, x94, x95, x96, x97, x98, x99, x100, x101, x102, x103, x104, x105, x106, x107, x108, x109, x110, x111, x112, x113, x114, x115, x116, x117, x118, x119, x120, x121, x122, x123, x124, x125, x126, x127, x128, x129, x130, x131, x132, x133, x134, x135, x136, x137, x138, x139, x140, x141, x142, x143, x144, x145, x146, x147, x148, x149], []⟩ (List.zip [98, 99, 100, 101, 102, 103, 104, 105, 106, 107, 108, 109, 110, 111, 112, 113, 114, 115, 116, 117, 118, 119, 120, 121, 122, 123, 124, 125, 126, 127, 128, 129, 130, 131, 132, 133, 134, 135, 136, 137] [y98, y99, y100, y101, y102, y103, y104, y105, y106, y107, y108, y109, y110, y111, y112, y113, y114, y115, y116, y117, y118, y119, y120, y121, y122, y123, y124, y125, y126, y127, y128, y129, y130, y131, y132, y133, y134, y135, y136, y137]) = ⟨#[x0, x1, x2, x3, x4, x5, x6, x7, x8, x9, x10, x11, x12, x13, x14, x15, x16, x17, x18, x19, x20, x21, x22, x23, x24, x25, x26, x27, x28, x29, x30, x31, x32, x33, x34, x35, x36, x37, x38, x39, x40, x41, x42, x43, x44, x45, x46, x47, x48, x49, x50, x51, x52, x53, x54, x55, x56, x57, x58, x59, x60, x61, x62, x63, x64, x65, x66, x67, x68, x69, x70, x71, x72, x73, x74, x75, x76, x77, x78, x79, x80, x81, x82, x83, x84, x85, x86, x87, x88, x89, x90, x91, x92, x93, x94, x95, x96, x97, y98, y99, y100, y101, y102, y103, y104, y105, y106, y107, y108, y109, y110, y111, y112, y113, y114, y115, y116, y117, y118, y119, y120, y121, y122, y123, y124, y125, y126, y127, y128, y129, y130, y131, y132, y133, y134, y135, y136, y137, x138, x139, x140, x141, x142, x143, x144, x145, x146, x147, x148, x149], []⟩ := by kernel_rfl
theorem rs_refsE {α : Type} {E : El α} (hp : 0 < E.size) {w : World} {a : Option Addr} {m c : Nat} {l : List α} (h : RS E w a m c l) : ∀ b, Refs (.slice a m c) b → b < w.heap.size := fun b hr => by
  obtain ⟨off3, l3, c3, e3, h3⟩ := hr
  simp only [Value.slice.injEq] at e3
  obtain ⟨rfl, rfl, rfl⟩ := e3
  obtain ⟨us, q1, q2, q3, q4, q5, q6⟩ := h
  have hlu := q5.len
  rw [q1] at hlu
  have hpos : 0 < us.length := by rw [hlu]; exact Nat.mul_pos h3 hp
  obtain ⟨b', off', e', hc⟩ := q6 0 _ (List.getElem?_eq_getElem hpos)
  simp only [Option.some.injEq, Addr.mk.injEq, and_true] at e'
  obtain ⟨rfl, rfl⟩ := e'
  exact World.block_lt_of_cell? _ _ hc
theorem sumR_rev (rs : List (List EntV)) : sumR rs.reverse = sumR rs := by unfold sumR; rw [List.map_reverse, List.sum_reverse]
theorem ahead_same (a b : EntV) (h : plcE a = plcE b) : ahead a b = 0 := by
  unfold plcE at h
  simp only [Prod.mk.injEq] at h
  exact ahead_zero.2 h
theorem below_alloc {w w' : World} (h : Below w.heap.size w w') (o : Obj) : Below w.heap.size w (w'.alloc o) := h.alloc h.size _
set_option maxHeartbeats 16000000 in
set_option maxRecDepth 100000 in
theorem mgturned_any {w : World} {ao : Option Addr} {n cap : Nat} {rs : List (List EntV)} (h : ErRow w ao n cap rs) :
    Calls Try.prog 7 #[.slice ao n cap] w fun e w' => e = .returned (.bool true) ∧ Below w.heap.size w w' := by
  have H0 := hidM h
  have hli := light16_t h
  by_cases hl : litW 0 0 rs = true
  · rw [hl] at hli
    by_cases h20 : 20 < n
    · have h20' : (20 : Int) < (n : Int) := by omega
      clear h hl h20
      go_enter Try.func7, Try.ntmps7
      go_wp2_with (first | (go_at_call 9; refine hli.mono ?_; rintro e w1 ⟨rfl, hb1⟩) | (go_at_call 10; refine (awake16_t _).mono ?_; rintro e w2 ⟨rfl, hb2⟩))
      exact bodyPost_ret (v := .bool true) (by simp [results, Try.results7, go_sem]) rfl ⟨rfl, hb1.trans (hb2.mono hb1.size)⟩
    · have h20' : ¬ (20 : Int) < (n : Int) := by omega
      obtain ⟨hz, hsum, hlen, -, hord⟩ := lit_srt hl
      have hn : rs.length = n := h.len.1
      have hn62 : n ≤ 2 ^ 20 := by omega
      clear h hl
      go_enter Try.func7, Try.ntmps7
      go_wp2_with (first | (go_at_call 9; refine hli.mono ?_; rintro e w1 ⟨rfl, hb1⟩) | (go_at_call 11; refine (sorted16_t (H0.out.later hb1) (by omega)).mono ?_; rintro e w2 ⟨a2, c2, rfl, hr2, hb2⟩))
      have HB2 : Hid (Below w.heap.size w w2) := hb1.trans (hb2.mono hb1.size)
      obtain ⟨SR, hSR⟩ : ∃ S, S = srtR 0 rs := ⟨_, rfl⟩
      rw [← hSR] at hr2 hz hsum hlen hord
      have hSn : SR.length = n := by omega
      have HR2 := hidM hr2
      have HPU : Hid (Szr SR ∧ sumR SR ≤ 2100 ∧ SR.length = n ∧ n ≤ 20) := ⟨hz, hsum, hSn, by omega⟩
      have HORD := hidM hord
      clear hSR hz hsum hlen hord hSn hn h20 h20' hli hb1 hb2 hr2
      go_loopg [4, 5, 29] n (fun kx s4 s5 s29 wr => ∃ (k tot : Nat) (xs : List Value), s29 = .int .i64 (k : Int) ∧ s5 = .int .i64 (tot : Int) ∧ k + kx = n ∧ Hid (RowS slvE w2.heap.size wr s4 xs ∧ Rws (fun b => b < w2.heap.size) wr xs (SR.reverse.take k) ∧ tot = sumR (SR.take k) ∧ Below w2.heap.size w2 wr))
      case atStart => exact ⟨0, 0, [], rfl, rfl, by omega, RowS.nil _ _, ⟨rfl, fun j x l h1 h2 => by simp at h1⟩, by simp [sumR], Below.refl _ _⟩
      case round =>
        obtain ⟨k, tot, xs, rfl, rfl, hg, HK⟩ := hrel
        have htot : tot ≤ 2 ^ 20 := by have := HK.out.2.2.1; have := sumR_take SR k; have := HPU.out.2.1; omega
        by_cases hk : k < n
        · have hk' : (k : Int) < (n : Int) := by omega
          have hk0 : (0 : Int) ≤ (k : Int) := by omega
          obtain ⟨oa, oc, hv4, -⟩ := HK.out.1.rs
          obtain ⟨on, hon⟩ : ∃ m, m = xs.length := ⟨_, rfl⟩
          rw [← hon] at hv4
          clear hon
          subst hv4
          obtain ⟨l, hlx⟩ : ∃ l, SR[n - 1 - k]? = some l := ⟨_, List.getElem?_eq_getElem (by have := HPU.out; omega)⟩
          obtain ⟨l2, hl2⟩ : ∃ l, SR[k]? = some l := ⟨_, List.getElem?_eq_getElem (by have := HPU.out; omega)⟩
          obtain ⟨b, off, la, lc, rfl, c0, hrl⟩ := HR2.out.at' (n - 1 - k) l hlx
          obtain ⟨b', off', lb, lcb, e', c1, hrl2⟩ := HR2.out.at' k l2 hl2
          simp only [Option.some.injEq, Addr.mk.injEq, and_true] at e'
          obtain ⟨rfl, rfl⟩ := e'
          have hrev : SR.reverse[k]? = some l := by rw [List.getElem?_reverse (by have := HPU.out; omega)]; have := HPU.out.2.2.1; rw [this]; exact hlx
          have hrf := rs_refsE (by decide) hrl
          have hb1 : Below wr.heap.size wr (wr.alloc (.cells #[.slice la l.length lc] 27)) := (Below.refl _ _).alloc (Nat.le_refl _) _
          have hB1 := HK.out.2.2.2.trans (hb1.mono HK.out.2.2.2.size)
          have HAP : Hid (RowS slvE w2.heap.size (wr.alloc (.cells #[.slice la l.length lc] 27)) (.slice oa on oc) xs ∧ RSu slvE (wr.alloc (.cells #[.slice la l.length lc] 27)) (some ⟨wr.heap.size, 0, none⟩) 1 1 [.slice la l.length lc] [.slice la l.length lc] ∧ (∀ u ∈ [Value.slice la l.length lc], ∀ b, Refs u b → (Value.slice oa on oc).ownBlock ≠ some b) ∧ w2.heap.size ≤ (wr.alloc (.cells #[.slice la l.length lc] 27)).heap.size ∧ Rws (fun b => b < w2.heap.size) (wr.alloc (.cells #[.slice la l.length lc] 27)) xs (SR.reverse.take k) ∧ RSG entE (fun b => b < w2.heap.size) (wr.alloc (.cells #[.slice la l.length lc] 27)) la l.length lc l ∧ Below w2.heap.size w2 (wr.alloc (.cells #[.slice la l.length lc] 27)) ∧ xs.length = k) := by
            refine ⟨HK.out.1.later hb1, rs_one (E := slvE) ⟨rfl, rfl, fun b hr => ?_⟩, fun u hu b hr e => ?_, hB1.size, HK.out.2.1.later hb1, (RSG.any hrl).later hB1, hB1, ?_⟩
            · have := hrf b hr
              have := HK.out.2.2.2.size
              omega
            · rw [List.mem_singleton.1 hu] at hr
              have := hrf b hr
              have := (HK.out.1.own_lt e).1
              omega
            · have := HK.out.2.1.1
              rw [this, List.length_take, List.length_reverse]
              have := HPU.out
              omega
          have hc0 := cell_later hB1 c0
          have hc1 := fun wx (hb : Below w2.heap.size w2 wx) => cell_later hb c1
          have HC1 := hidM hc1
          have HT1 : Hid (SR.reverse.take (k + 1) = SR.reverse.take k ++ [l]) := by show _ = _; rw [List.take_add_one, hrev]; rfl
          have HT2 : Hid (tot + l2.length = sumR (SR.take (k + 1))) := by
            show _ = _
            rw [List.take_add_one, hl2]
            show _ = sumR (SR.take k ++ [l2])
            rw [sumR_snoc, HK.out.2.2.1]
          have hl262 : l2.length ≤ 2 ^ 20 := by have := HPU.out.1.row l2 (List.mem_of_getElem? hl2); omega
          have hc0' := cell_later HK.out.2.2.2 c0
          have hi1 : (k : Int) ≤ (n : Int) - 1 := by omega
          have hi2 : (n : Int) - 1 - (k : Int) < (n : Int) := by omega
          have HG := hidM (And.intro hg hk)
          generalize l2.length = L2 at HC1 HT2 hl262
          have HLX : Hid (∃ z, z = l.length) := ⟨_, rfl⟩
          clear hg hk hlx hl2 c0 c1 hrl hrl2 hrev hrf hb1 hB1 hc1 HK
          go_wp2_with (at_builtin; refine wpList_appS slvE (t := 22) (z := .slice none 0 0) (bytes := 24) Try.underlying22 slvE_info rfl (by decide) rfl (.tmp 32) (.tmp 41) rfl rfl HAP.out.1 rfl HAP.out.2.1 HAP.out.2.2.1 (by have h1 := HAP.out.2.2.2.2.2.2.2; have h2 := HG.out; omega) (by have h1 := HAP.out.2.2.2.2.2.2.2; have h2 := HG.out; omega) HAP.out.2.2.2.1 ?_; intro v9 w9 r9 g9 m9; have HB9 := hidM (HAP.out.2.2.2.2.2.2.1.grown g9 HAP.out.2.2.2.2.2.2.1.size (fun z hz => (HAP.out.1.own_lt hz).1)); have hd1 := HC1.out w9 HB9.out; clear m9)
          go_roundg (n - (k + 1))
          case measure => have := HG.out; omega
          case rel =>
            have hGo : ∀ b, b < w2.heap.size → some b ≠ (Value.slice oa on oc).ownBlock := fun b hb e => by have := (HAP.out.1.own_lt e.symm).1; omega
            have hR := HAP.out.2.2.2.2.1.grown g9 hGo fun x hx b hr e => by
              obtain ⟨us, _, hlay, hsep⟩ := HAP.out.1
              obtain rfl := lay_slv hlay
              exact hsep x hx b hr e.symm
            have hS := HAP.out.2.2.2.2.2.1.grown (by decide) g9 hGo fun b off ea hn0 e => HAP.out.2.2.1 (.slice la l.length lc) (List.mem_singleton.2 rfl) b ⟨off, l.length, lc, by rw [ea], hn0⟩ e.symm
            exact ⟨k + 1, tot + L2, xs ++ [.slice la l.length lc], by go_num, by go_num, by have := HG.out; omega, r9, by rw [HT1.out]; exact hR.snoc hS, HT2.out, HB9.out⟩
        · have hk' : ¬ (k : Int) < (n : Int) := by omega
          have hkn : k = n := by omega
          subst hkn
          have HB := hidM HK.out.2.2.2
          have hlr : SR.reverse.length = k := by rw [List.length_reverse]; exact HPU.out.2.2.1
          obtain ⟨a3, c3, hv3, hr3⟩ := HK.out.2.1.er HK.out.1
          rw [List.take_of_length_le (by omega), hlr] at hv3 hr3
          subst hv3
          have htt := HK.out.2.2.1
          rw [List.take_of_length_le (by have := HPU.out; omega)] at htt
          have hzR : Szr SR.reverse := HPU.out.1.sub (by rw [List.length_reverse]; omega) (fun l hl => List.mem_reverse.1 hl)
          have hoR : ∀ l ∈ SR.reverse, ordE l := fun l hl => HORD.out l (List.mem_reverse.1 hl)
          have hc1 := mrC_ok HORD.out (by have := HPU.out; omega) (by have := HPU.out; omega)
          have hc2 := mrC_ok hoR (by have := HPU.out; omega) (by rw [sumR_rev]; have := HPU.out; omega)
          have hr2 := HR2.out.later HB.out
          have HM1 := merge_ok hr2 HPU.out.1 hc1
          have HM2 : Hid (∀ wx, Below wr.heap.size wr wx → Calls Try.prog 12 #[.slice a3 k c3] wx fun r w' => ∃ a c, r = .returned (.tuple #[.slice a (mrgE SR.reverse).length c, .int .i64 0]) ∧ RS entE w' a (mrgE SR.reverse).length c (mrgE SR.reverse) ∧ Below wx.heap.size wx w') := fun wx hb => merge_ok (hr3.later hb) hzR hc2
          have HM3 : Hid (∀ wx, Below wr.heap.size wr wx → Calls Try.prog 16 #[.slice a2 k c2] wx fun r w' => ∃ (w1 : World) (a : Option Addr) (c : Nat), r = .returned (.tuple #[ptI w1.heap.size, .int .i64 0]) ∧ RS entE w1 a (mrgE SR).length c (mrgE SR) ∧ Below wx.heap.size wx w1 ∧ ItM w' w1.heap.size a (mrgE SR).length c 0 ∧ Below w1.heap.size w1 w') := fun wx hb => new_t (hr2.later hb) HPU.out.1 hc1
          have HTU := hidM (mrg_turn HORD.out)
          have HSM := hidM (mrgE_small HPU.out.1)
          have HWK : Hid ((mrgE SR).Pairwise fun x y => ahead x y ≤ 0) := mrgE_wk HORD.out
          have HN0 : Hid (tot ≤ 2100) := by show _ ≤ _; rw [htt]; exact HPU.out.2.1
          have hN1 : (mrgE SR).length = tot := by rw [htt]; exact mrgE_len SR
          have hN2 : (mrgE SR.reverse).length = tot := by rw [mrgE_len, htt]; exact sumR_rev SR
          rw [hN1] at HM1 HM3
          rw [hN2] at HM2
          have HNN := hidM (And.intro hN1 hN2)
          generalize mrgE SR = M at HM1 HM3 HTU HSM HNN HWK
          generalize mrgE SR.reverse = M2 at HM2 HTU HNN
          clear hg hk hk' hlr hr3 htt hzR hoR hc1 hc2 hr2 hN1 hN2 HK
          go_wp2_with (first | (go_at_call 12; refine HM1.mono ?_; rintro r w5 ⟨a5, c5, rfl, hr5, hb5⟩; have H5 := hidM (And.intro hr5 hb5); clear hr5 hb5 HM1) | (go_at_call 12; refine (HM2.out _ H5.out.2).mono ?_; rintro r w6 ⟨a6, c6, rfl, hr6, hb6⟩; have H6 := hidM (And.intro hr6 (And.intro (H5.out.2.trans (hb6.mono H5.out.2.size)) hb6)); clear hr6 hb6 HM2) | (go_at_call 16; refine (HM3.out _ H6.out.2.1).mono ?_; rintro r w8 ⟨w7, a7, c7, rfl, hr7, hb7, hI7, hb8⟩; have H7 := hidM (And.intro hr7 (And.intro hb7 (And.intro hI7 hb8))); clear hr7 hb7 hI7 hb8 HM3))
          obtain ⟨p, hp⟩ : ∃ p, p = w7.heap.size := ⟨_, rfl⟩
          rw [← hp] at H7 ⊢
          have HP := hidM hp
          have H57 : Hid (Below w5.heap.size w5 w7 ∧ Below w6.heap.size w6 w7 ∧ Below w.heap.size w w7 ∧ w5.heap.size ≤ p ∧ w6.heap.size ≤ p ∧ w.heap.size ≤ p) := by
            have e1 : Below w5.heap.size w5 w7 := H6.out.2.2.trans (H7.out.2.1.mono H6.out.2.2.size)
            have e0 : Below w.heap.size w wr := HB2.out.trans (HB.out.mono HB2.out.size)
            have e2 : Below w.heap.size w w6 := e0.trans (H6.out.2.1.mono e0.size)
            have e3 : Below w.heap.size w w7 := e2.trans (H7.out.2.1.mono e2.size)
            exact ⟨e1, H7.out.2.1, e3, by rw [hp]; exact e1.size, by rw [hp]; exact H7.out.2.1.size, by rw [hp]; exact e3.size⟩
          have H5R := hidM H5.out.1
          have H6R := hidM H6.out.1
          clear hp H5 H6 HB HB2 HR2 H0 HPU HORD
          go_loopg [90] tot (fun kx s90 wx => ∃ j : Nat, s90 = .int .i64 (j : Int) ∧ j + kx = tot ∧ Hid (ItM wx p a7 tot c7 j ∧ Below p w7 wx))
          case atStart => exact ⟨0, rfl, by omega, H7.out.2.2.1, H7.out.2.2.2⟩
          case round =>
            obtain ⟨j, rfl, hg, HJ⟩ := hrel
            by_cases hj : j < tot
            · have hj1 : (0 : Int) ≤ (j : Int) := by omega
              have hj2 : (j : Int) < (tot : Int) := by omega
              have HNX := hidM (next_t HJ.out.1 H7.out.1 HP.out HJ.out.2 hj HSM.out (by omega))
              have HG := hidM (And.intro hg hj)
              have hpw := HJ.out.1.lt
              clear hg hj
              go_upto_region 21 with (go_at_call 19; refine HNX.out.mono ?_; rintro r wy ⟨ka, va, kc, vc, x, hx, rfl, hs1, hs2, hI2, hbp⟩; have HY := hidM (And.intro hx (And.intro hs1 (And.intro hs2 (And.intro hI2 hbp)))); clear hx hs1 hs2 hI2 hbp; unfold entA)
              rename_i hkk
              obtain ⟨W, hW⟩ : ∃ z, z = wy.alloc (.cells #[.slice ka x.key.length kc, .int .i64 x.seq, .bool x.gone, .int .i64 x.till, .slice va x.val.length vc] 35) := ⟨_, rfl⟩
              have bW : Below wy.heap.size wy W := by rw [hW]; exact (Below.refl _ _).alloc (Nat.le_refl _) _
              rw [show wy.alloc (.cells #[.slice ka x.key.length kc, .int .i64 x.seq, .bool x.gone, .int .i64 x.till, .slice va x.val.length vc] 35) = W from hW.symm]
              have hpy : p < wy.heap.size := HY.out.2.2.2.1.lt
              have hBW : Below p w7 W := (HJ.out.2.trans HY.out.2.2.2.2).trans (bW.mono (Nat.le_of_lt hpy))
              have b5W : Below w5.heap.size w5 W := H57.out.1.trans (hBW.mono H57.out.2.2.2.1)
              have b6W : Below w6.heap.size w6 W := H57.out.2.1.trans (hBW.mono H57.out.2.2.2.2.1)
              have hx := HY.out.1
              have hy2 : ∃ y, M2[j]? = some y := ⟨_, List.getElem?_eq_getElem (by have := HNN.out; have := HG.out; omega)⟩
              obtain ⟨y, hy⟩ := hy2
              have hxy : ahead x y = 0 := by
                have e := congrArg (fun l => l[j]?) HTU.out.1
                simp only [List.getElem?_map, hx, hy, Option.map_some, Option.some.injEq] at e
                exact ahead_same x y e
              obtain ⟨b5, o5, kg, kcg, vg, vcg, ha5, d0, d1, d2, d3, d4, sg1, sg2, -, -⟩ := RS.ent (H5R.out.later b5W) hx
              obtain ⟨b6, o6, ko, kco, vo, vco, ha6, f0, f1, f2, f3, f4, so1, so2, -, -⟩ := RS.ent (H6R.out.later b6W) hy
              have hq : W.heap[wy.heap.size]? = some (.cells #[.slice ka x.key.length kc, .int .i64 x.seq, .bool x.gone, .int .i64 x.till, .slice va x.val.length vc] 35) := by rw [hW]; exact heap_alloc_new wy _
              have e0 : W.cell? ⟨wy.heap.size, 0, none⟩ = some (.slice ka x.key.length kc) := by rw [cell_of hq]; rfl
              have e1 : W.cell? ⟨wy.heap.size, 1, none⟩ = some (.int .i64 x.seq) := by rw [cell_of hq]; rfl
              have e2 : W.cell? ⟨wy.heap.size, 2, none⟩ = some (.bool x.gone) := by rw [cell_of hq]; rfl
              have e3 : W.cell? ⟨wy.heap.size, 3, none⟩ = some (.int .i64 x.till) := by rw [cell_of hq]; rfl
              have e4 : W.cell? ⟨wy.heap.size, 4, none⟩ = some (.slice va x.val.length vc) := by rw [cell_of hq]; rfl
              have ss1 := HY.out.2.1.later bW
              have ss2 := HY.out.2.2.1.later bW
              have HC1 : Hid (∀ wz, Below W.heap.size W wz → Calls Try.prog 20 #[.agg #[.slice ka x.key.length kc, .int .i64 x.seq, .bool x.gone, .int .i64 x.till, .slice va x.val.length vc], .agg #[.slice kg x.key.length kcg, .int .i64 x.seq, .bool x.gone, .int .i64 x.till, .slice vg x.val.length vcg]] wz fun e w' => e = .returned (.bool true) ∧ Below wz.heap.size wz w') := fun wz hb => rsameE1_eq (ss1.later hb) (ss2.later hb) (sg1.later hb) (sg2.later hb)
              have HC2 : Hid (∀ wz, Below W.heap.size W wz → Calls Try.prog 22 #[.agg #[.slice kg x.key.length kcg, .int .i64 x.seq, .bool x.gone, .int .i64 x.till, .slice vg x.val.length vcg], .agg #[.slice ko y.key.length kco, .int .i64 y.seq, .bool y.gone, .int .i64 y.till, .slice vo y.val.length vco]] wz fun e w' => e = .returned (.int .i64 0) ∧ Below wz.heap.size wz w') := fun wz hb => by
                have := rahead_any (va := vg) (vb := vo) (vc := vcg) (vd := vco) (sg1.later hb) (so1.later hb)
                rw [hxy] at this
                exact this
              have HN : Hid (ItM W p a7 tot c7 (j + 1) ∧ Below p w7 W ∧ p < W.heap.size) := ⟨HY.out.2.2.2.1.later bW, hBW, by have := bW.size; omega⟩
              subst ha5
              subst ha6
              by_cases hj0 : 0 < j
              · have hjp : 0 < j := hj0
                obtain ⟨i, hi⟩ : ∃ i, i = j - 1 := ⟨_, rfl⟩
                have hwa : IntKind.i64.wrap ((j : Int) - 1) = (i : Int) := by have := HG.out; rw [IntKind.wrap_i64]; omega
                have hwb : wrap64 ((j : Int) - 1) = (i : Int) := by have := HG.out; unfold wrap64; omega
                have hi1 : (0 : Int) ≤ (i : Int) := by omega
                have hi2 : (i : Int) < (tot : Int) := by omega
                obtain ⟨z, hz⟩ : ∃ z, M[i]? = some z := ⟨_, List.getElem?_eq_getElem (by have := HNN.out; have := HG.out; omega)⟩
                obtain ⟨b7, o7, kz, kcz, vz, vcz, ha7, g0, g1, g2, g3, g4, sz1, sz2, -, -⟩ := RS.ent (H5R.out.later b5W) hz
                simp only [Option.some.injEq, Addr.mk.injEq, and_true] at ha7
                obtain ⟨rfl, rfl⟩ := ha7
                obtain ⟨c3, hc3v⟩ : ∃ c, c = ahead z x := ⟨_, rfl⟩
                have hc3 : ¬ (0 : Int) < c3 := by
                  obtain ⟨q1, rfl⟩ := List.getElem?_eq_some_iff.1 hz
                  obtain ⟨q2, rfl⟩ := List.getElem?_eq_some_iff.1 hx
                  have := List.pairwise_iff_getElem.1 HWK.out i j q1 q2 (by omega)
                  rw [hc3v]; omega
                have HC3 : Hid (∀ wz, Below W.heap.size W wz → Calls Try.prog 22 #[.agg #[.slice kz z.key.length kcz, .int .i64 z.seq, .bool z.gone, .int .i64 z.till, .slice vz z.val.length vcz], .agg #[.slice kg x.key.length kcg, .int .i64 x.seq, .bool x.gone, .int .i64 x.till, .slice vg x.val.length vcg]] wz fun e w' => e = .returned (.int .i64 c3) ∧ Below wz.heap.size wz w') := fun wz hb => by
                  have := rahead_any (va := vz) (vb := vg) (vc := vcz) (vd := vcg) (sz1.later hb) (sg1.later hb)
                  rw [← hc3v] at this
                  exact this
                have HRC : Hid (∀ wz, Below W.heap.size W wz → (wz.cell? ⟨wy.heap.size, 0, none⟩ = some (.slice ka x.key.length kc) ∧ wz.cell? ⟨wy.heap.size, 1, none⟩ = some (.int .i64 x.seq) ∧ wz.cell? ⟨wy.heap.size, 2, none⟩ = some (.bool x.gone) ∧ wz.cell? ⟨wy.heap.size, 3, none⟩ = some (.int .i64 x.till) ∧ wz.cell? ⟨wy.heap.size, 4, none⟩ = some (.slice va x.val.length vc)) ∧ (wz.cell? ⟨b5, o5 + j * 5, none⟩ = some (.slice kg x.key.length kcg) ∧ wz.cell? ⟨b5, o5 + j * 5 + 1, none⟩ = some (.int .i64 x.seq) ∧ wz.cell? ⟨b5, o5 + j * 5 + 2, none⟩ = some (.bool x.gone) ∧ wz.cell? ⟨b5, o5 + j * 5 + 3, none⟩ = some (.int .i64 x.till) ∧ wz.cell? ⟨b5, o5 + j * 5 + 4, none⟩ = some (.slice vg x.val.length vcg)) ∧ (wz.cell? ⟨b6, o6 + j * 5, none⟩ = some (.slice ko y.key.length kco) ∧ wz.cell? ⟨b6, o6 + j * 5 + 1, none⟩ = some (.int .i64 y.seq) ∧ wz.cell? ⟨b6, o6 + j * 5 + 2, none⟩ = some (.bool y.gone) ∧ wz.cell? ⟨b6, o6 + j * 5 + 3, none⟩ = some (.int .i64 y.till) ∧ wz.cell? ⟨b6, o6 + j * 5 + 4, none⟩ = some (.slice vo y.val.length vco)) ∧ (wz.cell? ⟨b5, o5 + i * 5, none⟩ = some (.slice kz z.key.length kcz) ∧ wz.cell? ⟨b5, o5 + i * 5 + 1, none⟩ = some (.int .i64 z.seq) ∧ wz.cell? ⟨b5, o5 + i * 5 + 2, none⟩ = some (.bool z.gone) ∧ wz.cell? ⟨b5, o5 + i * 5 + 3, none⟩ = some (.int .i64 z.till) ∧ wz.cell? ⟨b5, o5 + i * 5 + 4, none⟩ = some (.slice vz z.val.length vcz))) := fun wz hb => ⟨⟨cell_later hb e0, cell_later hb e1, cell_later hb e2, cell_later hb e3, cell_later hb e4⟩, ⟨cell_later hb d0, cell_later hb d1, cell_later hb d2, cell_later hb d3, cell_later hb d4⟩, ⟨cell_later hb f0, cell_later hb f1, cell_later hb f2, cell_later hb f3, cell_later hb f4⟩, ⟨cell_later hb g0, cell_later hb g1, cell_later hb g2, cell_later hb g3, cell_later hb g4⟩⟩
                clear hi hz g0 g1 g2 g3 g4 sz1 sz2 hc3v d0 d1 d2 d3 d4 f0 f1 f2 f3 f4 e0 e1 e2 e3 e4 sg1 sg2 so1 so2 ss1 ss2 hq hx hy hxy bW hBW b5W b6W hW
                refine wp_region_vals (by kernel_rfl) (by decide +kernel) 150 rfl (by decide +kernel) [.bool true, .bool false, .bool false, .agg #[.slice ka x.key.length kc, .int .i64 x.seq, .bool x.gone, .int .i64 x.till, .slice va x.val.length vc], .slice (some ⟨b5, o5, none⟩) tot c5, .int .i64 (j : Int), .pointer (some ⟨b5, o5 + j * 5, none⟩), .agg #[.slice kg x.key.length kcg, .int .i64 x.seq, .bool x.gone, .int .i64 x.till, .slice vg x.val.length vcg], .bool true, .bool false, .bool false, .bool false, .slice (some ⟨b5, o5, none⟩) tot c5, .int .i64 (j : Int), .pointer (some ⟨b5, o5 + j * 5, none⟩), .agg #[.slice kg x.key.length kcg, .int .i64 x.seq, .bool x.gone, .int .i64 x.till, .slice vg x.val.length vcg], .slice (some ⟨b6, o6, none⟩) tot c6, .int .i64 (j : Int), .pointer (some ⟨b6, o6 + j * 5, none⟩), .agg #[.slice ko y.key.length kco, .int .i64 y.seq, .bool y.gone, .int .i64 y.till, .slice vo y.val.length vco], .int .i64 0, .bool false, .bool false, .bool false, .int .i64 (j : Int), .bool true, .bool true, .slice (some ⟨b5, o5, none⟩) tot c5, .int .i64 (j : Int), .int .i64 (i : Int), .pointer (some ⟨b5, o5 + i * 5, none⟩), .agg #[.slice kz z.key.length kcz, .int .i64 z.seq, .bool z.gone, .int .i64 z.till, .slice vz z.val.length vcz], .slice (some ⟨b5, o5, none⟩) tot c5, .int .i64 (j : Int), .pointer (some ⟨b5, o5 + j * 5, none⟩), .agg #[.slice kg x.key.length kcg, .int .i64 x.seq, .bool x.gone, .int .i64 x.till, .slice vg x.val.length vcg], .int .i64 c3, .bool false, .bool false, .bool false] rfl ?_ [98, 99, 100, 101, 102, 103, 104, 105, 106, 107, 108, 109, 110, 111, 112, 113, 114, 115, 116, 117, 118, 119, 120, 121, 122, 123, 124, 125, 126, 127, 128, 129, 130, 131, 132, 133, 134, 135, 136, 137] (by decide +kernel) ?_
                rotate_left
                · intro w9 B9
                  refine hkk _ _ ?_
                  rw [putR4]
                  go_wp2_with fail
                  go_roundg (tot - (j + 1))
                  case measure => have := HG.out; omega
                  case rel => exact ⟨j + 1, by go_num, by have := HG.out; omega, HN.out.1.later B9, HN.out.2.1.trans (B9.mono (Nat.le_of_lt HN.out.2.2))⟩
                -- 0: slot 98
                refine ⟨fun a w c => ?_, ?_⟩
                · exact goalR_move (c.want0 rfl) (.tmp 15) (.inl rfl) ((c.old 15 rfl).trans rfl) rfl
                -- 1: slot 99
                refine ⟨fun a w c => ?_, ?_⟩
                · have e98 : a.eval (.tmp 98) = _ := c.val 0 _ rfl rfl
                  exact goalR_val (c.want0 rfl) (by have ec : ∀ v, a.eval (.const v) = v := fun _ => rfl; generalize a.eval = ρ at ec e98 ⊢; simp [execOp, go_sem, ec, e98]) rfl
                -- 2: slot 100
                refine ⟨fun a w c => ?_, ?_⟩
                · exact goalR_move (c.want0 rfl) (.tmp 99) (.inl rfl) (c.val 1 _ rfl rfl) rfl
                -- 3: slot 101
                refine ⟨fun a w c => ?_, ?_⟩
                · have hw := c.want 2 false rfl rfl rfl
                  have e14 : a.eval (.tmp 14) = _ := (c.old 14 rfl).trans rfl
                  obtain ⟨y0, y1, y2, y3, y4⟩ := (HRC.out w c.below).1
                  exact goalR_val hw (by have ec : ∀ v, a.eval (.const v) = v := fun _ => rfl; generalize a.eval = ρ at ec e14 ⊢; simp [execOp, go_sem, ec, e14, y0, y1, y2, y3, y4]) rfl
                -- 4: slot 102
                refine ⟨fun a w c => ?_, ?_⟩
                · exact goalR_move (c.want 2 false rfl rfl rfl) (.tmp 7) (.inl rfl) ((c.old 7 rfl).trans rfl) rfl
                -- 5: slot 103
                refine ⟨fun a w c => ?_, ?_⟩
                · exact goalR_move (c.want 2 false rfl rfl rfl) (.tmp 13) (.inl rfl) ((c.old 13 rfl).trans rfl) rfl
                -- 6: slot 104
                refine ⟨fun a w c => ?_, ?_⟩
                · have hw := c.want 2 false rfl rfl rfl
                  have e102 : a.eval (.tmp 102) = _ := c.val 4 _ rfl rfl
                  have e103 : a.eval (.tmp 103) = _ := c.val 5 _ rfl rfl
                  exact goalR_val hw (by have ec : ∀ v, a.eval (.const v) = v := fun _ => rfl; generalize a.eval = ρ at ec e102 e103 ⊢; simp [execOp, go_sem, ec, e102, e103, elem27, Try.sizeOf35, hj1, hj2]) rfl
                -- 7: slot 105
                refine ⟨fun a w c => ?_, ?_⟩
                · have hw := c.want 2 false rfl rfl rfl
                  have e104 : a.eval (.tmp 104) = _ := c.val 6 _ rfl rfl
                  obtain ⟨y0, y1, y2, y3, y4⟩ := (HRC.out w c.below).2.1
                  exact goalR_val hw (by have ec : ∀ v, a.eval (.const v) = v := fun _ => rfl; generalize a.eval = ρ at ec e104 ⊢; simp [execOp, go_sem, ec, e104, y0, y1, y2, y3, y4]) rfl
                -- 8: slot 106
                refine ⟨fun a w c => ?_, ?_⟩
                · have hw := c.want 2 false rfl rfl rfl
                  have e101 : a.eval (.tmp 101) = _ := c.val 3 _ rfl rfl
                  have e105 : a.eval (.tmp 105) = _ := c.val 7 _ rfl rfl
                  exact goalR_fn hw rfl (by simp only [List.map_toArray, List.map_cons, List.map_nil, e101, e105]) (by kernel_rfl) ((HC1.out w c.below).mono fun e w' ⟨he, hb⟩ => ⟨_, he, outR_val rfl hb⟩)
                -- 9: slot 107
                refine ⟨fun a w c => ?_, ?_⟩
                · have e106 : a.eval (.tmp 106) = _ := c.val 8 _ rfl rfl
                  exact goalR_val (c.want 2 false rfl rfl rfl) (by have ec : ∀ v, a.eval (.const v) = v := fun _ => rfl; generalize a.eval = ρ at ec e106 ⊢; simp [execOp, go_sem, ec, e106]) rfl
                -- 10: slot 108
                refine ⟨fun a w c => ?_, ?_⟩
                · have e100 : a.eval (.tmp 100) = _ := c.val 2 _ rfl rfl
                  have e107 : a.eval (.tmp 107) = _ := c.val 9 _ rfl rfl
                  exact goalR_val (c.want0 rfl) (by have ec : ∀ v, a.eval (.const v) = v := fun _ => rfl; generalize a.eval = ρ at ec e100 e107 ⊢; simp [execOp, go_sem, ec, e100, e107]) rfl
                -- 11: slot 109
                refine ⟨fun a w c => ?_, ?_⟩
                · exact goalR_move (c.want0 rfl) (.tmp 108) (.inl rfl) (c.val 10 _ rfl rfl) rfl
                -- 12: slot 110
                refine ⟨fun a w c => ?_, ?_⟩
                · exact goalR_move (c.want 11 false rfl rfl rfl) (.tmp 7) (.inl rfl) ((c.old 7 rfl).trans rfl) rfl
                -- 13: slot 111
                refine ⟨fun a w c => ?_, ?_⟩
                · exact goalR_move (c.want 11 false rfl rfl rfl) (.tmp 13) (.inl rfl) ((c.old 13 rfl).trans rfl) rfl
                -- 14: slot 112
                refine ⟨fun a w c => ?_, ?_⟩
                · have hw := c.want 11 false rfl rfl rfl
                  have e110 : a.eval (.tmp 110) = _ := c.val 12 _ rfl rfl
                  have e111 : a.eval (.tmp 111) = _ := c.val 13 _ rfl rfl
                  exact goalR_val hw (by have ec : ∀ v, a.eval (.const v) = v := fun _ => rfl; generalize a.eval = ρ at ec e110 e111 ⊢; simp [execOp, go_sem, ec, e110, e111, elem27, Try.sizeOf35, hj1, hj2]) rfl
                -- 15: slot 113
                refine ⟨fun a w c => ?_, ?_⟩
                · have hw := c.want 11 false rfl rfl rfl
                  have e112 : a.eval (.tmp 112) = _ := c.val 14 _ rfl rfl
                  obtain ⟨y0, y1, y2, y3, y4⟩ := (HRC.out w c.below).2.1
                  exact goalR_val hw (by have ec : ∀ v, a.eval (.const v) = v := fun _ => rfl; generalize a.eval = ρ at ec e112 ⊢; simp [execOp, go_sem, ec, e112, y0, y1, y2, y3, y4]) rfl
                -- 16: slot 114
                refine ⟨fun a w c => ?_, ?_⟩
                · exact goalR_move (c.want 11 false rfl rfl rfl) (.tmp 9) (.inl rfl) ((c.old 9 rfl).trans rfl) rfl
                -- 17: slot 115
                refine ⟨fun a w c => ?_, ?_⟩
                · exact goalR_move (c.want 11 false rfl rfl rfl) (.tmp 13) (.inl rfl) ((c.old 13 rfl).trans rfl) rfl
                -- 18: slot 116
                refine ⟨fun a w c => ?_, ?_⟩
                · have hw := c.want 11 false rfl rfl rfl
                  have e114 : a.eval (.tmp 114) = _ := c.val 16 _ rfl rfl
                  have e115 : a.eval (.tmp 115) = _ := c.val 17 _ rfl rfl
                  exact goalR_val hw (by have ec : ∀ v, a.eval (.const v) = v := fun _ => rfl; generalize a.eval = ρ at ec e114 e115 ⊢; simp [execOp, go_sem, ec, e114, e115, elem27, Try.sizeOf35, hj1, hj2]) rfl
                -- 19: slot 117
                refine ⟨fun a w c => ?_, ?_⟩
                · have hw := c.want 11 false rfl rfl rfl
                  have e116 : a.eval (.tmp 116) = _ := c.val 18 _ rfl rfl
                  obtain ⟨y0, y1, y2, y3, y4⟩ := (HRC.out w c.below).2.2.1
                  exact goalR_val hw (by have ec : ∀ v, a.eval (.const v) = v := fun _ => rfl; generalize a.eval = ρ at ec e116 ⊢; simp [execOp, go_sem, ec, e116, y0, y1, y2, y3, y4]) rfl
                -- 20: slot 118
                refine ⟨fun a w c => ?_, ?_⟩
                · have hw := c.want 11 false rfl rfl rfl
                  have e113 : a.eval (.tmp 113) = _ := c.val 15 _ rfl rfl
                  have e117 : a.eval (.tmp 117) = _ := c.val 19 _ rfl rfl
                  exact goalR_fn hw rfl (by simp only [List.map_toArray, List.map_cons, List.map_nil, e113, e117]) (by kernel_rfl) ((HC2.out w c.below).mono fun e w' ⟨he, hb⟩ => ⟨_, he, outR_val rfl hb⟩)
                -- 21: slot 119
                refine ⟨fun a w c => ?_, ?_⟩
                · have e118 : a.eval (.tmp 118) = _ := c.val 20 _ rfl rfl
                  exact goalR_val (c.want 11 false rfl rfl rfl) (by have ec : ∀ v, a.eval (.const v) = v := fun _ => rfl; generalize a.eval = ρ at ec e118 ⊢; simp [execOp, go_sem, ec, e118]) rfl
                -- 22: slot 120
                refine ⟨fun a w c => ?_, ?_⟩
                · have e109 : a.eval (.tmp 109) = _ := c.val 11 _ rfl rfl
                  have e119 : a.eval (.tmp 119) = _ := c.val 21 _ rfl rfl
                  exact goalR_val (c.want0 rfl) (by have ec : ∀ v, a.eval (.const v) = v := fun _ => rfl; generalize a.eval = ρ at ec e109 e119 ⊢; simp [execOp, go_sem, ec, e109, e119]) rfl
                -- 23: slot 121
                refine ⟨fun a w c => ?_, ?_⟩
                · exact goalR_move (c.want0 rfl) (.tmp 120) (.inl rfl) (c.val 22 _ rfl rfl) rfl
                -- 24: slot 122
                refine ⟨fun a w c => ?_, ?_⟩
                · exact goalR_move (c.want 23 false rfl rfl rfl) (.tmp 13) (.inl rfl) ((c.old 13 rfl).trans rfl) rfl
                -- 25: slot 123
                refine ⟨fun a w c => ?_, ?_⟩
                · have hw := c.want 23 false rfl rfl rfl
                  have e122 : a.eval (.tmp 122) = _ := c.val 24 _ rfl rfl
                  exact goalR_val hw (by have ec : ∀ v, a.eval (.const v) = v := fun _ => rfl; generalize a.eval = ρ at ec e122 ⊢; simp [execOp, go_sem, ec, ec, e122, hjp]) rfl
                -- 26: slot 124
                refine ⟨fun a w c => ?_, ?_⟩
                · exact goalR_move (c.want 23 false rfl rfl rfl) (.tmp 123) (.inl rfl) (c.val 25 _ rfl rfl) rfl
                -- 27: slot 125
                refine ⟨fun a w c => ?_, ?_⟩
                · exact goalR_move (c.want 26 true rfl rfl rfl) (.tmp 7) (.inl rfl) ((c.old 7 rfl).trans rfl) rfl
                -- 28: slot 126
                refine ⟨fun a w c => ?_, ?_⟩
                · exact goalR_move (c.want 26 true rfl rfl rfl) (.tmp 13) (.inl rfl) ((c.old 13 rfl).trans rfl) rfl
                -- 29: slot 127
                refine ⟨fun a w c => ?_, ?_⟩
                · have hw := c.want 26 true rfl rfl rfl
                  have e126 : a.eval (.tmp 126) = _ := c.val 28 _ rfl rfl
                  exact goalR_val hw (by have ec : ∀ v, a.eval (.const v) = v := fun _ => rfl; generalize a.eval = ρ at ec e126 ⊢; simp [execOp, go_sem, ec, ec, e126, hwa, hwb]) rfl
                -- 30: slot 128
                refine ⟨fun a w c => ?_, ?_⟩
                · have hw := c.want 26 true rfl rfl rfl
                  have e125 : a.eval (.tmp 125) = _ := c.val 27 _ rfl rfl
                  have e127 : a.eval (.tmp 127) = _ := c.val 29 _ rfl rfl
                  exact goalR_val hw (by have ec : ∀ v, a.eval (.const v) = v := fun _ => rfl; generalize a.eval = ρ at ec e125 e127 ⊢; simp [execOp, go_sem, ec, e125, e127, elem27, Try.sizeOf35, hi1, hi2]) rfl
                -- 31: slot 129
                refine ⟨fun a w c => ?_, ?_⟩
                · have hw := c.want 26 true rfl rfl rfl
                  have e128 : a.eval (.tmp 128) = _ := c.val 30 _ rfl rfl
                  obtain ⟨y0, y1, y2, y3, y4⟩ := (HRC.out w c.below).2.2.2
                  exact goalR_val hw (by have ec : ∀ v, a.eval (.const v) = v := fun _ => rfl; generalize a.eval = ρ at ec e128 ⊢; simp [execOp, go_sem, ec, e128, y0, y1, y2, y3, y4]) rfl
                -- 32: slot 130
                refine ⟨fun a w c => ?_, ?_⟩
                · exact goalR_move (c.want 26 true rfl rfl rfl) (.tmp 7) (.inl rfl) ((c.old 7 rfl).trans rfl) rfl
                -- 33: slot 131
                refine ⟨fun a w c => ?_, ?_⟩
                · exact goalR_move (c.want 26 true rfl rfl rfl) (.tmp 13) (.inl rfl) ((c.old 13 rfl).trans rfl) rfl
                -- 34: slot 132
                refine ⟨fun a w c => ?_, ?_⟩
                · have hw := c.want 26 true rfl rfl rfl
                  have e130 : a.eval (.tmp 130) = _ := c.val 32 _ rfl rfl
                  have e131 : a.eval (.tmp 131) = _ := c.val 33 _ rfl rfl
                  exact goalR_val hw (by have ec : ∀ v, a.eval (.const v) = v := fun _ => rfl; generalize a.eval = ρ at ec e130 e131 ⊢; simp [execOp, go_sem, ec, e130, e131, elem27, Try.sizeOf35, hj1, hj2]) rfl
                -- 35: slot 133
                refine ⟨fun a w c => ?_, ?_⟩
                · have hw := c.want 26 true rfl rfl rfl
                  have e132 : a.eval (.tmp 132) = _ := c.val 34 _ rfl rfl
                  obtain ⟨y0, y1, y2, y3, y4⟩ := (HRC.out w c.below).2.1
                  exact goalR_val hw (by have ec : ∀ v, a.eval (.const v) = v := fun _ => rfl; generalize a.eval = ρ at ec e132 ⊢; simp [execOp, go_sem, ec, e132, y0, y1, y2, y3, y4]) rfl
                -- 36: slot 134
                refine ⟨fun a w c => ?_, ?_⟩
                · have hw := c.want 26 true rfl rfl rfl
                  have e129 : a.eval (.tmp 129) = _ := c.val 31 _ rfl rfl
                  have e133 : a.eval (.tmp 133) = _ := c.val 35 _ rfl rfl
                  exact goalR_fn hw rfl (by simp only [List.map_toArray, List.map_cons, List.map_nil, e129, e133]) (by kernel_rfl) ((HC3.out w c.below).mono fun e w' ⟨he, hb⟩ => ⟨_, he, outR_val rfl hb⟩)
                -- 37: slot 135
                refine ⟨fun a w c => ?_, ?_⟩
                · have hw := c.want 26 true rfl rfl rfl
                  have e134 : a.eval (.tmp 134) = _ := c.val 36 _ rfl rfl
                  exact goalR_val hw (by have ec : ∀ v, a.eval (.const v) = v := fun _ => rfl; generalize a.eval = ρ at ec e134 ⊢; simp [execOp, go_sem, ec, ec, e134, hc3]) rfl
                -- 38: slot 136
                refine ⟨fun a w c => ?_, ?_⟩
                · have e124 : a.eval (.tmp 124) = _ := c.val 26 _ rfl rfl
                  have e135 : a.eval (.tmp 135) = _ := c.val 37 _ rfl rfl
                  exact goalR_val (c.want 23 false rfl rfl rfl) (by have ec : ∀ v, a.eval (.const v) = v := fun _ => rfl; generalize a.eval = ρ at ec e124 e135 ⊢; simp [execOp, go_sem, ec, e124, e135]) rfl
                -- 39: slot 137
                refine ⟨fun a w c => ?_, ?_⟩
                · have e121 : a.eval (.tmp 121) = _ := c.val 23 _ rfl rfl
                  have e136 : a.eval (.tmp 136) = _ := c.val 38 _ rfl rfl
                  exact goalR_val (c.want0 rfl) (by have ec : ∀ v, a.eval (.const v) = v := fun _ => rfl; generalize a.eval = ρ at ec e121 e136 ⊢; simp [execOp, go_sem, ec, e121, e136]) rfl
                exact True.intro

              · have hjp : j = 0 := by omega
                have HRC : Hid (∀ wz, Below W.heap.size W wz → (wz.cell? ⟨wy.heap.size, 0, none⟩ = some (.slice ka x.key.length kc) ∧ wz.cell? ⟨wy.heap.size, 1, none⟩ = some (.int .i64 x.seq) ∧ wz.cell? ⟨wy.heap.size, 2, none⟩ = some (.bool x.gone) ∧ wz.cell? ⟨wy.heap.size, 3, none⟩ = some (.int .i64 x.till) ∧ wz.cell? ⟨wy.heap.size, 4, none⟩ = some (.slice va x.val.length vc)) ∧ (wz.cell? ⟨b5, o5 + j * 5, none⟩ = some (.slice kg x.key.length kcg) ∧ wz.cell? ⟨b5, o5 + j * 5 + 1, none⟩ = some (.int .i64 x.seq) ∧ wz.cell? ⟨b5, o5 + j * 5 + 2, none⟩ = some (.bool x.gone) ∧ wz.cell? ⟨b5, o5 + j * 5 + 3, none⟩ = some (.int .i64 x.till) ∧ wz.cell? ⟨b5, o5 + j * 5 + 4, none⟩ = some (.slice vg x.val.length vcg)) ∧ (wz.cell? ⟨b6, o6 + j * 5, none⟩ = some (.slice ko y.key.length kco) ∧ wz.cell? ⟨b6, o6 + j * 5 + 1, none⟩ = some (.int .i64 y.seq) ∧ wz.cell? ⟨b6, o6 + j * 5 + 2, none⟩ = some (.bool y.gone) ∧ wz.cell? ⟨b6, o6 + j * 5 + 3, none⟩ = some (.int .i64 y.till) ∧ wz.cell? ⟨b6, o6 + j * 5 + 4, none⟩ = some (.slice vo y.val.length vco)) ∧ True) := fun wz hb => ⟨⟨cell_later hb e0, cell_later hb e1, cell_later hb e2, cell_later hb e3, cell_later hb e4⟩, ⟨cell_later hb d0, cell_later hb d1, cell_later hb d2, cell_later hb d3, cell_later hb d4⟩, ⟨cell_later hb f0, cell_later hb f1, cell_later hb f2, cell_later hb f3, cell_later hb f4⟩, trivial⟩
                clear d0 d1 d2 d3 d4 f0 f1 f2 f3 f4 e0 e1 e2 e3 e4 sg1 sg2 so1 so2 ss1 ss2 hq hx hy hxy bW hBW b5W b6W hW
                refine wp_region_vals (by kernel_rfl) (by decide +kernel) 150 rfl (by decide +kernel) [.bool true, .bool false, .bool false, .agg #[.slice ka x.key.length kc, .int .i64 x.seq, .bool x.gone, .int .i64 x.till, .slice va x.val.length vc], .slice (some ⟨b5, o5, none⟩) tot c5, .int .i64 (j : Int), .pointer (some ⟨b5, o5 + j * 5, none⟩), .agg #[.slice kg x.key.length kcg, .int .i64 x.seq, .bool x.gone, .int .i64 x.till, .slice vg x.val.length vcg], .bool true, .bool false, .bool false, .bool false, .slice (some ⟨b5, o5, none⟩) tot c5, .int .i64 (j : Int), .pointer (some ⟨b5, o5 + j * 5, none⟩), .agg #[.slice kg x.key.length kcg, .int .i64 x.seq, .bool x.gone, .int .i64 x.till, .slice vg x.val.length vcg], .slice (some ⟨b6, o6, none⟩) tot c6, .int .i64 (j : Int), .pointer (some ⟨b6, o6 + j * 5, none⟩), .agg #[.slice ko y.key.length kco, .int .i64 y.seq, .bool y.gone, .int .i64 y.till, .slice vo y.val.length vco], .int .i64 0, .bool false, .bool false, .bool false, .int .i64 (j : Int), .bool false, .bool false, undef, undef, undef, undef, undef, undef, undef, undef, undef, undef, undef, .bool false, .bool false] rfl ?_ [98, 99, 100, 101, 102, 103, 104, 105, 106, 107, 108, 109, 110, 111, 112, 113, 114, 115, 116, 117, 118, 119, 120, 121, 122, 123, 124, 125, 126, 127, 128, 129, 130, 131, 132, 133, 134, 135, 136, 137] (by decide +kernel) ?_
                rotate_left
                · intro w9 B9
                  refine hkk _ _ ?_
                  rw [putR4]
                  go_wp2_with fail
                  go_roundg (tot - (j + 1))
                  case measure => have := HG.out; omega
                  case rel => exact ⟨j + 1, by go_num, by have := HG.out; omega, HN.out.1.later B9, HN.out.2.1.trans (B9.mono (Nat.le_of_lt HN.out.2.2))⟩
                -- 0: slot 98
                refine ⟨fun a w c => ?_, ?_⟩
                · exact goalR_move (c.want0 rfl) (.tmp 15) (.inl rfl) ((c.old 15 rfl).trans rfl) rfl
                -- 1: slot 99
                refine ⟨fun a w c => ?_, ?_⟩
                · have e98 : a.eval (.tmp 98) = _ := c.val 0 _ rfl rfl
                  exact goalR_val (c.want0 rfl) (by have ec : ∀ v, a.eval (.const v) = v := fun _ => rfl; generalize a.eval = ρ at ec e98 ⊢; simp [execOp, go_sem, ec, e98]) rfl
                -- 2: slot 100
                refine ⟨fun a w c => ?_, ?_⟩
                · exact goalR_move (c.want0 rfl) (.tmp 99) (.inl rfl) (c.val 1 _ rfl rfl) rfl
                -- 3: slot 101
                refine ⟨fun a w c => ?_, ?_⟩
                · have hw := c.want 2 false rfl rfl rfl
                  have e14 : a.eval (.tmp 14) = _ := (c.old 14 rfl).trans rfl
                  obtain ⟨y0, y1, y2, y3, y4⟩ := (HRC.out w c.below).1
                  exact goalR_val hw (by have ec : ∀ v, a.eval (.const v) = v := fun _ => rfl; generalize a.eval = ρ at ec e14 ⊢; simp [execOp, go_sem, ec, e14, y0, y1, y2, y3, y4]) rfl
                -- 4: slot 102
                refine ⟨fun a w c => ?_, ?_⟩
                · exact goalR_move (c.want 2 false rfl rfl rfl) (.tmp 7) (.inl rfl) ((c.old 7 rfl).trans rfl) rfl
                -- 5: slot 103
                refine ⟨fun a w c => ?_, ?_⟩
                · exact goalR_move (c.want 2 false rfl rfl rfl) (.tmp 13) (.inl rfl) ((c.old 13 rfl).trans rfl) rfl
                -- 6: slot 104
                refine ⟨fun a w c => ?_, ?_⟩
                · have hw := c.want 2 false rfl rfl rfl
                  have e102 : a.eval (.tmp 102) = _ := c.val 4 _ rfl rfl
                  have e103 : a.eval (.tmp 103) = _ := c.val 5 _ rfl rfl
                  exact goalR_val hw (by have ec : ∀ v, a.eval (.const v) = v := fun _ => rfl; generalize a.eval = ρ at ec e102 e103 ⊢; simp [execOp, go_sem, ec, e102, e103, elem27, Try.sizeOf35, hj1, hj2]) rfl
                -- 7: slot 105
                refine ⟨fun a w c => ?_, ?_⟩
                · have hw := c.want 2 false rfl rfl rfl
                  have e104 : a.eval (.tmp 104) = _ := c.val 6 _ rfl rfl
                  obtain ⟨y0, y1, y2, y3, y4⟩ := (HRC.out w c.below).2.1
                  exact goalR_val hw (by have ec : ∀ v, a.eval (.const v) = v := fun _ => rfl; generalize a.eval = ρ at ec e104 ⊢; simp [execOp, go_sem, ec, e104, y0, y1, y2, y3, y4]) rfl
                -- 8: slot 106
                refine ⟨fun a w c => ?_, ?_⟩
                · have hw := c.want 2 false rfl rfl rfl
                  have e101 : a.eval (.tmp 101) = _ := c.val 3 _ rfl rfl
                  have e105 : a.eval (.tmp 105) = _ := c.val 7 _ rfl rfl
                  exact goalR_fn hw rfl (by simp only [List.map_toArray, List.map_cons, List.map_nil, e101, e105]) (by kernel_rfl) ((HC1.out w c.below).mono fun e w' ⟨he, hb⟩ => ⟨_, he, outR_val rfl hb⟩)
                -- 9: slot 107
                refine ⟨fun a w c => ?_, ?_⟩
                · have e106 : a.eval (.tmp 106) = _ := c.val 8 _ rfl rfl
                  exact goalR_val (c.want 2 false rfl rfl rfl) (by have ec : ∀ v, a.eval (.const v) = v := fun _ => rfl; generalize a.eval = ρ at ec e106 ⊢; simp [execOp, go_sem, ec, e106]) rfl
                -- 10: slot 108
                refine ⟨fun a w c => ?_, ?_⟩
                · have e100 : a.eval (.tmp 100) = _ := c.val 2 _ rfl rfl
                  have e107 : a.eval (.tmp 107) = _ := c.val 9 _ rfl rfl
                  exact goalR_val (c.want0 rfl) (by have ec : ∀ v, a.eval (.const v) = v := fun _ => rfl; generalize a.eval = ρ at ec e100 e107 ⊢; simp [execOp, go_sem, ec, e100, e107]) rfl
                -- 11: slot 109
                refine ⟨fun a w c => ?_, ?_⟩
                · exact goalR_move (c.want0 rfl) (.tmp 108) (.inl rfl) (c.val 10 _ rfl rfl) rfl
                -- 12: slot 110
                refine ⟨fun a w c => ?_, ?_⟩
                · exact goalR_move (c.want 11 false rfl rfl rfl) (.tmp 7) (.inl rfl) ((c.old 7 rfl).trans rfl) rfl
                -- 13: slot 111
                refine ⟨fun a w c => ?_, ?_⟩
                · exact goalR_move (c.want 11 false rfl rfl rfl) (.tmp 13) (.inl rfl) ((c.old 13 rfl).trans rfl) rfl
                -- 14: slot 112
                refine ⟨fun a w c => ?_, ?_⟩
                · have hw := c.want 11 false rfl rfl rfl
                  have e110 : a.eval (.tmp 110) = _ := c.val 12 _ rfl rfl
                  have e111 : a.eval (.tmp 111) = _ := c.val 13 _ rfl rfl
                  exact goalR_val hw (by have ec : ∀ v, a.eval (.const v) = v := fun _ => rfl; generalize a.eval = ρ at ec e110 e111 ⊢; simp [execOp, go_sem, ec, e110, e111, elem27, Try.sizeOf35, hj1, hj2]) rfl
                -- 15: slot 113
                refine ⟨fun a w c => ?_, ?_⟩
                · have hw := c.want 11 false rfl rfl rfl
                  have e112 : a.eval (.tmp 112) = _ := c.val 14 _ rfl rfl
                  obtain ⟨y0, y1, y2, y3, y4⟩ := (HRC.out w c.below).2.1
                  exact goalR_val hw (by have ec : ∀ v, a.eval (.const v) = v := fun _ => rfl; generalize a.eval = ρ at ec e112 ⊢; simp [execOp, go_sem, ec, e112, y0, y1, y2, y3, y4]) rfl
                -- 16: slot 114
                refine ⟨fun a w c => ?_, ?_⟩
                · exact goalR_move (c.want 11 false rfl rfl rfl) (.tmp 9) (.inl rfl) ((c.old 9 rfl).trans rfl) rfl
                -- 17: slot 115
                refine ⟨fun a w c => ?_, ?_⟩
                · exact goalR_move (c.want 11 false rfl rfl rfl) (.tmp 13) (.inl rfl) ((c.old 13 rfl).trans rfl) rfl
                -- 18: slot 116
                refine ⟨fun a w c => ?_, ?_⟩
                · have hw := c.want 11 false rfl rfl rfl
                  have e114 : a.eval (.tmp 114) = _ := c.val 16 _ rfl rfl
                  have e115 : a.eval (.tmp 115) = _ := c.val 17 _ rfl rfl
                  exact goalR_val hw (by have ec : ∀ v, a.eval (.const v) = v := fun _ => rfl; generalize a.eval = ρ at ec e114 e115 ⊢; simp [execOp, go_sem, ec, e114, e115, elem27, Try.sizeOf35, hj1, hj2]) rfl
                -- 19: slot 117
                refine ⟨fun a w c => ?_, ?_⟩
                · have hw := c.want 11 false rfl rfl rfl
                  have e116 : a.eval (.tmp 116) = _ := c.val 18 _ rfl rfl
                  obtain ⟨y0, y1, y2, y3, y4⟩ := (HRC.out w c.below).2.2.1
                  exact goalR_val hw (by have ec : ∀ v, a.eval (.const v) = v := fun _ => rfl; generalize a.eval = ρ at ec e116 ⊢; simp [execOp, go_sem, ec, e116, y0, y1, y2, y3, y4]) rfl
                -- 20: slot 118
                refine ⟨fun a w c => ?_, ?_⟩
                · have hw := c.want 11 false rfl rfl rfl
                  have e113 : a.eval (.tmp 113) = _ := c.val 15 _ rfl rfl
                  have e117 : a.eval (.tmp 117) = _ := c.val 19 _ rfl rfl
                  exact goalR_fn hw rfl (by simp only [List.map_toArray, List.map_cons, List.map_nil, e113, e117]) (by kernel_rfl) ((HC2.out w c.below).mono fun e w' ⟨he, hb⟩ => ⟨_, he, outR_val rfl hb⟩)
                -- 21: slot 119
                refine ⟨fun a w c => ?_, ?_⟩
                · have e118 : a.eval (.tmp 118) = _ := c.val 20 _ rfl rfl
                  exact goalR_val (c.want 11 false rfl rfl rfl) (by have ec : ∀ v, a.eval (.const v) = v := fun _ => rfl; generalize a.eval = ρ at ec e118 ⊢; simp [execOp, go_sem, ec, e118]) rfl
                -- 22: slot 120
                refine ⟨fun a w c => ?_, ?_⟩
                · have e109 : a.eval (.tmp 109) = _ := c.val 11 _ rfl rfl
                  have e119 : a.eval (.tmp 119) = _ := c.val 21 _ rfl rfl
                  exact goalR_val (c.want0 rfl) (by have ec : ∀ v, a.eval (.const v) = v := fun _ => rfl; generalize a.eval = ρ at ec e109 e119 ⊢; simp [execOp, go_sem, ec, e109, e119]) rfl
                -- 23: slot 121
                refine ⟨fun a w c => ?_, ?_⟩
                · exact goalR_move (c.want0 rfl) (.tmp 120) (.inl rfl) (c.val 22 _ rfl rfl) rfl
                -- 24: slot 122
                refine ⟨fun a w c => ?_, ?_⟩
                · exact goalR_move (c.want 23 false rfl rfl rfl) (.tmp 13) (.inl rfl) ((c.old 13 rfl).trans rfl) rfl
                -- 25: slot 123
                refine ⟨fun a w c => ?_, ?_⟩
                · have hw := c.want 23 false rfl rfl rfl
                  have e122 : a.eval (.tmp 122) = _ := c.val 24 _ rfl rfl
                  exact goalR_val hw (by have ec : ∀ v, a.eval (.const v) = v := fun _ => rfl; generalize a.eval = ρ at ec e122 ⊢; simp [execOp, go_sem, ec, ec, e122, hjp]) rfl
                -- 26: slot 124
                refine ⟨fun a w c => ?_, ?_⟩
                · exact goalR_move (c.want 23 false rfl rfl rfl) (.tmp 123) (.inl rfl) (c.val 25 _ rfl rfl) rfl
                -- 27: slot 125
                refine ⟨fun a w c => ?_, ?_⟩
                · exact goalR_skip (c.skip 26 true false rfl rfl rfl (by decide)) rfl
                -- 28: slot 126
                refine ⟨fun a w c => ?_, ?_⟩
                · exact goalR_skip (c.skip 26 true false rfl rfl rfl (by decide)) rfl
                -- 29: slot 127
                refine ⟨fun a w c => ?_, ?_⟩
                · exact goalR_skip (c.skip 26 true false rfl rfl rfl (by decide)) rfl
                -- 30: slot 128
                refine ⟨fun a w c => ?_, ?_⟩
                · exact goalR_skip (c.skip 26 true false rfl rfl rfl (by decide)) rfl
                -- 31: slot 129
                refine ⟨fun a w c => ?_, ?_⟩
                · exact goalR_skip (c.skip 26 true false rfl rfl rfl (by decide)) rfl
                -- 32: slot 130
                refine ⟨fun a w c => ?_, ?_⟩
                · exact goalR_skip (c.skip 26 true false rfl rfl rfl (by decide)) rfl
                -- 33: slot 131
                refine ⟨fun a w c => ?_, ?_⟩
                · exact goalR_skip (c.skip 26 true false rfl rfl rfl (by decide)) rfl
                -- 34: slot 132
                refine ⟨fun a w c => ?_, ?_⟩
                · exact goalR_skip (c.skip 26 true false rfl rfl rfl (by decide)) rfl
                -- 35: slot 133
                refine ⟨fun a w c => ?_, ?_⟩
                · exact goalR_skip (c.skip 26 true false rfl rfl rfl (by decide)) rfl
                -- 36: slot 134
                refine ⟨fun a w c => ?_, ?_⟩
                · exact goalR_skip (c.skip 26 true false rfl rfl rfl (by decide)) rfl
                -- 37: slot 135
                refine ⟨fun a w c => ?_, ?_⟩
                · exact goalR_skip (c.skip 26 true false rfl rfl rfl (by decide)) rfl
                -- 38: slot 136
                refine ⟨fun a w c => ?_, ?_⟩
                · have e124 : a.eval (.tmp 124) = _ := c.val 26 _ rfl rfl
                  exact goalR_val (c.want 23 false rfl rfl rfl) (by have ec : ∀ v, a.eval (.const v) = v := fun _ => rfl; generalize a.eval = ρ at ec e124 ⊢; simp [execOp, go_sem, ec, e124]) rfl
                -- 39: slot 137
                refine ⟨fun a w c => ?_, ?_⟩
                · have e121 : a.eval (.tmp 121) = _ := c.val 23 _ rfl rfl
                  have e136 : a.eval (.tmp 136) = _ := c.val 38 _ rfl rfl
                  exact goalR_val (c.want0 rfl) (by have ec : ∀ v, a.eval (.const v) = v := fun _ => rfl; generalize a.eval = ρ at ec e121 e136 ⊢; simp [execOp, go_sem, ec, e121, e136]) rfl
                exact True.intro

            · have hj' : ¬ (j : Int) < (tot : Int) := by omega
              have hBx := HJ.out.2
              have HBF : Hid (Below w.heap.size w wr) := H57.out.2.2.1.trans (hBx.mono H57.out.2.2.2.2.2)
              have h5 := H5R.out.later (H57.out.1.trans (hBx.mono H57.out.2.2.2.1))
              have h6 := H6R.out.later (H57.out.2.1.trans (hBx.mono H57.out.2.2.2.2.1))
              have hord := rord_any h5 (by have := HN0.out; omega)
              by_cases hoM : ordB M = true
              · rw [hoM] at hord
                have hMe := HTU.out.2 (of_decide_eq_true (p := M.Pairwise fun a b => ahead a b < 0) hoM)
                have HSE : Hid (∀ wz, Below wr.heap.size wr wz → Calls Try.prog 14 #[.slice a5 tot c5, .slice a6 tot c6] wz fun e w' => e = .returned (.bool true) ∧ Below wz.heap.size wz w') := fun wz hb => rsameE_eq (h5.later hb) ((hMe ▸ h6).later hb)
                clear hg hj h5 h6 hMe hBx hoM
                go_wp2_with (first | (go_at_call 23; refine hord.mono ?_; rintro r w9 ⟨rfl, hb9⟩; have HB9 := hidM hb9; clear hb9) | (go_at_call 14; refine (HSE.out _ HB9.out).mono ?_; rintro r wa ⟨rfl, hba⟩; have HBA := hidM (HB9.out.trans (hba.mono HB9.out.size)); clear hba) | (go_at_call 10; refine (awake16_t _).mono ?_; rintro e wb ⟨rfl, hbb⟩))
                have hbf := HBF.out.trans (HBA.out.mono HBF.out.size)
                exact bodyPost_ret (v := .bool true) (by simp [results, Try.results7, go_sem]) rfl ⟨rfl, hbf.trans (hbb.mono hbf.size)⟩
              · have hoF : ordB M = false := by simpa using hoM
                rw [hoF] at hord
                clear hg hj h5 h6 hBx hoM
                go_wp2_with (first | (go_at_call 23; refine hord.mono ?_; rintro r w9 ⟨rfl, hb9⟩; have HB9 := hidM hb9; clear hb9) | (go_at_call 10; refine (awake16_t _).mono ?_; rintro e wb ⟨rfl, hbb⟩))
                have hbf := HBF.out.trans (HB9.out.mono HBF.out.size)
                exact bodyPost_ret (v := .bool true) (by simp [results, Try.results7, go_sem]) rfl ⟨rfl, hbf.trans (hbb.mono hbf.size)⟩
  · have hl' : litW 0 0 rs = false := by simpa using hl
    rw [hl'] at hli
    clear h hl hl'
    go_enter Try.func7, Try.ntmps7
    go_wp2_with (first | (go_at_call 9; refine hli.mono ?_; rintro e w1 ⟨rfl, hb1⟩) | (go_at_call 10; refine (awake16_t _).mono ?_; rintro e w2 ⟨rfl, hb2⟩))
    exact bodyPost_ret (v := .bool true) (by simp [results, Try.results7, go_sem]) rfl ⟨rfl, hb1.trans (hb2.mono hb1.size)⟩
end Go.Proofs.Ytnoackenjfpcmaa

/- The law MergeMany. -/
namespace Go.Proofs.Ytnoackenjfpcmaa
open Go.RowKit
set_option linter.unusedVariables false
set_option linter.unusedSimpArgs false

theorem aheadM_keylt {a b : EntV} (h : cmp a.key b.key < 0) : ahead a b < 0 := by
  unfold ahead
  rw [if_pos (by omega)]
  exact h
theorem aheadM_samekey {a b : EntV} (h : a.key = b.key) : (b.seq < a.seq → ahead a b < 0) ∧ (a.seq < b.seq → 0 < ahead a b) := by
  unfold ahead
  rw [h, if_neg (by rw [cmp_refl]; omega)]
  constructor
  · intro q; rw [if_pos q]; omega
  · intro q; rw [if_neg (by omega), if_pos q]; omega
theorem RSG.weakM {α : Type} {E : El α} {G G' : Nat → Prop} {w : World} {ao : Option Addr} {len cap : Nat} {xs : List α} (h : RSG E G w ao len cap xs) (hG : ∀ b, G b → G' b) : RSG E G' w ao len cap xs := by
  obtain ⟨us, h1, h2⟩ := h
  exact ⟨us, h1, fun u hu b hr => hG b (h2 u hu b hr)⟩
theorem rem_inM (n : Int) (L : Nat) (hL : 0 < L) (h2 : L ≤ 100000) : ∃ (T : Int) (N : Nat), n.tmod (L : Int) = T ∧ (T + (L : Int)).tmod (L : Int) = (N : Int) ∧ N < L ∧ wrap64 (T + (L : Int)) = T + (L : Int) := by
  have a1 : -(L : Int) < n.tmod (L : Int) ∧ n.tmod (L : Int) < (L : Int) := ⟨Int.lt_tmod_of_pos n (by omega), Int.tmod_lt_of_pos n (by omega)⟩
  obtain ⟨T, hT⟩ : ∃ T, n.tmod (L : Int) = T := ⟨_, rfl⟩
  rw [hT] at a1
  obtain ⟨p, hp⟩ := Int.eq_ofNat_of_zero_le (show 0 ≤ (T + (L : Int)).tmod (L : Int) from Int.tmod_nonneg _ (by omega))
  exact ⟨T, p, hT, hp, by have := Int.tmod_lt_of_pos (T + (L : Int)) (b := (L : Int)) (by omega); omega, by unfold wrap64; omega⟩
/-- The k-th entry of row i. -/
def eM (i k : Nat) : EntV := ⟨[(k : Int) / 256, (k : Int) % 256], (i : Int) + 1, false, 0, []⟩
def rwM (i m : Nat) : List EntV := (List.range m).map (eM i)
def rwsM (n m : Nat) : List (List EntV) := (List.range n).map fun i => rwM i m
theorem rwM_len (i m : Nat) : (rwM i m).length = m := by unfold rwM; simp
theorem rwM_snoc (i m : Nat) : rwM i (m + 1) = rwM i m ++ [eM i m] := by unfold rwM; rw [List.range_succ, List.map_append]; rfl
theorem rwsM_len (n m : Nat) : (rwsM n m).length = n := by unfold rwsM; simp
theorem rwsM_snoc (n m : Nat) : rwsM (n + 1) m = rwsM n m ++ [rwM n m] := by unfold rwsM; rw [List.range_succ, List.map_append]; rfl
theorem rwsM_mem {n m : Nat} {l : List EntV} (h : l ∈ rwsM n m) : ∃ i, i < n ∧ l = rwM i m := by
  unfold rwsM at h
  obtain ⟨i, hi, rfl⟩ := List.mem_map.1 h
  exact ⟨i, List.mem_range.1 hi, rfl⟩
theorem rwM_mem {i m : Nat} {e : EntV} (h : e ∈ rwM i m) : ∃ k, k < m ∧ e = eM i k := by
  unfold rwM at h
  obtain ⟨k, hk, rfl⟩ := List.mem_map.1 h
  exact ⟨k, List.mem_range.1 hk, rfl⟩
theorem cmpM {j k : Nat} (h : j < k) : cmp [(j : Int) / 256, (j : Int) % 256] [(k : Int) / 256, (k : Int) % 256] < 0 := by
  unfold cmp
  by_cases q : (j : Int) / 256 < (k : Int) / 256
  · rw [if_pos q]; decide
  · rw [if_neg q, if_neg (by omega)]
    unfold cmp
    rw [if_pos (by omega)]; decide
theorem rwM_ord (i m : Nat) : ordE (rwM i m) := by
  unfold rwM ordE
  rw [List.pairwise_map]
  exact List.pairwise_lt_range.imp fun h => aheadM_keylt (cmpM h)
theorem sumM (n m : Nat) : sumR (rwsM n m) = n * m := by
  induction n with
  | zero => simp [rwsM, sumR]
  | succ n ih => rw [rwsM_snoc, sumR_snoc, ih, rwM_len, Nat.succ_mul]
theorem szrM {n m : Nat} (hn : n ≤ 1000) (hm : m ≤ 1000) : Szr (rwsM n m) := by
  refine ⟨by rw [rwsM_len]; omega, fun l hl => ?_, fun l hl e he => ?_⟩
  · obtain ⟨i, _, rfl⟩ := rwsM_mem hl
    rw [rwM_len]; omega
  · obtain ⟨i, _, rfl⟩ := rwsM_mem hl
    obtain ⟨k, _, rfl⟩ := rwM_mem he
    simp [eM]
theorem ordM (n m : Nat) : ∀ l ∈ rwsM n m, ordE l := fun l hl => by
  obtain ⟨i, _, rfl⟩ := rwsM_mem hl
  exact rwM_ord i m
theorem mrCM (n m : Nat) : mrC (rwsM n m) = if 64 < n ∨ 40000 < n * m then 13 else 0 := by
  unfold mrC
  rw [if_pos (ord_all (ordM n m)), rwsM_len, sumM]
/-- The first of all entries bears the last row's number. -/
theorem headM {n m : Nat} {h : EntV} {q : List EntV} (e : mrgE (rwsM n m) = h :: q) : h.seq = (n : Int) := by
  have hp := mrgE_perm (rwsM n m)
  have hw := mrgE_wk (ordM n m)
  rw [e] at hp hw
  have hh : h ∈ (rwsM n m).flatten := hp.mem_iff.1 (List.mem_cons_self ..)
  obtain ⟨l, hl, hhl⟩ := List.mem_flatten.1 hh
  obtain ⟨i, hi, rfl⟩ := rwsM_mem hl
  obtain ⟨k, hk, rfl⟩ := rwM_mem hhl
  have he : eM (n - 1) 0 ∈ eM i k :: q := hp.mem_iff.2 (List.mem_flatten.2 ⟨rwM (n - 1) m, List.mem_map.2 ⟨n - 1, List.mem_range.2 (by omega), rfl⟩, List.mem_map.2 ⟨0, List.mem_range.2 (by omega), rfl⟩⟩)
  rcases List.mem_cons.1 he with q1 | q1
  · have := congrArg EntV.seq q1
    simp only [eM] at this ⊢
    omega
  · have h1 := (List.pairwise_cons.1 hw).1 _ q1
    by_cases k0 : k = 0
    · subst k0
      have h2 := (aheadM_samekey (a := eM i 0) (b := eM (n - 1) 0) rfl).2
      simp only [eM] at h1 h2 ⊢
      rcases Nat.lt_or_ge i (n - 1) with z | z
      · have := h2 (by omega)
        omega
      · omega
    · have h2 : ahead (eM (n - 1) 0) (eM i k) < 0 := aheadM_keylt (cmpM (by omega))
      have h3 := ahead_neg (eM i k) (eM (n - 1) 0)
      omega
theorem sl_two {W : World} {b : Nat} {x y : Int} {t : TypeId} {f : Nat × Nat} (h : W.heap[b]? = some (.cells #[.int .u8 x, .int .u8 y] t f)) (h0 : 0 ≤ x) (h1 : x < 256) (h2 : 0 ≤ y) (h3 : y < 256) : Sl W (some ⟨b, 0, none⟩) 2 2 [x, y] := by
  refine ⟨rfl, fun z hz => by simp only [List.mem_cons, List.not_mem_nil, or_false] at hz; omega, (fun q => by cases q), Nat.le_refl _, by unfold maxLen; omega, fun k hk => ?_⟩
  have : k = 0 ∨ k = 1 := by omega
  rcases this with rfl | rfl
  · refine ⟨by simp [xof]; omega, b, 0, rfl, ?_⟩
    simp only [World.cell?, h]
    simp [xof]
    omega
  · refine ⟨by simp [xof]; omega, b, 0, rfl, ?_⟩
    simp only [World.cell?, h]
    simp [xof]
    omega
/-- Rows behind an append to the row that holds them. -/
theorem Rws.moved {w w' : World} {v v' : Value} {xs : List Value} {ls : List (List EntV)} (h : Rws (fun b => v.ownBlock ≠ some b) w xs ls) (hg : w.grownBy w' v.ownBlock) (hm : Moved w v v') (hx : ∀ x ∈ xs, ∀ b, Refs x b → v.ownBlock ≠ some b) : Rws (fun b => v'.ownBlock ≠ some b) w' xs ls := ⟨h.1, fun j x l h1 h2 => by
  obtain ⟨la, lc, e, us, hr, hG⟩ := h.2 j x l h1 h2
  have hr2 : RSG entE (fun b => v.ownBlock ≠ some b ∧ b < w.heap.size) w la l.length lc l := ⟨us, hr, fun u hu b hb => ⟨hG u hu b hb, hr.2.2.2.2.1.lt u hu b hb⟩⟩
  refine ⟨la, lc, e, (hr2.grown (by decide) hg (fun b hb e => hb.1 e.symm) fun b off ea hn ec => hx x (List.mem_of_getElem? h1) b ⟨off, l.length, lc, by rw [e, ea], hn⟩ ec.symm).weakM fun b hb ec => ?_⟩
  rcases hm with q | ⟨g, q, hq⟩
  · rw [q] at ec; exact hb.1 ec
  · rw [q] at ec
    simp only [Option.some.injEq] at ec
    have := hb.2
    omega⟩
theorem RowF.refs {α : Type} {E : El α} {B : Nat} {F : Nat → Prop} {w : World} {v : Value} {xs : List α} (h : RowF E B F w v xs) {b : Nat} (hr : Refs v b) : v.ownBlock = some b := by
  obtain ⟨us, hown, -, -, -⟩ := h
  obtain ⟨off, l, c, e, hl⟩ := hr
  rcases hown.2 with ⟨rfl, h0⟩ | ⟨g, cap, cur, rfl, _⟩
  · simp at e
  · simp only [Value.slice.injEq, Option.some.injEq, Addr.mk.injEq] at e
    obtain ⟨⟨rfl, _⟩, _⟩ := e
    rfl
set_option maxHeartbeats 8000000 in
set_option maxRecDepth 100000 in
theorem mgmany_any {w : World} {x0 x1 : Int} (h0 : In64 x0) (h1 : In64 x1) :
    Calls Try.prog 4 #[.int .i64 x0, .int .i64 x1] w fun e w' => e = .returned (.bool true) ∧ Below w.heap.size w w' := by
  obtain ⟨T0, N, g0, g0', hN, hw0⟩ := rem_inM x0 67 (by decide) (by decide)
  obtain ⟨T1, K, g1, g1', hK, hw1⟩ := rem_inM x1 700 (by decide) (by decide)
  rw [show ((67 : Nat) : Int) = 67 from rfl] at g0 g0' hw0
  rw [show ((700 : Nat) : Int) = 700 from rfl] at g1 g1' hw1
  have HH : Hid (N < 67 ∧ K < 700) := ⟨hN, hK⟩
  have hN62 : N ≤ 100 := by omega
  have hK62 : K ≤ 1000 := by omega
  clear h0 h1 hN hK
  go_enter Try.func4, Try.ntmps4
  go_upto_region 2 with fail
  clear g0 g0' g1 g1' hw0 hw1
  go_wp2_with fail
  go_loopg [5, 20] N (fun kx s5 s20 wr => ∃ (i : Nat) (xs : List Value), s20 = .int .i64 (i : Int) ∧ i + kx = N ∧ Hid (RowS slvE w.heap.size wr s5 xs ∧ Rws (fun b => s5.ownBlock ≠ some b) wr xs (rwsM i K) ∧ Below w.heap.size w wr))
  case atStart => exact ⟨0, [], rfl, by omega, RowS.nil _ _, ⟨rfl, fun j x l h1 h2 => by simp at h1⟩, Below.refl _ _⟩
  case round =>
    obtain ⟨i, xs, rfl, hg, HI⟩ := hrel
    by_cases hi : i < N
    · have hi' : (i : Int) < (N : Int) := by omega
      obtain ⟨oa, oc, hv5, -⟩ := HI.out.1.rs
      obtain ⟨on, hon⟩ : ∃ m, m = xs.length := ⟨_, rfl⟩
      rw [← hon] at hv5
      clear hon
      subst hv5
      have HG := hidM (And.intro hg hi)
      obtain ⟨wo, hwo⟩ : ∃ z, z = wr := ⟨_, rfl⟩
      rw [← hwo] at HI ⊢
      clear hg hi hwo
      go_wp2_with fail
      go_loopg [7, 24] K (fun kx s7 s24 wx => ∃ k : Nat, s24 = .int .i64 (k : Int) ∧ k + kx = K ∧ Hid (RowF entE wo.heap.size (fun b => wo.heap.size ≤ b) wx s7 (rwM i k) ∧ Below wo.heap.size wo wx))
      case atStart => exact ⟨0, rfl, by omega, RowF.nil _ _ _, Below.refl _ _⟩
      case round =>
        obtain ⟨k, rfl, hg, HK⟩ := hrel
        by_cases hk : k < K
        · have hk' : (k : Int) < (K : Int) := by omega
          obtain ⟨ra, rc, hv7⟩ := HK.out.1.isl
          rw [rwM_len] at hv7
          subst hv7
          have HGK := hidM (And.intro hg hk)
          have hi62 : i ≤ 100 := by have := HG.out; omega
          have hk62 : k ≤ 1000 := by omega
          clear hg hk
          have hs1 : (wr.alloc (.cells #[.int .u8 ((k : Int) / 256), .int .u8 ((k : Int) % 256)] 5)).heap.size = wr.heap.size + 1 := by simp
          have HAP : Hid (RowF entE wo.heap.size (fun b => wo.heap.size ≤ b) ((wr.alloc (.cells #[.int .u8 ((k : Int) / 256), .int .u8 ((k : Int) % 256)] 5)).alloc (.cells #[.slice (some ⟨wr.heap.size, 0, none⟩) 2 2, .int .i64 ((i : Int) + 1), .bool false, .int .i64 0, .slice none 0 0] 35)) (.slice ra k rc) (rwM i k) ∧ RSu entE ((wr.alloc (.cells #[.int .u8 ((k : Int) / 256), .int .u8 ((k : Int) % 256)] 5)).alloc (.cells #[.slice (some ⟨wr.heap.size, 0, none⟩) 2 2, .int .i64 ((i : Int) + 1), .bool false, .int .i64 0, .slice none 0 0] 35)) (some ⟨wr.heap.size + 1, 0, none⟩) 1 1 [.slice (some ⟨wr.heap.size, 0, none⟩) 2 2, .int .i64 ((i : Int) + 1), .bool false, .int .i64 0, .slice none 0 0] [eM i k] ∧ (∀ u ∈ [Value.slice (some ⟨wr.heap.size, 0, none⟩) 2 2, .int .i64 ((i : Int) + 1), .bool false, .int .i64 0, .slice none 0 0], ∀ b, Refs u b → (Value.slice ra k rc).ownBlock ≠ some b) ∧ (∀ u ∈ [Value.slice (some ⟨wr.heap.size, 0, none⟩) 2 2, .int .i64 ((i : Int) + 1), .bool false, .int .i64 0, .slice none 0 0], ∀ b, Refs u b → wo.heap.size ≤ b) ∧ Below wo.heap.size wo ((wr.alloc (.cells #[.int .u8 ((k : Int) / 256), .int .u8 ((k : Int) % 256)] 5)).alloc (.cells #[.slice (some ⟨wr.heap.size, 0, none⟩) 2 2, .int .i64 ((i : Int) + 1), .bool false, .int .i64 0, .slice none 0 0] 35)) ∧ (rwM i k).length = k) := by
            have hrf : ∀ u ∈ [Value.slice (some ⟨wr.heap.size, 0, none⟩) 2 2, .int .i64 ((i : Int) + 1), .bool false, .int .i64 0, .slice none 0 0], ∀ b, Refs u b → b = wr.heap.size := fun u hu b hr => by
              obtain ⟨off, l, c, e, hl⟩ := hr
              simp only [List.mem_cons, List.not_mem_nil, or_false] at hu
              rcases hu with rfl | rfl | rfl | rfl | rfl
              · simp only [Value.slice.injEq, Option.some.injEq, Addr.mk.injEq] at e
                exact e.1.1.symm
              · cases e
              · cases e
              · cases e
              · simp at e
            refine ⟨(HK.out.1.alloc _).alloc _, ?_, fun u hu b hr e => ?_, fun u hu b hr => ?_, (HK.out.2.alloc HK.out.2.size _).alloc (by have := HK.out.2.size; simp; omega) _, rwM_len i k⟩
            · have h1 := rs_one (E := entE) (w := wr.alloc (.cells #[.int .u8 ((k : Int) / 256), .int .u8 ((k : Int) % 256)] 5)) (vs := [.slice (some ⟨wr.heap.size, 0, none⟩) 2 2, .int .i64 ((i : Int) + 1), .bool false, .int .i64 0, .slice none 0 0]) (x := eM i k) ⟨some ⟨wr.heap.size, 0, none⟩, 2, none, 0, rfl, sl_two (heap_alloc_new wr _) (by omega) (by omega) (by omega) (by omega), Sl.nil _, by unfold In64 eM; simp only; omega, by unfold In64 eM; simp only; omega⟩
              rw [hs1] at h1
              exact h1
            · have := hrf u hu b hr
              have := (HK.out.1.own_lt e).2
              omega
            · have := hrf u hu b hr
              have := HK.out.2.size
              omega
          clear hs1 HK
          go_wp2_with (at_builtin; refine wpList_appF entE (t := 27) (z := .agg #[.slice none 0 0, .int .i64 0, .bool false, .int .i64 0, .slice none 0 0]) (bytes := 72) Try.underlying27 entE_info rfl (by decide) rfl (.tmp 27) (.tmp 37) rfl rfl HAP.out.1 rfl HAP.out.2.1 HAP.out.2.2.1 HAP.out.2.2.2.1 (by have := HAP.out.2.2.2.2.2; omega) (by have := HAP.out.2.2.2.2.2; omega) HAP.out.2.2.2.2.1.size ?_; intro v9 w9 r9 g9 m9)
          go_roundg (K - (k + 1))
          case measure => have := HGK.out; omega
          case rel => exact ⟨k + 1, by go_num, by have := HGK.out; omega, by rw [rwM_snoc]; exact r9, HAP.out.2.2.2.2.1.grown g9 HAP.out.2.2.2.2.1.size (fun z hz => (HAP.out.1.own_lt hz).1)⟩
        · have hk' : ¬ (k : Int) < (K : Int) := by omega
          have hkK : k = K := by omega
          subst hkK
          obtain ⟨ra, rc, hv7⟩ := HK.out.1.isl
          rw [rwM_len] at hv7
          subst hv7
          have hb1 : Below wr.heap.size wr (wr.alloc (.cells #[.slice ra k rc] 27)) := (Below.refl _ _).alloc (Nat.le_refl _) _
          have how : Below wo.heap.size wo (wr.alloc (.cells #[.slice ra k rc] 27)) := HK.out.2.trans (hb1.mono HK.out.2.size)
          have hww := HI.out.2.2.trans (how.mono HI.out.2.2.size)
          have hown : ∀ b, (Value.slice oa on oc).ownBlock = some b → b < wo.heap.size := fun b e => (HI.out.1.own_lt e).2
          have hr7 : ∀ b, Refs (.slice ra k rc) b → wo.heap.size ≤ b ∧ b < wr.heap.size := fun b hr => HK.out.1.own_lt (HK.out.1.refs hr)
          have hrsg : RSG entE (fun b => (Value.slice oa on oc).ownBlock ≠ some b) (wr.alloc (.cells #[.slice ra k rc] 27)) ra (rwM i k).length rc (rwM i k) := by
            obtain ⟨ao, c, e, hr⟩ := HK.out.1.rsg
            rw [rwM_len] at e
            simp only [Value.slice.injEq, true_and] at e
            obtain ⟨rfl, rfl⟩ := e
            exact (hr.weakM fun b hb e => by have := hown b e; omega).later hb1
          have HAP : Hid (RowS slvE w.heap.size (wr.alloc (.cells #[.slice ra k rc] 27)) (.slice oa on oc) xs ∧ RSu slvE (wr.alloc (.cells #[.slice ra k rc] 27)) (some ⟨wr.heap.size, 0, none⟩) 1 1 [.slice ra k rc] [.slice ra k rc] ∧ (∀ u ∈ [Value.slice ra k rc], ∀ b, Refs u b → (Value.slice oa on oc).ownBlock ≠ some b) ∧ Rws (fun b => (Value.slice oa on oc).ownBlock ≠ some b) (wr.alloc (.cells #[.slice ra k rc] 27)) (xs ++ [.slice ra (rwM i k).length rc]) (rwsM i k ++ [rwM i k]) ∧ Below w.heap.size w (wr.alloc (.cells #[.slice ra k rc] 27)) ∧ xs.length = i) := by
            refine ⟨HI.out.1.later how, rs_one (E := slvE) ⟨rfl, rfl, fun b hr => (hr7 b hr).2⟩, fun u hu b hr e => ?_, (HI.out.2.1.later how).snoc hrsg, hww, by rw [HI.out.2.1.1, rwsM_len]⟩
            rw [List.mem_singleton.1 hu] at hr
            have := (hr7 b hr).1
            have := hown b e
            omega
          clear hg hk hk' HK hb1 how hww hown hr7 hrsg HI
          go_wp2_with (at_builtin; refine wpList_appS slvE (t := 22) (z := .slice none 0 0) (bytes := 24) Try.underlying22 slvE_info rfl (by decide) rfl (.tmp 40) (.tmp 42) rfl rfl HAP.out.1 rfl HAP.out.2.1 HAP.out.2.2.1 (by have h1 := HAP.out.2.2.2.2.2; have h2 := HG.out; omega) (by have h1 := HAP.out.2.2.2.2.2; have h2 := HG.out; omega) HAP.out.2.2.2.2.1.size ?_; intro v9 w9 r9 g9 m9)
          go_roundg (N - (i + 1))
          case measure => have := HG.out; omega
          case rel =>
            have hR := HAP.out.2.2.2.1.moved g9 m9 fun x hx b hr e => by
              rcases List.mem_append.1 hx with hx | hx
              · obtain ⟨us, _, hlay, hsep⟩ := HAP.out.1
                obtain rfl := lay_slv hlay
                exact hsep x hx b hr e
              · rw [rwM_len] at hx
                exact HAP.out.2.2.1 x hx b hr e
            rw [rwM_len] at hR
            exact ⟨i + 1, xs ++ [.slice ra k rc], by go_num, by have := HG.out; omega, r9, by rw [rwsM_snoc]; exact hR, HAP.out.2.2.2.2.1.grown g9 HAP.out.2.2.2.2.1.size (fun z hz => (HAP.out.1.own_lt hz).1)⟩
    · have hi' : ¬ (i : Int) < (N : Int) := by omega
      have hiN : i = N := by omega
      subst hiN
      obtain ⟨a3, c3, hv3, hr3⟩ := HI.out.2.1.er HI.out.1
      rw [rwsM_len] at hv3 hr3
      subst hv3
      have HB := hidM HI.out.2.2
      have hm := merge_any hr3 (szrM (by omega) (by omega))
      obtain ⟨P, hP⟩ : ∃ P, P = i * K := ⟨_, rfl⟩
      have hPi : (i : Int) * (K : Int) = (P : Int) := by rw [hP]; simp
      have hP62 : P ≤ 100000 := by rw [hP]; exact Nat.le_trans (Nat.mul_le_mul hN62 hK62) (by decide)
      have hC := mrCM i K
      rw [← hP] at hC
      clear hg hi hi' hr3 HI
      by_cases hbig : 64 < i ∨ 40000 < P
      · rw [if_pos hbig] at hC
        have hV : mrV (rwsM i K) = [] := by unfold mrV; rw [if_neg (by rw [hC]; decide)]
        rw [hC, hV] at hm
        clear hC hV hP
        by_cases h64 : 64 < i
        · have h64' : (64 : Int) < (i : Int) := by omega
          clear hbig
          go_wp2_with (first | (go_at_call 12; refine hm.mono ?_; rintro r w5 ⟨a5, c5, rfl, hr5, hb5⟩) | (go_at_call 10; refine (awake16_t _).mono ?_; rintro e w8 ⟨rfl, hb8⟩))
          have hb6 := HB.out.trans (hb5.mono HB.out.size)
          exact bodyPost_ret (v := .bool true) (by simp [results, Try.results4, go_sem]) rfl ⟨rfl, hb6.trans (hb8.mono hb6.size)⟩
        · have h64' : ¬ (64 : Int) < (i : Int) := by omega
          have h40 : (40000 : Int) < (P : Int) := by omega
          clear hbig
          go_wp2_with (first | (go_at_call 12; refine hm.mono ?_; rintro r w5 ⟨a5, c5, rfl, hr5, hb5⟩) | (go_at_call 10; refine (awake16_t _).mono ?_; rintro e w8 ⟨rfl, hb8⟩))
          have hb6 := HB.out.trans (hb5.mono HB.out.size)
          exact bodyPost_ret (v := .bool true) (by simp [results, Try.results4, go_sem]) rfl ⟨rfl, hb6.trans (hb8.mono hb6.size)⟩
      · rw [if_neg hbig] at hC
        have hV := mrV_ok hC
        have hln : (mrgE (rwsM i K)).length = P := by rw [mrgE_len, hP]; exact sumM i K
        have hhd : ∀ h q, mrgE (rwsM i K) = h :: q → h.seq = (i : Int) := fun h q e => headM e
        rw [hC, hV, hln] at hm
        generalize mrgE (rwsM i K) = L at hm hln hhd
        have h64' : ¬ (64 : Int) < (i : Int) := by omega
        have h40 : ¬ (40000 : Int) < (P : Int) := by omega
        clear hC hV hP hbig
        cases L with
        | nil =>
          have hP0 : P = 0 := by simpa using hln.symm
          subst hP0
          clear hhd hln
          go_wp2_with (first | (go_at_call 12; refine hm.mono ?_; rintro r w5 ⟨a5, c5, rfl, hr5, hb5⟩; have HB5 := hidM hb5; clear hr5 hb5) | (go_at_call 10; refine (awake16_t _).mono ?_; rintro e w8 ⟨rfl, hb8⟩))
          have hb6 := HB.out.trans (HB5.out.mono HB.out.size)
          exact bodyPost_ret (v := .bool true) (by simp [results, Try.results4, go_sem]) rfl ⟨rfl, hb6.trans (hb8.mono hb6.size)⟩
        | cons h q =>
          have hq := hhd h q rfl
          have hP1 : 0 < P := by rw [← hln]; simp
          have hP1' : (0 : Int) < (P : Int) := by omega
          have hP2 : ¬ P = 0 := by omega
          have HM : Hid (∀ w5 a5 c5, RS entE w5 a5 P c5 (h :: q) → ∃ b off, a5 = some ⟨b, off, none⟩ ∧ w5.cell? ⟨b, off + 1, none⟩ = some (.int .i64 (i : Int))) := fun w5 a5 c5 hr => by
            obtain ⟨b, off, ka, kc, va, vc, ha, d0, d1, _⟩ := RS.ent hr (i := 0) rfl
            refine ⟨b, off, ha, ?_⟩
            rw [hq] at d1
            simpa using d1
          clear hhd hln hq hP1
          go_wp2_with (first | (go_at_call 12; refine hm.mono ?_; rintro r w5 ⟨a5, c5, rfl, hr5, hb5⟩; obtain ⟨b, off, rfl, d1⟩ := HM.out w5 a5 c5 hr5; have HB5 := hidM hb5; clear hr5 hb5) | (go_at_call 10; refine (awake16_t _).mono ?_; rintro e w8 ⟨rfl, hb8⟩))
          have hb6 := HB.out.trans (HB5.out.mono HB.out.size)
          exact bodyPost_ret (v := .bool true) (by simp [results, Try.results4, go_sem]) rfl ⟨rfl, hb6.trans (hb8.mono hb6.size)⟩
end Go.Proofs.Ytnoackenjfpcmaa

/- How a slice of bytes that came in is opened. -/
namespace Go.Proofs.Ytnoackenjfpcmaa
open Go.ChangeShapes Go.WideShapes Go.ChangeAt Go.RowKit

theorem cells5 : Try.prog.cellsOf 5 = 1 := by kernel_rfl
theorem bytes5 : Try.prog.bytesOf 5 = 1 := by kernel_rfl

theorem wf_u8 {n : Int} (h : (Lit.int .u8 n).wf = true) : 0 ≤ n ∧ n < 256 := by
  simp [Lit.wf, IntKind.min, IntKind.max, IntKind.bits, IntKind.signed] at h
  omega
theorem wf_u64 {n : Int} (h : (Lit.int .u64 n).wf = true) : 0 ≤ n ∧ n < 18446744073709551616 := by
  simp [Lit.wf, IntKind.min, IntKind.max, IntKind.bits, IntKind.signed] at h
  omega
theorem wf_i64 {n : Int} (h : (Lit.int .i64 n).wf = true) : -9223372036854775808 ≤ n ∧ n ≤ 9223372036854775807 := by
  simp [Lit.wf, IntKind.min, IntKind.max, IntKind.bits, IntKind.signed] at h
  omega

set_option maxRecDepth 100000 in
theorem open33 {H : Type} {enc : TypeId × Value → H} {W : World} {base : Nat} {v : Value} {d : DataW H} {ps : List MemPlace} (hv : Value.okWide Try.prog W .any base 33 v) (h : DataW.Trod enc Try.prog W 0 (fun _ => true) true 33 v d ps) :
    ∃ (ao : Option Addr) (len cap : Nat) (X : Nat → Nat), v = .slice ao len cap ∧ (ao = none → len = 0 ∧ cap = 0) ∧ len ≤ cap ∧ cap ≤ maxLen ∧ Byt W ao len X ∧ (cap = 0 ∨ ∃ e s, d = .slice e s ∧ e.length + s.length = cap) := by
  obtain ⟨a, len, cap, rfl⟩ := okWide_slice Try.underlying33 hv
  obtain ⟨fuel, hf⟩ := h
  rcases open_ints Try.underlying33 Try.underlying5 cells5 hf with ⟨hcs, _⟩ | ⟨x, l, cp, zs, hcs, _, hl, hm, hz, hd, hc, hwf⟩
  · simp [Value.cells] at hcs
    obtain ⟨rfl, rfl, rfl⟩ := hcs
    exact ⟨none, 0, 0, fun _ => 0, rfl, fun _ => ⟨rfl, rfl⟩, Nat.le_refl _, Nat.zero_le _, fun k hk => absurd hk (by omega), .inl rfl⟩
  · simp [Value.cells] at hcs
    obtain ⟨rfl, rfl, rfl⟩ := hcs
    simp only [if_true] at hz
    refine ⟨some x, len, cap, fun k => (zs.getD k 0).toNat, rfl, (fun e => by cases e), hl, hm, fun k hk => ?_, .inr ⟨_, _, (Prod.mk.inj hd).1, ?_⟩⟩
    · have hk' : k < zs.length := by omega
      have w1 := hwf _ (List.getElem_mem hk')
      have e : zs.getD k 0 = zs[k] := by simp [List.getElem?_eq_getElem hk']
      have hr : 0 ≤ zs[k] ∧ zs[k] < 256 := by
        exact wf_u8 w1
      have hcell := hc k hk'
      obtain ⟨b, off, spot⟩ := x
      have hspot : spot = none := by
        have h0 := hc 0 (by omega)
        simpa [Addr.add] using World.cell?_spot h0
      subst hspot
      rw [Addr.add_lit, e] at hcell
      show (zs.getD k 0).toNat < 256 ∧ ∃ b' off', some (⟨b, off, none⟩ : Addr) = some ⟨b', off', none⟩ ∧ W.cell? ⟨b', off' + k, none⟩ = some (.int .u8 ((zs.getD k 0).toNat : Int))
      rw [e]
      refine ⟨by omega, b, off, rfl, ?_⟩
      rw [hcell]
      congr 2
      omega
    · simp [lits]
      omega
end Go.Proofs.Ytnoackenjfpcmaa
