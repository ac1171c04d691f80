/- The landed filters: Build; all of them. -/
import Derived.Test.YtpmebgcknijnkaaLbl3
import Derived.Test.YtpmebgcknijnkaaBllaw
import Derived.Test.YtpmebgcknijnkaaSfn
namespace Go.Proofs.Ytpmebgcknijnkaa
open Go.RowKit
set_option linter.unusedVariables false
set_option linter.unusedSimpArgs false

theorem bmany_any {w : World} {ao : Option Addr} {len cap : Nat} {keys : List (List Int)} (h : RB w ao len cap keys) (hl : 100000 < len) : Calls Try.prog 14 #[.slice ao len cap] w fun e w' => ∃ v, e = .returned (.tuple #[v, .int .i64 13]) ∧ SlV w' v [] ∧ Below w.heap.size w w' := by
  have hl' : (100000 : Int) < (len : Int) := by omega
  clear h hl
  go_enter Try.func14, Try.ntmps14
  go_wp2_with fail
  exact bodyPost_ret (v := .tuple #[.slice none 0 0, .int .i64 13]) (by simp [results, Try.results14, go_sem]) rfl ⟨_, rfl, slv_nil _, Below.refl _ _⟩

/-- A filter that is being made. -/
structure FlC (w : World) (g N : Nat) (wx : World) (bs : List Int) : Prop where
  row : Row w.heap.size wx (.slice (some ⟨g, 0, none⟩) N N) bs
  bel : Below w.heap.size w wx
theorem FlC.set {w : World} {g N : Nat} {wx : World} {bs : List Int} (h : FlC w g N wx bs) {i : Nat} (hi : i < bs.length) (hg : w.heap.size ≤ g) (x : Int) : FlC w g N (wx.setCell ⟨g, i, none⟩ (.int .u8 x)) (bs.set i x) := by
  have hne : ∀ b, b ≠ g → (wx.setCell ⟨g, i, none⟩ (.int .u8 x)).heap[b]? = wx.heap[b]? := fun b hb => Below.heap_setCell _ _ _ _ (fun e => hb e)
  exact ⟨row_set h.row hi x, ⟨h.bel.os, h.bel.tape, h.bel.output, by simp [World.setCell]; exact h.bel.size, fun k hk => by rw [hne k (by omega)]; exact h.bel.block k hk⟩⟩
theorem FlC.drew1 {w : World} {g N : Nat} {wx : World} {bs : List Int} (h : FlC w g N wx bs) : FlC w g N wx.drew bs := ⟨h.row.later (Below.refl _ _).drew, h.bel.drew⟩
theorem FlC.drew {w : World} {g N : Nat} {wx : World} {bs : List Int} (h : FlC w g N wx bs) (m : Nat) : FlC w g N (wx.drewN m) bs := ⟨h.row.later (below_drewN (Below.refl _ _) m), below_drewN h.bel m⟩

set_option maxHeartbeats 2000000 in
set_option maxRecDepth 100000 in
theorem bbuild_any {w : World} {ao : Option Addr} {len cap : Nat} {keys : List (List Int)} (h : RB w ao len cap keys) (hl : len ≤ 100000) :
    Calls Try.prog 14 #[.slice ao len cap] w fun e w' => ∃ v, e = .returned (.tuple #[v, .int .i64 0]) ∧ SlV w' v (fil keys) ∧ Below w.heap.size w w' := by
  have HS : Hid (RB w ao len cap keys ∧ keys.length = len) := ⟨h, h.1⟩
  have hfb := fbytes_any (w := w) hl
  obtain ⟨N, hN⟩ : ∃ N, N = fsz len := ⟨_, rfl⟩
  rw [← hN] at hfb
  have hNv : N = (max 64 (10 * len) + 7) / 8 := hN
  have hN9 : N ≤ 125008 := by omega
  have HN8 : Hid (8 ≤ N) := by show 8 ≤ N; omega
  have HN : Hid (N = fsz len) := hN
  have hl' : (len : Int) ≤ 100000 := by omega
  clear h hN hNv
  have hmk := run_make_row' (P := Try.prog) 22 5 (.int .u8 0) 1 Try.underlying22 Try.info5 rfl .i64 .i64 N (by omega) (by omega)
  have H0 : Hid (FlC w w.heap.size N (w.alloc (.cells (madeCells #[.int .u8 0] N) 5)) (setbs (List.replicate N 0) ((keys.take 0).flatMap fun k => prbs k (8 * N)))) := ⟨row_zeros w N (by omega), (Below.refl _ _).alloc (Nat.le_refl _) _⟩
  have hl63 : len ≤ 2 ^ 62 := by omega
  have hN62 : N ≤ 2 ^ 50 := by omega
  go_enter Try.func14, Try.ntmps14
  go_wp2_with (go_at_call 19; refine hfb.mono ?_; rintro e w' ⟨rfl, hw⟩; obtain rfl := hw.symm)
  clear hfb
  go_loopg [6, 8, 18] len (fun g _ _ i wr => ∃ k : Nat, k + g = len ∧ i = .int .i64 (k : Int) ∧ Hid (FlC w w.heap.size N wr (setbs (List.replicate N 0) ((keys.take k).flatMap fun k => prbs k (8 * N)))))
  case atStart => exact ⟨0, by omega, rfl, H0⟩
  case round =>
    obtain ⟨k, hk, rfl, HK⟩ := hrel
    by_cases hkl : k < len
    · have hkl' : (k : Int) < (len : Int) := by omega
      have hkx : k < keys.length := by have := HS.out.2; omega
      obtain ⟨b, off, ka, kc, rfl, hc0, sk⟩ := HS.out.1.2.2.2.2 k keys[k] (List.getElem?_eq_getElem hkx)
      have hc := cell_later HK.out.bel hc0
      have HFL := hid9 (show (keys.take (k + 1)).flatMap (fun k => prbs k (8 * N)) = (keys.take k).flatMap (fun k => prbs k (8 * N)) ++ prbs keys[k] (8 * N) by rw [List.take_add_one, List.getElem?_eq_getElem hkx, List.flatMap_append]; show _ ++ (prbs keys[k] (8 * N) ++ []) = _; rw [List.append_nil])
      have hpr := places_any (M := 8 * N) (sk.later HK.out.bel) (by have := HN8.out; omega) (by omega)
      rw [show ((8 * N : Nat) : Int) = (N : Int) * 8 by omega] at hpr
      generalize keys[k] = key at hc hc0 sk HFL hpr
      have HP : Hid ((∀ p ∈ prbs key (8 * N), p < 8 * N) ∧ (prbs key (8 * N)).length = 6 ∧ (∀ j p, (prbs key (8 * N))[j]? = some p → (prA key (8 * N))[j]? = some (Value.int .i64 ((p : Nat) : Int))) ∧ (prA key (8 * N)).size = 6) := ⟨fun p hp => prbs_lt hp, prbs_len (by have := HN8.out; omega), fun j p h => prA_at h, prA_size (by have := HN8.out; omega)⟩
      generalize prA key (8 * N) = PA at hpr HP
      generalize prbs key (8 * N) = P at HP HFL
      generalize hBS : setbs (List.replicate N 0) ((keys.take k).flatMap fun k => prbs k (8 * N)) = bs at HK
      have HBS : Hid (setbs (List.replicate N 0) ((keys.take k).flatMap fun k => prbs k (8 * N)) = bs ∧ bs.length = N ∧ Okb bs) := ⟨hBS, by rw [← hBS, setbs_len]; simp, by rw [← hBS]; exact setbs_ok _ (okb_zeros _)⟩
      obtain ⟨GK, HG⟩ : ∃ g, Hid (g < gk ∧ k + 1 + g = len) := ⟨gk - 1, by omega, by omega⟩
      clear hk hc0 sk hBS H0
      go_wp2_with (go_at_call 18; refine hpr.mono ?_; rintro e w3 ⟨rfl, b3⟩)
      have HF0 : Hid (FlC w w.heap.size N w3 (setbs bs (P.take 0))) := ⟨by show Row _ _ _ bs; exact HK.out.row.later b3, HK.out.bel.trans (b3.mono HK.out.bel.size)⟩
      clear b3 HK hpr
      go_loopg [8, 27] 6 (fun g _ i wr => ∃ j : Nat, j + g = 6 ∧ i = .int .i64 (j : Int) ∧ Hid (FlC w w.heap.size N wr (setbs bs (P.take j))))
      case atStart => exact ⟨0, by omega, rfl, HF0⟩
      case round =>
        obtain ⟨j, hj, rfl, HJ⟩ := hrel
        by_cases hjn : j < 6
        · have hjn' : (j : Int) < 6 := by omega
          have hjx : j < P.length := by have := HP.out.2.1; omega
          have HPJ := hid9 (List.getElem?_eq_getElem hjx)
          have hpl := HP.out.1 P[j] (List.getElem_mem hjx)
          have hix := fun w => run_ix6 w PA j HP.out.2.2.2 hjn (HP.out.2.2.1 j P[j] HPJ.out)
          generalize P[j] = p at hix hpl HPJ
          obtain ⟨i, hi⟩ : ∃ i, i = p / 8 := ⟨_, rfl⟩
          have hiN : i < N := by omega
          have hlen : (setbs bs (P.take j)).length = N := by rw [setbs_len]; exact HBS.out.2.1
          obtain ⟨x, hxx⟩ : ∃ x, (setbs bs (P.take j))[i]? = some x := ⟨_, List.getElem?_eq_getElem (by omega)⟩
          obtain ⟨y0, y1, -, -, -⟩ := row_at HJ.out.row hxx
          have hp62 : p ≤ 2 ^ 60 := by omega
          obtain ⟨r, hr⟩ : ∃ r, r = p % 8 := ⟨_, rfl⟩
          have hmsk := fun (w : World) => bmask_any (w := w) hp62 hr
          have hq8 : (p : Int) / 8 = (i : Int) := by omega
          have hwi : IntKind.i64.wrap (i : Int) = (i : Int) := by rw [IntKind.wrap_i64]; omega
          have hr7 : r < 8 := by omega
          have hiN' : (i : Int) < (N : Int) := by omega
          have hok := setbs_ok (P.take j) HBS.out.2.2
          have hx8 := hok _ (List.mem_of_getElem? hxx)
          obtain ⟨X, rfl⟩ := Int.eq_ofNat_of_zero_le hx8.1
          have hpw : 2 ^ r < 2 ^ 8 := Nat.pow_lt_pow_right (by decide) (by omega)
          have hor := u8_or_nat X (2 ^ r) (by omega) (by omega)
          obtain ⟨GJ, HGJ⟩ : ∃ g, Hid (g < gk ∧ j + 1 + g = 6) := ⟨gk - 1, by omega, by omega⟩
          have hj62 : j ≤ 2 ^ 61 := by omega
          have HNX : Hid (∀ wx, FlC w w.heap.size N wx (setbs bs (P.take j)) → FlC w w.heap.size N (wx.setCell ⟨w.heap.size, i, none⟩ (.int .u8 ((X ||| 2 ^ r : Nat) : Int))) (setbs bs (P.take (j + 1)))) := fun wx hx => by
            have e : setbs bs (P.take (j + 1)) = (setbs bs (P.take j)).set i ((X ||| 2 ^ r : Nat) : Int) := by
              rw [List.take_add_one, HPJ.out, setbs_app]
              exact setb_at hxx hi hr
            rw [e]
            exact hx.set (by omega) (Nat.le_refl _) _
          generalize ((X ||| 2 ^ r : Nat) : Int) = Y at hor HNX
          generalize ((2 ^ r : Nat) : Int) = R at hor hmsk
          clear hi hr hok hlen hxx hx8 hpw hr7 hpl hjx hj
          go_upto_region 10 with fail
          go_region_law (refine step_fn 20 (args := #[.int .i64 (p : Int)]) rfl rfl (by simp [Act.eval, Act.put]) (by kernel_rfl) (hmsk _) ?_; rintro e w7 ⟨rfl, hw7⟩; subst hw7; refine ⟨_, rfl, ?_⟩)
          all_goals
            go_wp2_with fail
            go_roundg GJ
            case measure => exact HGJ.out.1
            case rel => exact ⟨j + 1, HGJ.out.2, by go_num, by repeat (first | exact HNX.out _ HJ.out | refine FlC.drew1 ?_)⟩
        · have hjn' : ¬ ((j : Int) < 6) := by omega
          have HF : Hid (FlC w w.heap.size N wr (setbs (List.replicate N 0) ((keys.take (k + 1)).flatMap fun k => prbs k (8 * N)))) := by
            have := HJ.out
            rw [List.take_of_length_le (by have := HP.out.2.1; omega)] at this
            show FlC _ _ _ _ _
            rw [HFL.out, setbs_app, HBS.out.1]
            exact this
          clear hj hjn HJ
          go_wp2_with fail
          go_roundg GK
          case measure => exact HG.out.1
          case rel => exact ⟨k + 1, HG.out.2, by go_num, HF⟩
    · have hkl' : (len : Int) ≤ (k : Int) := by omega
      obtain rfl : k = len := by omega
      have HE : Hid (setbs (List.replicate N 0) ((keys.take k).flatMap fun k => prbs k (8 * N)) = fil keys) := by
        show _ = _
        unfold fil
        rw [HS.out.2, ← HN.out, List.take_of_length_le (by have := HS.out.2; omega)]
      clear hk hkl
      go_wp2_with fail
      exact bodyPost_ret (v := .tuple #[.slice (some ⟨w.heap.size, 0, none⟩) N N, .int .i64 0]) (by simp [results, Try.results14, go_sem]) rfl ⟨_, rfl, by rw [← HE.out]; exact SlV.ofRow HK.out.row (setbs_ok _ (okb_zeros _)), HK.out.bel⟩
theorem theBloom : PBl where
  hash := fun h => (bhash_any h).mono fun e w' ⟨h1, h2⟩ => ⟨h1, by subst h2; exact Below.refl _ _⟩
  probes := fun h hm => bprobes_any h hm
  build := fun h hl => bbuild_any h hl
  many := fun h hl => bmany_any h hl
  has := fun h1 h2 => bhas_any h1 h2
end Go.Proofs.Ytpmebgcknijnkaa
