import Derived.Laws.OwnMore
import Derived.Deep.OwnRows
import Derived.BigQuiet
import Derived.Test.YtfecopldepnicaaPk25
/- The document's own filters: Filter, Has. -/
namespace Go.Proofs.Ytfecopldepnicaa
open Go.RowKit
set_option linter.unusedVariables false
set_option linter.unusedSimpArgs false

theorem hid9 {p : Prop} (h : p) : Hid p := h
theorem row_zeros (w : World) (n : Nat) (hn : n ≤ 1099511627776) : Row w.heap.size (w.alloc (.cells (madeCells #[.int .u8 0] n) 5)) (.slice (some ⟨w.heap.size, 0, none⟩) n n) (List.replicate n 0) := by
  refine ⟨by simp, .inr ⟨w.heap.size, n, madeCells #[.int .u8 0] n, by simp, Nat.le_refl _, heap_alloc_new w _, by simp, by unfold maxLen; omega, by rw [size_madeCells]; omega, ?_⟩⟩
  rw [toList_madeCells_one, List.length_replicate, List.take_of_length_le (by simp)]
  simp
theorem heap_setB {w : World} {p : Nat} {C : Array Value} {t : TypeId} {f : Nat × Nat} (h : w.heap[p]? = some (.cells C t f)) (k : Nat) (v : Value) : (w.setCell ⟨p, k, none⟩ v).heap[p]? = some (.cells (C.setIfInBounds k v) t f) := by
  simp only [World.setCell, Array.getElem?_modify, if_true, h]
  rfl
/-- A byte of a row of one's own is set. -/
theorem row_set {B : Nat} {w : World} {g n c : Nat} {xs : List Int} (h : Row B w (.slice (some ⟨g, 0, none⟩) n c) xs) {i : Nat} (hi : i < xs.length) (x : Int) : Row B (w.setCell ⟨g, i, none⟩ (.int .u8 x)) (.slice (some ⟨g, 0, none⟩) n c) (xs.set i x) := by
  unfold Row at h ⊢
  rcases h with ⟨h1, h2⟩
  rcases h2 with ⟨e, _⟩ | ⟨g', cap, cur, e, hb, hg, hc, hm, hs, ht⟩
  · cases e
  · simp only [Value.slice.injEq, Option.some.injEq, Addr.mk.injEq, and_true] at e
    obtain ⟨rfl, rfl, rfl⟩ := e
    refine ⟨by simp, .inr ⟨g, c, cur.setIfInBounds i (.int .u8 x), by simp, hb, heap_setB hg i _, by simpa using hc, hm, by simpa using hs, ?_⟩⟩
    rw [Array.toList_setIfInBounds, List.length_set, List.take_set, ht, List.map_set]
theorem row_at {B : Nat} {w : World} {g n c : Nat} {xs : List Int} (h : Row B w (.slice (some ⟨g, 0, none⟩) n c) xs) {i : Nat} {x : Int} (hx : xs[i]? = some x) : w.cell? ⟨g, i, none⟩ = some (.int .u8 x) ∧ w.frozen? ⟨g, i, none⟩ = false ∧ n = xs.length ∧ n ≤ c ∧ B ≤ g := by
  have hc := World.ownsRow.cells h (g := g) rfl i (.int .u8 x) (by rw [List.getElem?_map, hx]; rfl)
  rw [Addr.add_lit, Nat.zero_add] at hc
  rcases h.2 with ⟨e, _⟩ | ⟨g', cap, cur, e, hb, hg, hcc, _⟩
  · cases e
  · simp only [Value.slice.injEq, Option.some.injEq, Addr.mk.injEq, and_true] at e
    obtain ⟨rfl, rfl, rfl⟩ := e
    exact ⟨hc, by simp [World.frozen?, hg], rfl, hcc, hb⟩
theorem setb_at {bs : List Int} {p i r X : Nat} (hx : bs[i]? = some (X : Int)) (hi : i = p / 8) (hr : r = p % 8) : setb bs p = bs.set i ((X ||| 2 ^ r : Nat) : Int) := by
  unfold setb
  rw [← hi]
  apply List.ext_getElem?
  intro k
  rw [List.getElem?_modify, List.getElem?_set]
  by_cases e : i = k
  · subst e
    have hlt := (List.getElem?_eq_some_iff.1 hx).1
    rw [if_pos rfl, if_pos hlt, hx]
    simp [orb, ← hr]
  · rw [if_neg e]
    simp only [if_neg e]
    cases bs[k]? <;> rfl
/-- A filter that is being made, beside the probes that are read. -/
structure FlB (w : World) (g N : Nat) (pa : Option Addr) (P : List Nat) (wx : World) (bs : List Int) : Prop where
  row : Row w.heap.size wx (.slice (some ⟨g, 0, none⟩) N N) bs
  bel : Below w.heap.size w wx
  pc : ∀ (j p : Nat), P[j]? = some p → ∃ b off, pa = some ⟨b, off, none⟩ ∧ b ≠ g ∧ wx.cell? ⟨b, off + j, none⟩ = some (.int .i64 (p : Int))
theorem FlB.set {w : World} {g N : Nat} {pa : Option Addr} {P : List Nat} {wx : World} {bs : List Int} (h : FlB w g N pa P wx bs) {i : Nat} (hi : i < bs.length) (hg : w.heap.size ≤ g) (x : Int) : FlB w g N pa P (wx.setCell ⟨g, i, none⟩ (.int .u8 x)) (bs.set i x) := by
  have hne : ∀ b, b ≠ g → (wx.setCell ⟨g, i, none⟩ (.int .u8 x)).heap[b]? = wx.heap[b]? := fun b hb => Below.heap_setCell _ _ _ _ (fun e => hb e)
  refine ⟨row_set h.row hi x, ⟨h.bel.os, h.bel.tape, h.bel.output, by simp [World.setCell]; exact h.bel.size, fun k hk => by rw [hne k (by omega)]; exact h.bel.block k hk⟩, fun j p hp => ?_⟩
  obtain ⟨b, off, e, hb, hc⟩ := h.pc j p hp
  exact ⟨b, off, e, hb, by rw [World.cell?_of_block (w := wx) (a := ⟨b, off + j, none⟩) (hne b hb)]; exact hc⟩

set_option maxHeartbeats 2000000 in
set_option maxRecDepth 100000 in
theorem rfilter_any {w : World} {ao : Option Addr} {len cap : Nat} {keys : List (List Int)} (h : RB w ao len cap keys) (hl : len ≤ 100000) :
    Calls Try.prog 25 #[.slice ao len cap] w fun e w' => ∃ v, e = .returned v ∧ Row w.heap.size w' v (fil keys) ∧ Below w.heap.size w w' := by
  have HS : Hid (RB w ao len cap keys ∧ keys.length = len) := ⟨h, h.1⟩
  obtain ⟨N, hN⟩ : ∃ N, N = fsz len := ⟨_, rfl⟩
  have hNv : N = (max 64 (10 * len) + 7) / 8 := hN
  have hN9 : N ≤ 125008 := by omega
  clear h
  go_enter Try.func25, Try.ntmps25
  go_upto_region 1 with fail
  go_cut [3] from 9 to 15 (fun v wx => wx = w ∧ v = .int .i64 ((8 * N : Nat) : Int))
  case first =>
    by_cases q : 64 ≤ 10 * len
    · have q' : (64 : Int) ≤ 10 * (len : Int) := by omega
      go_wp2_with fail
      go_meet
      exact ⟨rfl, by congr 1; omega⟩
    · have q' : 10 * (len : Int) < 64 := by omega
      go_wp2_with fail
      go_meet
      exact ⟨rfl, by congr 1; omega⟩
  obtain ⟨hwc, rfl⟩ := hcut
  obtain rfl := hwc.symm
  have HN : Hid (N = fsz len) := hN
  clear hN hNv hwc
  have hmk := run_make_row' (P := Try.prog) 25 5 (.int .u8 0) 1 Try.underlying25 Try.info5 rfl .i64 .i64 N (by omega) (by omega)
  have H0 : Hid (Row w.heap.size (w.alloc (.cells (madeCells #[.int .u8 0] N) 5)) (.slice (some ⟨w.heap.size, 0, none⟩) N N) (setbs (List.replicate N 0) ((keys.take 0).flatMap fun k => prbs k (8 * N))) ∧ Below w.heap.size w (w.alloc (.cells (madeCells #[.int .u8 0] N) 5))) := ⟨row_zeros w N (by omega), (Below.refl _ _).alloc (Nat.le_refl _) _⟩
  have hl63 : len ≤ 2 ^ 62 := by omega
  have hN62 : N ≤ 2 ^ 50 := by omega
  go_wp2_with fail
  go_loopg [6, 8, 21] len (fun g _ _ i wr => ∃ k : Nat, k + g = len ∧ i = .int .i64 (k : Int) ∧ Hid (Row w.heap.size wr (.slice (some ⟨w.heap.size, 0, none⟩) N N) (setbs (List.replicate N 0) ((keys.take k).flatMap fun k => prbs k (8 * N))) ∧ Below w.heap.size w wr))
  case atStart => exact ⟨0, by omega, rfl, H0⟩
  case round =>
    obtain ⟨k, hk, rfl, HK⟩ := hrel
    by_cases hkl : k < len
    · have hkl' : (k : Int) < (len : Int) := by omega
      have hkx : k < keys.length := by have := HS.out.2; omega
      obtain ⟨b, off, ka, kc, rfl, hc0, sk⟩ := HS.out.1.2.2.2.2 k keys[k] (List.getElem?_eq_getElem hkx)
      have hc := cell_later HK.out.2 hc0
      have HFL := hid9 (show (keys.take (k + 1)).flatMap (fun k => prbs k (8 * N)) = (keys.take k).flatMap (fun k => prbs k (8 * N)) ++ prbs keys[k] (8 * N) by rw [List.take_add_one, List.getElem?_eq_getElem hkx, List.flatMap_append]; show _ ++ (prbs keys[k] (8 * N) ++ []) = _; rw [List.append_nil])
      have hpr := rprobes_any (m := ((8 * N : Nat) : Int)) (sk.later HK.out.2) ⟨by omega, by omega⟩
      generalize keys[k] = key at hc hc0 sk HFL hpr
      have ePI : prI key ((8 * N : Nat) : Int) = prbs key (8 * N) := by
        unfold prI
        by_cases q : ((8 * N : Nat) : Int) < 1
        · rw [if_pos q]; unfold prbs; rw [if_pos (by omega)]
        · rw [if_neg q, Int.toNat_natCast]
      rw [ePI] at hpr
      have HPL : Hid (∀ p ∈ prbs key (8 * N), p < 8 * N) := fun p hp => prbs_lt hp
      have HPn : Hid ((prbs key (8 * N)).length ≤ 6) := by
        show _ ≤ _
        unfold prbs
        split
        · simp
        · simp
      generalize prbs key (8 * N) = P at hpr HFL HPL HPn
      generalize hBS : setbs (List.replicate N 0) ((keys.take k).flatMap fun k => prbs k (8 * N)) = bs at HK
      have HBS : Hid (setbs (List.replicate N 0) ((keys.take k).flatMap fun k => prbs k (8 * N)) = bs ∧ bs.length = N ∧ Okb bs) := ⟨hBS, by rw [← hBS, setbs_len]; simp, by rw [← hBS]; exact setbs_ok _ (okb_zeros _)⟩
      obtain ⟨GK, HG⟩ : ∃ g, Hid (g < gk ∧ k + 1 + g = len) := ⟨gk - 1, by omega, by omega⟩
      have HLT := hid9 (World.ownsRow.lt HK.out.1 w.heap.size rfl).2
      clear hk hc0 sk ePI hBS H0
      go_wp2_with (go_at_call 57; refine hpr.mono ?_; rintro e w3 ⟨v3, rfl, r3, b3⟩; obtain ⟨pa, pc, hv3, rs3⟩ := r3.rs; subst hv3)
      have HF0 : Hid (FlB w w.heap.size N pa P w3 (setbs bs (P.take 0))) := by
        refine ⟨by show Row _ _ _ bs; exact HK.out.1.later b3, HK.out.2.trans (b3.mono HK.out.2.size), fun j p hp => ?_⟩
        obtain ⟨bb, oo, e, hcc⟩ := RS.num rs3 hp
        refine ⟨bb, oo, e, fun hbg => ?_, hcc⟩
        subst e
        have := (r3.own_lt (g := bb) rfl).1
        have := HLT.out
        omega
      obtain ⟨n, hn⟩ : ∃ n, n = P.length := ⟨_, rfl⟩
      have HNN : Hid (n = P.length ∧ n ≤ 6) := ⟨hn, by have := HPn.out; omega⟩
      rw [← hn]
      have hn62 : n ≤ 2 ^ 62 := by have := HNN.out; omega
      clear r3 b3 rs3 HK hn
      go_wp2_with fail
      go_loopg [8, 29] n (fun g _ i wr => ∃ j : Nat, j + g = n ∧ i = .int .i64 (j : Int) ∧ Hid (FlB w w.heap.size N pa P wr (setbs bs (P.take j))))
      case atStart => exact ⟨0, by omega, rfl, HF0⟩
      case round =>
        obtain ⟨j, hj, rfl, HJ⟩ := hrel
        by_cases hjn : j < n
        · have hjn' : (j : Int) < (n : Int) := by omega
          have hjx : j < P.length := by have := HNN.out; omega
          obtain ⟨bb, oo, rfl, hbg, hcp⟩ := HJ.out.pc j P[j] (List.getElem?_eq_getElem hjx)
          have hpl := HPL.out P[j] (List.getElem_mem hjx)
          have HPJ := hid9 (List.getElem?_eq_getElem hjx)
          generalize P[j] = p at hcp hpl HPJ
          obtain ⟨i, hi⟩ : ∃ i, i = p / 8 := ⟨_, rfl⟩
          have hiN : i < N := by omega
          have hlen : (setbs bs (P.take j)).length = N := by rw [setbs_len]; exact HBS.out.2.1
          obtain ⟨x, hxx⟩ : ∃ x, (setbs bs (P.take j))[i]? = some x := ⟨_, List.getElem?_eq_getElem (by omega)⟩
          obtain ⟨y0, y1, _, _, _⟩ := row_at HJ.out.row hxx
          have hp62 : p ≤ 2 ^ 60 := by omega
          obtain ⟨r, hr⟩ : ∃ r, r = p % 8 := ⟨_, rfl⟩
          have hq8 : (p : Int) / 8 = (i : Int) := by omega
          have hr8 : (p : Int) % 8 = (r : Int) := by omega
          have hr7 : r < 8 := by omega
          have hiN' : (i : Int) < (N : Int) := by omega
          have hok := setbs_ok (P.take j) HBS.out.2.2
          have hx8 := hok _ (List.mem_of_getElem? hxx)
          obtain ⟨X, rfl⟩ := Int.eq_ofNat_of_zero_le hx8.1
          have hpw : 2 ^ r < 2 ^ 8 := Nat.pow_lt_pow_right (by decide) (by omega)
          have HOR : Hid (bits .or .u8 (X : Int) (2 ^ r % 256) = ((X ||| 2 ^ r : Nat) : Int)) := by
            show _ = _
            have e := u8_or_nat X (2 ^ r) (by omega) (by omega)
            rw [show ((2 ^ r : Nat) : Int) = (2 : Int) ^ r % 256 by rw [Int.emod_eq_of_lt (by exact_mod_cast Nat.zero_le (2 ^ r)) (by exact_mod_cast hpw)]; norm_cast] at e
            exact e
          obtain ⟨GJ, HGJ⟩ : ∃ g, Hid (g < gk ∧ j + 1 + g = n) := ⟨gk - 1, by omega, by omega⟩
          have hj62 : j ≤ 2 ^ 61 := by have := HNN.out; omega
          have HNX : Hid (FlB w w.heap.size N (some ⟨bb, oo, none⟩) P (wr.setCell ⟨w.heap.size, i, none⟩ (.int .u8 ((X ||| 2 ^ r : Nat) : Int))) (setbs bs (P.take (j + 1)))) := by
            have e : setbs bs (P.take (j + 1)) = (setbs bs (P.take j)).set i ((X ||| 2 ^ r : Nat) : Int) := by
              rw [List.take_add_one, HPJ.out, setbs_app]
              exact setb_at hxx hi hr
            rw [e]
            exact HJ.out.set (by omega) (Nat.le_refl _) _
          clear hi hr hok hlen hxx
          go_wp2_with fail
          go_roundg GJ
          case measure => exact HGJ.out.1
          case rel => exact ⟨j + 1, HGJ.out.2, by go_num, by rw [HOR.out]; exact HNX⟩
        · have hjn' : (n : Int) ≤ (j : Int) := by omega
          have HF : Hid (Row w.heap.size wr (.slice (some ⟨w.heap.size, 0, none⟩) N N) (setbs (List.replicate N 0) ((keys.take (k + 1)).flatMap fun k => prbs k (8 * N))) ∧ Below w.heap.size w wr) := by
            refine ⟨?_, HJ.out.bel⟩
            rw [HFL.out, setbs_app, HBS.out.1]
            have := HJ.out.row
            rw [List.take_of_length_le (by have := HNN.out; omega)] at this
            exact this
          clear hj hjn HJ
          go_wp2_with fail
          go_roundg GK
          case measure => exact HG.out.1
          case rel => exact ⟨k + 1, HG.out.2, by go_num, HF⟩
    · have hkl' : (len : Int) ≤ (k : Int) := by omega
      obtain rfl : k = len := by omega
      have HE : Hid (setbs (List.replicate N 0) ((keys.take k).flatMap fun k => prbs k (8 * N)) = fil keys) := by
        show _ = _
        unfold fil
        rw [HS.out.2, ← HN.out, List.take_of_length_le (by have := HS.out.2; omega)]
      clear hk hkl
      go_wp2_with fail
      exact bodyPost_ret (v := .slice (some ⟨w.heap.size, 0, none⟩) N N) (by simp [results, Try.results25, go_sem]) rfl ⟨_, rfl, by rw [← HE.out]; exact HK.out.1, HK.out.2⟩
end Go.Proofs.Ytfecopldepnicaa

/- The document's own filters: Has. -/
namespace Go.Proofs.Ytfecopldepnicaa
open Go.RowKit
set_option linter.unusedVariables false
set_option linter.unusedSimpArgs false

theorem hasb_bit {f : List Int} {p i r X : Nat} (hx : f[i]? = some (X : Int)) (hi : i = p / 8) (hr : r = p % 8) : hasb f p = decide (X / 2 ^ r % 2 = 1) := by
  unfold hasb
  rw [← hi, ← hr, List.getD_eq_getElem?_getD, hx]
  simp only [Option.getD_some, Int.toNat_natCast]
  exact Nat.testBit_eq_decide_div_mod_eq
theorem all_take {P : List Nat} {q : Nat → Bool} {j p : Nat} (h : P[j]? = some p) : (P.take (j + 1)).all q = ((P.take j).all q && q p) := by
  rw [List.take_add_one, h, List.all_append]
  simp

set_option maxHeartbeats 2000000 in
set_option maxRecDepth 100000 in
theorem rhas_any {w : World} {fa ka : Option Addr} {fl fc kl kc : Nat} {f key : List Int} (h1 : Sl w fa fl fc f) (h2 : Sl w ka kl kc key) :
    Calls Try.prog 24 #[.slice fa fl fc, .slice ka kl kc] w fun e w' => e = .returned (.bool (has f key)) ∧ Below w.heap.size w w' := by
  have hfl := h1.1
  have hl63 : fl ≤ 2 ^ 63 - 1 := by have := h1.2.2.2; unfold maxLen at this; omega
  by_cases q0 : fl = 0
  · have hR : has f key = true := by unfold has; rw [if_pos (.inl (by omega))]
    rw [hR]
    have e0 : ((fl : Int) == 0) = true := by simp; omega
    clear h1 h2 hR q0 hfl
    go_enter Try.func24, Try.ntmps24
    go_wp2_with fail
    exact bodyPost_ret (v := .bool true) (by simp [results, Try.results24, go_sem]) rfl ⟨rfl, Below.refl _ _⟩
  by_cases q1 : 1048576 < fl
  · have hR : has f key = true := by unfold has; rw [if_pos (.inr (by omega))]
    rw [hR]
    have e0 : ((fl : Int) == 0) = false := by simp; omega
    have e1 : (1048576 : Int) < (fl : Int) := by omega
    clear h1 h2 hR q0 hfl q1
    go_enter Try.func24, Try.ntmps24
    go_wp2_with fail
    exact bodyPost_ret (v := .bool true) (by simp [results, Try.results24, go_sem]) rfl ⟨rfl, Below.refl _ _⟩
  have hR : has f key = (prbs key (8 * fl)).all (hasb f) := by unfold has; rw [if_neg (by omega), hfl]
  rw [hR]
  have e0 : ((fl : Int) == 0) = false := by simp; omega
  have e1 : (fl : Int) ≤ 1048576 := by omega
  have hpr := rprobes_any (m := ((8 * fl : Nat) : Int)) h2 ⟨by omega, by omega⟩
  have ePI : prI key ((8 * fl : Nat) : Int) = prbs key (8 * fl) := by
    unfold prI
    rw [if_neg (by omega), Int.toNat_natCast]
  rw [ePI, show ((8 * fl : Nat) : Int) = 8 * (fl : Int) by omega] at hpr
  have HP : Hid ((∀ p ∈ prbs key (8 * fl), p < 8 * fl) ∧ (prbs key (8 * fl)).length = 6) := ⟨fun p hp => prbs_lt hp, prbs_len (by omega)⟩
  generalize prbs key (8 * fl) = P at hpr HP
  have HS : Hid (Sl w fa fl fc f) := h1
  obtain ⟨T, hT⟩ : ∃ T, T = P.all (hasb f) := ⟨_, rfl⟩
  rw [← hT]
  have HT : Hid (T = P.all (hasb f)) := hT
  clear h1 h2 hR ePI q0 q1 hT
  go_enter Try.func24, Try.ntmps24
  go_wp2_with (go_at_call 57; refine hpr.mono ?_; rintro e w3 ⟨v3, rfl, r3, b3⟩; obtain ⟨pa, pc, hv3, rs3⟩ := r3.rs; subst hv3)
  have HRS := hid9 rs3
  have HB := hid9 b3
  obtain ⟨n, hn⟩ : ∃ n, n = P.length := ⟨_, rfl⟩
  rw [← hn] at HRS ⊢
  have HN : Hid (n = P.length ∧ n = 6) := ⟨hn, by rw [hn]; exact HP.out.2⟩
  have hn62 : n ≤ 2 ^ 61 := by have := HN.out; omega
  clear hpr r3 rs3 b3 hn
  go_wp2_with fail
  go_loopg [6, 21] n (fun g _ i wr => ∃ j : Nat, j + g = n ∧ i = .int .i64 (j : Int) ∧ wr = w3 ∧ Hid ((P.take j).all (hasb f) = true))
  case atStart => exact ⟨0, by omega, rfl, rfl, rfl⟩
  case round =>
    obtain ⟨j, hj, rfl, hw, HJ⟩ := hrel
    obtain rfl := hw.symm
    by_cases hjn : j < n
    · have hjn' : (j : Int) < (n : Int) := by omega
      have hjx : j < P.length := by have := HN.out; omega
      have HPJ := hid9 (List.getElem?_eq_getElem hjx)
      have hpl := HP.out.1 P[j] (List.getElem_mem hjx)
      obtain ⟨bb, oo, rfl, hcp⟩ := RS.num HRS.out HPJ.out
      generalize P[j] = p at hcp hpl HPJ
      obtain ⟨i, hi⟩ : ∃ i, i = p / 8 := ⟨_, rfl⟩
      obtain ⟨r, hr⟩ : ∃ r, r = p % 8 := ⟨_, rfl⟩
      have hiN : i < fl := by omega
      obtain ⟨hX8, b, off, rfl, hc0⟩ := HS.out.2.2.2.2.2 i hiN
      have hc := cell_later HB.out hc0
      have hfx : f[i]? = some ((xof f i : Nat) : Int) := by
        have hif : i < f.length := by omega
        have h0 := HS.out.2.1 f[i] (List.getElem_mem hif)
        rw [List.getElem?_eq_getElem hif]
        simp only [xof, List.getD_eq_getElem?_getD, List.getElem?_eq_getElem hif, Option.getD_some, Option.some.injEq]
        omega
      have hbit := hasb_bit hfx hi hr
      have hat := all_take (q := hasb f) HPJ.out
      generalize xof f i = X at hX8 hc hbit hc0 hfx
      have hq8 : (p : Int) / 8 = (i : Int) := by omega
      have hr8 : (p : Int) % 8 = (r : Int) := by omega
      have hr7 : r < 8 := by omega
      have hiN' : (i : Int) < (fl : Int) := by omega
      have hp62 : p ≤ 2 ^ 60 := by omega
      have hj62 : j ≤ 2 ^ 61 := by omega
      have HAT : Hid ((P.take (j + 1)).all (hasb f) = decide (X / 2 ^ r % 2 = 1) ∧ (decide (X / 2 ^ r % 2 = 1) = false → T = false)) := by
        rw [HJ.out, hbit, Bool.true_and] at hat
        refine ⟨hat, fun e => ?_⟩
        rw [HT.out, List.all_eq_false]
        exact ⟨p, List.mem_of_getElem? HPJ.out, by rw [hbit, e]; decide⟩
      obtain ⟨GJ, HGJ⟩ : ∃ g, Hid (g < gk ∧ j + 1 + g = n) := ⟨gk - 1, by omega, by omega⟩
      have hpw : 2 ^ r < 2 ^ 8 := Nat.pow_lt_pow_right (by decide) (by omega)
      have hpos : 0 < 2 ^ r := Nat.pow_pos (by decide)
      have hand : bits .and .u8 ((X : Int) / 2 ^ r) 1 = ((X / 2 ^ r % 2 : Nat) : Int) := by
        have e := u8_and_nat (X / 2 ^ r) 1 (Nat.lt_of_le_of_lt (Nat.div_le_self _ _) hX8) (by decide)
        rw [Nat.and_one_is_mod] at e
        rw [← e]
        norm_cast
      clear hi hr hc0 hfx hbit hat hj hpl
      by_cases qb : X / 2 ^ r % 2 = 1
      · have hb : (bits .and .u8 ((X : Int) / 2 ^ r) 1 == 0) = false := by rw [hand, qb]; rfl
        have HNX : Hid ((P.take (j + 1)).all (hasb f) = true) := by show _ = _; rw [HAT.out.1]; simpa using qb
        clear hand qb
        go_wp2_with fail
        go_roundg GJ
        case measure => exact HGJ.out.1
        case rel => exact ⟨j + 1, HGJ.out.2, by go_num, rfl, HNX⟩
      · have hb : (bits .and .u8 ((X : Int) / 2 ^ r) 1 == 0) = true := by rw [hand, show X / 2 ^ r % 2 = 0 by omega]; rfl
        have hTf : T = false := HAT.out.2 (by simpa using qb)
        subst hTf
        clear hand qb
        go_wp2_with fail
        exact bodyPost_ret (v := .bool false) (by simp [results, Try.results24, go_sem]) rfl ⟨rfl, HB.out⟩
    · have hjn' : (n : Int) ≤ (j : Int) := by omega
      have hTT : T = true := by
        have := HJ.out
        rw [List.take_of_length_le (by have := HN.out; omega)] at this
        rw [HT.out, this]
      subst hTT
      clear hj hjn HJ
      go_wp2_with fail
      exact bodyPost_ret (v := .bool true) (by simp [results, Try.results24, go_sem]) rfl ⟨rfl, HB.out⟩
end Go.Proofs.Ytfecopldepnicaa

/- What the laws on filters lean on: what a program's own must keep; the simple ones. -/
namespace Go.Proofs.Ytfecopldepnicaa
open Go.RowKit
set_option linter.unusedVariables false
set_option linter.unusedSimpArgs false

/-- : what is asked of a program's filters. -/
structure PBl : Prop where
  hash : ∀ {w : World} {ao : Option Addr} {len cap : Nat} {xs : List Int}, Sl w ao len cap xs → Calls Try.prog 90 #[.slice ao len cap] w fun e w' => e = .returned (.int .u64 (hsh xs : Nat)) ∧ Below w.heap.size w w'
  build : ∀ {w : World} {ao : Option Addr} {len cap : Nat} {keys : List (List Int)}, RB w ao len cap keys → len ≤ 100000 → Calls Try.prog 31 #[.slice ao len cap] w fun e w' => ∃ v, e = .returned (.tuple #[v, .int .i64 0]) ∧ SlV w' v (fil keys) ∧ Below w.heap.size w w'
  many : ∀ {w : World} {ao : Option Addr} {len cap : Nat} {keys : List (List Int)}, RB w ao len cap keys → 100000 < len → Calls Try.prog 31 #[.slice ao len cap] w fun e w' => ∃ v, e = .returned (.tuple #[v, .int .i64 13]) ∧ SlV w' v [] ∧ Below w.heap.size w w'
  has : ∀ {w : World} {fa ka : Option Addr} {fl fc kl kc : Nat} {f key : List Int}, Sl w fa fl fc f → Sl w ka kl kc key → Calls Try.prog 56 #[.slice fa fl fc, .slice ka kl kc] w fun e w' => e = .returned (.bool (has f key)) ∧ Below w.heap.size w w'

end Go.Proofs.Ytfecopldepnicaa
