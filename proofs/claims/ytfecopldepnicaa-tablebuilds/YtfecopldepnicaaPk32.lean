import Derived.BigQuiet
import Derived.Test.YtfecopldepnicaaPk16
import Derived.Test.YtfecopldepnicaaPk18
import Derived.Test.YtfecopldepnicaaPk22
import Derived.Test.YtfecopldepnicaaPk24
import Derived.Test.YtfecopldepnicaaPk25
import Derived.Test.YtfecopldepnicaaPk26
import Derived.Test.YtfecopldepnicaaPk28
import Derived.Test.YtfecopldepnicaaPk31
/- The landed table: the blocks' bytes and the index. -/
namespace Go.Proofs.Ytfecopldepnicaa
open Go.RowKit
set_option linter.unusedVariables false
set_option linter.unusedSimpArgs false

theorem Row.slT {B : Nat} {w : World} {a : Option Addr} {n c : Nat} {xs : List Int} (h : Row B w (.slice a n c) xs) (hok : Okb xs) : Sl w a n c xs := by
  obtain ⟨a', c', hv, hs⟩ := Sl.ofRow h hok
  simp only [Value.slice.injEq] at hv
  obtain ⟨rfl, rfl, rfl⟩ := hv
  exact hs
theorem Pair.swap {W wx : World} {v u : Value} {ys zs : List Int} (h : Pair W wx v u ys zs) : Pair W wx u v zs ys := ⟨h.2.1, h.1, h.2.2.1, fun g hg e => h.2.2.2 g e hg⟩
theorem Pair.later {W wx wy : World} {v u : Value} {ys zs : List Int} (h : Pair W wx v u ys zs) (hb : Below wx.heap.size wx wy) : Pair W wy v u ys zs := ⟨h.1.later hb, h.2.1.later hb, h.2.2.1.trans (hb.mono h.2.2.1.size), h.2.2.2⟩
theorem Row.own_ltT {B : Nat} {w : World} {v : Value} {xs : List Int} (h : Row B w v xs) {g : Nat} (hg : v.ownBlock = some g) : B ≤ g ∧ g < w.heap.size := World.ownsRow.lt h _ hg
theorem Pair.grow {W wx wy : World} {v v' u : Value} {ys xs zs : List Int} (h : Pair W wx v u ys zs) (hg : wx.grownBy wy v.ownBlock) (hm : Moved wx v v') (hr : Row W.heap.size wy v' xs) : Pair W wy v' u xs zs := by
  refine ⟨hr, h.2.1.other hg (fun g e1 e2 => h.2.2.2 g e2 e1), ?_, fun g e1 e2 => ?_⟩
  · exact h.2.2.1.trans (grown_below h.1 hg h.2.2.1.size)
  · rcases hm with q | ⟨g', q1, q2⟩
    · rw [q] at e1; exact h.2.2.2 g e1 e2
    · rw [q1] at e1
      simp only [Option.some.injEq] at e1
      have := (Row.own_ltT h.2.1 e2).2
      omega
theorem RS.headT {w : World} {ao : Option Addr} {len cap : Nat} {l : List EntV} (h : RS entE w ao len cap l) (j : Nat) (hj : j ≤ len) : RS entE w (cutS ao cap 0 5) j cap (l.take j) := by
  have := (RSG.any h).cut (by decide) 0 j (Nat.zero_le _) hj
  simpa [cutS] using this.rs
theorem RS.fromT {w : World} {ao : Option Addr} {len cap : Nat} {l : List EntV} (h : RS entE w ao len cap l) (i : Nat) (hi : i ≤ len) : RS entE w (cutS ao cap i 5) (len - i) (cap - i) (l.drop i) := by
  have := (RSG.any h).cut (by decide) i len hi (Nat.le_refl _)
  have e : (l.drop i).take (len - i) = l.drop i := List.take_of_length_le (by rw [List.length_drop, h.len.1]; exact Nat.le_refl _)
  rw [e] at this
  exact this.rs

theorem RS.okET {w : World} {ao : Option Addr} {len cap : Nat} {l : List EntV} (h : RS entE w ao len cap l) : ∀ e ∈ l, OkE e := fun e he => by
  obtain ⟨i, hi, rfl⟩ := List.getElem_of_mem he
  obtain ⟨b, off, ka, kc, va, vc, -, -, -, -, -, -, sk, sv, -, -⟩ := RS.ent h (List.getElem?_eq_getElem hi)
  exact ⟨sk.2.1, sv.2.1⟩
theorem okb_bodT {bs : List (List EntV)} (h : ∀ c ∈ bs, ∀ e ∈ c, OkE e) : Okb (bodT bs) := by
  intro x hx
  unfold bodT at hx
  obtain ⟨y, hy, hxy⟩ := List.mem_flatten.1 hx
  obtain ⟨c', hc', rfl⟩ := List.mem_map.1 hy
  exact okb_sm (okb_blk (h c' hc')) x hxy
theorem enc_t {w : World} {ao : Option Addr} {len cap : Nat} {l : List EntV} (h : RS entE w ao len cap l) (hl : len ≤ 5000) (h0 : blkE l = 0) :
    Calls Try.prog 62 #[.slice ao len cap] w fun e w' => ∃ a c, e = .returned (.tuple #[.slice a (blkB l).length c, .int .i64 0]) ∧ Row w.heap.size w' (.slice a (blkB l).length c) (blkB l) ∧ Below w.heap.size w w' := by
  refine (encR_k h (by omega)).mono ?_
  rintro e w' ⟨v, rfl, r, b⟩
  rw [h0, if_pos rfl] at *
  obtain ⟨a, c, rfl, _⟩ := Sl.ofRow r (okb_blk h.okET)
  exact ⟨a, c, rfl, r, b⟩

set_option maxHeartbeats 4000000 in
set_option maxRecDepth 100000 in
theorem bai_t {w : World} {ao : Option Addr} {len cap : Nat} {l : List EntV} (h : RS entE w ao len cap l) (hl : len ≤ 5000) (hm : ∀ e ∈ l, mayE e = true) (ho : ordE l) :
    Calls Try.prog 30 #[.slice ao len cap] w fun e w' => ∃ v u, e = .returned (.tuple #[v, u]) ∧ Pair w w' v u (bodT (cutT l)) (idxT l) := by
  have hln : l.length = len := h.len.1
  have HS : Hid (l.length = len ∧ len ≤ 5000 ∧ (∀ e ∈ l, mayE e = true) ∧ ordE l) := ⟨hln, hl, hm, ho⟩
  have HOK := hid h.okET
  have H0 : Hid (l.length = len ∧ cutT l = [] ++ cutT l ∧ RS entE w ao len cap l ∧ (∀ e ∈ l, e ∈ l) ∧ Pair w w (.slice none 0 0) (.slice none 0 0) (bodT []) (idxB 0 [])) := ⟨hln, rfl, h, fun _ q => q, Row.nil _ _, Row.nil _ _, Below.refl _ _, fun g e => by cases e⟩
  have hl62 : len ≤ 2 ^ 61 := by omega
  clear h hm ho hln
  go_enter Try.func30, Try.ntmps30
  go_wp2_with fail
  go_loopg [0, 2, 3, 4, 5, 6] len (fun g lv bv iv _ _ _ wr => ∃ (a : Option Addr) (c : Nat) (r : List EntV) (bs : List (List EntV)), lv = .slice a g c ∧ g ≤ len ∧ Hid (r.length = g ∧ cutT l = bs ++ cutT r ∧ RS entE w a g c r ∧ (∀ e ∈ r, e ∈ l) ∧ Pair w wr bv iv (bodT bs) (idxB 0 bs)))
  case atStart => exact ⟨ao, cap, l, [], rfl, Nat.le_refl _, H0⟩
  case round =>
    obtain ⟨a, c, r, bs, rfl, hg, HK⟩ := hrel
    by_cases hz : gk = 0
    · have hz' : (gk : Int) = 0 := by omega
      have HE : Hid (cutT l = bs) := by
        have h1 := HK.out.2.1
        have h2 : r = [] := List.eq_nil_of_length_eq_zero (by rw [HK.out.1]; exact hz)
        rw [h2] at h1
        show _ = _
        rw [h1]
        simp [cutT, cutB]
      have HP := hid HK.out.2.2.2.2
      clear HK
      go_wp2_with fail
      exact bodyPost_ret (v := .tuple #[u2, u3]) (by simp [results, Try.results30, go_sem]) rfl ⟨u2, u3, rfl, by unfold idxT; rw [HE.out]; exact HP.out⟩
    · have hz' : (0 : Int) < (gk : Int) := by omega
      have hrl := HK.out.1
      have hrne : r ≠ [] := fun z => by rw [z] at hrl; exact hz hrl.symm
      obtain ⟨n, hn⟩ : ∃ n, n = beN 0 r := ⟨_, rfl⟩
      have hn1 : 1 ≤ n := by rw [hn]; exact beN_pos hrne
      have hn2 : n ≤ gk := by rw [hn, ← hrl]; exact beN_le r 0
      have hcut := cutT_be hrne
      rw [← hn] at hcut
      have hcm : r.take n ∈ cutT l := by rw [HK.out.2.1, hcut]; simp
      have hblk := cutT_blk HS.out.2.2.1 HS.out.2.2.2 _ hcm
      have hshort := cut_short (by have := HS.out; omega) HS.out.2.2.1 HK.out.2.1
      have hcut2 : cutT l = (bs ++ [r.take n]) ++ cutT (r.drop n) := by rw [HK.out.2.1, hcut]; simp
      have hshort2 := cut_short (by have := HS.out; omega) HS.out.2.2.1 hcut2
      have bw := HK.out.2.2.2.2.2.2.1
      have hbe := bend_t (HK.out.2.2.1.later bw) (by omega) (by omega) (fun e he => HS.out.2.2.1 e (HK.out.2.2.2.1 e he))
      rw [← hn] at hbe
      have hx : n - 1 < r.length := by omega
      have hkey : r[n - 1].key = lastK [] (r.take n) := by
        have := lastK_take r (n - 1) [] hx
        rw [show n - 1 + 1 = n by omega] at this
        exact this.symm
      obtain ⟨b0, off, ka, kc, va, vc, hab, d0, -, -, -, -, sk, -, -, -⟩ := RS.ent HK.out.2.2.1 (List.getElem?_eq_getElem hx)
      have hk5 : r[n - 1].key.length ≤ 512 := (mayE_ok (HS.out.2.2.1 _ (HK.out.2.2.2.1 _ (List.getElem_mem hx)))).2.1
      rw [hkey] at d0 sk hk5
      have hhd := fun w => run_headE w a gk c n (by have := HK.out.2.2.1.len; omega)
      have hfr := fun w => run_fromE w a gk c n hn2 (by have := HK.out.2.2.1.len; omega)
      have HRH := hid (HK.out.2.2.1.headT n hn2)
      have HRF := hid (HK.out.2.2.1.fromT n hn2)
      have hbl : (blkB (r.take n)).length ≤ 20000000 := by
        have h1 := hshort2.1
        rw [bodT_snoc, List.length_append, sm_len] at h1
        omega
      have hokb : Okb (blkB (r.take n)) → True := fun _ => trivial
      have HC : Hid (cutT l = (bs ++ [r.take n]) ++ cutT (r.drop n) ∧ (∀ e ∈ r.drop n, e ∈ l) ∧ (r.drop n).length = gk - n ∧ blkE (r.take n) = 0 ∧ bodT (bs ++ [r.take n]) = bodT bs ++ sm (blkB (r.take n)) ∧ idxB 0 (bs ++ [r.take n]) = idxB 0 bs ++ (lb (lastK [] (r.take n)) ++ (uv (bodT bs).length ++ uv (blkB (r.take n)).length))) :=
        ⟨hcut2, fun e he => HK.out.2.2.2.1 e (List.mem_of_mem_drop he), by rw [List.length_drop, hrl], hblk.1, bodT_snoc _ _, by have := idxB_snoc bs 0 (r.take n); rw [Nat.zero_add] at this; exact this⟩
      have HL : Hid ((bodT bs).length ≤ 20000000 ∧ (idxB 0 bs).length ≤ 20000000 ∧ (blkB (r.take n)).length ≤ 20000000 ∧ gk ≤ 5000) := ⟨hshort.1, hshort.2, hbl, by have := HS.out; omega⟩
      have HP := hid HK.out.2.2.2.2
      subst hab
      have d0' := cell_later bw d0
      have HSK := hid sk
      generalize cutS (some ⟨b0, off, none⟩) c 0 5 = ha at hhd HRH
      generalize cutS (some ⟨b0, off, none⟩) c n 5 = fa at hfr HRF
      generalize c - n = fc at hfr HRF
      obtain ⟨GN, hGN⟩ : ∃ g, g = gk - n := ⟨_, rfl⟩
      rw [← hGN] at hfr HRF HC
      have HGN : Hid (GN < gk ∧ GN ≤ len) := ⟨by omega, by omega⟩
      generalize lastK [] (r.take n) = key at d0 d0' HSK hk5 HC
      generalize hRT : r.take n = rt at HRH HC HL
      generalize r.drop n = rd at HRF HC
      have hn62 : n ≤ 2 ^ 61 := by omega
      have hgk62 : gk ≤ 2 ^ 61 := by omega
      have hi1 : (n : Int) - 1 < (gk : Int) := by omega
      have hi2 : (1 : Int) ≤ (n : Int) := by omega
      have hokB : Okb (bodT bs) := okb_bodT fun c' hc' e he => HOK.out e (by
        have h1 : e ∈ (cutT l).flatten := List.mem_flatten.2 ⟨c', by rw [HK.out.2.1]; simp [hc'], he⟩
        rw [cutT_flat] at h1
        exact h1)
      have hokR : Okb (blkB rt) := okb_blk HRH.out.okET
      obtain ⟨a2, c2, hv2, -⟩ := Sl.ofRow HP.out.1 hokB
      subst hv2
      obtain ⟨X, hX⟩ : ∃ X, X = lb key ++ (uv (bodT bs).length ++ uv (blkB rt).length) := ⟨_, rfl⟩
      rw [← hX] at HC
      generalize hBL : (bodT bs).length = BL at HL hX
      rw [hBL] at HP
      generalize hRL : (blkB rt).length = RL at HL hX
      have HX := hid (And.intro hX (And.intro hBL hRL))
      have HKL : Hid (key.length ≤ 512) := hk5
      have HOKR := hid hokR
      have hBL62 : BL ≤ 2 ^ 61 := by have := HL.out; omega
      have hRL62 : RL ≤ 2 ^ 61 := by have := HL.out; omega
      have HBW := hid bw
      clear HK hbl hokb hshort hshort2 hcut hcut2 hcm hblk hrne hx hkey d0 sk hokB hokR hX hBL hRL hn hrl hk5 hGN hRT bw hz hg hn1 hn2
      go_upto_region 3 with (go_at_call 61; refine hbe.mono ?_; rintro e w1 ⟨rfl, b1⟩)
      have HBW1 := hid (HBW.out.trans (b1.mono HBW.out.size))
      have hen := enc_t (HRH.out.later HBW1.out) (by have := HL.out; omega) HC.out.2.2.2.1
      rw [HX.out.2.2] at hen
      clear hbe
      go_upto_region 4 with (go_at_call 62; refine hen.mono ?_; rintro e w2 ⟨a5, c5, rfl, r5, b2⟩)
      have HP1 := hid (HP.out.later b1)
      have HP2 := hid (HP1.out.later b2)
      have HSEP : Hid (∀ g, (Value.slice a5 RL c5).ownBlock = some g → (Value.slice a2 BL c2).ownBlock ≠ some g ∧ u3.ownBlock ≠ some g) := fun g hg => by
        have h1 := (Row.own_ltT r5 hg).1
        exact ⟨fun e => by have := (Row.own_ltT HP1.out.1 e).2; omega, fun e => by have := (Row.own_ltT HP1.out.2.1 e).2; omega⟩
      have HR5 := hid r5
      have hrb := rwby_t (p := BL) (n := RL) (HSK.out.later HP2.out.2.2.1) (by have := HKL.out; omega) (by have := HL.out; omega) (by have := HL.out; omega)
      rw [← HX.out.1] at hrb
      have d2' := cell_later b2 (cell_later b1 d0')
      clear hen r5 d0' b1 b2
      go_upto_region 5 with (first | (go_at_call 63; refine hrb.mono ?_; rintro e w3 ⟨a6, m6, c6, rfl, s6, hm6, b3⟩; have HP3 := hid (HP2.out.later b3)) | (at_builtin; refine wpList_applN (B := w.heap.size) (xs := idxB 0 bs) (ys := X) (ao := a6) (m := m6) (c := c6) rfl (.tmp 19) (.tmp 30) rfl rfl HP3.out.2.1 rfl s6 (by have := HL.out; omega) HP3.out.2.2.1.size ?_; intro v4 w4 r4 g4 m4))
      have HP4 := hid (Pair.grow HP3.out.swap g4 m4 r4).swap
      have HR6 := hid ((HR5.out.later b3).other g4 fun g hg => (HSEP.out g hg).2)
      have hap := apsm_t (ys := blkB rt) (ao := a5) (m := RL) (c := c5) HP4.out.1 HP4.out.2.2.1.size (fun w' hg => (HR6.out.other hg fun g hg => (HSEP.out g hg).1).slT HOKR.out) (by have := HL.out; have := HX.out.2.1; omega) (by have := HL.out; omega)
      clear hrb s6 b3 r4 g4 m4 d2'
      go_wp2_with (go_at_call 34; refine hap.mono ?_; rintro e w5 ⟨v5, rfl, r5', g5⟩)
      have HP5 := hid (Pair.grow HP4.out g5.1 g5.2 r5')
      go_roundg GN
      case measure => exact HGN.out.1
      case rel => exact ⟨fa, fc, rd, bs ++ [rt], rfl, HGN.out.2, HC.out.2.2.1, HC.out.1, HRF.out, HC.out.2.1, by rw [HC.out.2.2.2.2.1, HC.out.2.2.2.2.2]; exact HP5.out⟩
end Go.Proofs.Ytfecopldepnicaa

/- The landed table: numbers of four bytes; the keys, each once. -/
namespace Go.Proofs.Ytfecopldepnicaa
open Go.RowKit
set_option linter.unusedVariables false
set_option linter.unusedSimpArgs false

theorem fixs_t {w : World} {ao : Option Addr} {len cap : Nat} {xs : List Int} (h : Sl w ao len cap xs) (hl : len ≤ 1000000) (n : Nat) : Calls Try.prog 67 #[.slice ao len cap, .int .u64 (n : Int), .int .i64 4] w fun e w' => ∃ a c, e = .returned (.slice a (len + 4) c) ∧ Row w.heap.size w' (.slice a (len + 4) c) (xs ++ fx n 4) ∧ Below w.heap.size w w' := by
  have h0 := fixed_any ao len cap n (xof xs) 4 w h.2.2.2.2.2 h.2.2.1 (by omega)
  refine h0.mono ?_
  rintro e w' ⟨v', rfl, h1, h2⟩
  rw [← h.1, bs_xof h.2.1, fxs4b] at h1
  obtain ⟨a, c, hv, hs⟩ := Sl.ofRow h1 (h.2.1.app (okb_fx n 4))
  rw [List.length_append, fx_length, h.1] at hv
  rw [hv] at h1 ⊢
  exact ⟨a, c, rfl, h1, h2⟩
/-- Numbers of four bytes, one behind the other. -/
def wdsT (ns : List Nat) : List Int := ns.flatMap fun n => fx n 4
theorem wdsT_take {ns : List Nat} {k : Nat} (h : k < ns.length) : wdsT (ns.take (k + 1)) = wdsT (ns.take k) ++ fx ns[k] 4 := by
  unfold wdsT
  rw [List.take_add_one, List.getElem?_eq_getElem h, List.flatMap_append]
  simp
theorem okb_wdsT (ns : List Nat) : Okb (wdsT ns) := fun x hx => by
  unfold wdsT at hx
  obtain ⟨n, _, hn⟩ := List.mem_flatMap.1 hx
  exact okb_fx n 4 x hn
theorem wdsT_len : ∀ (ns : List Nat), (wdsT ns).length = 4 * ns.length
  | [] => rfl
  | n :: r => by
    show (fx n 4 ++ wdsT r).length = _
    rw [List.length_append, fx_length, wdsT_len r, List.length_cons]
    omega
set_option maxHeartbeats 1000000 in
set_option maxRecDepth 100000 in
theorem words_t {w : World} {ao : Option Addr} {len cap : Nat} {ns : List Nat} (h : RS numE w ao len cap ns) (hl : len ≤ 100) (hn : ∀ n ∈ ns, n ≤ 1000000000) :
    Calls Try.prog 33 #[.slice ao len cap] w fun e w' => ∃ a c, e = .returned (.slice a (4 * len) c) ∧ Row w.heap.size w' (.slice a (4 * len) c) (wdsT ns) ∧ Below w.heap.size w w' := by
  have hln : ns.length = len := h.len.1
  have HS : Hid (RS numE w ao len cap ns ∧ ns.length = len ∧ len ≤ 100 ∧ ∀ n ∈ ns, n ≤ 1000000000) := ⟨h, hln, hl, hn⟩
  have H0 : Hid (Row w.heap.size w (.slice none (4 * 0) 0) (wdsT (ns.take 0)) ∧ Below w.heap.size w w) := ⟨Row.nil _ _, Below.refl _ _⟩
  have hl62 : len ≤ 2 ^ 61 := by omega
  clear h hn
  go_enter Try.func33, Try.ntmps33
  go_wp2_with fail
  go_loopg [3, 5, 8] len (fun g v _ i wr => ∃ (k : Nat) (a : Option Addr) (c : Nat), k + g = len ∧ i = .int .i64 (k : Int) ∧ v = .slice a (4 * k) c ∧ Hid (Row w.heap.size wr (.slice a (4 * k) c) (wdsT (ns.take k)) ∧ Below w.heap.size w wr))
  case atStart => exact ⟨0, none, 0, by omega, rfl, rfl, H0⟩
  case round =>
    obtain ⟨k, a, c, hk, rfl, rfl, HK⟩ := hrel
    by_cases hkl : k < len
    · have hkl' : (k : Int) < (len : Int) := by omega
      have hkx : k < ns.length := by omega
      obtain ⟨b, off, rfl, d0⟩ := RS.num (HS.out.1.later HK.out.2) (List.getElem?_eq_getElem hkx)
      have hnk := HS.out.2.2.2 _ (List.getElem_mem hkx)
      have HT := hid (wdsT_take hkx)
      generalize ns[k] = N at d0 hnk HT
      have hf := fixs_t (HK.out.1.slT (okb_wdsT _)) (by omega) N
      have hN62 : N ≤ 2 ^ 61 := by omega
      have hwN : IntKind.u64.wrap (N : Int) = (N : Int) := wrap64u (by omega)
      have hk62 : k ≤ 2 ^ 61 := by omega
      obtain ⟨GK, HG⟩ : ∃ g, Hid (g < gk ∧ k + 1 + g = len) := ⟨gk - 1, by omega, by omega⟩
      have HB := hid HK.out.2
      clear hk HK
      go_wp2_with (go_at_call 67; refine hf.mono ?_; rintro e w1 ⟨a1, c1, rfl, s1, b1⟩)
      have HN : Hid (Row w.heap.size w1 (.slice a1 (4 * (k + 1)) c1) (wdsT (ns.take (k + 1))) ∧ Below w.heap.size w w1) := ⟨by rw [HT.out]; exact s1.base HB.out.size, HB.out.trans (b1.mono HB.out.size)⟩
      go_roundg GK
      case measure => exact HG.out.1
      case rel => exact ⟨k + 1, a1, c1, HG.out.2, by go_num, rfl, HN⟩
    · have hkl' : (len : Int) ≤ (k : Int) := by omega
      have hke : k = len := by omega
      have h1 := HK.out.1
      rw [List.take_of_length_le (by omega), hke] at h1
      have HF : Hid (Row w.heap.size wr (.slice a (4 * len) c) (wdsT ns) ∧ Below w.heap.size w wr) := ⟨h1, HK.out.2⟩
      have hk4 : 4 * k = 4 * len := by rw [hke]
      rw [hk4]
      clear hk hkl HK h1 hk4
      go_wp2_with fail
      exact bodyPost_ret (v := .slice a (4 * len) c) (by simp [results, Try.results33, go_sem]) rfl ⟨a, c, rfl, HF.out.1, HF.out.2⟩
theorem kys_take {l : List EntV} {k : Nat} (h : k < l.length) : kys (l.take (k + 1)) = ky1 (kys (l.take k)) l[k] := by
  unfold kys
  rw [take_snoc h, List.foldl_append]
  rfl
theorem kys_last : ∀ (l : List EntV), l ≠ [] → (kys l).getLast? = some (lastK [] l) := fun l h => by
  have : ∀ (l : List EntV) (out : List (List Int)) (p : List Int), (l = [] → out.getLast? = some p) → (l.foldl ky1 out).getLast? = some (lastK p l) := fun l => by
    induction l with
    | nil => intro out p h; exact h rfl
    | cons e r ih =>
      intro out p _
      show (r.foldl ky1 (ky1 out e)).getLast? = some (lastK e.key r)
      refine ih _ _ fun _ => ?_
      unfold ky1
      split
      · simp
      · rename_i q; simp only [not_or, Classical.not_not] at q; exact q.2
  exact this l [] [] fun z => absurd z h
/-- Is the key unlike the one ahead? -/
theorem ky1_at {l : List EntV} {k : Nat} (h : k < l.length) : (k = 0 → kys (l.take (k + 1)) = kys (l.take k) ++ [l[k].key]) ∧ (∀ hk : 1 ≤ k, kys (l.take (k + 1)) = if l[k].key = (l[k - 1]'(by omega)).key then kys (l.take k) else kys (l.take k) ++ [l[k].key]) := by
  refine ⟨fun z => ?_, fun hk => ?_⟩
  · rw [kys_take h]
    subst z
    simp [kys, ky1]
  · rw [kys_take h]
    have hne : l.take k ≠ [] := fun z => by have := congrArg List.length z; rw [List.length_take, List.length_nil] at this; omega
    have hl := kys_last (l.take k) hne
    have hk1 := lastK_take l (k - 1) [] (by omega)
    rw [show k - 1 + 1 = k by omega] at hk1
    rw [hk1] at hl
    have hkn : kys (l.take k) ≠ [] := fun z => by rw [z] at hl; cases hl
    unfold ky1
    rw [hl]
    by_cases q : l[k].key = (l[k - 1]'(by omega)).key
    · rw [if_pos q, if_neg (by simp [hkn, q])]
    · rw [if_neg q, if_pos (.inr (by simp only [ne_eq, Option.some.injEq]; exact fun e => q e.symm))]
set_option maxHeartbeats 4000000 in
set_option maxRecDepth 100000 in
theorem keys_t {w : World} {ao : Option Addr} {len cap : Nat} {l : List EntV} (h : RS entE w ao len cap l) (hl : len ≤ 5000) :
    Calls Try.prog 32 #[.slice ao len cap] w fun e w' => ∃ v, e = .returned v ∧ RowS byE w.heap.size w' v (kys l) ∧ Below w.heap.size w w' := by
  have hln : l.length = len := h.len.1
  have HS : Hid (RS entE w ao len cap l ∧ l.length = len ∧ len ≤ 5000) := ⟨h, hln, hl⟩
  have H0 : Hid (RowS byE w.heap.size w (.slice none 0 0) (kys (l.take 0)) ∧ Below w.heap.size w w) := ⟨by rw [List.take_zero]; exact RowS.nil _ _, Below.refl _ _⟩
  have hl62 : len ≤ 2 ^ 61 := by omega
  clear h
  go_enter Try.func32, Try.ntmps32
  go_wp2_with fail
  go_loopg [3, 4, 5, 8] len (fun g v _ _ i wr => ∃ k : Nat, k + g = len ∧ i = .int .i64 (k : Int) ∧ Hid (RowS byE w.heap.size wr v (kys (l.take k)) ∧ Below w.heap.size w wr))
  case atStart => exact ⟨0, by omega, rfl, H0⟩
  case round =>
    obtain ⟨k, hk, rfl, HK⟩ := hrel
    by_cases hkl : k < len
    · have hkl' : (k : Int) < (len : Int) := by omega
      have hkx : k < l.length := by omega
      have bel := HK.out.2
      obtain ⟨b, off, ka, kc, va, vc, hab, e0, e1, e2, e3, e4, sk, sv, i1, i2⟩ := RS.ent HS.out.1 (List.getElem?_eq_getElem hkx)
      have d0 := cell_later bel e0
      have d1 := cell_later bel e1
      have d2 := cell_later bel e2
      have d3 := cell_later bel e3
      have d4 := cell_later bel e4
      obtain ⟨kt1, kt2⟩ := ky1_at hkx
      have hk62 : k ≤ 2 ^ 61 := by omega
      obtain ⟨GK, HG⟩ : ∃ g, Hid (g < gk ∧ k + 1 + g = len) := ⟨gk - 1, by omega, by omega⟩
      obtain ⟨W1, hW1⟩ : ∃ W, wr.alloc (.cells #[.slice ka l[k].key.length kc, .int .i64 l[k].seq, .bool l[k].gone, .int .i64 l[k].till, .slice va l[k].val.length vc] 34) = W := ⟨_, rfl⟩
      have bW1 : Below wr.heap.size wr W1 := by rw [← hW1]; exact (Below.refl _ _).alloc (Nat.le_refl _) _
      have HB1 := hid (bel.trans (bW1.mono bel.size))
      have hkl3 : (kys (l.take k)).length ≤ 5000 := by
        have := kys_len (l.take k)
        rw [List.length_take] at this
        omega
      subst hab
      have y0 : W1.cell? ⟨wr.heap.size, 0, none⟩ = some (.slice ka l[k].key.length kc) := by rw [← hW1, cell_of (heap_alloc_new wr _)]; rfl
      have HROW : Hid (RowS byE w.heap.size W1 u3 (kys (l.take k)) ∧ (kys (l.take k)).length ≤ 5000) := ⟨HK.out.1.later bW1, hkl3⟩
      have HADD : Hid (∀ W2, Below W1.heap.size W1 W2 → RSu byE (W2.alloc (.cells #[.slice ka l[k].key.length kc] 25)) (some ⟨W2.heap.size, 0, none⟩) 1 1 [.slice ka l[k].key.length kc] [l[k].key] ∧ RowS byE w.heap.size (W2.alloc (.cells #[.slice ka l[k].key.length kc] 25)) u3 (kys (l.take k)) ∧ Below w.heap.size w (W2.alloc (.cells #[.slice ka l[k].key.length kc] 25)) ∧ (∀ u ∈ [Value.slice ka l[k].key.length kc], ∀ b, Refs u b → u3.ownBlock ≠ some b)) := fun W2 hb => by
        have b3 : Below W2.heap.size W2 (W2.alloc (.cells #[.slice ka l[k].key.length kc] 25)) := (Below.refl _ _).alloc (Nat.le_refl _) _
        refine ⟨rs_one (E := byE) (w := W2) (vs := [.slice ka l[k].key.length kc]) (x := l[k].key) ⟨ka, kc, rfl, (sk.later HB1.out).later hb⟩, (HROW.out.1.later hb).later b3, (HB1.out.trans (hb.mono HB1.out.size)).trans (b3.mono (Nat.le_trans HB1.out.size hb.size)), fun u hu b hr e => ?_⟩
        rw [List.mem_singleton.1 hu] at hr
        have h2 := sk.lt hr
        have h3 := (HROW.out.1.own_lt e).1
        omega
      by_cases hk0 : k = 0
      · have HT := hid (kt1 hk0)
        subst hk0
        simp only [Nat.zero_mul, Nat.add_zero] at d0 d1 d2 d3 d4
        generalize l[0] = o at d0 d1 d2 d3 d4 HADD HT hW1 y0
        generalize kys (l.take 0) = KS at HROW HADD HT
        generalize o.key = key at d0 HADD HT hW1 y0
        generalize key.length = kl at d0 HADD hW1 y0
        clear kt1 kt2 sk sv i1 i2 hk bel bW1 hkl3 HK e0 e1 e2 e3 e4
        go_wp2_with fail
        go_quiet (fail)
        obtain ⟨A1, A2, A3, A4⟩ := HADD.out (W1.drewN nq) (below_drewN (Below.refl _ _) _)
        go_wp2_with (at_builtin; refine wpList_appS byE (t := 38) (z := .slice none 0 0) (bytes := 24) (B := w.heap.size) Try.underlying38 byE_info rfl (by decide) rfl (.tmp 27) (.tmp 30) rfl rfl A2 rfl A1 A4 (by have := HROW.out.2; omega) (by have := HROW.out.2; omega) A3.size ?_; intro v9 w9 r9 g9 m9; have B9 := A3.trans (A2.below g9 A3.size))
        go_roundg GK
        case measure => exact HG.out.1
        case rel => exact ⟨0 + 1, HG.out.2, by go_num, by rw [HT.out]; exact r9, B9⟩
      · have hk1 : k - 1 < l.length := by omega
        obtain ⟨b', off', kb, kd, vb, vd, hab', f0, -, -, -, -, tk, -, -, -⟩ := RS.ent HS.out.1 (List.getElem?_eq_getElem hk1)
        simp only [Option.some.injEq, Addr.mk.injEq, and_true] at hab'
        obtain ⟨rfl, rfl⟩ := hab'
        have f1 := cell_later HB1.out f0
        have HT := hid (kt2 (by omega))
        have HEQ : Hid (∀ wx, Below W1.heap.size W1 wx → Calls Try.prog 50 #[.slice ka l[k].key.length kc, .slice kb l[k - 1].key.length kd] wx fun e w' => e = .returned (.bool (decide (l[k].key = l[k - 1].key))) ∧ w' = wx) := fun wx hb => eql_m ((sk.later HB1.out).later hb) ((tk.later HB1.out).later hb)
        have hg1 : ((k : Int) == 0) = false := by simpa using hk0
        have hg2 : decide ((k : Int) = 0) = false := by simpa using hk0
        have hi1 : (k : Int) - 1 < (len : Int) := by omega
        have hi2 : (1 : Int) ≤ (k : Int) := by omega
        have hi3 : wrap64 ((k : Int) - 1) = ((k - 1 : Nat) : Int) := by unfold wrap64; omega
        have hi4 : IntKind.i64.wrap ((k : Int) - 1) = ((k - 1 : Nat) : Int) := by rw [IntKind.wrap_i64]; omega
        have hi5 : (k : Int) - 1 = ((k - 1 : Nat) : Int) := by omega
        by_cases q : l[k].key = l[k - 1].key
        · rw [if_pos q] at HT
          rw [decide_eq_true q] at HEQ
          generalize l[k] = o at d0 d1 d2 d3 d4 HADD hW1 y0 HEQ
          generalize l[k - 1].key.length = kl2 at f1 HEQ
          generalize kys (l.take k) = KS at HROW HADD HT
          generalize o.key = key at d0 HADD hW1 y0 HEQ
          generalize key.length = kl at d0 HADD hW1 y0 HEQ
          clear kt1 kt2 sk sv i1 i2 hk bel bW1 hkl3 HK e0 e1 e2 e3 e4 q f0 tk
          go_wp2_with fail
          go_quiet ((go_at_call 50; exact Calls.quiet_of_same (HEQ.out _ (below_drewN (Below.refl _ _) _))))
          go_wp2_with fail
          go_roundg GK
          case measure => exact HG.out.1
          case rel => exact ⟨k + 1, HG.out.2, by go_num, by rw [HT.out]; exact HROW.out.1.later (below_drewN (Below.refl _ _) _), below_drewN HB1.out _⟩
        · rw [if_neg q] at HT
          rw [decide_eq_false q] at HEQ
          generalize l[k] = o at d0 d1 d2 d3 d4 HADD HT hW1 y0 HEQ
          generalize l[k - 1].key.length = kl2 at f1 HEQ
          generalize kys (l.take k) = KS at HROW HADD HT
          generalize o.key = key at d0 HADD HT hW1 y0 HEQ
          generalize key.length = kl at d0 HADD hW1 y0 HEQ
          clear kt1 kt2 sk sv i1 i2 hk bel bW1 hkl3 HK e0 e1 e2 e3 e4 q f0 tk
          go_wp2_with fail
          go_quiet ((go_at_call 50; exact Calls.quiet_of_same (HEQ.out _ (below_drewN (Below.refl _ _) _))))
          obtain ⟨A1, A2, A3, A4⟩ := HADD.out (W1.drewN nq) (below_drewN (Below.refl _ _) _)
          go_wp2_with (at_builtin; refine wpList_appS byE (t := 38) (z := .slice none 0 0) (bytes := 24) (B := w.heap.size) Try.underlying38 byE_info rfl (by decide) rfl (.tmp 27) (.tmp 30) rfl rfl A2 rfl A1 A4 (by have := HROW.out.2; omega) (by have := HROW.out.2; omega) A3.size ?_; intro v9 w9 r9 g9 m9; have B9 := A3.trans (A2.below g9 A3.size))
          go_roundg GK
          case measure => exact HG.out.1
          case rel => exact ⟨k + 1, HG.out.2, by go_num, by rw [HT.out]; exact r9, B9⟩
    · have hkl' : (len : Int) ≤ (k : Int) := by omega
      have h1 := HK.out.1
      rw [List.take_of_length_le (by omega)] at h1
      have HF : Hid (RowS byE w.heap.size wr u3 (kys l) ∧ Below w.heap.size w wr) := ⟨h1, HK.out.2⟩
      clear hk hkl HK h1
      go_wp2_with fail
      exact bodyPost_ret (v := u3) (by simp [results, Try.results32, go_sem]) rfl ⟨u3, rfl, HF.out.1, HF.out.2⟩
end Go.Proofs.Ytfecopldepnicaa

/- The document's own Table: three rows that grow side by side. -/
namespace Go.Proofs.Ytfecopldepnicaa
open Go.RowKit
set_option linter.unusedVariables false
set_option linter.unusedSimpArgs false

/-- The table's bytes, its index, its keys. -/
structure Tri (W wx : World) (vb vi vk : Value) (bb ii : List Int) (ks : List (List Int)) : Prop where
  rb : Row W.heap.size wx vb bb
  ri : Row W.heap.size wx vi ii
  rk : RowF byE W.heap.size (fun b => b < W.heap.size) wx vk ks
  sbi : ∀ g, vb.ownBlock = some g → vi.ownBlock ≠ some g
  sbk : ∀ g, vb.ownBlock = some g → vk.ownBlock ≠ some g
  sik : ∀ g, vi.ownBlock = some g → vk.ownBlock ≠ some g
  bel : Below W.heap.size W wx
theorem Tri.nil {W wx : World} (h : Below W.heap.size W wx) : Tri W wx (.slice none 0 0) (.slice none 0 0) (.slice none 0 0) [] [] [] :=
  ⟨Row.nil _ _, Row.nil _ _, RowF.nil _ _ _, (fun g e => by cases e), (fun g e => by cases e), (fun g e => by cases e), h⟩
theorem Tri.later {W wx wy : World} {vb vi vk : Value} {bb ii : List Int} {ks : List (List Int)} (h : Tri W wx vb vi vk bb ii ks) (hb : Below wx.heap.size wx wy) : Tri W wy vb vi vk bb ii ks :=
  ⟨h.rb.later hb, h.ri.later hb, h.rk.later hb, h.sbi, h.sbk, h.sik, h.bel.trans (hb.mono h.bel.size)⟩
theorem moved_ne {wx : World} {v v' u : Value} (hm : Moved wx v v') (hs : ∀ g, v.ownBlock = some g → u.ownBlock ≠ some g) (hu : ∀ g, u.ownBlock = some g → g < wx.heap.size) : ∀ g, v'.ownBlock = some g → u.ownBlock ≠ some g := fun g e1 e2 => by
  rcases hm with q | ⟨g', q1, q2⟩
  · exact hs g (q ▸ e1) e2
  · rw [q1] at e1
    simp only [Option.some.injEq] at e1
    have := hu g e2
    omega
theorem Tri.growB {W wx wy : World} {vb vi vk v' : Value} {bb ii xs : List Int} {ks : List (List Int)} (h : Tri W wx vb vi vk bb ii ks) (hg : wx.grownBy wy vb.ownBlock) (hm : Moved wx vb v') (hr : Row W.heap.size wy v' xs) : Tri W wy v' vi vk xs ii ks :=
  ⟨hr, h.ri.other hg (fun g e1 e2 => h.sbi g e2 e1), h.rk.grown hg (fun b e1 e2 => h.sbk b e2.symm e1) (fun b hb e => by have := (World.ownsRow.lt h.rb _ e.symm).1; omega),
    moved_ne hm h.sbi (fun g e => (World.ownsRow.lt h.ri _ e).2), moved_ne hm h.sbk (fun g e => (h.rk.own_lt e).2), h.sik,
    h.bel.trans (Below.grown (Below.refl _ _) hg h.bel.size (fun k e => (World.ownsRow.lt h.rb _ e).1))⟩
theorem Tri.growI {W wx wy : World} {vb vi vk v' : Value} {bb ii xs : List Int} {ks : List (List Int)} (h : Tri W wx vb vi vk bb ii ks) (hg : wx.grownBy wy vi.ownBlock) (hm : Moved wx vi v') (hr : Row W.heap.size wy v' xs) : Tri W wy vb v' vk bb xs ks :=
  ⟨h.rb.other hg (fun g e1 e2 => h.sbi g e1 e2), hr, h.rk.grown hg (fun b e1 e2 => h.sik b e2.symm e1) (fun b hb e => by have := (World.ownsRow.lt h.ri _ e.symm).1; omega),
    fun g e1 e2 => moved_ne hm (u := vb) (fun g e1 e2 => h.sbi g e2 e1) (fun g e => (World.ownsRow.lt h.rb _ e).2) g e2 e1, h.sbk, moved_ne hm h.sik (fun g e => (h.rk.own_lt e).2),
    h.bel.trans (Below.grown (Below.refl _ _) hg h.bel.size (fun k e => (World.ownsRow.lt h.ri _ e).1))⟩
theorem Tri.growK {W wx wy : World} {vb vi vk v' : Value} {bb ii : List Int} {ks xs : List (List Int)} (h : Tri W wx vb vi vk bb ii ks) (hg : wx.grownBy wy vk.ownBlock) (hm : Moved wx vk v') (hr : RowF byE W.heap.size (fun b => b < W.heap.size) wy v' xs) : Tri W wy vb vi v' bb ii xs :=
  ⟨h.rb.other hg (fun g e1 e2 => h.sbk g e1 e2), h.ri.other hg (fun g e1 e2 => h.sik g e1 e2), hr, h.sbi,
    fun g e1 e2 => moved_ne hm (u := vb) (fun g e1 e2 => h.sbk g e2 e1) (fun g e => (World.ownsRow.lt h.rb _ e).2) g e2 e1, fun g e1 e2 => moved_ne hm (u := vi) (fun g e1 e2 => h.sik g e2 e1) (fun g e => (World.ownsRow.lt h.ri _ e).2) g e2 e1,
    h.bel.trans (Below.grown (Below.refl _ _) hg h.bel.size (fun k e => (h.rk.own_lt e).1))⟩
/-- The index, a number behind it. -/
theorem Tri.put {W wx : World} {vb vi vk : Value} {bb ii : List Int} {ks : List (List Int)} {n : Nat} (h : Tri W wx vb vi vk bb ii ks) (hn : n ≤ 100000000) (hy : ii.length ≤ 100000000) :
    Calls Try.prog 40 #[vi, .int .u64 (n : Int)] wx fun e w' => ∃ v', e = .returned v' ∧ Tri W w' vb v' vk bb (ii ++ uv n) ks := by
  refine (rput_any W.heap.size vi ii n wx h.ri h.bel.size (by have := uv_len64 (n := n) (by omega); omega) (by omega)).mono ?_
  rintro e w' ⟨v', rfl, r, g, m⟩
  exact ⟨v', rfl, h.growI g m r⟩
/-- The index, bytes with their length behind it. -/
theorem Tri.pby {W wx : World} {vb vi vk : Value} {bb ii : List Int} {ks : List (List Int)} {so : Option Addr} {ls cs : Nat} {rs : List Int} (h : Tri W wx vb vi vk bb ii ks) (hs : Sl W so ls cs rs) (hl : ls ≤ 1000000) (hy : ii.length ≤ 100000000) :
    Calls Try.prog 39 #[vi, .slice so ls cs] wx fun e w' => ∃ v', e = .returned v' ∧ Tri W w' vb v' vk bb (ii ++ lb rs) ks := by
  refine (rpb_l h.ri (Nat.le_refl _) h.bel h.bel.size hs (by omega)).mono ?_
  rintro e w' ⟨v', rfl, r, g, m⟩
  exact ⟨v', rfl, h.growI g m r⟩
/-- And bytes beside them that stay. -/
structure TrX (W wx : World) (vb vi vk : Value) (bb ii : List Int) (ks : List (List Int)) (ax : Option Addr) (n cx : Nat) (xs : List Int) : Prop where
  t : Tri W wx vb vi vk bb ii ks
  s : Sl wx ax n cx xs
  nb : ∀ b off, ax = some ⟨b, off, none⟩ → b < wx.heap.size ∧ vb.ownBlock ≠ some b ∧ vi.ownBlock ≠ some b
theorem TrX.later {W wx wy : World} {vb vi vk : Value} {bb ii : List Int} {ks : List (List Int)} {ax : Option Addr} {n cx : Nat} {xs : List Int} (h : TrX W wx vb vi vk bb ii ks ax n cx xs) (hb : Below wx.heap.size wx wy) : TrX W wy vb vi vk bb ii ks ax n cx xs :=
  ⟨h.t.later hb, h.s.later hb, fun b off e => ⟨Nat.lt_of_lt_of_le (h.nb b off e).1 hb.size, (h.nb b off e).2⟩⟩
theorem moved_no {wx : World} {v v' : Value} {b : Nat} (hm : Moved wx v v') (h1 : v.ownBlock ≠ some b) (h2 : b < wx.heap.size) : v'.ownBlock ≠ some b := fun e => by
  rcases hm with q | ⟨g, q1, q2⟩
  · exact h1 (q ▸ e)
  · rw [q1] at e
    simp only [Option.some.injEq] at e
    omega
theorem TrX.growI {W wx wy : World} {vb vi vk v' : Value} {bb ii ys : List Int} {ks : List (List Int)} {ax : Option Addr} {n cx : Nat} {xs : List Int} (h : TrX W wx vb vi vk bb ii ks ax n cx xs) (hg : wx.grownBy wy vi.ownBlock) (hm : Moved wx vi v') (hr : Row W.heap.size wy v' ys) : TrX W wy vb v' vk bb ys ks ax n cx xs :=
  ⟨h.t.growI hg hm hr, h.s.grown hg (fun _ b off e => (h.nb b off e).2.2), fun b off e => ⟨Nat.lt_of_lt_of_le (h.nb b off e).1 hg.size, (h.nb b off e).2.1, moved_no hm (h.nb b off e).2.2 (h.nb b off e).1⟩⟩
theorem TrX.put {W wx : World} {vb vi vk : Value} {bb ii : List Int} {ks : List (List Int)} {ax : Option Addr} {n cx : Nat} {xs : List Int} {k : Nat} (h : TrX W wx vb vi vk bb ii ks ax n cx xs) (hn : k ≤ 100000000) (hy : ii.length ≤ 100000000) :
    Calls Try.prog 40 #[vi, .int .u64 (k : Int)] wx fun e w' => ∃ v', e = .returned v' ∧ TrX W w' vb v' vk bb (ii ++ uv k) ks ax n cx xs := by
  refine (rput_any W.heap.size vi ii k wx h.t.ri h.t.bel.size (by have := uv_len64 (n := k) (by omega); omega) (by omega)).mono ?_
  rintro e w' ⟨v', rfl, r, g, m⟩
  exact ⟨v', rfl, h.growI g m r⟩
theorem TrX.pby {W wx : World} {vb vi vk : Value} {bb ii : List Int} {ks : List (List Int)} {ax : Option Addr} {n cx : Nat} {xs : List Int} {so : Option Addr} {ls cs : Nat} {rs : List Int} (h : TrX W wx vb vi vk bb ii ks ax n cx xs) (hs : Sl W so ls cs rs) (hl : ls ≤ 1000000) (hy : ii.length ≤ 100000000) :
    Calls Try.prog 39 #[vi, .slice so ls cs] wx fun e w' => ∃ v', e = .returned v' ∧ TrX W w' vb v' vk bb (ii ++ lb rs) ks ax n cx xs := by
  refine (rpb_l h.t.ri (Nat.le_refl _) h.t.bel h.t.bel.size hs (by omega)).mono ?_
  rintro e w' ⟨v', rfl, r, g, m⟩
  exact ⟨v', rfl, h.growI g m r⟩
/-- A new row beside them. -/
theorem Tri.beside {W wx wy : World} {vb vi vk : Value} {bb ii : List Int} {ks : List (List Int)} {v : Value} {xs : List Int} (h : Tri W wx vb vi vk bb ii ks) (hb : Below wx.heap.size wx wy) (hr : Row wx.heap.size wy v xs) (hok : Okb xs) : ∃ ax cx, v = .slice ax xs.length cx ∧ TrX W wy vb vi vk bb ii ks ax xs.length cx xs := by
  obtain ⟨ax, cx, e, s⟩ := Sl.ofRow hr hok
  refine ⟨ax, cx, e, h.later hb, s, fun b off e2 => ?_⟩
  have hl := World.ownsRow.lt hr b (by rw [e, e2]; rfl)
  refine ⟨hl.2, fun z => ?_, fun z => ?_⟩
  · have := (World.ownsRow.lt h.rb _ z).2; omega
  · have := (World.ownsRow.lt h.ri _ z).2; omega
end Go.Proofs.Ytfecopldepnicaa
