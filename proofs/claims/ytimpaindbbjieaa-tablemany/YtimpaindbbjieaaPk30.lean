import Derived.Test.YtimpaindbbjieaaPk10
import Derived.Test.YtimpaindbbjieaaPk16
import Derived.Test.YtimpaindbbjieaaPk22
import Derived.Test.YtimpaindbbjieaaPk24
import Derived.Test.YtimpaindbbjieaaPk29
/- The landed table: which entries may not be; sums; rows of the index. -/
namespace Go.Proofs.Ytimpaindbbjieaa
open Go.RowKit
set_option linter.unusedVariables false
set_option linter.unusedSimpArgs false

set_option maxHeartbeats 2000000 in
set_option maxRecDepth 100000 in
theorem mayN_t {w : World} {ka va : Option Addr} {kc vc : Nat} {e : EntV} : Calls Try.prog 28 #[entA ka kc va vc e] w fun r w' => r = .returned (.bool (!mayE e)) ∧ Below w.heap.size w w' := by
  have HM : Hid (∀ wx, Calls Try.prog 59 #[entA ka kc va vc e] wx fun r w' => r = .returned (.bool (mayE e)) ∧ Below wx.heap.size wx w') := fun wx => may_m
  unfold entA at HM ⊢
  generalize mayE e = m at HM ⊢
  generalize e.key.length = kl at HM ⊢
  generalize e.val.length = vl at HM ⊢
  generalize e.seq = sq at HM ⊢
  generalize e.gone = gn at HM ⊢
  generalize e.till = tl at HM ⊢
  have HB : Hid (Below w.heap.size w (w.alloc (.cells #[.slice ka kl kc, .int .i64 sq, .bool gn, .int .i64 tl, .slice va vl vc] 34))) := (Below.refl _ _).alloc (Nat.le_refl _) _
  go_enter Try.func28, Try.ntmps28
  go_wp2_with (go_at_call 59; refine (HM.out _).mono ?_; rintro e w' ⟨rfl, hb⟩)
  exact bodyPost_ret (v := .bool (!m)) (by simp [results, Try.results28, go_sem]) rfl ⟨rfl, HB.out.trans (hb.mono HB.out.size)⟩

set_option maxHeartbeats 4000000 in
set_option maxRecDepth 100000 in
theorem ixf_t {w : World} {ao : Option Addr} {len cap : Nat} {l : List EntV} (h : RS entE w ao len cap l) (hl : len ≤ 1000000) :
    Calls Try.prog 58 #[.slice ao len cap, .func (.func 28) #[] #[]] w fun r w' => (∃ i : Int, r = .returned (.int .i64 i) ∧ (0 ≤ i ↔ l.all mayE = false)) ∧ Below w.heap.size w w' := by
  have HS : Hid (RS entE w ao len cap l ∧ True ∧ len ≤ 1000000) := ⟨h, trivial, hl⟩
  have hln : l.length = len := h.len.1
  have hl62 : len ≤ 2 ^ 61 := by omega
  clear h hl
  go_enter Try.func58, Try.ntmps58
  go_wp2_with fail
  go_loopg [5, 8] len (fun g _ i wr => ∃ k : Nat, k + g = len ∧ i = .int .i64 (k : Int) ∧ Hid ((∀ j (hj : j < l.length), j < k → mayE l[j] = true) ∧ Below w.heap.size w wr))
  case atStart => exact ⟨0, by omega, rfl, fun j _ h => absurd h (by omega), Below.refl _ _⟩
  case round =>
    obtain ⟨k, hk, rfl, HK⟩ := hrel
    by_cases hkl : k < len
    · have hkl' : (k : Int) < (len : Int) := by omega
      have hkx : k < l.length := by omega
      have bel := HK.out.2
      obtain ⟨b, off, ka, kc, va, vc, rfl, d0, d1, d2, d3, d4, sk, sv, i1, i2⟩ := RS.ent (HS.out.1.later bel) (List.getElem?_eq_getElem hkx)
      have HN : Hid (mayE l[k] = false → l.all mayE = false) := fun q => List.all_eq_false.2 ⟨l[k], List.getElem_mem hkx, by rw [q]; decide⟩
      have HP : Hid (mayE l[k] = true → ∀ j (hj : j < l.length), j < k + 1 → mayE l[j] = true) := fun q j hj hjk => if e : j = k then by subst e; exact q else HK.out.1 j hj (by omega)
      generalize l[k] = o at d0 d1 d2 d3 d4 HN HP
      have hk62 : k ≤ 2 ^ 61 := by omega
      obtain ⟨GK, HG⟩ : ∃ g, Hid (g < gk ∧ k + 1 + g = len) := ⟨gk - 1, by omega, by omega⟩
      have HM1 : Hid (∀ wx, Calls Try.prog 28 #[entA ka kc va vc o] wx fun r w' => r = .returned (.bool (!mayE o)) ∧ Below wx.heap.size wx w') := fun wx => mayN_t
      have HBw : Hid (∀ wx, Below wr.heap.size wr wx → Below w.heap.size w wx) := fun wx hb => bel.trans (hb.mono bel.size)
      unfold entA at HM1
      clear sk sv i1 i2 hk bel
      cases hmo : mayE o with
      | true =>
        rw [hmo] at HM1
        go_wp2_with (go_at_call 28; refine (HM1.out _).mono ?_; rintro e w2 ⟨rfl, b2⟩)
        go_roundg GK
        case measure => exact HG.out.1
        case rel => exact ⟨k + 1, HG.out.2, by go_num, HP.out hmo, HBw.out _ b2⟩
      | false =>
        rw [hmo] at HM1
        go_wp2_with (go_at_call 28; refine (HM1.out _).mono ?_; rintro e w2 ⟨rfl, b2⟩)
        exact bodyPost_ret (v := .int .i64 (k : Int)) (by simp [results, Try.results58, go_sem]) rfl ⟨⟨(k : Int), rfl, fun _ => HN.out hmo, fun _ => by omega⟩, HBw.out _ b2⟩
    · have hkl' : (len : Int) ≤ (k : Int) := by omega
      have HA : Hid (l.all mayE = true) := all_takeM HK.out.1 (by omega)
      have HB := hid HK.out.2
      clear hk hkl HK
      go_wp2_with fail
      exact bodyPost_ret (v := .int .i64 (-1)) (by simp [results, Try.results58, go_sem]) rfl ⟨⟨-1, rfl, fun q => absurd q (by decide), fun q => by rw [HA.out] at q; cases q⟩, HB.out⟩
set_option maxHeartbeats 1000000 in
set_option maxRecDepth 100000 in
theorem cnf_t {w : World} {ao : Option Addr} {len cap : Nat} {l : List EntV} (h : RS entE w ao len cap l) (hl : len ≤ 1000000) :
    Calls Try.prog 27 #[.slice ao len cap, .func (.func 28) #[] #[]] w fun r w' => r = .returned (.bool (!l.all mayE)) ∧ Below w.heap.size w w' := by
  have hx := ixf_t h hl
  generalize l.all mayE = A at hx ⊢
  clear h hl
  cases A with
  | true =>
    go_enter Try.func27, Try.ntmps27
    go_wp2_with fail
    refine hx.mono ?_
    rintro e w2 ⟨⟨i, rfl, hi⟩, b2⟩
    have hi' : ¬ (0 ≤ i) := fun q => by have := hi.1 q; cases this
    clear hi hx
    go_wp2_with fail
    exact bodyPost_ret (v := .bool false) (by simp [results, Try.results27, go_sem]; omega) rfl ⟨rfl, b2⟩
  | false =>
    go_enter Try.func27, Try.ntmps27
    go_wp2_with fail
    refine hx.mono ?_
    rintro e w2 ⟨⟨i, rfl, hi⟩, b2⟩
    have hi' : 0 ≤ i := hi.2 (by first | exact trivial | rfl)
    clear hi hx
    go_wp2_with fail
    exact bodyPost_ret (v := .bool true) (by simp [results, Try.results27, go_sem]) rfl ⟨rfl, b2⟩


theorem msum_t {w : World} {ao : Option Addr} {len cap : Nat} {xs : List Int} (h : Sl w ao len cap xs) :
    Calls Try.prog 68 #[.slice ao len cap] w fun e w' => e = .returned (.int .u64 (mask (more 0 (nl xs)) : Nat)) ∧ w' = w := by
  have hs := sum_l h
  have hm := mask_any (more 0 (nl xs)) w (more0_lt h.2.1)
  have hl := mask_lt (more 0 (nl xs))
  generalize mask (more 0 (nl xs)) = M at hm hl
  generalize more 0 (nl xs) = S at hs hm
  clear h
  go_enter Try.func68, Try.ntmps68
  go_wp2_with (first | (go_at_call 94; refine hs.mono ?_; rintro e w' ⟨rfl, hw⟩; obtain rfl := hw.symm) | (go_at_call 93; refine hm.mono ?_; rintro e w' ⟨rfl, hw⟩; obtain rfl := hw.symm))
  exact bodyPost_ret (v := .int .u64 (M : Nat)) (by simp [results, Try.results68, go_sem]) rfl ⟨rfl, rfl⟩
theorem fix4_t {w : World} (n : Nat) : Calls Try.prog 67 #[.slice none 0 0, .int .u64 (n : Int), .int .i64 4] w fun e w' => ∃ a c, e = .returned (.slice a 4 c) ∧ Sl w' a 4 c (fx n 4) ∧ Below w.heap.size w w' := by
  have h := fixed_any none 0 0 n (fun _ => 0) 4 w (fun k hk => by cases hk) (fun _ => ⟨rfl, rfl⟩) (by omega)
  refine h.mono ?_
  rintro e w' ⟨v', rfl, h1, h2⟩
  have e0 : bs (fun _ => 0) 0 = [] := rfl
  rw [e0, List.nil_append, fxs4b] at h1
  obtain ⟨a, c, hv, hs⟩ := Sl.ofRow h1 (okb_fx n 4)
  rw [fx_length] at hv hs
  exact ⟨a, c, by rw [hv], hs, h2⟩
set_option maxHeartbeats 1000000 in
set_option maxRecDepth 100000 in
/-- Bytes and their sum behind a row of one's own. -/
theorem apsm_t {B : Nat} {w : World} {v : Value} {xs ys : List Int} {ao : Option Addr} {m c : Nat} (hr : Row B w v xs) (hB : B ≤ w.heap.size) (hs : ∀ w', w.grownBy w' v.ownBlock → Sl w' ao m c ys) (hx : xs.length ≤ 100000000) (hm : m ≤ 100000000) :
    Calls Try.prog 34 #[v, .slice ao m c] w fun e w' => ∃ v', e = .returned v' ∧ Row B w' v' (xs ++ sm ys) ∧ Grw w v w' v' := by
  have hs0 : Sl w ao m c ys := hs w ⟨rfl, rfl, rfl, Nat.le_refl _, fun _ _ _ => rfl⟩
  have HS : Hid (∀ w', w.grownBy w' v.ownBlock → Sl w' ao m c ys) := hs
  have HB := hid hB
  have HX : Hid (xs.length ≤ 100000000 ∧ m ≤ 100000000 ∧ ys.length = m) := ⟨hx, hm, hs0.1⟩
  have HE : Hid (∀ zs : List Int, zs = xs ++ ys → zs ++ fx (mask (more 0 (nl ys))) 4 = xs ++ sm ys) := fun zs hz => by rw [hz]; unfold sm; simp
  have HM : Hid (∀ wx, Sl wx ao m c ys → Calls Try.prog 68 #[.slice ao m c] wx fun e w' => e = .returned (.int .u64 (mask (more 0 (nl ys)) : Nat)) ∧ w' = wx) := fun wx h => msum_t h
  generalize mask (more 0 (nl ys)) = M at HE HM
  clear hs hx hm
  go_enter Try.func34, Try.ntmps34
  go_upto_region 2 with (at_builtin; refine wpList_applN (B := B) (xs := xs) (ys := ys) (ao := ao) (m := m) (c := c) rfl (.tmp 5) (.tmp 6) rfl rfl hr rfl hs0 (by have := HX.out; omega) HB.out ?_; intro v1 w1 r1 g1 m1)
  have HG1 : Hid (Grw w v w1 v1) := ⟨g1, m1⟩
  have hsum := HM.out w1 (HS.out w1 g1)
  have hsz : w.heap.size ≤ w1.heap.size := g1.size
  clear hs0 g1 m1 hr
  go_wp2_with (first | (go_at_call 68; refine hsum.mono ?_; rintro e w2 ⟨rfl, hw⟩; obtain rfl := hw.symm) | (go_at_call 67; refine (fix4_t M).mono ?_; rintro e w3 ⟨a3, c3, rfl, s3, b3⟩; have r3 := r1.later b3; have HG3 := hid (HG1.out.later b3)) | (at_builtin; refine wpList_applN (B := B) (xs := xs ++ ys) (ys := fx M 4) (ao := a3) (m := 4) (c := c3) rfl (.tmp 8) (.tmp 11) rfl rfl r3 rfl s3 (by have := HX.out; simp; omega) (by have := HB.out; have := b3.size; omega) ?_; intro v4 w4 r4 g4 m4))
  exact bodyPost_ret (v := v4) (by simp [results, Try.results34, go_sem]) rfl ⟨v4, rfl, by rw [← HE.out _ rfl]; exact r4, HG3.out.step g4 m4⟩
theorem vputs_t {w : World} {ao : Option Addr} {len cap n : Nat} {xs : List Int} (h : Sl w ao len cap xs) (hl : len ≤ 1000000) (hn : n < 18446744073709551616) : Calls Try.prog 88 #[.slice ao len cap, .int .u64 (n : Int)] w fun e w' => ∃ a c, e = .returned (.slice a (len + (uv n).length) c) ∧ Sl w' a (len + (uv n).length) c (xs ++ uv n) ∧ Below w.heap.size w w' := by
  have hp := put_any ao len cap n (xof xs) w h.2.2.2.2.2 h.2.2.1 (by omega) hn
  refine hp.mono ?_
  rintro e w' ⟨v', rfl, h1, h2⟩
  rw [← h.1, bs_xof h.2.1] at h1
  obtain ⟨a, c, hv, hs⟩ := Sl.ofRow h1 (h.2.1.app (okb_uv n))
  rw [List.length_append, h.1] at hv hs
  exact ⟨a, c, by rw [hv], hs, h2⟩
theorem vpbs_t {w : World} {so : Option Addr} {ls cs : Nat} {rs : List Int} (h : Sl w so ls cs rs) (hl : ls ≤ 1000000) : Calls Try.prog 89 #[.slice none 0 0, .slice so ls cs] w fun e w' => ∃ a c, e = .returned (.slice a (lb rs).length c) ∧ Sl w' a (lb rs).length c (lb rs) ∧ Below w.heap.size w w' := by
  refine (vpby_nil h (by omega)).mono ?_
  rintro e w' ⟨v', rfl, r, b⟩
  obtain ⟨a, c, rfl, hs⟩ := Sl.ofRow r (okb_lb h.2.1)
  exact ⟨a, c, rfl, hs, b⟩
set_option maxHeartbeats 1000000 in
set_option maxRecDepth 100000 in
/-- A row of the index. -/
theorem rwby_t {w : World} {ao : Option Addr} {len cap p n : Nat} {xs : List Int} (h : Sl w ao len cap xs) (hl : len ≤ 3000) (hp : p ≤ 100000000) (hn : n ≤ 100000000) :
    Calls Try.prog 63 #[.slice ao len cap, .int .i64 (p : Int), .int .i64 (n : Int)] w fun e w' => ∃ a m c, e = .returned (.slice a m c) ∧ Sl w' a m c (lb xs ++ (uv p ++ uv n)) ∧ m ≤ 3100 ∧ Below w.heap.size w w' := by
  have h1 := vpbs_t h (by omega)
  have hb : (lb xs).length ≤ 3010 := by
    have := uv_len64 (n := xs.length) (by rw [h.1]; omega)
    rw [lb_len, h.1] at *
    omega
  have hup := uv_len64 (n := p) (by omega)
  have hun := uv_len64 (n := n) (by omega)
  have HL : Hid ((lb xs).length ≤ 3010 ∧ (uv p).length ≤ 10 ∧ (uv n).length ≤ 10 ∧ p ≤ 100000000 ∧ n ≤ 100000000) := ⟨hb, hup, hun, hp, hn⟩
  have HE : Hid ((lb xs ++ uv p) ++ uv n = lb xs ++ (uv p ++ uv n)) := List.append_assoc ..
  have hp61 : p ≤ 2 ^ 61 := by omega
  have hn61 : n ≤ 2 ^ 61 := by omega
  have hwp : IntKind.u64.wrap (p : Int) = (p : Int) := wrap64u (by omega)
  have hwn : IntKind.u64.wrap (n : Int) = (n : Int) := wrap64u (by omega)
  generalize hX : lb xs = X at h1 HL HE
  generalize hXL : X.length = XL at h1 HL
  clear h hl hb hup hun hp hn hX hXL
  go_enter Try.func63, Try.ntmps63
  go_upto_region 2 with (first | (go_at_call 89; refine h1.mono ?_; rintro e w1 ⟨a1, c1, rfl, s1, b1⟩) | (go_at_call 88; refine (vputs_t s1 (by have := HL.out; omega) (by have := HL.out; omega)).mono ?_; rintro e w2 ⟨a2, c2, rfl, s2, b2⟩))
  have HB2 := hid (b1.trans (b2.mono b1.size))
  clear h1 s1 b1 b2
  generalize hU : (uv p).length = UP at s2 HL
  clear hU
  go_wp2_with (go_at_call 88; refine (vputs_t s2 (by have := HL.out; omega) (by have := HL.out; omega)).mono ?_; rintro e w3 ⟨a3, c3, rfl, s3, b3⟩)
  exact bodyPost_ret (v := .slice a3 (XL + UP + (uv n).length) c3) (by simp [results, Try.results63, go_sem]) rfl ⟨a3, _, c3, rfl, by rw [← HE.out]; exact s3, by have := HL.out; omega, HB2.out.trans (b3.mono HB2.out.size)⟩
end Go.Proofs.Ytimpaindbbjieaa

/- The landed table: where the first block ends; the blocks' bytes and the index. -/
namespace Go.Proofs.Ytimpaindbbjieaa
open Go.RowKit
set_option linter.unusedVariables false
set_option linter.unusedSimpArgs false

set_option maxHeartbeats 2000000 in
set_option maxRecDepth 100000 in
theorem bend_t {w : World} {ao : Option Addr} {len cap : Nat} {l : List EntV} (h : RS entE w ao len cap l) (h1 : 1 ≤ len) (hl : len ≤ 5000) (hm : ∀ e ∈ l, mayE e = true) :
    Calls Try.prog 61 #[.slice ao len cap] w fun e w' => e = .returned (.int .i64 ((beN 0 l : Nat) : Int)) ∧ Below w.heap.size w w' := by
  have hln : l.length = len := h.len.1
  have hne : l ≠ [] := fun z => by rw [z] at hln; simp at hln; omega
  have HS : Hid (RS entE w ao len cap l ∧ l.length = len ∧ len ≤ 5000 ∧ ∀ e ∈ l, mayE e = true) := ⟨h, hln, hl, hm⟩
  have H0 : Hid (0 = wts (l.take 0) ∧ (0 < len → 0 < beN 0 l) ∧ (0 = len → beN 0 l = len) ∧ Below w.heap.size w w) := ⟨by simp [wts], fun _ => beN_pos hne, fun z => absurd z (by omega), Below.refl _ _⟩
  have hl62 : len ≤ 2 ^ 61 := by omega
  clear h h1 hl hm hne
  go_enter Try.func61, Try.ntmps61
  go_wp2_with fail
  go_loopg [3, 4, 5, 8] len (fun g s _ _ i wr => ∃ k S : Nat, k + g = len ∧ i = .int .i64 (k : Int) ∧ s = .int .i64 (S : Int) ∧ S < 256 ∧ Hid (S = wts (l.take k) ∧ (k < len → k < beN 0 l) ∧ (k = len → beN 0 l = len) ∧ Below w.heap.size w wr))
  case atStart => exact ⟨0, 0, by omega, rfl, rfl, by omega, H0⟩
  case round =>
    obtain ⟨k, S, hk, rfl, rfl, hS, HK⟩ := hrel
    by_cases hkl : k < len
    · have hkl' : (k : Int) < (len : Int) := by omega
      have hkx : k < l.length := by omega
      have bel := HK.out.2.2.2
      obtain ⟨b, off, ka, kc, va, vc, rfl, d0, d1, d2, d3, d4, sk, sv, i1, i2⟩ := RS.ent (HS.out.1.later bel) (List.getElem?_eq_getElem hkx)
      have hbe := beN_at l 0 k hkx (HK.out.2.1 hkl)
      rw [← HK.out.1, Nat.zero_add] at hbe
      have hmo := mayE_ok (HS.out.2.2.2 l[k] (List.getElem_mem hkx))
      have hwt : wtE l[k] = l[k].key.length + l[k].val.length + 16 := rfl
      have HW : Hid (∀ T, T = S + wtE l[k] → T = wts (l.take (k + 1))) := fun T hT => by
        rw [take_snoc hkx, wts_app, hT, HK.out.1]
        simp [wts]
      generalize l[k] = o at d0 d1 d2 d3 d4 hbe hmo hwt HW
      have HBE := hid hbe
      have h1 := hmo.2.1
      have h2 := hmo.2.2.2.2.2.2.1
      generalize o.key.length = kl at d0 hwt h1
      generalize o.val.length = vl at d4 hwt h2
      generalize o.seq = seq at d1
      generalize o.gone = gone at d2
      generalize o.till = till at d3
      have hk62 : k ≤ 2 ^ 61 := by omega
      have hkl9 : kl ≤ 2 ^ 60 := by omega
      have hvl9 : vl ≤ 2 ^ 60 := by omega
      obtain ⟨GK, HG⟩ : ∃ g, Hid (g < gk ∧ k + 1 + g = len) := ⟨gk - 1, by omega, by omega⟩
      have HBw : Hid (Below w.heap.size w (wr.alloc (.cells #[.slice ka kl kc, .int .i64 seq, .bool gone, .int .i64 till, .slice va vl vc] 34))) := bel.alloc bel.size _
      have HLN := hid hln
      clear sk sv i1 i2 hk bel hmo hbe hln
      by_cases q : 256 ≤ S + wtE o
      · have q' : (256 : Int) ≤ (S : Int) + ((kl : Int) + (vl : Int) + 16) := by omega
        have hv := HBE.out.1 q
        have HV := hid hv
        clear hv q hwt
        go_wp2_with fail
        exact bodyPost_ret (v := .int .i64 ((k : Int) + 1)) (by simp [results, Try.results61, go_sem]) rfl ⟨by rw [HV.out]; rfl, HBw.out⟩
      · have q' : ¬ ((256 : Int) ≤ (S : Int) + ((kl : Int) + (vl : Int) + 16)) := by omega
        have HT : Hid (S + (kl + vl + 16) < 256 ∧ S + (kl + vl + 16) = wts (l.take (k + 1)) ∧ (k + 1 < len → k + 1 < beN 0 l) ∧ (k + 1 = len → beN 0 l = len)) := ⟨by omega, HW.out _ (by omega), fun z => HBE.out.2.1 (by omega) (by have := HLN.out; omega), fun z => by rw [HBE.out.2.2 (by omega) (by have := HLN.out; omega)]; exact HLN.out⟩
        clear q hwt
        go_wp2_with fail
        go_roundg GK
        case measure => exact HG.out.1
        case rel => exact ⟨k + 1, S + (kl + vl + 16), HG.out.2, by go_num, by go_num, HT.out.1, HT.out.2.1, HT.out.2.2.1, HT.out.2.2.2, HBw.out⟩
    · have hkl' : (len : Int) ≤ (k : Int) := by omega
      have HE : Hid (beN 0 l = len) := HK.out.2.2.1 (by omega)
      have HB := hid HK.out.2.2.2
      clear hk hkl HK
      go_wp2_with fail
      exact bodyPost_ret (v := .int .i64 (len : Int)) (by simp [results, Try.results61, go_sem]) rfl ⟨by rw [HE.out], HB.out⟩

theorem idxB_snoc : ∀ (bs : List (List EntV)) (pos : Nat) (c : List EntV), idxB pos (bs ++ [c]) = idxB pos bs ++ (lb (lastK [] c) ++ (uv (pos + (bodT bs).length) ++ uv (blkB c).length))
  | [], pos, c => by simp [idxB, bodT]
  | d :: r, pos, c => by
    show lb (lastK [] d) ++ (uv pos ++ (uv (blkB d).length ++ idxB (pos + (blkB d).length + 4) (r ++ [c]))) = (lb (lastK [] d) ++ (uv pos ++ (uv (blkB d).length ++ idxB (pos + (blkB d).length + 4) r))) ++ _
    rw [idxB_snoc r, bodT_cons]
    simp only [List.append_assoc, List.length_append, sm_len]
    rw [show pos + (blkB d).length + 4 + (bodT r).length = pos + ((blkB d).length + 4 + (bodT r).length) by omega]
theorem bodT_snoc (bs : List (List EntV)) (c : List EntV) : bodT (bs ++ [c]) = bodT bs ++ sm (blkB c) := by unfold bodT; simp
/-- What is short enough of a row of entries. -/
theorem cut_short {l : List EntV} {bs : List (List EntV)} {r : List EntV} (hl : l.length ≤ 5000) (hm : ∀ e ∈ l, mayE e = true) (h : cutT l = bs ++ cutT r) : (bodT bs).length ≤ 20000000 ∧ (idxB 0 bs).length ≤ 20000000 := by
  have hf := cutT_flat l
  have hb : ∀ c ∈ bs, c ≠ [] ∧ ∀ e ∈ c, mayE e = true ∧ e.key.length + e.val.length + 61 ≤ 2700 := fun c hc => by
    have hcl : c ∈ cutT l := by rw [h]; simp [hc]
    refine ⟨cutB_ne l 0 [] c hcl, fun e he => ?_⟩
    have hel : e ∈ l := by rw [← hf]; exact List.mem_flatten.2 ⟨c, hcl, he⟩
    have := mayE_ok (hm e hel)
    exact ⟨hm e hel, by omega⟩
  have hfl : bs.flatten.length ≤ 5000 := by
    have : (cutT l).flatten.length = bs.flatten.length + (cutT r).flatten.length := by rw [h, List.flatten_append, List.length_append]
    rw [hf] at this
    omega
  have h1 := parts_some bs hb
  have h3 : (2700 + 12) * bs.flatten.length ≤ (2700 + 12) * 5000 := Nat.mul_le_mul_left _ hfl
  have h4 : (2700 + 30) * bs.flatten.length ≤ (2700 + 30) * 5000 := Nat.mul_le_mul_left _ hfl
  rcases idx_some bs 0 hb with z | z
  · exact ⟨by omega, by omega⟩
  · omega
end Go.Proofs.Ytimpaindbbjieaa

/- The landed table: the blocks' bytes and the index. -/
namespace Go.Proofs.Ytimpaindbbjieaa
open Go.RowKit
set_option linter.unusedVariables false
set_option linter.unusedSimpArgs false

theorem Row.slT {B : Nat} {w : World} {a : Option Addr} {n c : Nat} {xs : List Int} (h : Row B w (.slice a n c) xs) (hok : Okb xs) : Sl w a n c xs := by
  obtain ⟨a', c', hv, hs⟩ := Sl.ofRow h hok
  simp only [Value.slice.injEq] at hv
  obtain ⟨rfl, rfl, rfl⟩ := hv
  exact hs
theorem Pair.swap {W wx : World} {v u : Value} {ys zs : List Int} (h : Pair W wx v u ys zs) : Pair W wx u v zs ys := ⟨h.2.1, h.1, h.2.2.1, fun g hg e => h.2.2.2 g e hg⟩
theorem Pair.later {W wx wy : World} {v u : Value} {ys zs : List Int} (h : Pair W wx v u ys zs) (hb : Below wx.heap.size wx wy) : Pair W wy v u ys zs := ⟨h.1.later hb, h.2.1.later hb, h.2.2.1.trans (hb.mono h.2.2.1.size), h.2.2.2⟩
theorem Row.own_ltT {B : Nat} {w : World} {v : Value} {xs : List Int} (h : Row B w v xs) {g : Nat} (hg : v.ownBlock = some g) : B ≤ g ∧ g < w.heap.size := World.ownsRow.lt h _ hg
theorem Pair.grow {W wx wy : World} {v v' u : Value} {ys xs zs : List Int} (h : Pair W wx v u ys zs) (hg : wx.grownBy wy v.ownBlock) (hm : Moved wx v v') (hr : Row W.heap.size wy v' xs) : Pair W wy v' u xs zs := by
  refine ⟨hr, h.2.1.other hg (fun g e1 e2 => h.2.2.2 g e2 e1), ?_, fun g e1 e2 => ?_⟩
  · exact h.2.2.1.trans (grown_below h.1 hg h.2.2.1.size)
  · rcases hm with q | ⟨g', q1, q2⟩
    · rw [q] at e1; exact h.2.2.2 g e1 e2
    · rw [q1] at e1
      simp only [Option.some.injEq] at e1
      have := (Row.own_ltT h.2.1 e2).2
      omega
theorem RS.headT {w : World} {ao : Option Addr} {len cap : Nat} {l : List EntV} (h : RS entE w ao len cap l) (j : Nat) (hj : j ≤ len) : RS entE w (cutS ao cap 0 5) j cap (l.take j) := by
  have := (RSG.any h).cut (by decide) 0 j (Nat.zero_le _) hj
  simpa [cutS] using this.rs
theorem RS.fromT {w : World} {ao : Option Addr} {len cap : Nat} {l : List EntV} (h : RS entE w ao len cap l) (i : Nat) (hi : i ≤ len) : RS entE w (cutS ao cap i 5) (len - i) (cap - i) (l.drop i) := by
  have := (RSG.any h).cut (by decide) i len hi (Nat.le_refl _)
  have e : (l.drop i).take (len - i) = l.drop i := List.take_of_length_le (by rw [List.length_drop, h.len.1]; exact Nat.le_refl _)
  rw [e] at this
  exact this.rs

theorem RS.okET {w : World} {ao : Option Addr} {len cap : Nat} {l : List EntV} (h : RS entE w ao len cap l) : ∀ e ∈ l, OkE e := fun e he => by
  obtain ⟨i, hi, rfl⟩ := List.getElem_of_mem he
  obtain ⟨b, off, ka, kc, va, vc, -, -, -, -, -, -, sk, sv, -, -⟩ := RS.ent h (List.getElem?_eq_getElem hi)
  exact ⟨sk.2.1, sv.2.1⟩
theorem okb_bodT {bs : List (List EntV)} (h : ∀ c ∈ bs, ∀ e ∈ c, OkE e) : Okb (bodT bs) := by
  intro x hx
  unfold bodT at hx
  obtain ⟨y, hy, hxy⟩ := List.mem_flatten.1 hx
  obtain ⟨c', hc', rfl⟩ := List.mem_map.1 hy
  exact okb_sm (okb_blk (h c' hc')) x hxy
theorem enc_t {w : World} {ao : Option Addr} {len cap : Nat} {l : List EntV} (h : RS entE w ao len cap l) (hl : len ≤ 5000) (h0 : blkE l = 0) :
    Calls Try.prog 62 #[.slice ao len cap] w fun e w' => ∃ a c, e = .returned (.tuple #[.slice a (blkB l).length c, .int .i64 0]) ∧ Row w.heap.size w' (.slice a (blkB l).length c) (blkB l) ∧ Below w.heap.size w w' := by
  refine (encR_k h (by omega)).mono ?_
  rintro e w' ⟨v, rfl, r, b⟩
  rw [h0, if_pos rfl] at *
  obtain ⟨a, c, rfl, _⟩ := Sl.ofRow r (okb_blk h.okET)
  exact ⟨a, c, rfl, r, b⟩

set_option maxHeartbeats 4000000 in
set_option maxRecDepth 100000 in
theorem bai_t {w : World} {ao : Option Addr} {len cap : Nat} {l : List EntV} (h : RS entE w ao len cap l) (hl : len ≤ 5000) (hm : ∀ e ∈ l, mayE e = true) (ho : ordE l) :
    Calls Try.prog 30 #[.slice ao len cap] w fun e w' => ∃ v u, e = .returned (.tuple #[v, u]) ∧ Pair w w' v u (bodT (cutT l)) (idxT l) := by
  have hln : l.length = len := h.len.1
  have HS : Hid (l.length = len ∧ len ≤ 5000 ∧ (∀ e ∈ l, mayE e = true) ∧ ordE l) := ⟨hln, hl, hm, ho⟩
  have HOK := hid h.okET
  have H0 : Hid (l.length = len ∧ cutT l = [] ++ cutT l ∧ RS entE w ao len cap l ∧ (∀ e ∈ l, e ∈ l) ∧ Pair w w (.slice none 0 0) (.slice none 0 0) (bodT []) (idxB 0 [])) := ⟨hln, rfl, h, fun _ q => q, Row.nil _ _, Row.nil _ _, Below.refl _ _, fun g e => by cases e⟩
  have hl62 : len ≤ 2 ^ 61 := by omega
  clear h hm ho hln
  go_enter Try.func30, Try.ntmps30
  go_wp2_with fail
  go_loopg [0, 2, 3, 4, 5, 6] len (fun g lv bv iv _ _ _ wr => ∃ (a : Option Addr) (c : Nat) (r : List EntV) (bs : List (List EntV)), lv = .slice a g c ∧ g ≤ len ∧ Hid (r.length = g ∧ cutT l = bs ++ cutT r ∧ RS entE w a g c r ∧ (∀ e ∈ r, e ∈ l) ∧ Pair w wr bv iv (bodT bs) (idxB 0 bs)))
  case atStart => exact ⟨ao, cap, l, [], rfl, Nat.le_refl _, H0⟩
  case round =>
    obtain ⟨a, c, r, bs, rfl, hg, HK⟩ := hrel
    by_cases hz : gk = 0
    · have hz' : (gk : Int) = 0 := by omega
      have HE : Hid (cutT l = bs) := by
        have h1 := HK.out.2.1
        have h2 : r = [] := List.eq_nil_of_length_eq_zero (by rw [HK.out.1]; exact hz)
        rw [h2] at h1
        show _ = _
        rw [h1]
        simp [cutT, cutB]
      have HP := hid HK.out.2.2.2.2
      clear HK
      go_wp2_with fail
      exact bodyPost_ret (v := .tuple #[u2, u3]) (by simp [results, Try.results30, go_sem]) rfl ⟨u2, u3, rfl, by unfold idxT; rw [HE.out]; exact HP.out⟩
    · have hz' : (0 : Int) < (gk : Int) := by omega
      have hrl := HK.out.1
      have hrne : r ≠ [] := fun z => by rw [z] at hrl; exact hz hrl.symm
      obtain ⟨n, hn⟩ : ∃ n, n = beN 0 r := ⟨_, rfl⟩
      have hn1 : 1 ≤ n := by rw [hn]; exact beN_pos hrne
      have hn2 : n ≤ gk := by rw [hn, ← hrl]; exact beN_le r 0
      have hcut := cutT_be hrne
      rw [← hn] at hcut
      have hcm : r.take n ∈ cutT l := by rw [HK.out.2.1, hcut]; simp
      have hblk := cutT_blk HS.out.2.2.1 HS.out.2.2.2 _ hcm
      have hshort := cut_short (by have := HS.out; omega) HS.out.2.2.1 HK.out.2.1
      have hcut2 : cutT l = (bs ++ [r.take n]) ++ cutT (r.drop n) := by rw [HK.out.2.1, hcut]; simp
      have hshort2 := cut_short (by have := HS.out; omega) HS.out.2.2.1 hcut2
      have bw := HK.out.2.2.2.2.2.2.1
      have hbe := bend_t (HK.out.2.2.1.later bw) (by omega) (by omega) (fun e he => HS.out.2.2.1 e (HK.out.2.2.2.1 e he))
      rw [← hn] at hbe
      have hx : n - 1 < r.length := by omega
      have hkey : r[n - 1].key = lastK [] (r.take n) := by
        have := lastK_take r (n - 1) [] hx
        rw [show n - 1 + 1 = n by omega] at this
        exact this.symm
      obtain ⟨b0, off, ka, kc, va, vc, hab, d0, -, -, -, -, sk, -, -, -⟩ := RS.ent HK.out.2.2.1 (List.getElem?_eq_getElem hx)
      have hk5 : r[n - 1].key.length ≤ 512 := (mayE_ok (HS.out.2.2.1 _ (HK.out.2.2.2.1 _ (List.getElem_mem hx)))).2.1
      rw [hkey] at d0 sk hk5
      have hhd := fun w => run_headE w a gk c n (by have := HK.out.2.2.1.len; omega)
      have hfr := fun w => run_fromE w a gk c n hn2 (by have := HK.out.2.2.1.len; omega)
      have HRH := hid (HK.out.2.2.1.headT n hn2)
      have HRF := hid (HK.out.2.2.1.fromT n hn2)
      have hbl : (blkB (r.take n)).length ≤ 20000000 := by
        have h1 := hshort2.1
        rw [bodT_snoc, List.length_append, sm_len] at h1
        omega
      have hokb : Okb (blkB (r.take n)) → True := fun _ => trivial
      have HC : Hid (cutT l = (bs ++ [r.take n]) ++ cutT (r.drop n) ∧ (∀ e ∈ r.drop n, e ∈ l) ∧ (r.drop n).length = gk - n ∧ blkE (r.take n) = 0 ∧ bodT (bs ++ [r.take n]) = bodT bs ++ sm (blkB (r.take n)) ∧ idxB 0 (bs ++ [r.take n]) = idxB 0 bs ++ (lb (lastK [] (r.take n)) ++ (uv (bodT bs).length ++ uv (blkB (r.take n)).length))) :=
        ⟨hcut2, fun e he => HK.out.2.2.2.1 e (List.mem_of_mem_drop he), by rw [List.length_drop, hrl], hblk.1, bodT_snoc _ _, by have := idxB_snoc bs 0 (r.take n); rw [Nat.zero_add] at this; exact this⟩
      have HL : Hid ((bodT bs).length ≤ 20000000 ∧ (idxB 0 bs).length ≤ 20000000 ∧ (blkB (r.take n)).length ≤ 20000000 ∧ gk ≤ 5000) := ⟨hshort.1, hshort.2, hbl, by have := HS.out; omega⟩
      have HP := hid HK.out.2.2.2.2
      subst hab
      have d0' := cell_later bw d0
      have HSK := hid sk
      generalize cutS (some ⟨b0, off, none⟩) c 0 5 = ha at hhd HRH
      generalize cutS (some ⟨b0, off, none⟩) c n 5 = fa at hfr HRF
      generalize c - n = fc at hfr HRF
      obtain ⟨GN, hGN⟩ : ∃ g, g = gk - n := ⟨_, rfl⟩
      rw [← hGN] at hfr HRF HC
      have HGN : Hid (GN < gk ∧ GN ≤ len) := ⟨by omega, by omega⟩
      generalize lastK [] (r.take n) = key at d0 d0' HSK hk5 HC
      generalize hRT : r.take n = rt at HRH HC HL
      generalize r.drop n = rd at HRF HC
      have hn62 : n ≤ 2 ^ 61 := by omega
      have hgk62 : gk ≤ 2 ^ 61 := by omega
      have hi1 : (n : Int) - 1 < (gk : Int) := by omega
      have hi2 : (1 : Int) ≤ (n : Int) := by omega
      have hokB : Okb (bodT bs) := okb_bodT fun c' hc' e he => HOK.out e (by
        have h1 : e ∈ (cutT l).flatten := List.mem_flatten.2 ⟨c', by rw [HK.out.2.1]; simp [hc'], he⟩
        rw [cutT_flat] at h1
        exact h1)
      have hokR : Okb (blkB rt) := okb_blk HRH.out.okET
      obtain ⟨a2, c2, hv2, -⟩ := Sl.ofRow HP.out.1 hokB
      subst hv2
      obtain ⟨X, hX⟩ : ∃ X, X = lb key ++ (uv (bodT bs).length ++ uv (blkB rt).length) := ⟨_, rfl⟩
      rw [← hX] at HC
      generalize hBL : (bodT bs).length = BL at HL hX
      rw [hBL] at HP
      generalize hRL : (blkB rt).length = RL at HL hX
      have HX := hid (And.intro hX (And.intro hBL hRL))
      have HKL : Hid (key.length ≤ 512) := hk5
      have HOKR := hid hokR
      have hBL62 : BL ≤ 2 ^ 61 := by have := HL.out; omega
      have hRL62 : RL ≤ 2 ^ 61 := by have := HL.out; omega
      have HBW := hid bw
      clear HK hbl hokb hshort hshort2 hcut hcut2 hcm hblk hrne hx hkey d0 sk hokB hokR hX hBL hRL hn hrl hk5 hGN hRT bw hz hg hn1 hn2
      go_upto_region 3 with (go_at_call 61; refine hbe.mono ?_; rintro e w1 ⟨rfl, b1⟩)
      have HBW1 := hid (HBW.out.trans (b1.mono HBW.out.size))
      have hen := enc_t (HRH.out.later HBW1.out) (by have := HL.out; omega) HC.out.2.2.2.1
      rw [HX.out.2.2] at hen
      clear hbe
      go_upto_region 4 with (go_at_call 62; refine hen.mono ?_; rintro e w2 ⟨a5, c5, rfl, r5, b2⟩)
      have HP1 := hid (HP.out.later b1)
      have HP2 := hid (HP1.out.later b2)
      have HSEP : Hid (∀ g, (Value.slice a5 RL c5).ownBlock = some g → (Value.slice a2 BL c2).ownBlock ≠ some g ∧ u3.ownBlock ≠ some g) := fun g hg => by
        have h1 := (Row.own_ltT r5 hg).1
        exact ⟨fun e => by have := (Row.own_ltT HP1.out.1 e).2; omega, fun e => by have := (Row.own_ltT HP1.out.2.1 e).2; omega⟩
      have HR5 := hid r5
      have hrb := rwby_t (p := BL) (n := RL) (HSK.out.later HP2.out.2.2.1) (by have := HKL.out; omega) (by have := HL.out; omega) (by have := HL.out; omega)
      rw [← HX.out.1] at hrb
      have d2' := cell_later b2 (cell_later b1 d0')
      clear hen r5 d0' b1 b2
      go_upto_region 5 with (first | (go_at_call 63; refine hrb.mono ?_; rintro e w3 ⟨a6, m6, c6, rfl, s6, hm6, b3⟩; have HP3 := hid (HP2.out.later b3)) | (at_builtin; refine wpList_applN (B := w.heap.size) (xs := idxB 0 bs) (ys := X) (ao := a6) (m := m6) (c := c6) rfl (.tmp 19) (.tmp 30) rfl rfl HP3.out.2.1 rfl s6 (by have := HL.out; omega) HP3.out.2.2.1.size ?_; intro v4 w4 r4 g4 m4))
      have HP4 := hid (Pair.grow HP3.out.swap g4 m4 r4).swap
      have HR6 := hid ((HR5.out.later b3).other g4 fun g hg => (HSEP.out g hg).2)
      have hap := apsm_t (ys := blkB rt) (ao := a5) (m := RL) (c := c5) HP4.out.1 HP4.out.2.2.1.size (fun w' hg => (HR6.out.other hg fun g hg => (HSEP.out g hg).1).slT HOKR.out) (by have := HL.out; have := HX.out.2.1; omega) (by have := HL.out; omega)
      clear hrb s6 b3 r4 g4 m4 d2'
      go_wp2_with (go_at_call 34; refine hap.mono ?_; rintro e w5 ⟨v5, rfl, r5', g5⟩)
      have HP5 := hid (Pair.grow HP4.out g5.1 g5.2 r5')
      go_roundg GN
      case measure => exact HGN.out.1
      case rel => exact ⟨fa, fc, rd, bs ++ [rt], rfl, HGN.out.2, HC.out.2.2.1, HC.out.1, HRF.out, HC.out.2.1, by rw [HC.out.2.2.2.2.1, HC.out.2.2.2.2.2]; exact HP5.out⟩
end Go.Proofs.Ytimpaindbbjieaa
