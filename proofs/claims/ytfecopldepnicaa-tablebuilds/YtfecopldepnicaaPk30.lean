import Derived.BigQuiet
import Derived.Shelf.Abstract
import Derived.Deep.RegionHeldLaw
import Derived.Lib.AppendZerosOnto
import Derived.Test.YtfecopldepnicaaPk21
import Derived.Test.YtfecopldepnicaaPk27
import Derived.Test.YtfecopldepnicaaPk28
import Derived.Test.YtfecopldepnicaaPk29
/- The landed block: which entries may not be; numbers of four bytes; what two keys share. -/
namespace Go.Proofs.Ytfecopldepnicaa
open Go.RowKit
set_option linter.unusedVariables false
set_option linter.unusedSimpArgs false

set_option maxHeartbeats 2000000 in
set_option maxRecDepth 100000 in
theorem mayN_k {w : World} {ka va : Option Addr} {kc vc : Nat} {e : EntV} : Calls Try.prog 84 #[entA ka kc va vc e] w fun r w' => r = .returned (.bool (!mayE e)) ∧ Below w.heap.size w w' := by
  have HM : Hid (∀ wx, Calls Try.prog 59 #[entA ka kc va vc e] wx fun r w' => r = .returned (.bool (mayE e)) ∧ Below wx.heap.size wx w') := fun wx => may_m
  unfold entA at HM ⊢
  generalize mayE e = m at HM ⊢
  generalize e.key.length = kl at HM ⊢
  generalize e.val.length = vl at HM ⊢
  generalize e.seq = sq at HM ⊢
  generalize e.gone = gn at HM ⊢
  generalize e.till = tl at HM ⊢
  have HB : Hid (Below w.heap.size w (w.alloc (.cells #[.slice ka kl kc, .int .i64 sq, .bool gn, .int .i64 tl, .slice va vl vc] 34))) := (Below.refl _ _).alloc (Nat.le_refl _) _
  go_enter Try.func84, Try.ntmps84
  go_wp2_with (go_at_call 59; refine (HM.out _).mono ?_; rintro e w' ⟨rfl, hb⟩)
  exact bodyPost_ret (v := .bool (!m)) (by simp [results, Try.results84, go_sem]) rfl ⟨rfl, HB.out.trans (hb.mono HB.out.size)⟩

set_option maxHeartbeats 4000000 in
set_option maxRecDepth 100000 in
theorem ixf_k {w : World} {ao : Option Addr} {len cap : Nat} {l : List EntV} (h : RS entE w ao len cap l) (hl : len ≤ 1000000) :
    Calls Try.prog 58 #[.slice ao len cap, .func (.func 84) #[] #[]] w fun r w' => (∃ i : Int, r = .returned (.int .i64 i) ∧ (0 ≤ i ↔ l.all mayE = false)) ∧ Below w.heap.size w w' := by
  have HS : Hid (RS entE w ao len cap l ∧ True ∧ len ≤ 1000000) := ⟨h, trivial, hl⟩
  have hln : l.length = len := h.len.1
  have hl62 : len ≤ 2 ^ 61 := by omega
  clear h hl
  go_enter Try.func58, Try.ntmps58
  go_wp2_with fail
  go_loopg [5, 8] len (fun g _ i wr => ∃ k : Nat, k + g = len ∧ i = .int .i64 (k : Int) ∧ Hid ((∀ j (hj : j < l.length), j < k → mayE l[j] = true) ∧ Below w.heap.size w wr))
  case atStart => exact ⟨0, by omega, rfl, fun j _ h => absurd h (by omega), Below.refl _ _⟩
  case round =>
    obtain ⟨k, hk, rfl, HK⟩ := hrel
    by_cases hkl : k < len
    · have hkl' : (k : Int) < (len : Int) := by omega
      have hkx : k < l.length := by omega
      have bel := HK.out.2
      obtain ⟨b, off, ka, kc, va, vc, rfl, d0, d1, d2, d3, d4, sk, sv, i1, i2⟩ := RS.ent (HS.out.1.later bel) (List.getElem?_eq_getElem hkx)
      have HN : Hid (mayE l[k] = false → l.all mayE = false) := fun q => List.all_eq_false.2 ⟨l[k], List.getElem_mem hkx, by rw [q]; decide⟩
      have HP : Hid (mayE l[k] = true → ∀ j (hj : j < l.length), j < k + 1 → mayE l[j] = true) := fun q j hj hjk => if e : j = k then by subst e; exact q else HK.out.1 j hj (by omega)
      generalize l[k] = o at d0 d1 d2 d3 d4 HN HP
      have hk62 : k ≤ 2 ^ 61 := by omega
      obtain ⟨GK, HG⟩ : ∃ g, Hid (g < gk ∧ k + 1 + g = len) := ⟨gk - 1, by omega, by omega⟩
      have HM1 : Hid (∀ wx, Calls Try.prog 84 #[entA ka kc va vc o] wx fun r w' => r = .returned (.bool (!mayE o)) ∧ Below wx.heap.size wx w') := fun wx => mayN_k
      have HBw : Hid (∀ wx, Below wr.heap.size wr wx → Below w.heap.size w wx) := fun wx hb => bel.trans (hb.mono bel.size)
      unfold entA at HM1
      clear sk sv i1 i2 hk bel
      cases hmo : mayE o with
      | true =>
        rw [hmo] at HM1
        go_wp2_with (go_at_call 84; refine (HM1.out _).mono ?_; rintro e w2 ⟨rfl, b2⟩)
        go_roundg GK
        case measure => exact HG.out.1
        case rel => exact ⟨k + 1, HG.out.2, by go_num, HP.out hmo, HBw.out _ b2⟩
      | false =>
        rw [hmo] at HM1
        go_wp2_with (go_at_call 84; refine (HM1.out _).mono ?_; rintro e w2 ⟨rfl, b2⟩)
        exact bodyPost_ret (v := .int .i64 (k : Int)) (by simp [results, Try.results58, go_sem]) rfl ⟨⟨(k : Int), rfl, fun _ => HN.out hmo, fun _ => by omega⟩, HBw.out _ b2⟩
    · have hkl' : (len : Int) ≤ (k : Int) := by omega
      have HA : Hid (l.all mayE = true) := all_takeM HK.out.1 (by omega)
      have HB := hid HK.out.2
      clear hk hkl HK
      go_wp2_with fail
      exact bodyPost_ret (v := .int .i64 (-1)) (by simp [results, Try.results58, go_sem]) rfl ⟨⟨-1, rfl, fun q => absurd q (by decide), fun q => by rw [HA.out] at q; cases q⟩, HB.out⟩
set_option maxHeartbeats 1000000 in
set_option maxRecDepth 100000 in
theorem cnf_k {w : World} {ao : Option Addr} {len cap : Nat} {l : List EntV} (h : RS entE w ao len cap l) (hl : len ≤ 1000000) :
    Calls Try.prog 27 #[.slice ao len cap, .func (.func 84) #[] #[]] w fun r w' => r = .returned (.bool (!l.all mayE)) ∧ Below w.heap.size w w' := by
  have hx := ixf_k h hl
  generalize l.all mayE = A at hx ⊢
  clear h hl
  cases A with
  | true =>
    go_enter Try.func27, Try.ntmps27
    go_wp2_with fail
    refine hx.mono ?_
    rintro e w2 ⟨⟨i, rfl, hi⟩, b2⟩
    have hi' : ¬ (0 ≤ i) := fun q => by have := hi.1 q; cases this
    clear hi hx
    go_wp2_with fail
    exact bodyPost_ret (v := .bool false) (by simp [results, Try.results27, go_sem]; omega) rfl ⟨rfl, b2⟩
  | false =>
    go_enter Try.func27, Try.ntmps27
    go_wp2_with fail
    refine hx.mono ?_
    rintro e w2 ⟨⟨i, rfl, hi⟩, b2⟩
    have hi' : 0 ≤ i := hi.2 (by first | exact trivial | rfl)
    clear hi hx
    go_wp2_with fail
    exact bodyPost_ret (v := .bool true) (by simp [results, Try.results27, go_sem]) rfl ⟨rfl, b2⟩

/-- A number of four bytes. -/
theorem fix_k {w : World} {n : Nat} (hn : n ≤ 2 ^ 61) : Calls Try.prog 85 #[.int .i64 (n : Int)] w fun e w' => ∃ a c, e = .returned (.slice a 4 c) ∧ Sl w' a 4 c (fx n 4) ∧ Below w.heap.size w w' := by
  have hf := fixed_any none 0 0 n (xof []) 4 w (fun k hk => by cases hk) (fun _ => ⟨rfl, rfl⟩) (by omega)
  rw [fxs4b] at hf
  have HO := hid (okb_fx n 4)
  go_enter Try.func85, Try.ntmps85
  go_wp2_with (go_at_call 67; refine hf.mono ?_; rintro e w' ⟨v, rfl, r1, b1⟩)
  have r2 : Row w.heap.size w' v (fx n 4) := r1
  obtain ⟨a, c, hv, hs⟩ := Sl.ofRow r2 HO.out
  rw [fx_length] at hv hs
  subst hv
  exact bodyPost_ret (v := .slice a 4 c) (by simp [results, Try.results85, go_sem]) rfl ⟨a, c, rfl, hs, b1⟩

set_option maxHeartbeats 4000000 in
set_option maxRecDepth 100000 in
theorem shd_k {w : World} {ao bo : Option Addr} {la ca lb cb : Nat} {xs ys : List Int} (ha : Sl w ao la ca xs) (hb : Sl w bo lb cb ys) (ha63 : la ≤ 2 ^ 61) :
    Calls Try.prog 101 #[.slice ao la ca, .slice bo lb cb] w fun e w' => e = .returned (.int .i64 ((shr xs ys : Nat) : Int)) ∧ Below w.heap.size w w' := by
  have HS : Hid (Sl w ao la ca xs ∧ Sl w bo lb cb ys) := ⟨ha, hb⟩
  have hla : xs.length = la := ha.1
  have hlb : ys.length = lb := hb.1
  have hle := shr_le xs ys
  obtain ⟨S, hS⟩ : ∃ S, S = shr xs ys := ⟨_, rfl⟩
  rw [← hS] at hle ⊢
  have HSS := hid hS
  clear ha hb hS
  go_enter Try.func101, Try.ntmps101
  go_wp2_with fail
  go_loopg [5] (S + 1) (fun g i wx => ∃ j : Nat, j + g = S + 1 ∧ j ≤ S ∧ i = .int .i64 (j : Int) ∧ Hid (Below w.heap.size w wx))
  case atStart => exact ⟨0, by omega, by omega, rfl, Below.refl _ _⟩
  case round =>
    obtain ⟨j, hj, hjS, rfl, HJB⟩ := hrel
    have hmr := shr_more xs ys j (by have := HSS.out; omega)
    have hj62 : j ≤ 2 ^ 62 := by omega
    have HEND : Hid (¬ j < S → j = S ∧ ∀ n, Below w.heap.size w (wr.drewN n)) := fun hn => ⟨by omega, fun n => below_drewN HJB.out n⟩
    rw [← HSS.out] at hmr
    by_cases hjk : j < la
    · have hjk' : decide ((j : Int) < (la : Int)) = true := by simpa using hjk
      by_cases hjp : j < lb
      · have hjp' : decide ((j : Int) < (lb : Int)) = true := by simpa using hjp
        obtain ⟨x1, kb, ko, rfl, x2⟩ := (HS.out.1.later HJB.out).2.2.2.2.2 j hjk
        obtain ⟨y1, pb, po, rfl, y2⟩ := (HS.out.2.later HJB.out).2.2.2.2.2 j hjp
        have hjk2 : j < xs.length := by omega
        have hjp2 : j < ys.length := by omega
        have hcx : ((xof xs j : Nat) : Int) = xs[j]'(hjk2) := (xof_at HS.out.1.2.1 hjk2).symm
        have hcy : ((xof ys j : Nat) : Int) = ys[j]'(hjp2) := (xof_at HS.out.2.2.1 hjp2).symm
        have HQ : Hid (j < S ↔ xof xs j = xof ys j) := by
          refine ⟨fun h => ?_, fun h => hmr.2 ⟨hjk2, hjp2, by rw [← hcx, ← hcy, h]⟩⟩
          obtain ⟨_, _, e⟩ := hmr.1 h
          have : ((xof xs j : Nat) : Int) = (xof ys j : Nat) := by rw [hcx, hcy]; exact e
          omega
        generalize xof xs j = X at x1 x2 HQ
        generalize xof ys j = Y at y1 y2 HQ
        clear hmr hcx hcy hjp2 hjk2
        have hjk3 : (j : Int) < (la : Int) := by omega
        have hjp3 : (j : Int) < (lb : Int) := by omega
        by_cases hXY : X = Y
        · subst hXY
          have hlS : j < S := HQ.out.2 rfl
          obtain ⟨GJ, HGJ⟩ : ∃ g, Hid (g < gk ∧ j + 1 + g = S + 1 ∧ j + 1 ≤ S) := ⟨gk - 1, by omega, by omega, by omega⟩
          clear hj
          go_wp2_with fail
          go_quiet (fail)
          go_wp2_with fail
          go_roundg GJ
          case measure => exact HGJ.out.1
          case rel => exact ⟨j + 1, HGJ.out.2.1, HGJ.out.2.2, by go_num, below_drewN HJB.out _⟩
        · have hlS : ¬ j < S := fun h => hXY (HQ.out.1 h)
          have hXY' : ((X : Int) == (Y : Int)) = false := by simp; omega
          obtain ⟨hjs, HT⟩ := HEND.out hlS
          have HJ := hid hjs
          clear hj hjs hlS
          go_wp2_with fail
          go_quiet (fail)
          go_wp2_with fail
          exact bodyPost_ret (v := .int .i64 (j : Int)) (by simp [results, Try.results101, go_sem]) rfl ⟨by rw [HJ.out], HT _⟩
      · have hjp' : decide ((j : Int) < (lb : Int)) = false := by simpa using hjp
        have hlS : ¬ j < S := fun h => by obtain ⟨_, h2, _⟩ := hmr.1 h; omega
        obtain ⟨hjs, HT⟩ := HEND.out hlS
        have HJ := hid hjs
        clear hj hjs hlS hmr
        go_wp2_with fail
        go_quiet (fail)
        go_wp2_with fail
        exact bodyPost_ret (v := .int .i64 (j : Int)) (by simp [results, Try.results101, go_sem]) rfl ⟨by rw [HJ.out], HT _⟩
    · have hjk' : decide ((j : Int) < (la : Int)) = false := by simpa using hjk
      have hlS : ¬ j < S := fun h => by obtain ⟨h1, _⟩ := hmr.1 h; omega
      obtain ⟨hjs, HT⟩ := HEND.out hlS
      have HJ := hid hjs
      clear hj hjs hlS hmr
      go_wp2_with fail
      go_quiet (fail)
      go_wp2_with fail
      exact bodyPost_ret (v := .int .i64 (j : Int)) (by simp [results, Try.results101, go_sem]) rfl ⟨by rw [HJ.out], HT _⟩
end Go.Proofs.Ytfecopldepnicaa

/- The landed block: an entry behind the bytes. -/
namespace Go.Proofs.Ytfecopldepnicaa
open Go.RowKit
set_option linter.unusedVariables false
set_option linter.unusedSimpArgs false

theorem shr_comm : ∀ a b : List Int, shr a b = shr b a
  | [], [] => rfl
  | [], y :: b => rfl
  | x :: a, [] => rfl
  | x :: a, y :: b => by
    unfold shr
    rw [shr_comm a b]
    by_cases h : x = y
    · rw [if_pos h, if_pos h.symm]
    · rw [if_neg h, if_neg (fun e => h e.symm)]
theorem vput_k {w : World} {n : Nat} (hn : n < 18446744073709551616) : Calls Try.prog 88 #[.slice none 0 0, .int .u64 (n : Int)] w fun e w' => ∃ a m c, e = .returned (.slice a m c) ∧ Sl w' a m c (uv n) ∧ m ≤ 10 ∧ Below w.heap.size w w' := by
  refine (vput_nil hn).mono ?_
  rintro e w' ⟨v', rfl, r, b⟩
  obtain ⟨a, c, rfl, hs⟩ := Sl.ofRow r (okb_uv _)
  exact ⟨a, _, c, rfl, hs, uv_len64 hn, b⟩
theorem vputw_k {w : World} {n : Nat} (hn : n < 18446744073709551616) : Calls Try.prog 88 #[.slice none 0 0, .int .u64 (IntKind.u64.wrap (n : Int))] w fun e w' => ∃ a m c, e = .returned (.slice a m c) ∧ Sl w' a m c (uv n) ∧ m ≤ 10 ∧ Below w.heap.size w w' := by
  rw [wrap64u hn]
  exact vput_k hn
theorem vpby_k {w : World} {so : Option Addr} {ls cs : Nat} {rs : List Int} (h : Sl w so ls cs rs) (hl : ls ≤ 1000000) : Calls Try.prog 89 #[.slice none 0 0, .slice so ls cs] w fun e w' => ∃ a m c, e = .returned (.slice a m c) ∧ Sl w' a m c (lb rs) ∧ m ≤ ls + 10 ∧ Below w.heap.size w w' := by
  refine (vpby_nil h (by omega)).mono ?_
  rintro e w' ⟨v', rfl, r, b⟩
  obtain ⟨a, c, rfl, hs⟩ := Sl.ofRow r (okb_lb h.2.1)
  exact ⟨a, _, c, rfl, hs, by rw [lb_len, h.1]; have := uv_len64 (n := ls) (by omega); omega, b⟩

/-- A row of one's own has grown, and nothing else that was there has changed. -/
def Grw (w : World) (v : Value) (w' : World) (v' : Value) : Prop := w.grownBy w' v.ownBlock ∧ Moved w v v'
theorem Grw.later {w w1 w2 : World} {v v1 : Value} (h : Grw w v w1 v1) (hb : Below w1.heap.size w1 w2) : Grw w v w2 v1 := ⟨grown_trans h.1 (below_grown hb _), h.2⟩
theorem Grw.refl {w w' : World} {v : Value} (hb : Below w.heap.size w w') : Grw w v w' v := ⟨below_grown hb _, .inl rfl⟩
theorem Grw.step {w w1 w2 : World} {v v1 v2 : Value} (h : Grw w v w1 v1) (g : w1.grownBy w2 v1.ownBlock) (m : Moved w1 v1 v2) : Grw w v w2 v2 := by
  refine ⟨⟨g.os.trans h.1.os, g.tape.trans h.1.tape, g.output.trans h.1.output, Nat.le_trans h.1.size g.size, fun k hk hne => ?_⟩, ?_⟩
  · rw [g.block k (Nat.lt_of_lt_of_le hk h.1.size) (fun e => ?_)]
    · exact h.1.block k hk hne
    · rcases h.2 with q | ⟨g', q1, q2⟩
      · rw [q] at e; exact hne e
      · rw [q1] at e; simp only [Option.some.injEq] at e; omega
  · rcases m with q | ⟨g', q1, q2⟩
    · rcases h.2 with q' | ⟨g', q1, q2⟩
      · exact .inl (q.trans q')
      · exact .inr ⟨g', q.trans q1, q2⟩
    · exact .inr ⟨g', q1, Nat.le_trans h.1.size q2⟩

set_option maxHeartbeats 4000000 in
set_option maxRecDepth 100000 in
theorem app_k {W w : World} {v u : Value} {xs zs : List Int} {pa ka va : Option Addr} {pl pc kc vc : Nat} {prev : List Int} {o : EntV} (hP : Pair W w v u xs zs) (hp : Sl W pa pl pc prev) (hpl : pl ≤ 512) (hk : Sl W ka o.key.length kc o.key) (hv : Sl W va o.val.length vc o.val)
    (hm : mayE o = true) (hx : xs.length ≤ 1500000) :
    Calls Try.prog 86 #[v, .slice pa pl pc, entA ka kc va vc o] w fun r w' => ∃ v', r = .returned v' ∧ Pair W w' v' u (xs ++ enE (shr prev o.key) o) zs ∧ Grw w v w' v' := by
  obtain ⟨h1, h2, h3, h4, h5, h6, h7, h8⟩ := mayE_ok hm
  obtain ⟨key, seq, gone, till, vl⟩ := o
  simp only at h1 h2 h3 h4 h5 h6 h7 h8 hk hv ⊢
  obtain ⟨Q, rfl⟩ := Int.eq_ofNat_of_zero_le (show 0 ≤ seq by omega)
  obtain ⟨U, rfl⟩ := Int.eq_ofNat_of_zero_le h5
  obtain ⟨S, hS⟩ : ∃ S, S = shr prev key := ⟨_, rfl⟩
  have hSk : S ≤ key.length := by rw [hS]; exact (shr_le prev key).2
  unfold entA
  simp only
  have HE : Hid (enE (shr prev key) ⟨key, (Q : Int), gone, (U : Int), vl⟩ = uv S ++ (lb (key.drop S) ++ (uv Q ++ (if gone then [1] else 0 :: (uv U ++ lb vl))))) := by show _ = _; rw [← hS]; rfl
  have HSH : Hid (∀ {wx : World}, Below W.heap.size W wx → Calls Try.prog 101 #[.slice pa pl pc, .slice ka key.length kc] wx fun e w' => e = .returned (.int .i64 (S : Int)) ∧ Below wx.heap.size wx w') := fun {wx} hb => by rw [hS]; exact shd_k (hp.later hb) (hk.later hb) (by omega)
  have HL : Hid (xs.length ≤ 1500000 ∧ (uv S).length ≤ 10 ∧ (lb (key.drop S)).length ≤ 522 ∧ (uv Q).length ≤ 10 ∧ (uv U).length ≤ 10 ∧ Q < 18446744073709551616 ∧ U < 18446744073709551616 ∧ S < 18446744073709551616 ∧ key.length - S ≤ 512 ∧ vl.length ≤ 2048) := by
    have a1 := uv_len64 (n := S) (by omega)
    have a2 := uv_len64 (n := Q) (by omega)
    have a3 := uv_len64 (n := U) (by omega)
    have a4 := uv_len64 (n := (key.drop S).length) (by rw [List.length_drop]; omega)
    refine ⟨hx, a1, ?_, a2, a3, by omega, by omega, by omega, by omega, h7⟩
    rw [lb_len]; rw [List.length_drop] at a4 ⊢; omega
  have T0 : Hid (Two W w.heap.size #[.slice ka key.length kc, .int .i64 (Q : Int), .bool gone, .int .i64 (U : Int), .slice va vl.length vc] 34 (w.alloc (.cells #[.slice ka key.length kc, .int .i64 (Q : Int), .bool gone, .int .i64 (U : Int), .slice va vl.length vc] 34)) v u xs zs) := hP.two
  have hsh := HSH.out T0.out.mid.bel
  have hcf := fun w => run_from w ka key.length kc S hSk hk.2.2.2.1
  have HSF := hid (hk.from S hSk)
  have HSV := hid hv
  generalize cutA ka kc S = a9 at hcf HSF
  have hS62 : S ≤ 2 ^ 61 := by omega
  have hQ63 : Q ≤ 2 ^ 63 - 1 := by omega
  have hU63 : U ≤ 2 ^ 63 - 1 := by omega
  have hk62 : key.length ≤ 2 ^ 61 := by omega
  have hv62 : vl.length ≤ 2 ^ 61 := by omega
  clear hm hp hpl hk hv h1 h2 h3 h4 h5 h6 h7 h8 hx hP hS HSH
  generalize key.length - S = kr at hcf HSF HL
  go_enter Try.func86, Try.ntmps86
  go_upto_region 2 with (go_at_call 101; refine hsh.mono ?_; rintro e w2 ⟨rfl, b2⟩)
  have T2 := hid (T0.out.later b2)
  have G2 : Hid (Grw w v w2 v) := Grw.refl (((Below.refl _ w).alloc (Nat.le_refl _) _).trans (b2.mono (by simp)))
  clear b2 hsh T0
  go_upto_region 3 with (first | (go_at_call 88; refine (vput_k HL.out.2.2.2.2.2.2.2.1).mono ?_; rintro e w3 ⟨a3, m3, c3, rfl, s3, l3, b3⟩) | (at_builtin; refine wpList_appl (B := W.heap.size) rfl (.tmp 12) (.tmp 15) rfl rfl (T2.out.later b3).mid.row rfl s3 (by have := HL.out; omega) (T2.out.later b3).mid.bel.size ?_; intro v4 w4 r4 g4 m4))
  have T4 := hid ((T2.out.later b3).step g4 m4 r4)
  have G4 := hid ((G2.out.later b3).step g4 m4)
  obtain ⟨z0, z1, z2, z3, z4⟩ := T4.out.cells
  clear T2 b3 r4 g4 m4 s3 l3
  go_upto_region 4 with (first | (go_at_call 89; refine (vpby_k (HSF.out.later T4.out.mid.bel) (by have := HL.out; omega)).mono ?_; rintro e w5 ⟨a5, m5, c5, rfl, s5, l5, b5⟩) | (at_builtin; refine wpList_appl (B := W.heap.size) rfl (.tmp 17) (.tmp 22) rfl rfl (T4.out.later b5).mid.row rfl s5 (by have := HL.out; simp; omega) (T4.out.later b5).mid.bel.size ?_; intro v6 w6 r6 g6 m6))
  have T6 := hid ((T4.out.later b5).step g6 m6 r6)
  have G6 := hid ((G4.out.later b5).step g6 m6)
  clear z0 z1 z2 z3 z4 T4 b5 r6 g6 m6 s5 l5 hcf HSF
  obtain ⟨z0, z1, z2, z3, z4⟩ := T6.out.cells
  go_upto_region 5 with (first | (go_at_call 88; refine (vput_k HL.out.2.2.2.2.2.1).mono ?_; rintro e w7 ⟨a7, m7, c7, rfl, s7, l7, b7⟩) | (at_builtin; refine wpList_appl (B := W.heap.size) rfl (.tmp 24) (.tmp 28) rfl rfl (T6.out.later b7).mid.row rfl s7 (by have := HL.out; simp; omega) (T6.out.later b7).mid.bel.size ?_; intro v8 w8 r8 g8 m8))
  have T8 := hid ((T6.out.later b7).step g8 m8 r8)
  have G8 := hid ((G6.out.later b7).step g8 m8)
  clear z0 z1 z2 z3 z4 T6 b7 r8 g8 m8 s7 l7
  have HL8 : Hid ((xs ++ uv S ++ lb (key.drop S) ++ uv Q).length + 3000 ≤ 140737488355328) := by show _ ≤ _; have := HL.out; simp; omega
  cases gone with
  | true =>
    obtain ⟨z0, z1, z2, z3, z4⟩ := T8.out.cells
    go_wp2_with (at_builtin; refine wpList_app1r (B := W.heap.size) (c := 1) rfl (.tmp 32) (.tmp 33) rfl rfl (T8.out.alloc _).mid.row rfl (by simp) (by omega) (by have := HL8.out; omega) (T8.out.alloc _).mid.bel.size ?_; intro v9 w9 r9 g9 m9)
    have T9 := (T8.out.alloc _).step g9 m9 r9
    exact bodyPost_ret (v := v9) (by simp [results, Try.results86, go_sem]) rfl ⟨v9, rfl, by rw [HE.out]; have := T9.pair; simpa using this, (G8.out.later ((Below.refl _ _).alloc (Nat.le_refl _) _)).step g9 m9⟩
  | false =>
    obtain ⟨z0, z1, z2, z3, z4⟩ := T8.out.cells
    go_upto_region 7 with fail
    go_region_held_law (fun w' => w'.cell? ⟨w.heap.size, 3, none⟩ = some (.int .i64 (U : Int))) (first | exact z3 | exact T11.cells.2.2.2.1 | exact T10.cells.2.2.2.1 | exact T9.cells.2.2.2.1 | exact (T8.out.drew.alloc _).cells.2.2.2.1) (first | (refine step_app1 (B := W.heap.size) (c := 0) rfl (.tmp 35) (.tmp 36) rfl rfl (T8.out.drew.alloc _).mid.row rfl (by simp) (by omega) (by have := HL8.out; omega) (T8.out.drew.alloc _).mid.bel.size ?_; intro v9 w9 r9 g9 m9; have T9 := (T8.out.drew.alloc _).step g9 m9 r9) | (go_at_call 88; refine (vputw_k HL.out.2.2.2.2.2.2.1).mono ?_; rintro e w10 ⟨a10, m10, c10, rfl, s10, l10, b10⟩; have T10 := T9.later b10) | (refine step_appl (B := W.heap.size) rfl (.tmp 37) (.tmp 41) rfl rfl T10.mid.row rfl s10 (by have := HL8.out; rw [List.length_append]; simp only [List.length_cons, List.length_nil]; omega) T10.mid.bel.size ?_; intro v11 w11 r11 g11 m11; have T11 := T10.step g11 m11 r11))
    have T12 := hid T11
    have G12 := hid ((((G8.out.later (((Below.refl _ w8).drew).alloc (Nat.le_refl _) _)).step g9 m9).later b10).step g11 m11)
    clear z0 z1 z2 z3 z4 T8 T9 T10 T11 r9 g9 m9 s10 l10 b10 r11 g11 m11
    obtain ⟨z0, z1, z2, z3, z4⟩ := T12.out.cells
    have HL12 : Hid ((xs ++ uv S ++ lb (key.drop S) ++ uv Q ++ [0] ++ uv U).length + 2500 ≤ 140737488355328) := by show _ ≤ _; have := HL8.out; have := HL.out; rw [List.length_append, List.length_append]; simp only [List.length_cons, List.length_nil]; omega
    go_wp2_with (first | (go_at_call 89; refine (vpby_k (HSV.out.later T12.out.mid.bel) (by have := HL.out; omega)).mono ?_; rintro e w13 ⟨a13, m13, c13, rfl, s13, l13, b13⟩) | (at_builtin; refine wpList_appl (B := W.heap.size) rfl (.tmp 43) (.tmp 46) rfl rfl (T12.out.later b13).mid.row rfl s13 (by have := HL12.out; have := HL.out; omega) (T12.out.later b13).mid.bel.size ?_; intro v14 w14 r14 g14 m14))
    have T14 := (T12.out.later b13).step g14 m14 r14
    exact bodyPost_ret (v := v14) (by simp [results, Try.results86, go_sem]) rfl ⟨v14, rfl, by rw [HE.out]; have := T14.pair; simpa using this, (G12.out.later b13).step g14 m14⟩
end Go.Proofs.Ytfecopldepnicaa

/- What slices.Grow of nothing and slices.Concat of rows of bytes make. -/
namespace Go.Proofs.Ytfecopldepnicaa
open Go.RowKit
set_option linter.unusedVariables false
set_option linter.unusedSimpArgs false

set_option maxHeartbeats 1000000 in
set_option maxRecDepth 100000 in
theorem grow_nil {w : World} {n : Nat} (hn : n ≤ 175921860444160) :
    Calls Try.prog 102 #[.slice none 0 0, .int .i64 (n : Int)] w fun e w' => ∃ v, e = .returned v ∧ Row w.heap.size w' v [] ∧ Below w.heap.size w w' := by
  obtain ⟨i0, hi, hz, hsize, hbytes⟩ := info_parts Try.info5
  by_cases h0 : n = 0
  · subst h0
    go_enter Try.func102, Try.ntmps102
    go_wp2_with fail
    exact bodyPost_ret (v := .slice none 0 0) (by simp [results, Try.results102, go_sem]) rfl ⟨_, rfl, Row.nil _ _, Below.refl _ _⟩
  · have hrz : ∀ ty, (Builtin.append_ #[25, 3] ty #[.slice none 0 0, .int .i64 (n : Int)]).run Try.prog w =
        .ok (.slice (some ⟨w.heap.size, 0, none⟩) n (grownCap w n 0 5)) (w.drew.alloc (.cells (Builtin.zeroCells (Value.int .u8 0).cells n ++ Builtin.zeroCells (Value.int .u8 0).cells (grownCap w n 0 5 - n)) 5)) := fun ty => by
      have h := Lib.run_append_grow_zeros (P := Try.prog) w 25 3 ty 5 i0 (.int .u8 0) .i64 .i64 Try.underlying25 Try.underlying3 hi hz none 0 0 [] (run_firstCells_none (P := Try.prog) (w := w.drew) i0.size 0 0 0) n (by omega) (by rw [hsize]; decide) (by omega) (by omega) (by rw [hbytes]; omega) (by rw [Nat.zero_add, nextslicecap_zero (by omega), hbytes]; omega)
      simpa using h
    have hge := grownCap_ge w n 0 5
    have hmx := grownCap_le_maxLen w n 0 5 (by unfold maxLen; omega)
    have c0 : (0 : Int) < (n : Int) := by omega
    have hc62 : n ≤ 2 ^ 62 := by omega
    obtain ⟨G, hG⟩ : ∃ G, G = grownCap w n 0 5 := ⟨_, rfl⟩
    rw [← hG] at hrz hge hmx
    have hG62 : G ≤ 2 ^ 63 - 1 := by unfold maxLen at hmx; omega
    have HM : Hid (G ≤ maxLen ∧ n ≤ G) := ⟨hmx, hge⟩
    have hcs : (Builtin.zeroCells (Value.int .u8 0).cells n ++ Builtin.zeroCells (Value.int .u8 0).cells (G - n)).size = G * 1 := by
      rw [Array.size_append, size_zeroCells, size_zeroCells]
      show n * 1 + (G - n) * 1 = G * 1
      omega
    generalize (Builtin.zeroCells (Value.int .u8 0).cells n ++ Builtin.zeroCells (Value.int .u8 0).cells (G - n)) = CS at hrz hcs
    have HW : Hid (CS.size = G * 1) := hcs
    clear hG hmx hcs h0 hge
    go_enter Try.func102, Try.ntmps102
    go_wp2_with (at_builtin; refine Lib.wpList_append_run _ rfl _ _ _ _ rfl _ _ rfl rfl _ _ (hrz _) ?_)
    refine bodyPost_ret (v := .slice (some ⟨w.heap.size, 0, none⟩) 0 G) (by simp [results, Try.results102, go_sem]) rfl ⟨_, rfl, ?_, ?_⟩
    · exact World.ownsRow_made w.drew CS G (Nat.le_refl _) HM.out.1 HW.out
    · exact Below.alloc (below_drewN (Below.refl _ _) 1) (Nat.le_refl _) _

/-- How many bytes rows have together. -/
def tot (rs : List (List Int)) : Nat := rs.flatten.length
theorem flat_take (rs : List (List Int)) {k : Nat} (h : k < rs.length) : (rs.take (k + 1)).flatten = (rs.take k).flatten ++ rs[k] := by
  rw [List.take_add_one, List.getElem?_eq_getElem h, List.flatten_append]
  simp only [Option.toList, List.flatten_cons, List.flatten_nil, List.append_nil]
theorem tot_take (rs : List (List Int)) {k : Nat} (h : k < rs.length) : tot (rs.take (k + 1)) = tot (rs.take k) + rs[k].length := by
  unfold tot
  rw [flat_take rs h, List.length_append]
theorem tot_le (rs : List (List Int)) (k : Nat) : tot (rs.take k) ≤ tot rs := by
  unfold tot
  have := congrArg (fun l => (List.flatten l).length) (List.take_append_drop k rs)
  simp only [List.flatten_append, List.length_append] at this
  omega

set_option maxHeartbeats 2000000 in
set_option maxRecDepth 100000 in
theorem concat_any {w : World} {ao : Option Addr} {len cap : Nat} {rs : List (List Int)} (h : RB w ao len cap rs) (hl : tot rs ≤ 175921860444160) :
    Calls Try.prog 87 #[.slice ao len cap] w fun e w' => ∃ v, e = .returned v ∧ Row w.heap.size w' v rs.flatten ∧ Below w.heap.size w w' := by
  have HS : Hid (RB w ao len cap rs ∧ tot rs ≤ 175921860444160) := ⟨h, hl⟩
  have hlen63 : len ≤ 2 ^ 63 - 1 := by have := h.2.2; unfold maxLen at this; omega
  have hln := h.1
  have hgr := fun (w1 : World) => grow_nil (w := w1) hl
  have e0 : tot (rs.take 0) = 0 := rfl
  have eN : tot (rs.take len) = tot rs := by rw [← hln, List.take_length]
  have H0 : Hid (tot (rs.take 0) = 0) := e0
  clear h hl
  go_enter Try.func87, Try.ntmps87
  go_wp2_with fail
  go_loopg [3, 5, 11] len (fun g sz _ i wr => ∃ k : Nat, k + g = len ∧ i = .int .i64 (k : Int) ∧ sz = .int .i64 (tot (rs.take k) : Int) ∧ wr = w)
  case atStart => exact ⟨0, by omega, rfl, by rw [e0]; rfl, rfl⟩
  case round =>
    obtain ⟨k, hk, rfl, rfl, hw⟩ := hrel
    have hw := hw.symm
    subst hw
    by_cases hkl : k < len
    · have hkl' : (k : Int) < (len : Int) := by omega
      have hkr : k < rs.length := by omega
      obtain ⟨b1, o1, a1, c1, rfl, hc1, hs1⟩ := HS.out.1.2.2.2.2 k rs[k] (List.getElem?_eq_getElem hkr)
      have ht := tot_take rs hkr
      have hle := tot_le rs (k + 1)
      have hb := HS.out.2
      obtain ⟨m, hm⟩ : ∃ m, m = rs[k].length := ⟨_, rfl⟩
      rw [← hm] at hc1 ht
      obtain ⟨t0, ht0⟩ : ∃ t, t = tot (rs.take k) := ⟨_, rfl⟩
      rw [← ht0] at ht ⊢
      obtain ⟨T, hT⟩ : ∃ T, T = t0 + m := ⟨_, rfl⟩
      have hT47 : T ≤ 175921860444160 := by omega
      have hz : ¬ ((T : Int) < 0) := by omega
      have hk62 : k ≤ 2 ^ 63 - 2 := by omega
      obtain ⟨GK, HG⟩ : ∃ g, Hid (g < gk ∧ k + 1 + g = len) := ⟨gk - 1, by omega, by omega⟩
      have HT : Hid (tot (rs.take (k + 1)) = T) := by show _ = _; omega
      have hw1 : wrap64 ((t0 : Int) + (m : Int)) = (T : Int) := by unfold wrap64; omega
      clear hk hs1 hm ht hle hb ht0 eN e0 hT hT47
      go_wp2_with fail
      go_roundg GK
      case measure => exact HG.out.1
      case rel => exact ⟨k + 1, HG.out.2, by go_num, by rw [HT.out], rfl⟩
    · have hkl' : (len : Int) ≤ (k : Int) := by omega
      obtain rfl : k = len := by omega
      rw [eN]
      have hF : decide ((k : Int) < (k : Int)) = false := by simp
      have H1 : Hid (∀ v1 w1, Row w.heap.size w1 v1 [] → Row w.heap.size w1 v1 (rs.take 0).flatten) := fun _ _ h => h
      clear hk hkl hgr H0 e0 eN
      have hgr := grow_nil (w := w) HS.out.2
      go_wp2_with (go_at_call 102; refine hgr.mono ?_; rintro e w1 ⟨v1, rfl, hr1, hb1⟩)
      have H2 := H1.out _ _ hr1
      go_loopg [6, 8, 27] k (fun g v _ i w2 => ∃ j : Nat, j + g = k ∧ i = .int .i64 (j : Int) ∧ Hid (Row w.heap.size w2 v (rs.take j).flatten ∧ Below w.heap.size w w2))
      case atStart => exact ⟨0, by omega, rfl, H2, hb1⟩
      case round =>
        obtain ⟨j, hj, rfl, HJ⟩ := hrel
        by_cases hjl : j < k
        · have hjl' : (j : Int) < (k : Int) := by omega
          have hjr : j < rs.length := by omega
          obtain ⟨b1, o1, a1, c1, rfl, hc1, hs1⟩ := (HS.out.1.later HJ.out.2).2.2.2.2 j rs[j] (List.getElem?_eq_getElem hjr)
          have hft := flat_take rs hjr
          have hle := tot_le rs (j + 1)
          have hb := HS.out.2
          have ht := tot_take rs hjr
          obtain ⟨r, hr⟩ : ∃ r, r = rs[j] := ⟨_, rfl⟩
          rw [← hr] at hc1 hs1 hft ht
          obtain ⟨xs, hxs⟩ : ∃ xs, xs = (rs.take j).flatten := ⟨_, rfl⟩
          have hxl : xs.length = tot (rs.take j) := by rw [hxs]; rfl
          rw [← hxs] at hft
          have HA : Hid (Row w.heap.size wr u6 xs ∧ Below w.heap.size w wr ∧ Sl wr a1 r.length c1 r ∧ xs.length + r.length ≤ 175921860444160) := ⟨by rw [hxs]; exact HJ.out.1, HJ.out.2, hs1, by omega⟩
          have hk62 : j ≤ 2 ^ 63 - 2 := by omega
          obtain ⟨GK, HG⟩ : ∃ g, Hid (g < gk ∧ j + 1 + g = k) := ⟨gk - 1, by omega, by omega⟩
          have HT : Hid ((rs.take (j + 1)).flatten = xs ++ r) := hft
          obtain ⟨m, hm⟩ : ∃ m, Hid (m = r.length) := ⟨_, rfl⟩
          rw [← hm.out] at hc1
          clear hj hs1 hft hle hb ht hr hxs hxl HJ
          go_wp2_with (at_builtin; refine wpList_appW rfl (.tmp 31) (.tmp 32) rfl w.heap.size u6 xs rfl HA.out.1 a1 m c1 (xof r) rfl (by rw [hm.out]; exact HA.out.2.2.1.2.2.1) (by rw [hm.out]; exact HA.out.2.2.1.2.2.2.2.2) (by rw [hm.out]; exact HA.out.2.2.2) HA.out.2.1.size ?_; intro v3 w3 hr3 hg3 hm3)
          go_roundg GK
          case measure => exact HG.out.1
          case rel =>
            refine ⟨j + 1, HG.out.2, by go_num, ?_, HA.out.2.1.trans (grown_below HA.out.1 hg3 HA.out.2.1.size)⟩
            rw [HT.out]
            rw [hm.out, bs_xof HA.out.2.2.1.2.1] at hr3
            exact hr3
        · have hjl' : (k : Int) ≤ (j : Int) := by omega
          obtain rfl : j = k := by omega
          have e : (rs.take j).flatten = rs.flatten := by rw [← hln, List.take_length]
          have HX : Hid (Row w.heap.size wr u6 rs.flatten ∧ Below w.heap.size w wr) := by rw [← e]; exact HJ.out
          clear e hj hjl HJ
          go_wp2_with fail
          exact bodyPost_ret (v := u6) (by simp [results, Try.results87, go_sem]) rfl ⟨u6, rfl, HX.out.1, HX.out.2⟩
end Go.Proofs.Ytfecopldepnicaa
