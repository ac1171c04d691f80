import Derived.Deep.QuietTactic
import Derived.BigQuiet
import Derived.Test.YtfecopldepnicaaPk12
import Derived.Test.YtfecopldepnicaaPk15
import Derived.Test.YtfecopldepnicaaPk18
/- The document's own Block: what it gives. -/
namespace Go.Proofs.Ytfecopldepnicaa
open Go.RowKit
set_option linter.unusedVariables false
set_option linter.unusedSimpArgs false

theorem fxs4b (n : Nat) : fxs n 4 = fx n 4 := by unfold fxs; rw [if_pos (by unfold InSize; decide)]; rfl
theorem below_gb {w0 w w' : World} {v : Value} {xs : List Int} (hr : Row w0.heap.size w v xs) (h : Below w0.heap.size w0 w) (hg : w.grownBy w' v.ownBlock) : Below w0.heap.size w0 w' := by
  refine ⟨hg.os.trans h.os, hg.tape.trans h.tape, hg.output.trans h.output, Nat.le_trans h.size hg.size, fun k hk => ?_⟩
  have h1 := h.size
  rw [hg.block k (by omega) (fun e => by have := (World.ownsRow.lt hr _ e.symm).1; omega)]
  exact h.block k hk
set_option maxHeartbeats 8000000 in
set_option maxRecDepth 100000 in
theorem rblk_good {w : World} {ao : Option Addr} {len cap : Nat} {l : List EntV} (h : RS entE w ao len cap l) (h1 : 1 ≤ len) (h4 : len ≤ 400) (hm : l.all mayE = true ∧ ordB l = true) :
    Calls Try.prog 38 #[.slice ao len cap] w fun e w' => ∃ v, e = .returned (.tuple #[v, .int .i64 0]) ∧ Row w.heap.size w' v (blkB l) ∧ Below w.heap.size w w' := by
  have hl0 : ¬ ((len : Int) = 0) := by omega
  have hl4 : ¬ ((400 : Int) < (len : Int)) := by omega
  have hl62 : len ≤ 2 ^ 61 := by omega
  have hln : l.length = len := h.len.1
  have HS : Hid (RS entE w ao len cap l ∧ (l.all mayE = true ∧ ordB l = true) ∧ len ≤ 1000000 ∧ len ≤ 400) := ⟨h, hm, by omega, h4⟩
  clear h hm h1 h4
  go_enter Try.func38, Try.ntmps38
  go_wp2_with fail
  go_loopg [5, 21] len (fun g _ i wr => ∃ k : Nat, k + g = len ∧ i = .int .i64 (k : Int) ∧ Hid (Below w.heap.size w wr))
  case atStart => exact ⟨0, by omega, rfl, Below.refl _ _⟩
  case round =>
    obtain ⟨k, hk, rfl, HK⟩ := hrel
    by_cases hkl : k < len
    · have hkl' : (k : Int) < (len : Int) := by omega
      have hkx : k < l.length := by omega
      have bel := HK.out
      obtain ⟨b, off, ka, kc, va, vc, rfl, d0, d1, d2, d3, d4, sk, sv, i1, i2⟩ := RS.ent (HS.out.1.later bel) (List.getElem?_eq_getElem hkx)
      have HMA : Hid (mayE l[k] = true) := List.all_eq_true.1 HS.out.2.1.1 _ (List.getElem_mem hkx)
      generalize l[k] = o at d0 d1 d2 d3 d4 HMA
      have hk62 : k ≤ 2 ^ 61 := by omega
      obtain ⟨GK, HG⟩ : ∃ g, Hid (g < gk ∧ k + 1 + g = len) := ⟨gk - 1, by omega, by omega⟩
      obtain ⟨W1, hW1⟩ : ∃ W1, W1 = wr.alloc (.cells #[.slice ka o.key.length kc, .int .i64 o.seq, .bool o.gone, .int .i64 o.till, .slice va o.val.length vc] 34) := ⟨_, rfl⟩
      have b1 : Below wr.heap.size wr W1 := by rw [hW1]; exact (Below.refl _ _).alloc (Nat.le_refl _) _
      have hbx : ∀ wx, Below W1.heap.size W1 wx → _ := fun wx hb => box_cells wr (.slice ka o.key.length kc) (.int .i64 o.seq) (.bool o.gone) (.int .i64 o.till) (.slice va o.val.length vc) 34 (wx := wx) (by rw [← hW1]; exact hb)
      have HBX := hid hbx
      have HBw : Hid (∀ wx, Below W1.heap.size W1 wx → Below w.heap.size w wx) := fun wx hb => bel.trans ((b1.trans (hb.mono b1.size)).mono bel.size)
      have HM1 : Hid (∀ wx, Calls Try.prog 35 #[entA ka kc va vc o] wx fun r w' => r = .returned (.bool (mayE o)) ∧ Below wx.heap.size wx w') := fun wx => rmayE_any
      have HW1 := hid hW1
      unfold entA at HM1
      clear sk sv i1 i2 hbx hW1 hk bel b1
      go_upto_region 6 with fail
      rw [← HW1.out]
      obtain ⟨y0, y1, y2, y3, y4⟩ := HBX.out _ (Below.refl _ _)
      clear d0 d1 d2 d3 d4
      have hmo : mayE o = true := HMA.out
      rw [hmo] at HM1
      go_wp2_with (go_at_call 35; refine (HM1.out _).mono ?_; rintro e w2 ⟨rfl, b2⟩)
      go_roundg GK
      case measure => exact HG.out.1
      case rel => exact ⟨k + 1, HG.out.2, by go_num, HBw.out _ b2⟩
    · have hkl' : (len : Int) ≤ (k : Int) := by omega
      have hO := rord_any (HS.out.1.later HK.out) HS.out.2.2.1
      rw [HS.out.2.1.2] at hO
      clear hk hkl
      go_upto_region 11 with (go_at_call 36; refine hO.mono ?_; rintro e w2 ⟨rfl, b2⟩)
      have B2 := hid (HK.out.trans (b2.mono HK.out.size))
      clear hO b2 HK hkl'
      go_wp2_with fail
      have H0 : Hid (Pair w w2 (.slice none 0 0) (.slice none 0 0) (enEs 0 [] (l.take 0)) (enTl 0 0 [] (l.take 0))) := ⟨Row.nil _ _, Row.nil _ _, B2.out, fun g h => by cases h⟩
      clear B2
      go_loopg [6, 7, 8, 9, 10, 34] len (fun g v u _ _ _ i wr => ∃ k : Nat, k + g = len ∧ i = .int .i64 (k : Int) ∧ Hid (Pair w wr v u (enEs 0 [] (l.take k)) (enTl 0 0 [] (l.take k))))
      case atStart => exact ⟨0, by omega, rfl, H0⟩
      case round =>
        obtain ⟨q, hq, rfl, HP⟩ := hrel
        by_cases hql : q < len
        · have hql' : (q : Int) < (len : Int) := by omega
          have hqx : q < l.length := by omega
          have hma : mayE l[q] = true := List.all_eq_true.1 HS.out.2.1.1 _ (List.getElem_mem hqx)
          have hye := enEs_take hqx
          have hze := enTl_take hqx
          have hyl := enEs_tlen HS.out.2.1.1 q (by omega)
          have hzl := enTl_tlen (l := l) q (by omega)
          have hsl := shK_le hqx
          have bel := HP.out.2.2.1
          obtain ⟨b, off, ka, kc, va, vc, hab, e0, e1, e2, e3, e4, sk, sv, i1, i2⟩ := RS.ent HS.out.1 (List.getElem?_eq_getElem hqx)
          have HPV : Hid (q % 8 ≠ 0 → ∃ pa pl pc ps, w.cell? ⟨b, off + (q - 1) * 5, none⟩ = some (.slice pa pl pc) ∧ Sl w pa pl pc ps ∧ shK l q = shr l[q].key ps) := fun h8 => by
            obtain ⟨b', off', pa, pc, _, _, hab', p0, _, _, _, _, ps, _, _, _⟩ := RS.ent HS.out.1 (List.getElem?_eq_getElem (show q - 1 < l.length by omega))
            rw [hab] at hab'
            simp only [Option.some.injEq, Addr.mk.injEq, and_true] at hab'
            obtain ⟨rfl, rfl⟩ := hab'
            refine ⟨pa, _, pc, _, p0, ps, ?_⟩
            have := shK_some (l := l) (k := q - 1) (by omega) (by rw [show q - 1 + 1 = q by omega]; exact h8)
            simpa only [show q - 1 + 1 = q by omega] using this
          subst hab
          have d0 := cell_later bel e0
          have d1 := cell_later bel e1
          have d2 := cell_later bel e2
          have d3 := cell_later bel e3
          have d4 := cell_later bel e4
          clear e0 e1 e2 e3 e4
          have HS0 : Hid (q % 8 = 0 → shK l q = 0) := shK_zero
          generalize shK l q = S at hye hsl HPV HS0
          generalize l[q] = o at d0 d1 d2 d3 d4 sk sv i1 i2 hma hye hsl HPV
          generalize hys : enEs 0 [] (l.take q) = ys at hye hze hyl HP
          generalize hzs : enTl 0 0 [] (l.take q) = zs at hze hzl HP
          generalize hzs2 : enTl 0 0 [] (l.take (q + 1)) = zs2 at hze
          obtain ⟨a6, c6, rfl⟩ := HP.out.1.slice
          have hq62 : q ≤ 2 ^ 61 := by omega
          have hq4 : q ≤ 400 := by have := HS.out.2.2.2; omega
          have hy62 : ys.length ≤ 2 ^ 61 := by omega
          obtain ⟨h1, h2, h3, h4, h5, h6, h7, h8⟩ := mayE_ok hma
          obtain ⟨GK, HG⟩ : ∃ g, Hid (g < gk ∧ q + 1 + g = len) := ⟨gk - 1, by omega, by omega⟩
          obtain ⟨W1, hW1⟩ : ∃ W1, W1 = wr.alloc (.cells #[.slice ka o.key.length kc, .int .i64 o.seq, .bool o.gone, .int .i64 o.till, .slice va o.val.length vc] 34) := ⟨_, rfl⟩
          obtain ⟨PB, hPB⟩ : ∃ n, n = wr.heap.size := ⟨_, rfl⟩
          obtain ⟨C, hC⟩ : ∃ C : Array Value, C = #[.slice ka o.key.length kc, .int .i64 o.seq, .bool o.gone, .int .i64 o.till, .slice va o.val.length vc] := ⟨_, rfl⟩
          have T1 : Hid (Two w PB C 34 W1 (.slice a6 ys.length c6) u7 ys zs) := by rw [hW1, ← hC, hPB]; exact Pair.two HP.out
          have HW1 := hid hW1
          have HMA : Hid (mayE o = true ∧ S ≤ o.key.length ∧ ys.length ≤ 2700 * 400 ∧ zs.length ≤ 1600 ∧ Sl w ka o.key.length kc o.key ∧ Sl w va o.val.length vc o.val ∧ zs2 = zs ++ (if q % 8 = 0 then fx ys.length 4 else []) ∧ enEs 0 [] (l.take (q + 1)) = ys ++ enE S o ∧ enTl 0 0 [] (l.take (q + 1)) = zs2) := ⟨hma, hsl, by omega, by omega, sk, sv, hze, hye, hzs2⟩
          have hkb : o.key.length ≤ 512 := by omega
          have HB : Hid (Below w.heap.size w W1) := T1.out.mid.bel
          clear sk sv i1 i2 hma hsl hye hze hys hzs hzs2 hyl hzl hW1 hq HP bel h1 h2 h3 h4 h5 h6 h7 h8
          go_upto_region 16 with fail
          rw [← HW1.out, ← hPB]
          have HPB := hid hPB
          clear hPB
          clear d0 d1 d2 d3 d4
          have hq8 : Int.tmod (q : Int) 8 = ((q % 8 : Nat) : Int) := by rw [Int.tmod_eq_emod_of_nonneg (by omega)]; omega
          have hq9 : ((q % 8 : Nat) : Int) = 0 ↔ q % 8 = 0 := by omega
          go_upto_if 41 with fail
          go_cut [7, 10] from 39 to 82 (fun u n wx => n = .int .i64 (S : Int) ∧ Hid (Two w PB C 34 wx (.slice a6 ys.length c6) u ys zs2))
          case first =>
            by_cases h8 : q % 8 = 0
            · have hq0 : Int.tmod (q : Int) 8 = 0 := by rw [hq8]; omega
              have HFX := rfixed_any w.heap.size u7 zs ys.length 4 W1 T1.out.row2 T1.out.mid.bel.size (by have := HMA.out; omega)
              go_wp2_with (go_at_call 42; refine HFX.mono ?_; rintro e w3 ⟨v3, rfl, r3, g3, m3⟩)
              go_meet
              refine ⟨by rw [HS0.out h8]; rfl, ?_⟩
              have := T1.out.swap.step g3 m3 r3
              rw [HMA.out.2.2.2.2.2.2.1, if_pos h8, ← fxs4b]
              exact this.swap
            · have hq0 : ¬ Int.tmod (q : Int) 8 = 0 := by rw [hq8]; omega
              have hq41 : ((q : Int) % 8 == 0) = false := by simp; omega
              obtain ⟨pa, pl, pc, ps, p0, psl, hsh⟩ := HPV.out h8
              go_wp2_with fail
              rw [hq41]
              have y0 : W1.cell? ⟨PB, 0, none⟩ = some (.slice ka o.key.length kc) := by rw [HPB.out, HW1.out, cell_of (heap_alloc_new wr _)]; rfl
              have z0 := cell_later HB.out p0
              have HKS : Hid (Sl W1 ka o.key.length kc o.key ∧ Sl W1 pa pl pc ps ∧ S = shr o.key ps) := ⟨HMA.out.2.2.2.2.1.later HB.out, psl.later HB.out, hsh⟩
              have hr1 : q - 1 < len := by omega
              have hwa : IntKind.i64.wrap ((q : Int) - 1) = ((q - 1 : Nat) : Int) := by rw [IntKind.wrap_i64]; omega
              have hwb : wrap64 ((q : Int) - 1) = ((q - 1 : Nat) : Int) := by unfold wrap64; omega
              generalize q - 1 = r at hr1 hwa hwb z0
              have hr2 : (r : Int) < (len : Int) := by omega
              clear p0 psl hsh
              go_loopg [10] (S + 1) (fun g i wx => ∃ j : Nat, j + g = S + 1 ∧ j ≤ S ∧ i = .int .i64 (j : Int) ∧ Hid (Below W1.heap.size W1 wx))
              case atStart => exact ⟨0, by omega, by omega, rfl, Below.refl _ _⟩
              case round =>
                obtain ⟨j, hj, hjS, rfl, HJB⟩ := hrel
                have y0m := cell_later HJB.out y0
                have z0m := cell_later HJB.out z0
                have hmr := shr_more o.key ps j (by have := HKS.out.2.2; omega)
                have hj62 : j ≤ 2 ^ 61 := by have := HMA.out.2.1; omega
                have HEND : Hid (¬ j < S → (j = S ∧ ∀ n, Two w PB C 34 (wr.drewN n) (.slice a6 ys.length c6) u7 ys zs2)) := fun hn => ⟨by omega, by rw [HMA.out.2.2.2.2.2.2.1, if_neg h8, List.append_nil]; exact fun n => T1.out.later (below_drewN HJB.out n)⟩
                rw [← HKS.out.2.2] at hmr
                by_cases hjk : j < o.key.length
                · have hjk' : decide ((j : Int) < (o.key.length : Int)) = true := by simpa using hjk
                  by_cases hjp : j < pl
                  · have hjp' : decide ((j : Int) < (pl : Int)) = true := by simpa using hjp
                    obtain ⟨x1, kb, ko, rfl, x2⟩ := (HKS.out.1.later HJB.out).2.2.2.2.2 j hjk
                    obtain ⟨y1, pb, po, rfl, y2⟩ := (HKS.out.2.1.later HJB.out).2.2.2.2.2 j hjp
                    have hcx : ((xof o.key j : Nat) : Int) = o.key[j]'(hjk) := (xof_at HKS.out.1.2.1 hjk).symm
                    have hjp2 : j < ps.length := by rw [HKS.out.2.1.1]; exact hjp
                    have hcy : ((xof ps j : Nat) : Int) = ps[j]'(hjp2) := (xof_at HKS.out.2.1.2.1 hjp2).symm
                    have HQ : Hid (j < S ↔ xof o.key j = xof ps j) := by
                      refine ⟨fun h => ?_, fun h => hmr.2 ⟨hjk, hjp2, by rw [← hcx, ← hcy, h]⟩⟩
                      obtain ⟨_, _, e⟩ := hmr.1 h
                      have : ((xof o.key j : Nat) : Int) = (xof ps j : Nat) := by rw [hcx, hcy]; exact e
                      omega
                    generalize xof o.key j = X at x1 x2 HQ
                    generalize xof ps j = Y at y1 y2 HQ
                    clear hmr hcx hcy hjp2
                    have hjk2 : (j : Int) < (o.key.length : Int) := by omega
                    have hjp3 : (j : Int) < (pl : Int) := by omega
                    by_cases hXY : X = Y
                    · subst hXY
                      have hlS : j < S := HQ.out.2 rfl
                      obtain ⟨GJ, HGJ⟩ : ∃ g, Hid (g < gk ∧ j + 1 + g = S + 1 ∧ j + 1 ≤ S) := ⟨gk - 1, by omega, by omega, by omega⟩
                      clear hj
                      go_wp2_with fail
                      go_quiet (fail)
                      go_wp2_with fail
                      go_roundg GJ
                      case measure => exact HGJ.out.1
                      case rel => exact ⟨j + 1, HGJ.out.2.1, HGJ.out.2.2, by go_num, below_drewN HJB.out _⟩
                    · have hlS : ¬ j < S := fun h => hXY (HQ.out.1 h)
                      have hXY' : ((X : Int) == (Y : Int)) = false := by simp; omega
                      obtain ⟨hjs, HT⟩ := HEND.out hlS
                      have HJ := hid hjs
                      clear hj hjs hlS
                      go_wp2_with fail
                      go_quiet (fail)
                      go_wp2_with fail
                      go_meet
                      exact ⟨by rw [HJ.out], HT _⟩
                  · have hjp' : decide ((j : Int) < (pl : Int)) = false := by simpa using hjp
                    have hlS : ¬ j < S := fun h => by obtain ⟨_, h2, _⟩ := hmr.1 h; rw [HKS.out.2.1.1] at h2; exact hjp h2
                    obtain ⟨hjs, HT⟩ := HEND.out hlS
                    have HJ := hid hjs
                    clear hj hjs hlS hmr
                    go_wp2_with fail
                    go_quiet (fail)
                    go_wp2_with fail
                    go_meet
                    exact ⟨by rw [HJ.out], HT _⟩
                · have hjk' : decide ((j : Int) < (o.key.length : Int)) = false := by simpa using hjk
                  have hlS : ¬ j < S := fun h => by obtain ⟨h1, _⟩ := hmr.1 h; exact hjk h1
                  obtain ⟨hjs, HT⟩ := HEND.out hlS
                  have HJ := hid hjs
                  clear hj hjs hlS hmr
                  go_wp2_with fail
                  go_quiet (fail)
                  go_wp2_with fail
                  go_meet
                  exact ⟨by rw [HJ.out], HT _⟩
          case rest =>
            obtain ⟨rfl, T2⟩ := hcut
            obtain ⟨h1, h2, h3, h4, h5, h6, h7, h8⟩ := mayE_ok HMA.out.1
            obtain ⟨Q, hQ⟩ := Int.eq_ofNat_of_zero_le (show 0 ≤ o.seq by omega)
            obtain ⟨U, hU⟩ := Int.eq_ofNat_of_zero_le h5
            have HE : Hid (enE S o = uv S ++ (lb (o.key.drop S) ++ (uv Q ++ (if o.gone then [1] else 0 :: (uv U ++ lb o.val))))) := by show _ = _; unfold enE; rw [hQ, hU]; rfl
            have hv62 : o.val.length ≤ 2 ^ 61 := by omega
            have HLN : Hid (o.val.length ≤ 2048 ∧ o.key.length ≤ 512 ∧ Q ≤ 4611686018427387904 ∧ U ≤ 4611686018427387904 ∧ (uv S).length ≤ 10 ∧ (uv Q).length ≤ 10 ∧ (uv U).length ≤ 10 ∧ (lb (o.key.drop S)).length ≤ 522 ∧ S < 18446744073709551616) := by
              have a1 := uv_len64 (n := S) (by have := HMA.out.2.1; omega)
              have a2 := uv_len64 (n := Q) (by omega)
              have a3 := uv_len64 (n := U) (by omega)
              have a4 := uv_len64 (n := (o.key.drop S).length) (by rw [List.length_drop]; omega)
              refine ⟨h7, h2, by omega, by omega, a1, a2, a3, ?_, by have := HMA.out.2.1; omega⟩
              rw [lb_len]; rw [List.length_drop] at a4 ⊢; omega
            have HY : Hid (Q < 18446744073709551616 ∧ U < 18446744073709551616 ∧ ys.length ≤ 2000000 ∧ (ys ++ uv S).length ≤ 2000000 ∧ (ys ++ uv S ++ lb (o.key.drop S)).length ≤ 2000000 ∧ (ys ++ uv S ++ lb (o.key.drop S) ++ uv Q).length ≤ 2000000 ∧ (ys ++ uv S ++ lb (o.key.drop S) ++ uv Q ++ [0]).length ≤ 2000000 ∧ (ys ++ uv S ++ lb (o.key.drop S) ++ uv Q ++ [0] ++ uv U).length ≤ 2000000) := by
              have h1 := HLN.out
              have h2 := HMA.out.2.2.1
              simp only [List.length_append, List.length_cons, List.length_nil]
              refine ⟨?_, ?_, ?_, ?_, ?_, ?_, ?_, ?_⟩ <;> omega
            have hQ63 : Q ≤ 2 ^ 63 - 1 := by omega
            have hU63 : U ≤ 2 ^ 63 - 1 := by omega
            rw [hC, hQ, hU] at T2
            have hcf := fun w => run_from w ka o.key.length kc S HMA.out.2.1 HMA.out.2.2.2.2.1.2.2.2.1
            have HSF := hid (HMA.out.2.2.2.2.1.from S HMA.out.2.1)
            have hS62 : S ≤ 2 ^ 61 := by have := HMA.out.2.1; omega
            have hSk : S ≤ o.key.length := HMA.out.2.1
            clear h1 h2 h3 h4 h5 h6 h7 h8 hQ hU hC
            generalize cutA ka kc S = a9 at hcf HSF
            obtain ⟨z0, z1, z2, z3, z4⟩ := T2.out.cells
            go_upto_region 20 with fail
            go_cut [6] from 82 to 91 (fun v wx => Hid (Two w PB #[.slice ka o.key.length kc, .int .i64 (Q : Int), .bool o.gone, .int .i64 (U : Int), .slice va o.val.length vc] 34 wx v u7 (ys ++ uv S ++ lb (o.key.drop S)) zs2))
            case first =>
              go_region_held_law (fun w' => w'.cell? ⟨PB, 0, none⟩ = some (.slice ka o.key.length kc)) (first | exact z0 | exact T4.cells.1 | exact T3.cells.1) (first | (go_at_call 39; refine (T3.pby HSF.out (by have := HLN.out; omega) HY.out.2.2.2.1).mono ?_; rintro e w4 ⟨v4, rfl, T4⟩) | (go_at_call 40; refine (T2.out.drew.put HLN.out.2.2.2.2.2.2.2.2 (by have := HMA.out; omega)).mono ?_; rintro e w3 ⟨v3, rfl, T3⟩))
              go_wp2_with fail
              go_meet
              exact T4
            case rest =>
              have T5 := hcut
              clear z0 z1 z2 z3 z4 T2 hcf HSF hcut
              obtain ⟨gn, hg⟩ : ∃ g, g = o.gone := ⟨_, rfl⟩
              rw [← hg] at T5 HE
              clear hg
              obtain ⟨z0, z1, z2, z3, z4⟩ := T5.out.cells
              go_upto_region 22 with (go_at_call 40; refine (T5.out.put2 (n := Q) HY.out.1 HY.out.2.2.2.2.1).mono ?_; rintro e w6 ⟨v6, rfl, T6⟩)
              have TH := hid T6
              clear z0 z1 z2 z3 z4 T5 T6
              have HFN : Hid (∀ wx v, Two w PB #[.slice ka o.key.length kc, .int .i64 (Q : Int), .bool gn, .int .i64 (U : Int), .slice va o.val.length vc] 34 wx v u7 (ys ++ enE S o) zs2 → Pair w wx v u7 (enEs 0 [] (l.take (q + 1))) (enTl 0 0 [] (l.take (q + 1)))) := fun wx v h => by
                rw [HMA.out.2.2.2.2.2.2.2.1, HMA.out.2.2.2.2.2.2.2.2]; exact h.pair
              rw [HE.out] at HFN
              clear HE
              cases gn with
              | true =>
                obtain ⟨z0, z1, z2, z3, z4⟩ := TH.out.cells
                go_wp2_with (at_builtin; refine wpList_app1r (B := w.heap.size) (c := 1) rfl (.tmp 98) (.tmp 99) rfl rfl (TH.out.alloc _).mid.row rfl (by simp) (by omega) (by have := HY.out.2.2.2.2.2.1; omega) (TH.out.alloc _).mid.bel.size ?_; intro v7 w7 r7 g7 m7; have T7 := (TH.out.alloc _).step g7 m7 r7)
                go_roundg GK
                case measure => exact HG.out.1
                case rel => exact ⟨q + 1, HG.out.2, by go_num, HFN.out _ _ (by simpa using T7)⟩
              | false =>
                obtain ⟨z0, z1, z2, z3, z4⟩ := TH.out.cells
                go_upto_region 24 with fail
                go_region_held_law (fun w' => w'.cell? ⟨PB, 3, none⟩ = some (.int .i64 (U : Int)) ∧ w'.cell? ⟨PB, 4, none⟩ = some (.slice va o.val.length vc)) (first | exact ⟨z3, z4⟩ | exact ⟨T9.cells.2.2.2.1, T9.cells.2.2.2.2⟩ | exact ⟨T8.cells.2.2.2.1, T8.cells.2.2.2.2⟩ | exact ⟨T7.cells.2.2.2.1, T7.cells.2.2.2.2⟩ | exact ⟨(TH.out.drew.alloc _).cells.2.2.2.1, (TH.out.drew.alloc _).cells.2.2.2.2⟩) (first | (refine step_app1 (B := w.heap.size) (c := 0) rfl (.tmp 101) (.tmp 102) rfl rfl (TH.out.drew.alloc _).mid.row rfl (by simp) (by omega) (by have := HY.out.2.2.2.2.2.1; omega) (TH.out.drew.alloc _).mid.bel.size ?_; intro v7 w7 r7 g7 m7; have T7 := (TH.out.drew.alloc _).step g7 m7 r7) | (go_at_call 39; refine (T8.pby HMA.out.2.2.2.2.2.1 (by have := HLN.out; omega) HY.out.2.2.2.2.2.2.2).mono ?_; rintro e w9 ⟨v9, rfl, T9⟩) | (go_at_call 40; refine (T7.put (n := U) HY.out.2.1 HY.out.2.2.2.2.2.2.1).mono ?_; rintro e w8 ⟨v8, rfl, T8⟩))
                go_wp2_with fail
                go_roundg GK
                case measure => exact HG.out.1
                case rel => exact ⟨q + 1, HG.out.2, by go_num, HFN.out _ _ (by simpa using T9)⟩
        · have hql' : (len : Int) ≤ (q : Int) := by omega
          obtain rfl : q = l.length := by omega
          rw [List.take_length] at HP
          clear hq hql
          obtain ⟨a7, c7, hv7, hs7⟩ := Sl.ofRow HP.out.2.1 okb_enTl
          subst hv7
          have hyl := enEs_tlen HS.out.2.1.1 l.length (Nat.le_refl _)
          have hzl := enTl_tlen (l := l) l.length (Nat.le_refl _)
          rw [List.take_length] at hyl hzl
          have hlen4 := HS.out.2.2.2
          have hbk : blkB l = enEs 0 [] l ++ enTl 0 0 [] l ++ fx ((enTl 0 0 [] l).length / 4) 4 := by unfold blkB; rw [List.append_assoc]
          generalize enEs 0 [] l = ys at HP hyl hbk
          generalize enTl 0 0 [] l = zs at HP hzl hs7 hbk
          obtain ⟨Z, hZ⟩ : ∃ n, n = zs.length := ⟨_, rfl⟩
          rw [← hZ] at hs7 hzl hbk ⊢
          have HR : Hid (Row w.heap.size wr u6 ys ∧ Below w.heap.size w wr ∧ Sl wr a7 Z c7 zs ∧ ys.length + Z ≤ 2000000) := ⟨HP.out.1, HP.out.2.2.1, hs7, by omega⟩
          have hZ62 : Z ≤ 2 ^ 61 := by omega
          have hz4 : (Z : Int) / 4 = ((Z / 4 : Nat) : Int) := by omega
          have hD62 : Z / 4 ≤ 2 ^ 61 := by omega
          have HZ := hid hZ
          generalize Z / 4 = D at hz4 hD62 hbk
          have HBK := hid hbk
          clear hZ hzl hyl hs7 hbk HP hlen4 hql'
          have hql' : ¬ ((l.length : Int) < (len : Int)) := by omega
          go_wp2_with (first | (at_builtin; refine wpList_applN (B := w.heap.size) (ys := zs) (ao := a7) (m := Z) (c := c7) rfl (.tmp 112) (.tmp 113) rfl rfl HR.out.1 rfl HR.out.2.2.1 (by have := HR.out.2.2.2; omega) HR.out.2.1.size ?_; intro v8 w8 r8 g8 m8) | (go_at_call 42; refine (rfixed_any w.heap.size v8 (ys ++ zs) D 4 w8 r8 (below_gb HR.out.1 HR.out.2.1 g8).size (by rw [List.length_append, ← HZ.out]; have := HR.out.2.2.2; omega)).mono ?_; rintro e w9 ⟨v9, rfl, r9, g9, m9⟩))
          rw [fxs4b] at r9
          exact bodyPost_ret (v := .tuple #[v9, .int .i64 0]) (by simp [results, Try.results38, go_sem]) rfl ⟨v9, rfl, by rw [HBK.out]; exact r9, below_gb r8 (below_gb HR.out.1 HR.out.2.1 g8) g9⟩
end Go.Proofs.Ytfecopldepnicaa

/- The document's own TakeBatch: bytes as a batch. -/
namespace Go.Proofs.Ytfecopldepnicaa
open Go.RowKit
set_option linter.unusedVariables false
set_option linter.unusedSimpArgs false

/-- The places: the answer's, the reader's, the batch's; all ahead of B, behind what was there. -/
structure Pl (w0 : World) (R p q B : Nat) : Prop where
  hR : w0.heap.size ≤ R
  hp : R < p
  hq : p < q
  hB : q < B
/-- Bytes behind ob. -/
def Sb (ob : Nat) (w : World) (a : Option Addr) (c : Nat) (xs : List Int) : Prop := Sl w a xs.length c xs ∧ ∀ b, Refs (.slice a xs.length c) b → ob < b
theorem Sb.grown {ob r : Nat} {w w' : World} {a : Option Addr} {c : Nat} {xs : List Int} (h : Sb ob w a c xs) (hg : w.grownBy w' (some r)) (hr : r ≤ ob) : Sb ob w' a c xs :=
  ⟨h.1.keep fun b hb => hg.block b (h.1.lt hb) (fun e => by simp only [Option.some.injEq] at e; have := h.2 b hb; omega), h.2⟩
theorem Sb.nil (ob : Nat) (w : World) : Sb ob w none 0 [] := ⟨Sl.nil w, fun b hr => by obtain ⟨_, _, _, e, h0⟩ := hr; cases e⟩
theorem sb_row {ob : Nat} {w w' : World} {v : Value} {xs : List Int} (h : Row w.heap.size w' v xs) (hob : ob < w.heap.size) (hok : Okb xs) : ∃ a c, v = .slice a xs.length c ∧ Sb ob w' a c xs := by
  obtain ⟨a, c, e, hs⟩ := Sl.ofRow h hok
  subst e
  refine ⟨a, c, rfl, hs, fun b hr => ?_⟩
  obtain ⟨off, l, c', e, h0⟩ := hr
  simp only [Value.slice.injEq] at e
  obtain ⟨rfl, rfl, rfl⟩ := e
  have := (World.ownsRow.lt h b rfl).1
  omega
theorem deOs_step {n : Nat} {st : Rd} {T : List OpV × Rd} {acc : List OpV} (h : T = (acc ++ (deOs (n + 1) st).1, (deOs (n + 1) st).2)) :
    ((deO st).2.2 ≠ 0 → T = (acc ++ [(deO st).1], (deO st).2)) ∧ ((deO st).2.2 = 0 → T = (acc ++ [(deO st).1] ++ (deOs n (deO st).2).1, (deOs n (deO st).2).2)) := by
  rw [deOs] at h
  constructor
  · intro q
    rw [if_pos q] at h
    exact h
  · intro q
    rw [if_neg (by simpa using q)] at h
    rw [h]
    simp
end Go.Proofs.Ytfecopldepnicaa

/- The document's own TakeBlock: where its walk stands. -/
namespace Go.Proofs.Ytfecopldepnicaa
open Go.RowKit
set_option linter.unusedVariables false
set_option linter.unusedSimpArgs false

theorem rdN_len {most : Nat} {s : Rd} : (rdN most s).2.1.length ≤ s.1.length := by
  unfold rdN
  split
  · exact Nat.le_refl _
  · split
    · exact Nat.le_refl _
    · split
      · exact Nat.le_refl _
      · simp only [List.length_drop]; omega
theorem rdN_less {most : Nat} {s : Rd} (h0 : s.2 = 0) (h : (rdN most s).2.2 = 0) : (rdN most s).2.1.length < s.1.length := by
  unfold rdN at h ⊢
  rw [if_neg (by simpa using h0)] at h ⊢
  split at h
  · rename_i q; exact absurd h q
  · rename_i q
    rw [if_neg q]
    split at h
    · cases h
    · rename_i q2
      rw [if_neg q2]
      have := tk_used (xs := s.1) (by simpa using q)
      simp only [List.length_drop]
      omega
theorem rdF_len {s : Rd} : (rdF s).2.1.length ≤ s.1.length := by
  unfold rdF
  split
  · exact Nat.le_refl _
  · split
    · rename_i q; rw [q]; exact Nat.le_refl _
    · rename_i q; rw [q]; simp
theorem rdB_len {most : Nat} {s : Rd} : (rdB most s).2.1.length ≤ s.1.length := by
  unfold rdB
  split
  · exact Nat.le_refl _
  · split
    · exact Nat.le_refl _
    · simp only [List.length_drop]; omega
theorem deV_len {key : List Int} {s : Rd} : (deV key s).2.1.length ≤ s.1.length := by
  have a1 := rdN_len (most := 4611686018427387904) (s := s)
  have a2 := rdF_len (s := (rdN 4611686018427387904 s).2)
  have a3 := rdN_len (most := 4611686018427387904) (s := (rdF (rdN 4611686018427387904 s).2).2)
  have a4 := rdB_len (most := 2048) (s := (rdN 4611686018427387904 (rdF (rdN 4611686018427387904 s).2).2).2)
  unfold deV
  split
  · simp only; omega
  · simp only; omega
/-- What there is when the numbers of a key were fine. -/
theorem kNum_fine {key : List Int} {s : Rd} (h : (kNum key s).2.2.2 = 0) :
    (rdN 9223372036854775808 (rdN key.length s).2).2.2 = 0 ∧ (kNum key s).2.1 ≤ 512 ∧ (kNum key s).1 + (kNum key s).2.1 ≤ 512 ∧ (kNum key s).2.1 ≤ (kNum key s).2.2.1.length ∧ (kNum key s).2.2 = (rdN 9223372036854775808 (rdN key.length s).2).2 := by
  unfold kNum at h ⊢
  simp only at h ⊢
  split at h
  · rename_i q; exact absurd h q
  · rename_i q
    rw [if_neg q]
    split at h
    · cases h
    · rename_i q2
      rw [if_neg q2]
      split at h
      · cases h
      · rename_i q3
        rw [if_neg q3]
        exact ⟨by simpa using q, by omega, by omega, by omega, rfl⟩
theorem deE1_less {key : List Int} {s : Rd} (h0 : s.2 = 0) (h : (kNum key s).2.2.2 = 0) : (deE1 key s).2.1.length < s.1.length := by
  obtain ⟨h1, h2, h3, h4, h5⟩ := kNum_fine h
  have hA : (rdN key.length s).2.2 = 0 := by
    refine Classical.byContradiction fun q => ?_
    rw [rdN_err q] at h1
    exact q h1
  have a1 := rdN_less (most := key.length) h0 hA
  have a2 := rdN_less (most := 9223372036854775808) hA h1
  have a3 := deV_len (key := keyK key s) (s := ((kNum key s).2.2.1.drop (kNum key s).2.1, 0))
  unfold deE1
  simp only [List.length_drop] at a3
  rw [h5] at a3 ⊢
  omega
/-- One round of reading. -/
theorem deEs_step {n : Nat} {key : List Int} {s : Rd} {T : List EntV × Rd} {acc : List EntV} (h : T = (acc ++ (deEs (n + 1) key s).1, (deEs (n + 1) key s).2)) :
    ((s.1.length = 0 ∨ s.2 ≠ 0) → T = (acc, s)) ∧ (¬ (s.1.length = 0 ∨ s.2 ≠ 0) → (kNum key s).2.2.2 ≠ 0 → T = (acc, (kNum key s).2.2)) ∧
    (¬ (s.1.length = 0 ∨ s.2 ≠ 0) → (kNum key s).2.2.2 = 0 → T = (acc ++ [(deE1 key s).1] ++ (deEs n (deE1 key s).1.key (deE1 key s).2).1, (deEs n (deE1 key s).1.key (deE1 key s).2).2)) := by
  rw [deEs] at h
  refine ⟨fun q => ?_, fun q q2 => ?_, fun q q2 => ?_⟩
  · rw [if_pos q] at h; simpa using h
  · rw [if_neg q, if_pos q2] at h; simpa using h
  · rw [if_neg q, if_neg (by simpa using q2)] at h; rw [h]; simp
theorem deV_key {key : List Int} {s : Rd} : (deV key s).1.key = key := by
  unfold deV
  split <;> rfl
/-- Bytes whose block is told. -/
def Sg (G : Nat → Prop) (w : World) (a : Option Addr) (c : Nat) (xs : List Int) : Prop := Sl w a xs.length c xs ∧ ∀ b, Refs (.slice a xs.length c) b → G b
theorem Sg.grown {G : Nat → Prop} {r : Option Nat} {w w' : World} {a : Option Addr} {c : Nat} {xs : List Int} (h : Sg G w a c xs) (hg : w.grownBy w' r) (hr : ∀ b, G b → some b ≠ r) : Sg G w' a c xs :=
  ⟨h.1.keep fun b hb => hg.block b (h.1.lt hb) (hr b (h.2 b hb)), h.2⟩
theorem Sg.later {G : Nat → Prop} {w w' : World} {a : Option Addr} {c : Nat} {xs : List Int} (h : Sg G w a c xs) (hb : Below w.heap.size w w') : Sg G w' a c xs := ⟨h.1.later hb, h.2⟩
theorem Sg.weak {G G' : Nat → Prop} {w : World} {a : Option Addr} {c : Nat} {xs : List Int} (h : Sg G w a c xs) (hG : ∀ b, b < w.heap.size → G b → G' b) : Sg G' w a c xs := ⟨h.1, fun b hb => hG b (h.1.lt hb) (h.2 b hb)⟩
theorem Sg.nil (G : Nat → Prop) (w : World) : Sg G w none 0 [] := ⟨Sl.nil w, fun b hr => by obtain ⟨_, _, _, e, h0⟩ := hr; cases e⟩
theorem sg_row {B : Nat} {w : World} {v : Value} {xs : List Int} (h : Row B w v xs) (hok : Okb xs) : ∃ a c, v = .slice a xs.length c ∧ Sg (fun b => B ≤ b) w a c xs := by
  obtain ⟨a, c, e, hs⟩ := Sl.ofRow h hok
  subst e
  refine ⟨a, c, rfl, hs, fun b hr => ?_⟩
  obtain ⟨off, l, c', e, h0⟩ := hr
  simp only [Value.slice.injEq] at e
  obtain ⟨rfl, rfl, rfl⟩ := e
  exact (World.ownsRow.lt h b rfl).1
theorem run_uptoK (kh : IntKind) (ao : Option Addr) (len cap j : Nat) (h2 : j ≤ cap) : ∀ w, (Instr.slice 25 (.slice ao len cap) none (some (.int kh (j : Int))) none).run Try.prog w = .ok (.slice (cutA ao cap 0) j cap) w := fun w => by
  rw [run_slice_h (P := Try.prog) (w := w) 25 ao len cap under25 kh (j : Int) (by omega) (by omega), elem25, Try.sizeOf5]
  simp only [Result.andThen, Int.toNat_natCast]
  rw [sliced_cut _ _ _ _ (by omega)]
  simp
theorem run_fromK (kl : IntKind) (ao : Option Addr) (len cap i : Nat) (h1 : i ≤ len) (h2 : len ≤ cap) : ∀ w, (Instr.slice 25 (.slice ao len cap) (some (.int kl (i : Int))) none none).run Try.prog w = .ok (.slice (cutA ao cap i) (len - i) (cap - i)) w := fun w => by
  rw [run_slice_l (P := Try.prog) (w := w) 25 ao len cap under25 kl (i : Int) (by omega) (by omega), elem25, Try.sizeOf5]
  simp only [Result.andThen, Int.toNat_natCast]
  rw [sliced_cut _ _ _ _ (by omega)]
theorem Sl.upto0 {w : World} {ao : Option Addr} {len cap : Nat} {xs : List Int} (h : Sl w ao len cap xs) (j : Nat) (h2 : j ≤ len) : Sl w (cutA ao cap 0) j cap (xs.take j) := by
  have := h.cut 0 j (Nat.zero_le _) h2
  simpa using this
end Go.Proofs.Ytfecopldepnicaa
