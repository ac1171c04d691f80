import Derived.Test.YtfecopldepnicaaPk10
import Derived.Test.YtfecopldepnicaaPk16
import Derived.Test.YtfecopldepnicaaPk20
import Derived.Test.YtfecopldepnicaaPk24
import Derived.Test.YtfecopldepnicaaPk28
import Derived.Test.YtfecopldepnicaaPk30
/- The landed block: Encode. -/
namespace Go.Proofs.Ytfecopldepnicaa
open Go.RowKit
set_option linter.unusedVariables false
set_option linter.unusedSimpArgs false

/-- Three rows of bytes in a new row. -/
theorem rb3_k {w : World} {a1 a2 a3 : Option Addr} {m1 m2 m3 c1 c2 c3 : Nat} {x1 x2 x3 : List Int} (h1 : Sl w a1 m1 c1 x1) (h2 : Sl w a2 m2 c2 x2) (h3 : Sl w a3 m3 c3 x3) :
    RB (w.alloc (.cells #[.slice a1 m1 c1, .slice a2 m2 c2, .slice a3 m3 c3] 25)) (some ⟨w.heap.size, 0, none⟩) 3 3 [x1, x2, x3] := by
  have hb : Below w.heap.size w (w.alloc (.cells #[.slice a1 m1 c1, .slice a2 m2 c2, .slice a3 m3 c3] 25)) := (Below.refl _ w).alloc (Nat.le_refl _) _
  refine ⟨rfl, (fun q => by cases q), Nat.le_refl _, by unfold maxLen; omega, fun i r hr => ?_⟩
  have hc : ∀ j, (w.alloc (.cells #[.slice a1 m1 c1, .slice a2 m2 c2, .slice a3 m3 c3] 25)).cell? ⟨w.heap.size, 0 + j, none⟩ = #[Value.slice a1 m1 c1, .slice a2 m2 c2, .slice a3 m3 c3][j]? := fun j => by
    rw [Nat.zero_add]
    exact cell_of_row _ _ _ _ _ _ (heap_alloc_new w _)
  match i, hr with
  | 0, hr => obtain rfl : x1 = r := by simpa using hr
             exact ⟨_, _, a1, c1, rfl, by rw [hc, h1.1]; rfl, by rw [h1.1]; exact h1.later hb⟩
  | 1, hr => obtain rfl : x2 = r := by simpa using hr
             exact ⟨_, _, a2, c2, rfl, by rw [hc, h2.1]; rfl, by rw [h2.1]; exact h2.later hb⟩
  | 2, hr => obtain rfl : x3 = r := by simpa using hr
             exact ⟨_, _, a3, c3, rfl, by rw [hc, h3.1]; rfl, by rw [h3.1]; exact h3.later hb⟩
  | n + 3, hr => simp at hr
theorem Two.grw {W : World} {ob : Nat} {C : Array Value} {t : TypeId} {wx wy : World} {v v' u : Value} {ys xs zs : List Int} (h : Two W ob C t wx v u ys zs) (hg : Grw wx v wy v') (hp : Pair W wy v' u xs zs) : Two W ob C t wy v' u xs zs := h.step hg.1 hg.2 hp.1

set_option maxHeartbeats 1000000 in
set_option maxRecDepth 100000 in
theorem enc_many {w : World} {ao : Option Addr} {len cap : Nat} (h : len = 0 ∨ 400 < len) (hl : len ≤ 2 ^ 61) :
    Calls Try.prog 62 #[.slice ao len cap] w fun e w' => e = .returned (.tuple #[.slice none 0 0, .int .i64 13]) ∧ Below w.heap.size w w' := by
  rcases h with h | h
  · subst h
    go_enter Try.func62, Try.ntmps62
    go_wp2_with fail
    exact bodyPost_ret (v := .tuple #[.slice none 0 0, .int .i64 13]) (by simp [results, Try.results62, go_sem]) rfl ⟨rfl, Below.refl _ _⟩
  · have h0 : ¬ ((len : Int) < 1) := by omega
    have h1 : (400 : Int) < (len : Int) := by omega
    go_enter Try.func62, Try.ntmps62
    go_wp2_with fail
    exact bodyPost_ret (v := .tuple #[.slice none 0 0, .int .i64 13]) (by simp [results, Try.results62, go_sem]) rfl ⟨rfl, Below.refl _ _⟩
set_option maxHeartbeats 1000000 in
set_option maxRecDepth 100000 in
theorem enc_bad {w : World} {ao : Option Addr} {len cap : Nat} {l : List EntV} (h : RS entE w ao len cap l) (h1 : 1 ≤ len) (h4 : len ≤ 400) (hm : l.all mayE = false ∨ ordB l = false) {c : Int} (hc : c = if l.all mayE = false then 1 else 11) :
    Calls Try.prog 62 #[.slice ao len cap] w fun e w' => e = .returned (.tuple #[.slice none 0 0, .int .i64 c]) ∧ Below w.heap.size w w' := by
  have hl0 : ¬ ((len : Int) < 1) := by omega
  have hl4 : ¬ ((400 : Int) < (len : Int)) := by omega
  have hl62 : len ≤ 2 ^ 61 := by omega
  have hcn := cnf_k h (by omega)
  have HO : Hid (∀ wx, Below w.heap.size w wx → Calls Try.prog 29 #[.slice ao len cap] wx fun r w' => r = .returned (.bool (ordB l)) ∧ Below wx.heap.size wx w') := fun wx hb => ord_k (h.later hb) (by omega)
  cases ha : l.all mayE with
  | false =>
    rw [ha] at hcn hc
    rw [hc]
    clear HO hm h hc
    go_enter Try.func62, Try.ntmps62
    go_wp2_with (go_at_call 27; refine hcn.mono ?_; rintro e w1 ⟨rfl, b1⟩)
    exact bodyPost_ret (v := .tuple #[.slice none 0 0, .int .i64 1]) (by simp [results, Try.results62, go_sem]) rfl ⟨by simp, b1⟩
  | true =>
    rw [ha] at hcn hc hm
    rw [hc]
    have ho : ordB l = false := hm.resolve_left (by decide)
    rw [ho] at HO
    clear hm h hc ho
    go_enter Try.func62, Try.ntmps62
    go_wp2_with (first | (go_at_call 27; refine hcn.mono ?_; rintro e w1 ⟨rfl, b1⟩) | (go_at_call 29; refine (HO.out _ b1).mono ?_; rintro e w2 ⟨rfl, b2⟩))
    exact bodyPost_ret (v := .tuple #[.slice none 0 0, .int .i64 11]) (by simp [results, Try.results62, go_sem]) rfl ⟨by simp, b1.trans (b2.mono b1.size)⟩

set_option maxHeartbeats 8000000 in
set_option maxRecDepth 100000 in
theorem enc_good {w : World} {ao : Option Addr} {len cap : Nat} {l : List EntV} (h : RS entE w ao len cap l) (h1 : 1 ≤ len) (h4 : len ≤ 400) (hm : l.all mayE = true ∧ ordB l = true) :
    Calls Try.prog 62 #[.slice ao len cap] w fun e w' => ∃ v, e = .returned (.tuple #[v, .int .i64 0]) ∧ Row w.heap.size w' v (blkB l) ∧ Below w.heap.size w w' := by
  have hl0 : ¬ ((len : Int) < 1) := by omega
  have hl4 : ¬ ((400 : Int) < (len : Int)) := by omega
  have hl62 : len ≤ 2 ^ 61 := by omega
  have hln : l.length = len := h.len.1
  have hcn := cnf_k h (by omega)
  have HO : Hid (∀ wx, Below w.heap.size w wx → Calls Try.prog 29 #[.slice ao len cap] wx fun r w' => r = .returned (.bool true) ∧ Below wx.heap.size wx w') := fun wx hb => by have := ord_k (h.later hb) (by omega); rw [hm.2] at this; exact this
  rw [hm.1] at hcn
  have HS : Hid (RS entE w ao len cap l ∧ l.all mayE = true ∧ len ≤ 400) := ⟨h, hm.1, h4⟩
  clear h hm h1 h4
  go_enter Try.func62, Try.ntmps62
  go_upto_region 8 with (first | (go_at_call 27; refine hcn.mono ?_; rintro e w1 ⟨rfl, b1⟩) | (go_at_call 29; refine (HO.out _ b1).mono ?_; rintro e w2 ⟨rfl, b2⟩))
  have H0 : Hid (Pair w w2 (.slice none 0 0) (.slice none 0 0) (enEs 0 [] (l.take 0)) (enTl 0 0 [] (l.take 0)) ∧ Sl w none 0 0 (lastK [] (l.take 0))) := ⟨⟨Row.nil _ _, Row.nil _ _, b1.trans (b2.mono b1.size), fun g e => by cases e⟩, Sl.nil w⟩
  clear hcn HO b1 b2
  go_wp2_with fail
  go_loopg [4, 5, 6, 7, 8, 25] len (fun g v u p _ _ i wr => ∃ (q : Nat) (pa : Option Addr) (pl pc : Nat), q + g = len ∧ i = .int .i64 (q : Int) ∧ p = .slice pa pl pc ∧ Hid (Pair w wr v u (enEs 0 [] (l.take q)) (enTl 0 0 [] (l.take q)) ∧ Sl w pa pl pc (lastK [] (l.take q)) ∧ pl ≤ 512))
  case atStart => exact ⟨0, none, 0, 0, by omega, rfl, rfl, H0.out.1, H0.out.2, by omega⟩
  case round =>
    obtain ⟨q, pa, pl, pc, hq, rfl, rfl, HP⟩ := hrel
    by_cases hql : q < len
    · have hql' : (q : Int) < (len : Int) := by omega
      have hqx : q < l.length := by omega
      have bel := HP.out.1.2.2.1
      obtain ⟨b, off, ka, kc, va, vc, rfl, e0, e1, e2, e3, e4, sk, sv, i1, i2⟩ := RS.ent HS.out.1 (List.getElem?_eq_getElem hqx)
      have d0 := cell_later bel e0
      have d1 := cell_later bel e1
      have d2 := cell_later bel e2
      have d3 := cell_later bel e3
      have d4 := cell_later bel e4
      have hye := enEs_take hqx
      have hze := enTl_take hqx
      have hlk := lastK_take l q [] hqx
      have hma : mayE l[q] = true := List.all_eq_true.1 HS.out.2.1 _ (List.getElem_mem hqx)
      have hyl := enEs_tlen HS.out.2.1 q (by omega)
      have hzl := enTl_tlen (l := l) q (by omega)
      have hyo : Okb (enEs 0 [] (l.take q)) := okb_enEs fun e he => HS.out.1.okE e (List.mem_of_mem_take he)
      have hsh : shK l q = if q % 8 = 0 then 0 else shr l[q].key (lastK [] (l.take q)) := by unfold shK shI; rw [List.getElem?_eq_getElem hqx]; rfl
      generalize shK l q = SK at hye hsh
      generalize l[q] = o at d0 d1 d2 d3 d4 hye hma sk sv hlk hsh
      obtain ⟨prev, hprev⟩ : ∃ x, x = lastK [] (l.take q) := ⟨_, rfl⟩
      have spv := HP.out.2.1
      rw [← hprev] at spv hsh
      obtain ⟨ys, hys⟩ : ∃ ys, ys = enEs 0 [] (l.take q) := ⟨_, rfl⟩
      obtain ⟨zs, hzs⟩ : ∃ zs, zs = enTl 0 0 [] (l.take q) := ⟨_, rfl⟩
      have hpr := HP.out.1
      rw [← hys, ← hzs] at hpr
      rw [← hys] at hye hyl hyo hze
      rw [← hzs] at hze hzl
      obtain ⟨a6, c6, hv6, hs6⟩ := Sl.ofRow hpr.1 hyo
      subst hv6
      have hq4 := HS.out.2.2
      have hmo := mayE_ok hma
      have hpl := HP.out.2.2
      have hq62 : q ≤ 2 ^ 61 := by omega
      obtain ⟨GK, HG⟩ : ∃ g, Hid (g < gk ∧ q + 1 + g = len) := ⟨gk - 1, by omega, by omega⟩
      obtain ⟨W1, hW1⟩ : ∃ W1, W1 = wr.alloc (.cells #[.slice ka o.key.length kc, .int .i64 o.seq, .bool o.gone, .int .i64 o.till, .slice va o.val.length vc] 34) := ⟨_, rfl⟩
      have HW1 := hid hW1
      obtain ⟨PB, hPB⟩ : ∃ PB, PB = wr.heap.size := ⟨_, rfl⟩
      have T1 : Hid (Two w PB #[.slice ka o.key.length kc, .int .i64 o.seq, .bool o.gone, .int .i64 o.till, .slice va o.val.length vc] 34 W1 (.slice a6 ys.length c6) u5 ys zs) := by show Two _ _ _ _ _ _ _ _ _; rw [hW1, hPB]; exact hpr.two
      have HAP : Hid (∀ {wx : World} {u zs'} {pa pl pc prev}, Two w PB #[.slice ka o.key.length kc, .int .i64 o.seq, .bool o.gone, .int .i64 o.till, .slice va o.val.length vc] 34 wx (.slice a6 ys.length c6) u ys zs' → Sl w pa pl pc prev → pl ≤ 512 → Calls Try.prog 86 #[.slice a6 ys.length c6, .slice pa pl pc, .agg #[.slice ka o.key.length kc, .int .i64 o.seq, .bool o.gone, .int .i64 o.till, .slice va o.val.length vc]] wx fun r w' => ∃ v', r = .returned v' ∧ Two w PB #[.slice ka o.key.length kc, .int .i64 o.seq, .bool o.gone, .int .i64 o.till, .slice va o.val.length vc] 34 w' v' u (ys ++ enE (shr prev o.key) o) zs') := fun {wx u zs' pa pl pc prev} hT hp hl => by
        have := app_k (va := va) hT.pair hp hl sk sv hma (by omega)
        unfold entA at this
        exact this.mono fun r w' ⟨v', e, hP', hG⟩ => ⟨v', e, hT.grw hG hP'⟩
      have HNX : Hid (∀ {wx v u}, Pair w wx v u (ys ++ enE SK o) (zs ++ (if q % 8 = 0 then fx ys.length 4 else [])) → Pair w wx v u (enEs 0 [] (l.take (q + 1))) (enTl 0 0 [] (l.take (q + 1))) ∧ Sl w ka o.key.length kc (lastK [] (l.take (q + 1))) ∧ o.key.length ≤ 512) := fun {wx v u} hp => by rw [hye, hze, hlk]; exact ⟨hp, sk, by omega⟩
      have HSP := hid spv
      have HPL := hid hpl
      have HSK := hid hsh
      have HZ : Hid (zs.length + 4 ≤ 140737488355328) := by show _ ≤ _; omega
      have hyl62 : ys.length ≤ 2 ^ 61 := by omega
      have hkl62 : o.key.length ≤ 2 ^ 61 := by omega
      clear hpr hs6 hma hye hze hlk hyl hzl hyo hsh hprev spv hys hzs hq4 hmo hpl sk sv i1 i2 e0 e1 e2 e3 e4 hW1 hq bel HP
      go_upto_region 12 with fail
      rw [← HW1.out, ← hPB]
      clear d0 d1 d2 d3 d4 hPB
      have hq8 : Int.tmod (q : Int) 8 = ((q % 8 : Nat) : Int) := by rw [Int.tmod_eq_emod_of_nonneg (by omega)]; omega
      by_cases h8 : q % 8 = 0
      · have hq0 : Int.tmod (q : Int) 8 = 0 := by rw [hq8]; omega
        have hq00 : (q : Int) % 8 = 0 := by omega
        go_upto_region 15 with (first | (go_at_call 85; refine (fix_k hyl62).mono ?_; rintro e w3 ⟨a3, c3, rfl, s3, b3⟩) | (at_builtin; refine wpList_appl (B := w.heap.size) rfl (.tmp 33) (.tmp 36) rfl rfl (T1.out.later b3).row2 rfl s3 (by have := HZ.out; omega) (T1.out.later b3).mid.bel.size ?_; intro v4 w4 r4 g4 m4))
        have T4 := hid (((T1.out.later b3).swap.step g4 m4 r4).swap)
        clear T1 b3 s3 r4 g4 m4 hq8 hq0 hq00
        obtain ⟨z0, z1, z2, z3, z4⟩ := T4.out.cells
        go_upto_region 16 with (go_at_call 86; refine (HAP.out T4.out (Sl.nil w) (by omega)).mono ?_; rintro e w5 ⟨v5, rfl, T5⟩)
        clear z0 z1 z2 z3 z4
        obtain ⟨z0, z1, z2, z3, z4⟩ := T5.cells
        have HX : Hid (Pair w w5 v5 v4 (ys ++ enE SK o) (zs ++ (if q % 8 = 0 then fx ys.length 4 else []))) := by
          show Pair _ _ _ _ _ _
          rw [HSK.out, if_pos h8, if_pos h8]
          exact T5.pair
        clear T5 T4
        go_wp2_with fail
        go_roundg GK
        case measure => exact HG.out.1
        case rel => exact ⟨q + 1, ka, o.key.length, kc, HG.out.2, by go_num, rfl, HNX.out HX.out⟩
      · have hq0 : ¬ Int.tmod (q : Int) 8 = 0 := by rw [hq8]; omega
        have hq00 : ¬ (q : Int) % 8 = 0 := by omega
        have hq41 : ((q : Int) % 8 == 0) = false := by simp; omega
        go_upto_region 15 with fail
        clear hq8 hq0 hq00 hq41
        obtain ⟨z0, z1, z2, z3, z4⟩ := T1.out.cells
        go_upto_region 16 with (go_at_call 86; refine (HAP.out T1.out HSP.out HPL.out).mono ?_; rintro e w5 ⟨v5, rfl, T5⟩)
        clear z0 z1 z2 z3 z4
        obtain ⟨z0, z1, z2, z3, z4⟩ := T5.cells
        have HX : Hid (Pair w w5 v5 u5 (ys ++ enE SK o) (zs ++ (if q % 8 = 0 then fx ys.length 4 else []))) := by
          show Pair _ _ _ _ _ _
          rw [HSK.out, if_neg h8, if_neg h8, List.append_nil, shr_comm]
          exact T5.pair
        clear T5 T1
        go_wp2_with fail
        go_roundg GK
        case measure => exact HG.out.1
        case rel => exact ⟨q + 1, ka, o.key.length, kc, HG.out.2, by go_num, rfl, HNX.out HX.out⟩
    · have hql' : (len : Int) ≤ (q : Int) := by omega
      obtain rfl : q = l.length := by omega
      rw [List.take_length] at HP
      have hyo : Okb (enEs 0 [] l) := okb_enEs fun e he => HS.out.1.okE e he
      obtain ⟨a6, c6, hv6, hs6⟩ := Sl.ofRow HP.out.1.1 hyo
      obtain ⟨a7, c7, hv7, hs7⟩ := Sl.ofRow HP.out.1.2.1 okb_enTl
      subst hv6 hv7
      have hyl := enEs_tlen HS.out.2.1 l.length (Nat.le_refl _)
      have hzl := enTl_tlen (l := l) l.length (Nat.le_refl _)
      rw [List.take_length] at hyl hzl
      have hlen4 := HS.out.2.2
      have HBK : Hid ([enEs 0 [] l, enTl 0 0 [] l, fx ((enTl 0 0 [] l).length / 4) 4].flatten = blkB l) := by show _ = _; unfold blkB; simp
      have HB := hid HP.out.1.2.2.1
      generalize enEs 0 [] l = ys at HP hyl HBK hs6
      generalize enTl 0 0 [] l = zs at HP hzl hs7 HBK
      obtain ⟨Y, hY⟩ : ∃ n, n = ys.length := ⟨_, rfl⟩
      obtain ⟨Z, hZ⟩ : ∃ n, n = zs.length := ⟨_, rfl⟩
      rw [← hZ] at hs7 hzl HBK ⊢
      rw [← hY] at hs6 hyl ⊢
      have HR : Hid (Sl wr a6 Y c6 ys ∧ Sl wr a7 Z c7 zs ∧ ys.length + zs.length ≤ 2000000) := ⟨hs6, hs7, by omega⟩
      have hZ62 : Z ≤ 2 ^ 61 := by omega
      have hz4 : (Z : Int) / 4 = ((Z / 4 : Nat) : Int) := by omega
      have hz5 : Int.tdiv (Z : Int) 4 = ((Z / 4 : Nat) : Int) := by rw [Int.tdiv_eq_ediv_of_nonneg (by omega)]; omega
      have hD62 : Z / 4 ≤ 2 ^ 61 := by omega
      have HFX : Hid (∀ {wx : World}, Calls Try.prog 85 #[.int .i64 ((Z / 4 : Nat) : Int)] wx fun e w' => ∃ a c, e = .returned (.slice a 4 c) ∧ Sl w' a 4 c (fx (Z / 4) 4) ∧ Below wx.heap.size wx w') := fun {wx} => fix_k hD62
      generalize Z / 4 = D at hz4 hz5 hD62 HBK HFX
      clear hZ hY hzl hyl hs7 hs6 HP hlen4 hql hyo hq
      go_wp2_with (first | (go_at_call 85; refine HFX.out.mono ?_; rintro e w8 ⟨a8, c8, rfl, s8, b8⟩) | (go_at_call 87; refine (concat_any (rb3_k (HR.out.1.later b8) (HR.out.2.1.later b8) s8) (by have := HR.out.2.2; unfold tot; simp [fx_length]; omega)).mono ?_; rintro e w9 ⟨v9, rfl, r9, b9⟩))
      rw [HBK.out] at r9
      have b10 : Below w.heap.size w (w8.alloc (.cells #[.slice a6 Y c6, .slice a7 Z c7, .slice a8 4 c8] 25)) := (HB.out.trans (b8.mono HB.out.size)).alloc (Nat.le_trans HB.out.size b8.size) _
      exact bodyPost_ret (v := .tuple #[v9, .int .i64 0]) (by simp [results, Try.results62, go_sem]) rfl ⟨v9, rfl, r9.base b10.size, b10.trans (b9.mono b10.size)⟩

theorem encR_k {w : World} {ao : Option Addr} {len cap : Nat} {l : List EntV} (h : RS entE w ao len cap l) (hl : len ≤ 2 ^ 61) :
    Calls Try.prog 62 #[.slice ao len cap] w fun e w' => ∃ v, e = .returned (.tuple #[v, .int .i64 ((blkE l : Nat) : Int)]) ∧ Row w.heap.size w' v (if blkE l = 0 then blkB l else []) ∧ Below w.heap.size w w' := by
  have hln : l.length = len := h.len.1
  unfold blkE
  rw [hln]
  by_cases q : len = 0 ∨ 400 < len
  · rw [if_pos q]
    exact (enc_many q hl).mono fun e w' ⟨h1, h2⟩ => ⟨_, h1, Row.nil _ _, h2⟩
  · rw [if_neg q]
    cases ha : l.all mayE with
    | false =>
      rw [if_pos rfl]
      exact (enc_bad h (by omega) (by omega) (.inl ha) (c := 1) (by rw [ha]; rfl)).mono fun e w' ⟨h1, h2⟩ => ⟨_, h1, Row.nil _ _, h2⟩
    | true =>
      rw [if_neg (by decide)]
      cases ho : ordB l with
      | false =>
        rw [if_pos rfl]
        exact (enc_bad h (by omega) (by omega) (.inr ho) (c := 11) (by rw [ha]; rfl)).mono fun e w' ⟨h1, h2⟩ => ⟨_, h1, Row.nil _ _, h2⟩
      | true =>
        rw [if_neg (by decide)]
        exact enc_good h (by omega) (by omega) ⟨ha, ho⟩
end Go.Proofs.Ytfecopldepnicaa

/- The landed table: which entries may not be; sums; rows of the index. -/
namespace Go.Proofs.Ytfecopldepnicaa
open Go.RowKit
set_option linter.unusedVariables false
set_option linter.unusedSimpArgs false

set_option maxHeartbeats 2000000 in
set_option maxRecDepth 100000 in
theorem mayN_t {w : World} {ka va : Option Addr} {kc vc : Nat} {e : EntV} : Calls Try.prog 28 #[entA ka kc va vc e] w fun r w' => r = .returned (.bool (!mayE e)) ∧ Below w.heap.size w w' := by
  have HM : Hid (∀ wx, Calls Try.prog 59 #[entA ka kc va vc e] wx fun r w' => r = .returned (.bool (mayE e)) ∧ Below wx.heap.size wx w') := fun wx => may_m
  unfold entA at HM ⊢
  generalize mayE e = m at HM ⊢
  generalize e.key.length = kl at HM ⊢
  generalize e.val.length = vl at HM ⊢
  generalize e.seq = sq at HM ⊢
  generalize e.gone = gn at HM ⊢
  generalize e.till = tl at HM ⊢
  have HB : Hid (Below w.heap.size w (w.alloc (.cells #[.slice ka kl kc, .int .i64 sq, .bool gn, .int .i64 tl, .slice va vl vc] 34))) := (Below.refl _ _).alloc (Nat.le_refl _) _
  go_enter Try.func28, Try.ntmps28
  go_wp2_with (go_at_call 59; refine (HM.out _).mono ?_; rintro e w' ⟨rfl, hb⟩)
  exact bodyPost_ret (v := .bool (!m)) (by simp [results, Try.results28, go_sem]) rfl ⟨rfl, HB.out.trans (hb.mono HB.out.size)⟩

set_option maxHeartbeats 4000000 in
set_option maxRecDepth 100000 in
theorem ixf_t {w : World} {ao : Option Addr} {len cap : Nat} {l : List EntV} (h : RS entE w ao len cap l) (hl : len ≤ 1000000) :
    Calls Try.prog 58 #[.slice ao len cap, .func (.func 28) #[] #[]] w fun r w' => (∃ i : Int, r = .returned (.int .i64 i) ∧ (0 ≤ i ↔ l.all mayE = false)) ∧ Below w.heap.size w w' := by
  have HS : Hid (RS entE w ao len cap l ∧ True ∧ len ≤ 1000000) := ⟨h, trivial, hl⟩
  have hln : l.length = len := h.len.1
  have hl62 : len ≤ 2 ^ 61 := by omega
  clear h hl
  go_enter Try.func58, Try.ntmps58
  go_wp2_with fail
  go_loopg [5, 8] len (fun g _ i wr => ∃ k : Nat, k + g = len ∧ i = .int .i64 (k : Int) ∧ Hid ((∀ j (hj : j < l.length), j < k → mayE l[j] = true) ∧ Below w.heap.size w wr))
  case atStart => exact ⟨0, by omega, rfl, fun j _ h => absurd h (by omega), Below.refl _ _⟩
  case round =>
    obtain ⟨k, hk, rfl, HK⟩ := hrel
    by_cases hkl : k < len
    · have hkl' : (k : Int) < (len : Int) := by omega
      have hkx : k < l.length := by omega
      have bel := HK.out.2
      obtain ⟨b, off, ka, kc, va, vc, rfl, d0, d1, d2, d3, d4, sk, sv, i1, i2⟩ := RS.ent (HS.out.1.later bel) (List.getElem?_eq_getElem hkx)
      have HN : Hid (mayE l[k] = false → l.all mayE = false) := fun q => List.all_eq_false.2 ⟨l[k], List.getElem_mem hkx, by rw [q]; decide⟩
      have HP : Hid (mayE l[k] = true → ∀ j (hj : j < l.length), j < k + 1 → mayE l[j] = true) := fun q j hj hjk => if e : j = k then by subst e; exact q else HK.out.1 j hj (by omega)
      generalize l[k] = o at d0 d1 d2 d3 d4 HN HP
      have hk62 : k ≤ 2 ^ 61 := by omega
      obtain ⟨GK, HG⟩ : ∃ g, Hid (g < gk ∧ k + 1 + g = len) := ⟨gk - 1, by omega, by omega⟩
      have HM1 : Hid (∀ wx, Calls Try.prog 28 #[entA ka kc va vc o] wx fun r w' => r = .returned (.bool (!mayE o)) ∧ Below wx.heap.size wx w') := fun wx => mayN_t
      have HBw : Hid (∀ wx, Below wr.heap.size wr wx → Below w.heap.size w wx) := fun wx hb => bel.trans (hb.mono bel.size)
      unfold entA at HM1
      clear sk sv i1 i2 hk bel
      cases hmo : mayE o with
      | true =>
        rw [hmo] at HM1
        go_wp2_with (go_at_call 28; refine (HM1.out _).mono ?_; rintro e w2 ⟨rfl, b2⟩)
        go_roundg GK
        case measure => exact HG.out.1
        case rel => exact ⟨k + 1, HG.out.2, by go_num, HP.out hmo, HBw.out _ b2⟩
      | false =>
        rw [hmo] at HM1
        go_wp2_with (go_at_call 28; refine (HM1.out _).mono ?_; rintro e w2 ⟨rfl, b2⟩)
        exact bodyPost_ret (v := .int .i64 (k : Int)) (by simp [results, Try.results58, go_sem]) rfl ⟨⟨(k : Int), rfl, fun _ => HN.out hmo, fun _ => by omega⟩, HBw.out _ b2⟩
    · have hkl' : (len : Int) ≤ (k : Int) := by omega
      have HA : Hid (l.all mayE = true) := all_takeM HK.out.1 (by omega)
      have HB := hid HK.out.2
      clear hk hkl HK
      go_wp2_with fail
      exact bodyPost_ret (v := .int .i64 (-1)) (by simp [results, Try.results58, go_sem]) rfl ⟨⟨-1, rfl, fun q => absurd q (by decide), fun q => by rw [HA.out] at q; cases q⟩, HB.out⟩
set_option maxHeartbeats 1000000 in
set_option maxRecDepth 100000 in
theorem cnf_t {w : World} {ao : Option Addr} {len cap : Nat} {l : List EntV} (h : RS entE w ao len cap l) (hl : len ≤ 1000000) :
    Calls Try.prog 27 #[.slice ao len cap, .func (.func 28) #[] #[]] w fun r w' => r = .returned (.bool (!l.all mayE)) ∧ Below w.heap.size w w' := by
  have hx := ixf_t h hl
  generalize l.all mayE = A at hx ⊢
  clear h hl
  cases A with
  | true =>
    go_enter Try.func27, Try.ntmps27
    go_wp2_with fail
    refine hx.mono ?_
    rintro e w2 ⟨⟨i, rfl, hi⟩, b2⟩
    have hi' : ¬ (0 ≤ i) := fun q => by have := hi.1 q; cases this
    clear hi hx
    go_wp2_with fail
    exact bodyPost_ret (v := .bool false) (by simp [results, Try.results27, go_sem]; omega) rfl ⟨rfl, b2⟩
  | false =>
    go_enter Try.func27, Try.ntmps27
    go_wp2_with fail
    refine hx.mono ?_
    rintro e w2 ⟨⟨i, rfl, hi⟩, b2⟩
    have hi' : 0 ≤ i := hi.2 (by first | exact trivial | rfl)
    clear hi hx
    go_wp2_with fail
    exact bodyPost_ret (v := .bool true) (by simp [results, Try.results27, go_sem]) rfl ⟨rfl, b2⟩


theorem msum_t {w : World} {ao : Option Addr} {len cap : Nat} {xs : List Int} (h : Sl w ao len cap xs) :
    Calls Try.prog 68 #[.slice ao len cap] w fun e w' => e = .returned (.int .u64 (mask (more 0 (nl xs)) : Nat)) ∧ w' = w := by
  have hs := sum_l h
  have hm := mask_any (more 0 (nl xs)) w (more0_lt h.2.1)
  have hl := mask_lt (more 0 (nl xs))
  generalize mask (more 0 (nl xs)) = M at hm hl
  generalize more 0 (nl xs) = S at hs hm
  clear h
  go_enter Try.func68, Try.ntmps68
  go_wp2_with (first | (go_at_call 94; refine hs.mono ?_; rintro e w' ⟨rfl, hw⟩; obtain rfl := hw.symm) | (go_at_call 93; refine hm.mono ?_; rintro e w' ⟨rfl, hw⟩; obtain rfl := hw.symm))
  exact bodyPost_ret (v := .int .u64 (M : Nat)) (by simp [results, Try.results68, go_sem]) rfl ⟨rfl, rfl⟩
theorem fix4_t {w : World} (n : Nat) : Calls Try.prog 67 #[.slice none 0 0, .int .u64 (n : Int), .int .i64 4] w fun e w' => ∃ a c, e = .returned (.slice a 4 c) ∧ Sl w' a 4 c (fx n 4) ∧ Below w.heap.size w w' := by
  have h := fixed_any none 0 0 n (fun _ => 0) 4 w (fun k hk => by cases hk) (fun _ => ⟨rfl, rfl⟩) (by omega)
  refine h.mono ?_
  rintro e w' ⟨v', rfl, h1, h2⟩
  have e0 : bs (fun _ => 0) 0 = [] := rfl
  rw [e0, List.nil_append, fxs4b] at h1
  obtain ⟨a, c, hv, hs⟩ := Sl.ofRow h1 (okb_fx n 4)
  rw [fx_length] at hv hs
  exact ⟨a, c, by rw [hv], hs, h2⟩
set_option maxHeartbeats 1000000 in
set_option maxRecDepth 100000 in
/-- Bytes and their sum behind a row of one's own. -/
theorem apsm_t {B : Nat} {w : World} {v : Value} {xs ys : List Int} {ao : Option Addr} {m c : Nat} (hr : Row B w v xs) (hB : B ≤ w.heap.size) (hs : ∀ w', w.grownBy w' v.ownBlock → Sl w' ao m c ys) (hx : xs.length ≤ 100000000) (hm : m ≤ 100000000) :
    Calls Try.prog 34 #[v, .slice ao m c] w fun e w' => ∃ v', e = .returned v' ∧ Row B w' v' (xs ++ sm ys) ∧ Grw w v w' v' := by
  have hs0 : Sl w ao m c ys := hs w ⟨rfl, rfl, rfl, Nat.le_refl _, fun _ _ _ => rfl⟩
  have HS : Hid (∀ w', w.grownBy w' v.ownBlock → Sl w' ao m c ys) := hs
  have HB := hid hB
  have HX : Hid (xs.length ≤ 100000000 ∧ m ≤ 100000000 ∧ ys.length = m) := ⟨hx, hm, hs0.1⟩
  have HE : Hid (∀ zs : List Int, zs = xs ++ ys → zs ++ fx (mask (more 0 (nl ys))) 4 = xs ++ sm ys) := fun zs hz => by rw [hz]; unfold sm; simp
  have HM : Hid (∀ wx, Sl wx ao m c ys → Calls Try.prog 68 #[.slice ao m c] wx fun e w' => e = .returned (.int .u64 (mask (more 0 (nl ys)) : Nat)) ∧ w' = wx) := fun wx h => msum_t h
  generalize mask (more 0 (nl ys)) = M at HE HM
  clear hs hx hm
  go_enter Try.func34, Try.ntmps34
  go_upto_region 2 with (at_builtin; refine wpList_applN (B := B) (xs := xs) (ys := ys) (ao := ao) (m := m) (c := c) rfl (.tmp 5) (.tmp 6) rfl rfl hr rfl hs0 (by have := HX.out; omega) HB.out ?_; intro v1 w1 r1 g1 m1)
  have HG1 : Hid (Grw w v w1 v1) := ⟨g1, m1⟩
  have hsum := HM.out w1 (HS.out w1 g1)
  have hsz : w.heap.size ≤ w1.heap.size := g1.size
  clear hs0 g1 m1 hr
  go_wp2_with (first | (go_at_call 68; refine hsum.mono ?_; rintro e w2 ⟨rfl, hw⟩; obtain rfl := hw.symm) | (go_at_call 67; refine (fix4_t M).mono ?_; rintro e w3 ⟨a3, c3, rfl, s3, b3⟩; have r3 := r1.later b3; have HG3 := hid (HG1.out.later b3)) | (at_builtin; refine wpList_applN (B := B) (xs := xs ++ ys) (ys := fx M 4) (ao := a3) (m := 4) (c := c3) rfl (.tmp 8) (.tmp 11) rfl rfl r3 rfl s3 (by have := HX.out; simp; omega) (by have := HB.out; have := b3.size; omega) ?_; intro v4 w4 r4 g4 m4))
  exact bodyPost_ret (v := v4) (by simp [results, Try.results34, go_sem]) rfl ⟨v4, rfl, by rw [← HE.out _ rfl]; exact r4, HG3.out.step g4 m4⟩
theorem vputs_t {w : World} {ao : Option Addr} {len cap n : Nat} {xs : List Int} (h : Sl w ao len cap xs) (hl : len ≤ 1000000) (hn : n < 18446744073709551616) : Calls Try.prog 88 #[.slice ao len cap, .int .u64 (n : Int)] w fun e w' => ∃ a c, e = .returned (.slice a (len + (uv n).length) c) ∧ Sl w' a (len + (uv n).length) c (xs ++ uv n) ∧ Below w.heap.size w w' := by
  have hp := put_any ao len cap n (xof xs) w h.2.2.2.2.2 h.2.2.1 (by omega) hn
  refine hp.mono ?_
  rintro e w' ⟨v', rfl, h1, h2⟩
  rw [← h.1, bs_xof h.2.1] at h1
  obtain ⟨a, c, hv, hs⟩ := Sl.ofRow h1 (h.2.1.app (okb_uv n))
  rw [List.length_append, h.1] at hv hs
  exact ⟨a, c, by rw [hv], hs, h2⟩
theorem vpbs_t {w : World} {so : Option Addr} {ls cs : Nat} {rs : List Int} (h : Sl w so ls cs rs) (hl : ls ≤ 1000000) : Calls Try.prog 89 #[.slice none 0 0, .slice so ls cs] w fun e w' => ∃ a c, e = .returned (.slice a (lb rs).length c) ∧ Sl w' a (lb rs).length c (lb rs) ∧ Below w.heap.size w w' := by
  refine (vpby_nil h (by omega)).mono ?_
  rintro e w' ⟨v', rfl, r, b⟩
  obtain ⟨a, c, rfl, hs⟩ := Sl.ofRow r (okb_lb h.2.1)
  exact ⟨a, c, rfl, hs, b⟩
set_option maxHeartbeats 1000000 in
set_option maxRecDepth 100000 in
/-- A row of the index. -/
theorem rwby_t {w : World} {ao : Option Addr} {len cap p n : Nat} {xs : List Int} (h : Sl w ao len cap xs) (hl : len ≤ 3000) (hp : p ≤ 100000000) (hn : n ≤ 100000000) :
    Calls Try.prog 63 #[.slice ao len cap, .int .i64 (p : Int), .int .i64 (n : Int)] w fun e w' => ∃ a m c, e = .returned (.slice a m c) ∧ Sl w' a m c (lb xs ++ (uv p ++ uv n)) ∧ m ≤ 3100 ∧ Below w.heap.size w w' := by
  have h1 := vpbs_t h (by omega)
  have hb : (lb xs).length ≤ 3010 := by
    have := uv_len64 (n := xs.length) (by rw [h.1]; omega)
    rw [lb_len, h.1] at *
    omega
  have hup := uv_len64 (n := p) (by omega)
  have hun := uv_len64 (n := n) (by omega)
  have HL : Hid ((lb xs).length ≤ 3010 ∧ (uv p).length ≤ 10 ∧ (uv n).length ≤ 10 ∧ p ≤ 100000000 ∧ n ≤ 100000000) := ⟨hb, hup, hun, hp, hn⟩
  have HE : Hid ((lb xs ++ uv p) ++ uv n = lb xs ++ (uv p ++ uv n)) := List.append_assoc ..
  have hp61 : p ≤ 2 ^ 61 := by omega
  have hn61 : n ≤ 2 ^ 61 := by omega
  have hwp : IntKind.u64.wrap (p : Int) = (p : Int) := wrap64u (by omega)
  have hwn : IntKind.u64.wrap (n : Int) = (n : Int) := wrap64u (by omega)
  generalize hX : lb xs = X at h1 HL HE
  generalize hXL : X.length = XL at h1 HL
  clear h hl hb hup hun hp hn hX hXL
  go_enter Try.func63, Try.ntmps63
  go_upto_region 2 with (first | (go_at_call 89; refine h1.mono ?_; rintro e w1 ⟨a1, c1, rfl, s1, b1⟩) | (go_at_call 88; refine (vputs_t s1 (by have := HL.out; omega) (by have := HL.out; omega)).mono ?_; rintro e w2 ⟨a2, c2, rfl, s2, b2⟩))
  have HB2 := hid (b1.trans (b2.mono b1.size))
  clear h1 s1 b1 b2
  generalize hU : (uv p).length = UP at s2 HL
  clear hU
  go_wp2_with (go_at_call 88; refine (vputs_t s2 (by have := HL.out; omega) (by have := HL.out; omega)).mono ?_; rintro e w3 ⟨a3, c3, rfl, s3, b3⟩)
  exact bodyPost_ret (v := .slice a3 (XL + UP + (uv n).length) c3) (by simp [results, Try.results63, go_sem]) rfl ⟨a3, _, c3, rfl, by rw [← HE.out]; exact s3, by have := HL.out; omega, HB2.out.trans (b3.mono HB2.out.size)⟩
end Go.Proofs.Ytfecopldepnicaa

/- The landed table: where the first block ends; the blocks' bytes and the index. -/
namespace Go.Proofs.Ytfecopldepnicaa
open Go.RowKit
set_option linter.unusedVariables false
set_option linter.unusedSimpArgs false

set_option maxHeartbeats 2000000 in
set_option maxRecDepth 100000 in
theorem bend_t {w : World} {ao : Option Addr} {len cap : Nat} {l : List EntV} (h : RS entE w ao len cap l) (h1 : 1 ≤ len) (hl : len ≤ 5000) (hm : ∀ e ∈ l, mayE e = true) :
    Calls Try.prog 61 #[.slice ao len cap] w fun e w' => e = .returned (.int .i64 ((beN 0 l : Nat) : Int)) ∧ Below w.heap.size w w' := by
  have hln : l.length = len := h.len.1
  have hne : l ≠ [] := fun z => by rw [z] at hln; simp at hln; omega
  have HS : Hid (RS entE w ao len cap l ∧ l.length = len ∧ len ≤ 5000 ∧ ∀ e ∈ l, mayE e = true) := ⟨h, hln, hl, hm⟩
  have H0 : Hid (0 = wts (l.take 0) ∧ (0 < len → 0 < beN 0 l) ∧ (0 = len → beN 0 l = len) ∧ Below w.heap.size w w) := ⟨by simp [wts], fun _ => beN_pos hne, fun z => absurd z (by omega), Below.refl _ _⟩
  have hl62 : len ≤ 2 ^ 61 := by omega
  clear h h1 hl hm hne
  go_enter Try.func61, Try.ntmps61
  go_wp2_with fail
  go_loopg [3, 4, 5, 8] len (fun g s _ _ i wr => ∃ k S : Nat, k + g = len ∧ i = .int .i64 (k : Int) ∧ s = .int .i64 (S : Int) ∧ S < 256 ∧ Hid (S = wts (l.take k) ∧ (k < len → k < beN 0 l) ∧ (k = len → beN 0 l = len) ∧ Below w.heap.size w wr))
  case atStart => exact ⟨0, 0, by omega, rfl, rfl, by omega, H0⟩
  case round =>
    obtain ⟨k, S, hk, rfl, rfl, hS, HK⟩ := hrel
    by_cases hkl : k < len
    · have hkl' : (k : Int) < (len : Int) := by omega
      have hkx : k < l.length := by omega
      have bel := HK.out.2.2.2
      obtain ⟨b, off, ka, kc, va, vc, rfl, d0, d1, d2, d3, d4, sk, sv, i1, i2⟩ := RS.ent (HS.out.1.later bel) (List.getElem?_eq_getElem hkx)
      have hbe := beN_at l 0 k hkx (HK.out.2.1 hkl)
      rw [← HK.out.1, Nat.zero_add] at hbe
      have hmo := mayE_ok (HS.out.2.2.2 l[k] (List.getElem_mem hkx))
      have hwt : wtE l[k] = l[k].key.length + l[k].val.length + 16 := rfl
      have HW : Hid (∀ T, T = S + wtE l[k] → T = wts (l.take (k + 1))) := fun T hT => by
        rw [take_snoc hkx, wts_app, hT, HK.out.1]
        simp [wts]
      generalize l[k] = o at d0 d1 d2 d3 d4 hbe hmo hwt HW
      have HBE := hid hbe
      have h1 := hmo.2.1
      have h2 := hmo.2.2.2.2.2.2.1
      generalize o.key.length = kl at d0 hwt h1
      generalize o.val.length = vl at d4 hwt h2
      generalize o.seq = seq at d1
      generalize o.gone = gone at d2
      generalize o.till = till at d3
      have hk62 : k ≤ 2 ^ 61 := by omega
      have hkl9 : kl ≤ 2 ^ 60 := by omega
      have hvl9 : vl ≤ 2 ^ 60 := by omega
      obtain ⟨GK, HG⟩ : ∃ g, Hid (g < gk ∧ k + 1 + g = len) := ⟨gk - 1, by omega, by omega⟩
      have HBw : Hid (Below w.heap.size w (wr.alloc (.cells #[.slice ka kl kc, .int .i64 seq, .bool gone, .int .i64 till, .slice va vl vc] 34))) := bel.alloc bel.size _
      have HLN := hid hln
      clear sk sv i1 i2 hk bel hmo hbe hln
      by_cases q : 256 ≤ S + wtE o
      · have q' : (256 : Int) ≤ (S : Int) + ((kl : Int) + (vl : Int) + 16) := by omega
        have hv := HBE.out.1 q
        have HV := hid hv
        clear hv q hwt
        go_wp2_with fail
        exact bodyPost_ret (v := .int .i64 ((k : Int) + 1)) (by simp [results, Try.results61, go_sem]) rfl ⟨by rw [HV.out]; rfl, HBw.out⟩
      · have q' : ¬ ((256 : Int) ≤ (S : Int) + ((kl : Int) + (vl : Int) + 16)) := by omega
        have HT : Hid (S + (kl + vl + 16) < 256 ∧ S + (kl + vl + 16) = wts (l.take (k + 1)) ∧ (k + 1 < len → k + 1 < beN 0 l) ∧ (k + 1 = len → beN 0 l = len)) := ⟨by omega, HW.out _ (by omega), fun z => HBE.out.2.1 (by omega) (by have := HLN.out; omega), fun z => by rw [HBE.out.2.2 (by omega) (by have := HLN.out; omega)]; exact HLN.out⟩
        clear q hwt
        go_wp2_with fail
        go_roundg GK
        case measure => exact HG.out.1
        case rel => exact ⟨k + 1, S + (kl + vl + 16), HG.out.2, by go_num, by go_num, HT.out.1, HT.out.2.1, HT.out.2.2.1, HT.out.2.2.2, HBw.out⟩
    · have hkl' : (len : Int) ≤ (k : Int) := by omega
      have HE : Hid (beN 0 l = len) := HK.out.2.2.1 (by omega)
      have HB := hid HK.out.2.2.2
      clear hk hkl HK
      go_wp2_with fail
      exact bodyPost_ret (v := .int .i64 (len : Int)) (by simp [results, Try.results61, go_sem]) rfl ⟨by rw [HE.out], HB.out⟩

theorem idxB_snoc : ∀ (bs : List (List EntV)) (pos : Nat) (c : List EntV), idxB pos (bs ++ [c]) = idxB pos bs ++ (lb (lastK [] c) ++ (uv (pos + (bodT bs).length) ++ uv (blkB c).length))
  | [], pos, c => by simp [idxB, bodT]
  | d :: r, pos, c => by
    show lb (lastK [] d) ++ (uv pos ++ (uv (blkB d).length ++ idxB (pos + (blkB d).length + 4) (r ++ [c]))) = (lb (lastK [] d) ++ (uv pos ++ (uv (blkB d).length ++ idxB (pos + (blkB d).length + 4) r))) ++ _
    rw [idxB_snoc r, bodT_cons]
    simp only [List.append_assoc, List.length_append, sm_len]
    rw [show pos + (blkB d).length + 4 + (bodT r).length = pos + ((blkB d).length + 4 + (bodT r).length) by omega]
theorem bodT_snoc (bs : List (List EntV)) (c : List EntV) : bodT (bs ++ [c]) = bodT bs ++ sm (blkB c) := by unfold bodT; simp
/-- What is short enough of a row of entries. -/
theorem cut_short {l : List EntV} {bs : List (List EntV)} {r : List EntV} (hl : l.length ≤ 5000) (hm : ∀ e ∈ l, mayE e = true) (h : cutT l = bs ++ cutT r) : (bodT bs).length ≤ 20000000 ∧ (idxB 0 bs).length ≤ 20000000 := by
  have hf := cutT_flat l
  have hb : ∀ c ∈ bs, c ≠ [] ∧ ∀ e ∈ c, mayE e = true ∧ e.key.length + e.val.length + 61 ≤ 2700 := fun c hc => by
    have hcl : c ∈ cutT l := by rw [h]; simp [hc]
    refine ⟨cutB_ne l 0 [] c hcl, fun e he => ?_⟩
    have hel : e ∈ l := by rw [← hf]; exact List.mem_flatten.2 ⟨c, hcl, he⟩
    have := mayE_ok (hm e hel)
    exact ⟨hm e hel, by omega⟩
  have hfl : bs.flatten.length ≤ 5000 := by
    have : (cutT l).flatten.length = bs.flatten.length + (cutT r).flatten.length := by rw [h, List.flatten_append, List.length_append]
    rw [hf] at this
    omega
  have h1 := parts_some bs hb
  have h3 : (2700 + 12) * bs.flatten.length ≤ (2700 + 12) * 5000 := Nat.mul_le_mul_left _ hfl
  have h4 : (2700 + 30) * bs.flatten.length ≤ (2700 + 30) * 5000 := Nat.mul_le_mul_left _ hfl
  rcases idx_some bs 0 hb with z | z
  · exact ⟨by omega, by omega⟩
  · omega
end Go.Proofs.Ytfecopldepnicaa
