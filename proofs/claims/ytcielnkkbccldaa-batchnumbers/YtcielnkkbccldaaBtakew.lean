/- The document's own TakeBatch: the walk. -/
import Derived.Test.YtcielnkkbccldaaBtake
import Derived.Deep.RegionHeldLaw
namespace Go.Proofs.Ytcielnkkbccldaa
open Go.RowKit
set_option linter.unusedVariables false
set_option linter.unusedSimpArgs false

theorem RowF.slice {α : Type} {E : El α} {B : Nat} {F : Nat → Prop} {w : World} {v : Value} {xs : List α} (h : RowF E B F w v xs) : ∃ a c, v = .slice a xs.length c ∧ RS E w a xs.length c xs := h.s.rs
theorem RowF.slice' {α : Type} {E : El α} {B : Nat} {F : Nat → Prop} {w : World} {v : Value} {xs : List α} (h : RowF E B F w v xs) : ∃ a n c, v = .slice a n c ∧ n = xs.length := by
  obtain ⟨a, c, e, _⟩ := h.s.rs
  exact ⟨a, _, c, e, rfl⟩
theorem Hid.mk' {p : Prop} (h : p) : Hid p := h
theorem in64_0 : In64 0 := ⟨by decide, by decide⟩
set_option maxHeartbeats 4000000 in
set_option maxRecDepth 100000 in
theorem rtakeB_any {w : World} {ao : Option Addr} {len cap : Nat} {d : List Int} (h : Sl w ao len cap d) (hl : len ≤ 175921860444160) :
    Calls Try.prog 18 #[.slice ao len cap] w fun e w' => ∃ v, e = .returned (.tuple #[.agg #[.int .i64 (deB d).1.1, v], .int .i64 ((deB d).2 : Nat)]) ∧ RSV opE w' v (deB d).1.2 ∧ Below w.heap.size w w' := by
  obtain ⟨W, hW⟩ : ∃ W, W = (w.alloc (.cells #[.int .i64 0, .slice none 0 0] 24)).alloc (.cells #[.slice ao len cap, .int .i64 0] 62) := ⟨_, rfl⟩
  have hWb : Below w.heap.size w W := by rw [hW]; exact ((Below.refl _ w).alloc (Nat.le_refl _) _).alloc (by simp) _
  have hWs : W.heap.size = w.heap.size + 2 := by rw [hW]; simp
  have hs1 : (w.alloc (.cells #[.int .i64 0, .slice none 0 0] 24)).heap.size = w.heap.size + 1 := by simp
  have hWR : W.heap[w.heap.size]? = some (.cells #[.int .i64 0, .slice none 0 0] 24 (0, 0)) := by
    rw [hW, heap_alloc_old (w := w.alloc (.cells #[.int .i64 0, .slice none 0 0] 24)) _ (by omega)]
    exact heap_alloc_new w _
  have hWp : W.heap[w.heap.size + 1]? = some (.cells #[.slice ao len cap, .int .i64 0] 62 (0, 0)) := by
    rw [hW, ← hs1]
    exact heap_alloc_new _ _
  have hrd : RdAt W (w.heap.size + 1) (d, 0) := ⟨ao, len, cap, hWp, h.later hWb, fun b hr => by have := h.lt hr; omega, hl⟩
  have hN1 := rnumber_any hrd 4611686018427387904 (by decide)
  rw [show ((4611686018427387904 : Nat) : Int) = 4611686018427387904 from rfl] at hN1
  have hn1 := rdN_le (most := 4611686018427387904) (s := (d, 0))
  have HD : Hid (deS d = rdN 4611686018427387904 (d, 0)) := rfl
  rw [← HD.out] at hN1 hn1
  obtain ⟨n1, he1⟩ : ∃ n, n = (deS d).1 := ⟨_, rfl⟩
  rw [← he1] at hN1 hn1
  have hn62 : n1 ≤ 2 ^ 63 - 1 := by omega
  have HW : Hid (W = (w.alloc (.cells #[.int .i64 0, .slice none 0 0] 24)).alloc (.cells #[.slice ao len cap, .int .i64 0] 62) ∧ Below w.heap.size w W ∧ W.heap.size = w.heap.size + 2 ∧ W.heap[w.heap.size]? = some (.cells #[.int .i64 0, .slice none 0 0] 24 (0, 0)) ∧ n1 = (deS d).1) := ⟨hW, hWb, hWs, hWR, he1⟩
  rw [hW] at hN1
  clear h hl hWb hWs hs1 hWR hWp hrd hW he1 hn1
  go_enter Try.func18, Try.ntmps18
  go_upto_region 3 with (go_at_call 31; refine hN1.mono ?_; rintro e w2 ⟨rfl, r2, g2⟩; rw [← HW.out.1] at g2)
  have P : Pl w w.heap.size (w.heap.size + 1) w2.heap.size (w2.heap.size + 1) := ⟨Nat.le_refl _, by omega, by have := g2.size; have := HW.out.2.2.1; omega, by omega⟩
  have b3 : Below w2.heap.size w2 (w2.alloc (.cells #[.int .i64 (n1 : Int), .slice none 0 0] 24)) := (Below.refl _ _).alloc (Nat.le_refl _) _
  have T3 : TB w w.heap.size (w.heap.size + 1) w2.heap.size (w2.heap.size + 1) (w2.alloc (.cells #[.int .i64 (n1 : Int), .slice none 0 0] 24)) (n1 : Int) (.slice none 0 0) [] (deS d).2 := by
    have hb2 : Below w.heap.size w w2 := Below.grown HW.out.2.1 g2 HW.out.2.1.size (fun k e => by simp only [Option.some.injEq] at e; omega)
    refine ⟨r2.later b3, heap_alloc_new w2 _, ?_, RowF.nil _ _ _, hb2.trans (b3.mono hb2.size), by simp⟩
    rw [b3.block _ (by have := g2.size; have := HW.out.2.2.1; omega), g2.block _ (by have := HW.out.2.2.1; omega) (fun e => by simp only [Option.some.injEq] at e; omega)]
    exact HW.out.2.2.2.1
  have hN2 := rnumber_any T3.rd 400 (by decide)
  rw [show ((400 : Nat) : Int) = 400 from rfl] at hN2
  have HD2 : Hid (deN d = rdN 400 (deS d).2) := rfl
  rw [← HD2.out] at hN2
  have hn400 := rdN_le (most := 400) (s := (deS d).2)
  rw [← HD2.out] at hn400
  obtain ⟨n, he2⟩ : ∃ n, n = (deN d).1 := ⟨_, rfl⟩
  rw [← he2] at hN2 hn400
  have hn2 : n ≤ 2 ^ 63 - 1 := by omega
  have HR : Hid (deR d = deOs n (deN d).2) := by show _ = _; unfold deR; rw [← he2]
  have HT3 : Hid (TB w w.heap.size (w.heap.size + 1) w2.heap.size (w2.heap.size + 1) (w2.alloc (.cells #[.int .i64 (n1 : Int), .slice none 0 0] 24)) (n1 : Int) (.slice none 0 0) [] (deS d).2) := T3
  have HP : Hid (Pl w w.heap.size (w.heap.size + 1) w2.heap.size (w2.heap.size + 1)) := P
  have HFl : Hid (∀ {wx : World} {v : Value} {ops : List OpV} {st st1 : Rd} {g : Bool}, TB w w.heap.size (w.heap.size + 1) w2.heap.size (w2.heap.size + 1) wx (n1 : Int) v ops st → rdF st = (g, st1) → Calls Try.prog 32 #[(.pointer (some ⟨w.heap.size + 1, 0, none⟩))] wx fun e w' => e = .returned (.bool g) ∧ TB w w.heap.size (w.heap.size + 1) w2.heap.size (w2.heap.size + 1) w' (n1 : Int) v ops st1) := fun {wx v ops st st1 g} T hx => (rflag_any T.rd).mono fun e w' ⟨he, hr, hg⟩ => by
    rw [hx] at he hr
    exact ⟨he, T.read P hg hr⟩
  have HBk : Hid (∀ {ob : Nat} {wx : World} {v : Value} {ops : List OpV} {C : Array Value} {st st1 : Rd} {key : List Int}, TC w w.heap.size (w.heap.size + 1) w2.heap.size (w2.heap.size + 1) ob wx (n1 : Int) v ops C st → rdB 512 st = (key, st1) → Calls Try.prog 33 #[(.pointer (some ⟨w.heap.size + 1, 0, none⟩)), .int .i64 512] wx fun e w' => ∃ a c, e = .returned (.slice a key.length c) ∧ Sb ob w' a c key ∧ TC w w.heap.size (w.heap.size + 1) w2.heap.size (w2.heap.size + 1) ob w' (n1 : Int) v ops C st1 ∧ wx.grownBy w' (some (w.heap.size + 1))) := fun {ob wx v ops C st st1 key} T hx => (rbytes_any T.rd 512 (by decide)).mono fun e w' ⟨v', he, hr, hrd, hg⟩ => by
    obtain ⟨a, c, e1, hs⟩ := sb_row hr (Array.getElem?_eq_some_iff.1 T.bo).1 (rdB_okb T.rd.okb)
    rw [hx] at e1 hs hrd
    exact ⟨a, c, by rw [he, e1], hs, T.read P hg hrd, hg⟩
  have HBv : Hid (∀ {ob : Nat} {wx : World} {v : Value} {ops : List OpV} {C : Array Value} {st st1 : Rd} {key : List Int}, TC w w.heap.size (w.heap.size + 1) w2.heap.size (w2.heap.size + 1) ob wx (n1 : Int) v ops C st → rdB 2048 st = (key, st1) → Calls Try.prog 33 #[(.pointer (some ⟨w.heap.size + 1, 0, none⟩)), .int .i64 2048] wx fun e w' => ∃ a c, e = .returned (.slice a key.length c) ∧ Sb ob w' a c key ∧ TC w w.heap.size (w.heap.size + 1) w2.heap.size (w2.heap.size + 1) ob w' (n1 : Int) v ops C st1 ∧ wx.grownBy w' (some (w.heap.size + 1))) := fun {ob wx v ops C st st1 key} T hx => (rbytes_any T.rd 2048 (by decide)).mono fun e w' ⟨v', he, hr, hrd, hg⟩ => by
    obtain ⟨a, c, e1, hs⟩ := sb_row hr (Array.getElem?_eq_some_iff.1 T.bo).1 (rdB_okb T.rd.okb)
    rw [hx] at e1 hs hrd
    exact ⟨a, c, by rw [he, e1], hs, T.read P hg hrd, hg⟩
  have HNu : Hid (∀ {ob : Nat} {wx : World} {v : Value} {ops : List OpV} {C : Array Value} {st st1 : Rd} {m : Nat}, TC w w.heap.size (w.heap.size + 1) w2.heap.size (w2.heap.size + 1) ob wx (n1 : Int) v ops C st → rdN 4611686018427387904 st = (m, st1) → Calls Try.prog 31 #[(.pointer (some ⟨w.heap.size + 1, 0, none⟩)), .int .u64 4611686018427387904] wx fun e w' => e = .returned (.int .u64 (m : Int)) ∧ TC w w.heap.size (w.heap.size + 1) w2.heap.size (w2.heap.size + 1) ob w' (n1 : Int) v ops C st1 ∧ wx.grownBy w' (some (w.heap.size + 1))) := fun {ob wx v ops C st st1 m} T hx => (rnumber_any T.rd 4611686018427387904 (by decide)).mono fun e w' ⟨he, hrd, hg⟩ => by
    rw [hx] at he hrd
    exact ⟨he, T.read P hg hrd, hg⟩
  have H400 : Hid (n ≤ 400 ∧ n1 = (deS d).1) := ⟨hn400, HW.out.2.2.2.2⟩
  clear T3 P b3 r2 g2 he2 hn400 HD HD2
  go_upto_block 0 with (go_at_call 31; refine hN2.mono ?_; rintro e w4 ⟨rfl, r4, g4⟩)
  have H0 : Hid (TB w w.heap.size (w.heap.size + 1) w2.heap.size (w2.heap.size + 1) w4 (n1 : Int) (.slice none 0 0) [] (deN d).2 ∧ deR d = ([] ++ (deOs n (deN d).2).1, (deOs n (deN d).2).2) ∧ ([] : List OpV).length = 0) := ⟨HT3.out.read HP.out g4 r4, by rw [HR.out]; rfl, rfl⟩
  clear hN2 hN1 r4 g4 HT3 HR
  go_cut [7, 18] from 19 to 47 (fun _ _ wx => ∃ (v : Value) (ops : List OpV) (st : Rd), Hid (TB w w.heap.size (w.heap.size + 1) w2.heap.size (w2.heap.size + 1) wx (n1 : Int) v ops st ∧ deR d = (ops, st)))
  case rest =>
    obtain ⟨v9, ops, st, HC⟩ := hcut
    obtain ⟨a9, n9, c9, hv9, hn9⟩ := HC.out.1.row.slice'
    clear hn9
    subst hv9
    have H10 : Hid (TB w w.heap.size (w.heap.size + 1) w2.heap.size (w2.heap.size + 1) wc (n1 : Int) (.slice a9 n9 c9) ops st) := HC.out.1
    have HRR : Hid (deR d = (ops, st)) := HC.out.2
    clear HC H0 HFl HBk HBv HNu
    have hEn := rend_any H10.out.rd
    have HEN : Hid (deE d = if (rdE st).2 = 0 then mayB (n1 : Int) ops else (rdE st).2) := by show _ = _; unfold deE; rw [HRR.out, ← H400.out.2]
    obtain ⟨st5, hs5⟩ : ∃ x, rdE st = x := ⟨_, rfl⟩
    rw [hs5] at hEn
    have HDE := HEN.out
    rw [hs5] at HDE
    clear HEN
    by_cases q5 : st5.2 = 0
    · rw [if_pos q5] at HDE
      have heq : ((st5.2 : Int) == 0) = true := by simp; omega
      have HMY : Hid (∀ wx, TB w w.heap.size (w.heap.size + 1) w2.heap.size (w2.heap.size + 1) wx (n1 : Int) (.slice a9 n9 c9) ops st5 → Calls Try.prog 15 #[.agg #[.int .i64 (n1 : Int), .slice a9 n9 c9]] wx fun e w' => e = .returned (.int .i64 (deE d : Nat)) ∧ Below wx.heap.size wx w') := fun wx T => by rw [HDE]; exact rmay_any T.rs ⟨by omega, by omega⟩
      have HDE' : Hid (deE d = mayB (n1 : Int) ops) := HDE
      obtain ⟨m, hm⟩ : ∃ m, m = deE d := ⟨_, rfl⟩
      have HM : Hid (m = deE d) := hm
      rw [← hm] at HMY
      clear HDE q5 hm
      by_cases qm : m = 0
      · have hnm : ((m : Int) != 0) = false := by simp; omega
        have HB : Hid (deB d = (((n1 : Int), ops), 0)) := by show _ = _; unfold deB; rw [if_neg (by rw [← HM.out]; simpa using qm), HRR.out, ← H400.out.2]
        clear qm
        go_wp2_with (first | (go_at_call 34; refine hEn.mono ?_; rintro e w11 ⟨rfl, r11, g11⟩; have T11 := H10.out.read HP.out g11 r11; obtain ⟨k1, k2, k3, k4, k5, k6, k7, k8⟩ := T11.facts) | (go_at_call 15; refine (HMY.out _ T11).mono ?_; rintro e w12 ⟨rfl, b12⟩; have T12 := T11.later b12; obtain ⟨j1, j2, j3, j4, j5, j6, j7, j8⟩ := T12.facts; have T13 := T12.sete HP.out m; obtain ⟨i1, i2, i3, i4, i5, i6, i7, i8⟩ := T13.facts))
        obtain ⟨o1, o2, o3, o4⟩ := T13.fin HP.out (.int .i64 (n1 : Int)) (.slice a9 n9 c9)
        have HO : Hid _ := Hid.mk' (And.intro o3 o4)
        exact bodyPost_ret (v := .tuple #[.agg #[.int .i64 (n1 : Int), .slice a9 n9 c9], .int .i64 0]) (by simp [results, Try.results18, go_sem, o1, o2]) rfl ⟨.slice a9 n9 c9, by rw [HB.out]; rfl, by rw [HB.out]; exact RSV.ofRow HO.out.1.s, HO.out.2⟩
      · have hnm : ((m : Int) != 0) = true := by simp; omega
        have HB : Hid (deB d = ((0, []), m)) := by show _ = _; unfold deB; rw [if_pos (by rw [← HM.out]; exact qm), ← HM.out]
        clear qm
        go_wp2_with (first | (go_at_call 34; refine hEn.mono ?_; rintro e w11 ⟨rfl, r11, g11⟩; have T11 := H10.out.read HP.out g11 r11; obtain ⟨k1, k2, k3, k4, k5, k6, k7, k8⟩ := T11.facts) | (go_at_call 15; refine (HMY.out _ T11).mono ?_; rintro e w12 ⟨rfl, b12⟩; have T12 := T11.later b12; obtain ⟨j1, j2, j3, j4, j5, j6, j7, j8⟩ := T12.facts; have T13 := T12.sete HP.out m; obtain ⟨i1, i2, i3, i4, i5, i6, i7, i8⟩ := T13.facts))
        obtain ⟨o1, o2, o3, o4⟩ := T13.fin HP.out (.int .i64 0) (.slice none 0 0)
        go_region_with (fail)
        all_goals
          go_wp2_with fail
          exact bodyPost_ret (v := .tuple #[.agg #[.int .i64 0, .slice none 0 0], .int .i64 (m : Nat)]) (by simp [results, Try.results18, go_sem, o1, o2]) rfl ⟨.slice none 0 0, by rw [HB.out], by rw [HB.out]; exact RSV.nil _, by first | exact o4 | exact o4.drew⟩
    · rw [if_neg q5] at HDE
      have heq : ((st5.2 : Int) == 0) = false := by simp; omega
      have hne5 : ((st5.2 : Int) != 0) = true := by simp; omega
      have HB : Hid (deB d = ((0, []), st5.2)) := by show _ = _; unfold deB; rw [if_pos (by rw [HDE]; exact q5), HDE]
      clear q5 HDE
      go_wp2_with (first | (go_at_call 34; refine hEn.mono ?_; rintro e w11 ⟨rfl, r11, g11⟩; have T11 := H10.out.read HP.out g11 r11; obtain ⟨k1, k2, k3, k4, k5, k6, k7, k8⟩ := T11.facts))
      obtain ⟨o1, o2, o3, o4⟩ := T11.fin HP.out (.int .i64 0) (.slice none 0 0)
      go_region_with (fail)
      all_goals
        go_wp2_with fail
        exact bodyPost_ret (v := .tuple #[.agg #[.int .i64 0, .slice none 0 0], .int .i64 (st5.2 : Nat)]) (by simp [results, Try.results18, go_sem, o1, o2]) rfl ⟨.slice none 0 0, by rw [HB.out], by rw [HB.out]; exact RSV.nil _, by first | exact o4 | exact o4.drew⟩
  case first =>
    go_wp2_with fail
    go_loopg [7, 18] n (fun g _ i wr => ∃ (k : Nat) (v : Value) (acc : List OpV) (st : Rd), k + g = n ∧ i = .int .u64 (k : Int) ∧ Hid (TB w w.heap.size (w.heap.size + 1) w2.heap.size (w2.heap.size + 1) wr (n1 : Int) v acc st ∧ deR d = (acc ++ (deOs g st).1, (deOs g st).2) ∧ acc.length = k))
    case atStart => exact ⟨0, _, _, _, by omega, rfl, H0⟩
    case round =>
      obtain ⟨k, v, acc, st, hk, rfl, HK⟩ := hrel
      by_cases hkl : k < n
      · have hkl' : (k : Int) < (n : Int) := by omega
        obtain ⟨g, rfl⟩ : ∃ g, gk = g + 1 := ⟨gk - 1, by omega⟩
        have hst := deOs_step HK.out.2.1
        obtain ⟨va, vc, hv, _⟩ := HK.out.1.row.slice
        subst hv
        have HST : Hid _ := hst
        have HAL : Hid (k + 1 + g = n ∧ acc.length = k ∧ n ≤ 400) := ⟨by omega, HK.out.2.2, H400.out.1⟩
        have hk62 : k ≤ 2 ^ 62 := by have := H400.out.1; omega
        obtain ⟨⟨go, st1⟩, hF⟩ : ∃ x, rdF st = x := ⟨_, rfl⟩
        obtain ⟨⟨key, st2⟩, hKB⟩ : ∃ x, rdB 512 st1 = x := ⟨_, rfl⟩
        have hFl := HFl.out HK.out.1 hF
        have HKB : Hid (rdB 512 st1 = (key, st2)) := hKB
        cases go with
        | true =>
          have hde : deO st = (⟨key, true, 0, []⟩, st2) := by unfold deO; rw [hF]; simp only [if_true]; rw [hKB]
          rw [hde] at hst
          have HS1 : Hid _ := hst
          clear hst hk HK hF hKB hde HST
          by_cases q : st2.2 = 0
          · have hne : ((st2.2 : Int) != 0) = false := by simp; omega
            have HQ : Hid (st2.2 = 0) := q
            clear q
            go_wp2_with (first | (at_builtin; refine wpList_appF opE (t := 22) (z := .agg #[.slice none 0 0, .bool false, .int .i64 0, .slice none 0 0]) (bytes := 64) Try.underlying22 opE_info rfl (by decide) rfl (.tmp 37) (.tmp 39) rfl rfl R1 rfl R2 R3 R4 (by have := HAL.out; omega) (by have := HAL.out; omega) R5 ?_; intro v9 w9 r9 g9 m9; obtain ⟨z1, z2⟩ := R6.keepq HP.out g9; have T10 := R6.done HP.out g9 r9; obtain ⟨a9, n9, c9, hv9, hs9⟩ := r9.slice'; subst hv9; have z3 := T10.rd.cells.1; have H10 := Hid.mk' T10; clear T10 R1 R2 R3 R4 R5 R6 r9 g9 m9 hs9) | (go_at_call 32; refine hFl.mono ?_; rintro e w5 ⟨rfl, T5⟩; have T6 := TC.begin T5 #[.slice none 0 0, .bool true, .int .i64 0, .slice none 0 0]) | (go_at_call 33; refine (HBk.out T6 HKB.out).mono ?_; rintro e w7 ⟨a7, c7, rfl, S7, T7, G7⟩; obtain ⟨y0, y1, y2, y3, f0, f2, f3, yq⟩ := T7.facts; have T8 := T7.set HP.out 0 (.slice a7 key.length c7); obtain ⟨R1, R2, R3, R4, R5, R6⟩ := TC.ready (o := ⟨key, true, 0, []⟩) T8 (S7.grown (grown_set _ _ _ _) (Nat.le_refl _)) (Sb.nil _ _) in64_0; rw [World.size_setCell] at R2; simp only [List.length_nil] at R1 R2 R3 R4 R5 R6))
            go_roundg g
            case measure => omega
            case rel => exact ⟨k + 1, _, _, _, HAL.out.1, by go_num, H10.out, HS1.out.2 HQ.out, by have := HAL.out; simp; omega⟩
          · have hne : ((st2.2 : Int) != 0) = true := by simp; omega
            have HQ : Hid (st2.2 ≠ 0) := q
            clear q
            go_wp2_with (first | (at_builtin; refine wpList_appF opE (t := 22) (z := .agg #[.slice none 0 0, .bool false, .int .i64 0, .slice none 0 0]) (bytes := 64) Try.underlying22 opE_info rfl (by decide) rfl (.tmp 37) (.tmp 39) rfl rfl R1 rfl R2 R3 R4 (by have := HAL.out; omega) (by have := HAL.out; omega) R5 ?_; intro v9 w9 r9 g9 m9; obtain ⟨z1, z2⟩ := R6.keepq HP.out g9; have T10 := R6.done HP.out g9 r9; obtain ⟨a9, n9, c9, hv9, hs9⟩ := r9.slice'; subst hv9; have z3 := T10.rd.cells.1; have H10 := Hid.mk' T10; clear T10 R1 R2 R3 R4 R5 R6 r9 g9 m9 hs9) | (go_at_call 32; refine hFl.mono ?_; rintro e w5 ⟨rfl, T5⟩; have T6 := TC.begin T5 #[.slice none 0 0, .bool true, .int .i64 0, .slice none 0 0]) | (go_at_call 33; refine (HBk.out T6 HKB.out).mono ?_; rintro e w7 ⟨a7, c7, rfl, S7, T7, G7⟩; obtain ⟨y0, y1, y2, y3, f0, f2, f3, yq⟩ := T7.facts; have T8 := T7.set HP.out 0 (.slice a7 key.length c7); obtain ⟨R1, R2, R3, R4, R5, R6⟩ := TC.ready (o := ⟨key, true, 0, []⟩) T8 (S7.grown (grown_set _ _ _ _) (Nat.le_refl _)) (Sb.nil _ _) in64_0; rw [World.size_setCell] at R2; simp only [List.length_nil] at R1 R2 R3 R4 R5 R6))
            have HRR : Hid (deR d = (acc ++ [⟨key, true, 0, []⟩], st2)) := HS1.out.1 HQ.out
            go_meet
            exact ⟨_, _, _, H10.out, HRR.out⟩
        | false =>
          obtain ⟨⟨m, st3⟩, hMM⟩ : ∃ x, rdN 4611686018427387904 st2 = x := ⟨_, rfl⟩
          obtain ⟨⟨vl, st4⟩, hVV⟩ : ∃ x, rdB 2048 st3 = x := ⟨_, rfl⟩
          have hde : deO st = (⟨key, false, (m : Int), vl⟩, st4) := by
            unfold deO
            rw [hF]
            simp only [Bool.false_eq_true, if_false]
            rw [hKB]
            simp only
            rw [hMM]
            simp only
            rw [hVV]
          rw [hde] at hst
          have HS1 : Hid _ := hst
          have HMM : Hid (rdN 4611686018427387904 st2 = (m, st3)) := hMM
          have HVV : Hid (rdB 2048 st3 = (vl, st4)) := hVV
          have hm63 : m ≤ 2 ^ 63 - 1 := by
            have := rdN_le (most := 4611686018427387904) (s := st2)
            rw [hMM] at this
            have h2 : m ≤ 4611686018427387904 := this
            omega
          have HIM : Hid (In64 (m : Int)) := ⟨by omega, by omega⟩
          clear hst hk HK hF hKB hde HST hMM hVV
          by_cases q : st4.2 = 0
          · have hne : ((st4.2 : Int) != 0) = false := by simp; omega
            have HQ : Hid (st4.2 = 0) := q
            clear q
            go_wp2_with (first | (at_builtin; refine wpList_appF opE (t := 22) (z := .agg #[.slice none 0 0, .bool false, .int .i64 0, .slice none 0 0]) (bytes := 64) Try.underlying22 opE_info rfl (by decide) rfl (.tmp 37) (.tmp 39) rfl rfl R1 rfl R2 R3 R4 (by have := HAL.out; omega) (by have := HAL.out; omega) R5 ?_; intro v9 w9 r9 g9 m9; obtain ⟨z1, z2⟩ := R6.keepq HP.out g9; have T10 := R6.done HP.out g9 r9; obtain ⟨a9, n9, c9, hv9, hs9⟩ := r9.slice'; subst hv9; have z3 := T10.rd.cells.1; have H10 := Hid.mk' T10; clear T10 R1 R2 R3 R4 R5 R6 r9 g9 m9 hs9) | (go_at_call 32; refine hFl.mono ?_; rintro e w5 ⟨rfl, T5⟩; have T6 := TC.begin T5 #[.slice none 0 0, .bool false, .int .i64 0, .slice none 0 0]; have HOB : Hid (w.heap.size + 1 ≤ w5.heap.size) := by show _ ≤ _; have := T5.sz; have := HP.out.hq; omega) | (go_at_call 33; refine (HBv.out T9' HVV.out).mono ?_; rintro e w10 ⟨a10, c10, rfl, S10, T10a, G10⟩; have S11 := S9'.grown G10 HOB.out; obtain ⟨p0, p1, p2, p3, h0, h2, h3, pq⟩ := T10a.facts; have T11a := T10a.set HP.out 3 (.slice a10 vl.length c10); have S12 := S11.grown (grown_set w10 w5.heap.size 3 (.slice a10 vl.length c10)) (Nat.le_refl _); have S13 := S10.grown (grown_set w10 w5.heap.size 3 (.slice a10 vl.length c10)) (Nat.le_refl _); obtain ⟨R1, R2, R3, R4, R5, R6⟩ := TC.ready (o := ⟨key, false, (m : Int), vl⟩) T11a S12 S13 HIM.out; rw [World.size_setCell] at R2) | (go_at_call 33; refine (HBk.out T6 HKB.out).mono ?_; rintro e w7 ⟨a7, c7, rfl, S7, T7, G7⟩; obtain ⟨y0, y1, y2, y3, f0, f2, f3, yq⟩ := T7.facts; have T8 := T7.set HP.out 0 (.slice a7 key.length c7); have S8 := S7.grown (grown_set w7 w5.heap.size 0 (.slice a7 key.length c7)) (Nat.le_refl _)) | (go_at_call 31; refine (HNu.out T8 HMM.out).mono ?_; rintro e w8 ⟨rfl, T9, G9⟩; have S9 := S8.grown G9 HOB.out; obtain ⟨x0, x1, x2, x3, e0, e2, e3, xq⟩ := T9.facts; have T9' := T9.set HP.out 2 (.int .i64 (m : Int)); have S9' := S9.grown (grown_set w8 w5.heap.size 2 (.int .i64 (m : Int))) (Nat.le_refl _)))
            go_roundg g
            case measure => omega
            case rel => exact ⟨k + 1, _, _, _, HAL.out.1, by go_num, H10.out, HS1.out.2 HQ.out, by have := HAL.out; simp; omega⟩
          · have hne : ((st4.2 : Int) != 0) = true := by simp; omega
            have HQ : Hid (st4.2 ≠ 0) := q
            clear q
            go_wp2_with (first | (at_builtin; refine wpList_appF opE (t := 22) (z := .agg #[.slice none 0 0, .bool false, .int .i64 0, .slice none 0 0]) (bytes := 64) Try.underlying22 opE_info rfl (by decide) rfl (.tmp 37) (.tmp 39) rfl rfl R1 rfl R2 R3 R4 (by have := HAL.out; omega) (by have := HAL.out; omega) R5 ?_; intro v9 w9 r9 g9 m9; obtain ⟨z1, z2⟩ := R6.keepq HP.out g9; have T10 := R6.done HP.out g9 r9; obtain ⟨a9, n9, c9, hv9, hs9⟩ := r9.slice'; subst hv9; have z3 := T10.rd.cells.1; have H10 := Hid.mk' T10; clear T10 R1 R2 R3 R4 R5 R6 r9 g9 m9 hs9) | (go_at_call 32; refine hFl.mono ?_; rintro e w5 ⟨rfl, T5⟩; have T6 := TC.begin T5 #[.slice none 0 0, .bool false, .int .i64 0, .slice none 0 0]; have HOB : Hid (w.heap.size + 1 ≤ w5.heap.size) := by show _ ≤ _; have := T5.sz; have := HP.out.hq; omega) | (go_at_call 33; refine (HBv.out T9' HVV.out).mono ?_; rintro e w10 ⟨a10, c10, rfl, S10, T10a, G10⟩; have S11 := S9'.grown G10 HOB.out; obtain ⟨p0, p1, p2, p3, h0, h2, h3, pq⟩ := T10a.facts; have T11a := T10a.set HP.out 3 (.slice a10 vl.length c10); have S12 := S11.grown (grown_set w10 w5.heap.size 3 (.slice a10 vl.length c10)) (Nat.le_refl _); have S13 := S10.grown (grown_set w10 w5.heap.size 3 (.slice a10 vl.length c10)) (Nat.le_refl _); obtain ⟨R1, R2, R3, R4, R5, R6⟩ := TC.ready (o := ⟨key, false, (m : Int), vl⟩) T11a S12 S13 HIM.out; rw [World.size_setCell] at R2) | (go_at_call 33; refine (HBk.out T6 HKB.out).mono ?_; rintro e w7 ⟨a7, c7, rfl, S7, T7, G7⟩; obtain ⟨y0, y1, y2, y3, f0, f2, f3, yq⟩ := T7.facts; have T8 := T7.set HP.out 0 (.slice a7 key.length c7); have S8 := S7.grown (grown_set w7 w5.heap.size 0 (.slice a7 key.length c7)) (Nat.le_refl _)) | (go_at_call 31; refine (HNu.out T8 HMM.out).mono ?_; rintro e w8 ⟨rfl, T9, G9⟩; have S9 := S8.grown G9 HOB.out; obtain ⟨x0, x1, x2, x3, e0, e2, e3, xq⟩ := T9.facts; have T9' := T9.set HP.out 2 (.int .i64 (m : Int)); have S9' := S9.grown (grown_set w8 w5.heap.size 2 (.int .i64 (m : Int))) (Nat.le_refl _)))
            have HRR : Hid (deR d = (acc ++ [⟨key, false, (m : Int), vl⟩], st4)) := HS1.out.1 HQ.out
            go_meet
            exact ⟨_, _, _, H10.out, HRR.out⟩
      · have hkl' : (n : Int) ≤ (k : Int) := by omega
        obtain rfl : gk = 0 := by omega
        have HF : Hid (TB w w.heap.size (w.heap.size + 1) w2.heap.size (w2.heap.size + 1) wr (n1 : Int) v acc st ∧ deR d = (acc, st)) := ⟨HK.out.1, by rw [HK.out.2.1]; simp [deOs]⟩
        clear hk HK hkl
        go_wp2_with fail
        go_meet
        exact ⟨_, _, _, HF⟩
end Go.Proofs.Ytcielnkkbccldaa
