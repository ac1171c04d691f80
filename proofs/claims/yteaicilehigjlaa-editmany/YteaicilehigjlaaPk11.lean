import Derived.Laws.OwnMore
import Derived.Test.YteaicilehigjlaaPk09
import Derived.Test.YteaicilehigjlaaPk10
/- What the landed edit's May answers: numbers that are unlike, lines, the edit. -/
namespace Go.Proofs.Yteaicilehigjlaa
open Go.RowKit
set_option linter.unusedVariables false
set_option linter.unusedSimpArgs false

theorem run_makeMap_hint (n : Int) (w : World) : (Instr.makeMap 72 (some (.int .i64 n))).run Try.prog w = .ok (.map (some w.heap.size)) (w.alloc (.map #[] 0)) := by
  have h1 := run_underlying (w := w) underI
  simp [Instr.makeMap, h1, asInt, Result.andThen]
  rfl
set_option maxHeartbeats 4000000 in
set_option maxRecDepth 100000 in
theorem eapart_any {w : World} {ao : Option Addr} {len cap : Nat} {l : List Int} (h : RS i64E w ao len cap l) (hl : len ≤ 1000000) :
    Calls Try.prog 41 #[.slice ao len cap] w fun e w' => e = .returned (.bool (decide l.Nodup)) ∧ Below w.heap.size w w' := by
  have hln : l.length = len := h.len.1
  have HS : Hid (RS i64E w ao len cap l ∧ l.length = len ∧ len ≤ 1000000) := ⟨h, hln, hl⟩
  have H0 : Hid (MapI (w.alloc (.map #[] 0)) w.heap.size 0 (l.take 0) ∧ Below w.heap.size w (w.alloc (.map #[] 0))) := ⟨mapI_new w, (Below.refl _ _).alloc (Nat.le_refl _) _⟩
  have hmk : ∀ (n : Int) (wx : World), (Instr.makeMap 72 (some (.int .i64 n))).run Try.prog wx = .ok (.map (some wx.heap.size)) (wx.alloc (.map #[] 0)) := fun n wx => run_makeMap_hint n wx
  have hl62 : len ≤ 2 ^ 61 := by omega
  clear h
  go_enter Try.func41, Try.ntmps41
  go_wp2_with fail
  go_loopg [5, 11] len (fun g _ i wr => ∃ k : Nat, k + g = len ∧ i = .int .i64 (k : Int) ∧ Hid (MapI wr w.heap.size k (l.take k) ∧ Below w.heap.size w wr))
  case atStart => exact ⟨0, by omega, rfl, H0⟩
  case round =>
    obtain ⟨k, hk, rfl, HK⟩ := hrel
    by_cases hkl : k < len
    · have hkl' : (k : Int) < (len : Int) := by omega
      have hkx : k < l.length := by omega
      have bel := HK.out.2
      have HT : Hid (l.take (k + 1) = l.take k ++ [l[k]]) := by show _ = _; rw [List.take_add_one, List.getElem?_eq_getElem hkx]; rfl
      obtain ⟨b, off, rfl, d0, i0⟩ := RS.i64 (HS.out.1.later bel) (List.getElem?_eq_getElem hkx)
      generalize l[k] = x at d0 i0 HT
      obtain ⟨c, L0⟩ := HK.out.1.look i0
      obtain ⟨w3, S3, M3, g3⟩ := HK.out.1.put (by omega) (x := x) (c := wrap64 (c + 1)) i0 (by unfold wrap64; constructor <;> omega)
      have HM : Hid (MapI w3 w.heap.size (k + 1) (l.take (k + 1)) ∧ Below w.heap.size w w3) := ⟨by rw [HT.out]; exact M3, Below.grown bel g3 bel.size (fun j e => by simp only [Option.some.injEq] at e; omega)⟩
      have hk62 : k ≤ 2 ^ 61 := by omega
      obtain ⟨GK, HG⟩ : ∃ g, Hid (g < gk ∧ k + 1 + g = len) := ⟨gk - 1, by omega, by omega⟩
      clear hk bel HK M3 g3 hmk i0 hkx
      go_wp2_with fail
      go_roundg GK
      case measure => exact HG.out.1
      case rel => exact ⟨k + 1, HG.out.2, by go_num, HM.out⟩
    · have hkl' : (len : Int) ≤ (k : Int) := by omega
      have ht : l.take k = l := List.take_of_length_le (by omega)
      have M := HK.out.1
      rw [ht] at M
      have hlen := fun ty => M.len ty
      have HB : Hid (Below w.heap.size w wr) := HK.out.2
      have hdr := dc_rev l
      have hdl : dc l.reverse ≤ len := by have := dc_le l.reverse; rw [List.length_reverse] at this; omega
      rw [hln] at hdr
      have HD : Hid (dc l.reverse = len ↔ l.Nodup) := hdr
      generalize dc l.reverse = n at hlen HD hdl
      have hn62 : n ≤ 2 ^ 61 := by omega
      clear hk HK hkl M ht hmk hdr H0
      go_wp2_with fail
      refine bodyPost_ret (v := .bool ((n : Int) == (len : Int))) (by simp [results, Try.results41, go_sem]) rfl ⟨?_, HB.out⟩
      refine congrArg (fun b => Ending.returned (.bool b)) ?_
      rw [Bool.eq_iff_iff, beq_iff_eq, decide_eq_true_eq, ← HD.out]
      omega
theorem mayAd_long {l : List LnV} (h : 200 < l.length) : mayAd l = false := by
  unfold mayAd
  rw [decide_eq_false (by omega)]
  rfl
theorem mayRm_long {l : List Int} (h : 200 < l.length) : mayRm l = false := by
  unfold mayRm
  rw [decide_eq_false (by omega)]
  rfl
theorem all_take_bad {α : Type} {p : α → Bool} {l : List α} {k : Nat} {x : α} (h : l[k]? = some x) (hp : p x = false) : l.all p = false := by
  obtain ⟨hk, rfl⟩ := List.getElem?_eq_some_iff.1 h
  rw [List.all_eq_false]
  exact ⟨_, List.getElem_mem hk, by rw [hp]; simp⟩
theorem all_take_next {α : Type} {p : α → Bool} {l : List α} {k : Nat} {x : α} (h : l[k]? = some x) (hp : p x = true) (ha : (l.take k).all p = true) : (l.take (k + 1)).all p = true := by
  obtain ⟨hk, rfl⟩ := List.getElem?_eq_some_iff.1 h
  rw [List.take_add_one, List.getElem?_eq_getElem hk, List.all_append, ha]
  simpa using hp
set_option maxHeartbeats 4000000 in
set_option maxRecDepth 100000 in
theorem erm_any {w : World} {ao : Option Addr} {len cap : Nat} {l : List Int} (h : RS i64E w ao len cap l) :
    Calls Try.prog 29 #[.slice ao len cap] w fun e w' => e = .returned (.bool (mayRm l)) ∧ Below w.heap.size w w' := by
  have hln : l.length = len := h.len.1
  have hl63 : len ≤ 2 ^ 63 - 1 := by have := h.len.2; unfold maxLen at this; omega
  by_cases q : 200 < len
  · rw [mayRm_long (by omega)]
    have q' : (200 : Int) < (len : Int) := by omega
    clear h q
    go_enter Try.func29, Try.ntmps29
    go_wp2_with fail
    exact bodyPost_ret (v := .bool false) (by simp [results, Try.results29, go_sem]) rfl ⟨rfl, Below.refl _ _⟩
  have q' : (len : Int) ≤ 200 := by omega
  have HS : Hid (RS i64E w ao len cap l ∧ l.length = len ∧ len ≤ 200) := ⟨h, hln, by omega⟩
  have hA := eapart_any h (by omega)
  have HR : Hid (mayRm l = (l.all mayNo && decide l.Nodup)) := by
    show _ = _
    unfold mayRm
    rw [decide_eq_true (by omega : l.length ≤ 200)]
    rfl
  clear h q
  go_enter Try.func29, Try.ntmps29
  go_wp2_with fail
  go_loopg [4, 10] len (fun g _ i wr => ∃ k : Nat, k + g = len ∧ i = .int .i64 (k : Int) ∧ wr = w ∧ Hid ((l.take k).all mayNo = true))
  case atStart => exact ⟨0, by omega, rfl, rfl, by show _ = _; simp⟩
  case round =>
    obtain ⟨k, hk, rfl, hw, HK⟩ := hrel
    obtain rfl := hw.symm
    by_cases hkl : k < len
    · have hkl' : (k : Int) < (len : Int) := by omega
      have hkx : k < l.length := by omega
      have hox := List.getElem?_eq_getElem hkx
      obtain ⟨b, off, rfl, d0, i0⟩ := RS.i64 HS.out.1 hox
      have HOX := hidE hox
      generalize l[k] = x at d0 i0 HOX
      clear hox
      have hN := fun wx => emno_any (w := wx) (n := x)
      obtain ⟨m, hm⟩ : ∃ m, m = mayNo x := ⟨_, rfl⟩
      rw [← hm] at hN
      have HM := hidE hm
      clear hm i0 hA
      have hk62 : k ≤ 2 ^ 61 := by omega
      obtain ⟨GK, HG⟩ : ∃ g, Hid (g < gk ∧ k + 1 + g = len) := ⟨gk - 1, by omega, by omega⟩
      cases m
      · have HF : Hid (mayRm l = false) := by show _ = _; rw [HR.out, all_take_bad HOX.out HM.out.symm]; rfl
        clear hk
        go_wp2_with (go_at_call 19; refine (hN _).mono ?_; rintro e w2 ⟨rfl, hw⟩; obtain rfl := hw.symm)
        exact bodyPost_ret (v := .bool false) (by simp [results, Try.results29, go_sem]) rfl ⟨by rw [HF.out], Below.refl _ _⟩
      · have HN : Hid ((l.take (k + 1)).all mayNo = true) := all_take_next HOX.out HM.out.symm HK.out
        clear hk HK
        go_wp2_with (go_at_call 19; refine (hN _).mono ?_; rintro e w2 ⟨rfl, hw⟩; obtain rfl := hw.symm)
        go_roundg GK
        case measure => exact HG.out.1
        case rel => exact ⟨k + 1, HG.out.2, by go_num, rfl, HN⟩
    · have hkl' : (len : Int) ≤ (k : Int) := by omega
      have HF : Hid (mayRm l = decide l.Nodup) := by
        show _ = _
        have := HK.out
        rw [List.take_of_length_le (by omega)] at this
        rw [HR.out, this]
        rfl
      clear hk HK hkl
      go_wp2_with (go_at_call 41; refine hA.mono ?_; rintro e w2 ⟨rfl, b2⟩)
      exact bodyPost_ret (v := .bool (decide l.Nodup)) (by simp [results, Try.results29, go_sem]) rfl ⟨by rw [HF.out], b2⟩
set_option maxHeartbeats 4000000 in
set_option maxRecDepth 100000 in
theorem ead_any {w : World} {ao : Option Addr} {len cap : Nat} {l : List LnV} (h : RS lnE w ao len cap l) :
    Calls Try.prog 28 #[.slice ao len cap] w fun e w' => e = .returned (.bool (mayAd l)) ∧ Below w.heap.size w w' := by
  have hln : l.length = len := h.len.1
  have hl63 : len ≤ 2 ^ 63 - 1 := by have := h.len.2; unfold maxLen at this; omega
  by_cases q : 200 < len
  · rw [mayAd_long (by omega)]
    have q' : (200 : Int) < (len : Int) := by omega
    clear h q
    go_enter Try.func28, Try.ntmps28
    go_wp2_with fail
    exact bodyPost_ret (v := .bool false) (by simp [results, Try.results28, go_sem]) rfl ⟨rfl, Below.refl _ _⟩
  have q' : (len : Int) ≤ 200 := by omega
  have HS : Hid (RS lnE w ao len cap l ∧ l.length = len ∧ len ≤ 200) := ⟨h, hln, by omega⟩
  have HR : Hid (mayAd l = (l.all mayLn && decide (nosL l).Nodup)) := by
    show _ = _
    unfold mayAd
    rw [decide_eq_true (by omega : l.length ≤ 200)]
    rfl
  obtain ⟨i0, hi, hz, hsize, hbytes⟩ := info_parts i64E_info
  have HI : Hid (len ≤ 200) := by show _ ≤ _; omega
  clear h q
  go_enter Try.func28, Try.ntmps28
  go_wp2_with (at_make; refine wpList_make_own w rfl _ _ 28 rfl w.heap.size 2 i0 (.int .i64 0) 1 Try.underlying28 hi hz hsize .i64 .i64 _ len rfl rfl (by omega) (by rw [hbytes]; have := HI.out; omega) (by have := HI.out; simp only [maxLen]; omega) (Nat.le_refl _) ?_; intro w1 hr1 hg1; have H0 : Hid (RowF i64E w.heap.size (fun _ => True) w1 (.slice (some ⟨w.heap.size, 0, none⟩) 0 len) (nosL (l.take 0)) ∧ Below w.heap.size w w1) := ⟨⟨[], hr1, rfl, (fun u hu => by cases hu), fun u hu => by cases hu⟩, Below.grown (Below.refl _ _) hg1 (Nat.le_refl _) (fun k hk => by cases hk)⟩; clear hr1 hg1)
  clear hi hz hsize hbytes
  go_loopg [3, 5, 14] len (fun g v _ i wr => ∃ k : Nat, k + g = len ∧ i = .int .i64 (k : Int) ∧ Hid (RowF i64E w.heap.size (fun _ => True) wr v (nosL (l.take k)) ∧ Below w.heap.size w wr ∧ (l.take k).all mayLn = true))
  case atStart => exact ⟨0, by omega, rfl, H0.out.1, H0.out.2, by simp⟩
  case round =>
    obtain ⟨k, hk, rfl, HK⟩ := hrel
    obtain ⟨va, vn, vc, hv, hvn⟩ := HK.out.1.slice'
    subst hv
    clear hvn
    by_cases hkl : k < len
    · have hkl' : (k : Int) < (len : Int) := by omega
      have hkx : k < l.length := by omega
      have hox := List.getElem?_eq_getElem hkx
      have bel := HK.out.2.1
      obtain ⟨b, off, la, lc, ma, mc, rfl, d0, d1, d2, d3, d4, k1, k2, j1, j2, j3⟩ := RS.ln (HS.out.1.later bel) hox
      have HOX := hidE hox
      generalize l[k] = x at d0 d1 d2 d3 d4 k1 k2 j1 HOX
      clear hox
      obtain ⟨W1, hW1⟩ : ∃ W1, W1 = wr.alloc (.cells #[.int .i64 x.num, .int .i64 x.lvl, .int .i64 x.size, .slice la x.least.length lc, .slice ma x.most.length mc] 24) := ⟨_, rfl⟩
      have b1 : Below wr.heap.size wr W1 := by rw [hW1]; exact (Below.refl _ _).alloc (Nat.le_refl _) _
      have hT := emtab_any (k1.later b1) (k2.later b1)
      have B1 := bel.trans (b1.mono bel.size)
      have R1 := HK.out.1.later b1
      have c0 : W1.cell? ⟨wr.heap.size, 0, none⟩ = some (.int .i64 x.num) := by rw [hW1, cell_of (heap_alloc_new wr _)]; rfl
      obtain ⟨m, hm⟩ : ∃ m, m = mayLn x := ⟨_, rfl⟩
      rw [← hm] at hT
      have HM := hidE hm
      have hnt : (nosL (l.take k)).length ≤ 200 := by unfold nosL; rw [List.length_map, List.length_take]; have := HS.out; omega
      have HB1 := hidE (And.intro B1 (And.intro R1 (And.intro c0 (And.intro j1 hnt))))
      have HW1 := hidE hW1
      rw [hW1] at hT
      have hk62 : k ≤ 2 ^ 61 := by omega
      obtain ⟨GK, HG⟩ : ∃ g, Hid (g < gk ∧ k + 1 + g = len) := ⟨gk - 1, by omega, by omega⟩
      have HALL : Hid ((l.take k).all mayLn = true) := HK.out.2.2
      generalize x.least.length = nl at d3 hT HW1
      generalize x.most.length = nm at d4 hT HW1
      clear hm k1 k2 bel b1 B1 R1 c0 hW1 HK hnt
      cases m
      · have HF : Hid (mayAd l = false) := by show _ = _; rw [HR.out, all_take_bad HOX.out HM.out.symm]; rfl
        clear hk
        go_wp2_with (go_at_call 8; refine hT.mono ?_; rintro e w2 ⟨rfl, b2⟩; rw [← HW1.out] at b2)
        exact bodyPost_ret (v := .bool false) (by simp [results, Try.results28, go_sem]) rfl ⟨by rw [HF.out], HB1.out.1.trans (b2.mono HB1.out.1.size)⟩
      · have HN : Hid ((l.take (k + 1)).all mayLn = true ∧ nosL (l.take (k + 1)) = nosL (l.take k) ++ [x.num]) := by
          refine ⟨all_take_next HOX.out HM.out.symm HALL.out, ?_⟩
          have h9 := List.getElem?_eq_some_iff.1 HOX.out
          obtain ⟨h8, h7⟩ := h9
          unfold nosL
          rw [List.take_add_one, List.getElem?_eq_getElem h8, List.map_append, h7]
          rfl
        clear hk
        go_wp2_with (first | (go_at_call 8; refine hT.mono ?_; rintro e w2 ⟨rfl, b2⟩; rw [← HW1.out] at b2; have B2 := HB1.out.1.trans (b2.mono HB1.out.1.size); have R2 := HB1.out.2.1.later b2; have c2 := cell_later b2 HB1.out.2.2.1; have b3 : Below w2.heap.size w2 (w2.alloc (.cells #[.int .i64 x.num] 2)) := (Below.refl _ _).alloc (Nat.le_refl _) _; have R3 := R2.later b3; have B3 := B2.trans (b3.mono B2.size); have ho := rs_one (E := i64E) (w := w2) (vs := [.int .i64 x.num]) (x := x.num) ⟨rfl, HB1.out.2.2.2.1⟩) | (at_builtin; refine wpList_appF i64E (t := 28) (z := .int .i64 0) (bytes := 8) Try.underlying28 i64E_info rfl (by decide) rfl (.tmp 21) (.tmp 24) rfl rfl R3 rfl ho (fun u hu b hr => by rw [List.mem_singleton.1 hu] at hr; exact (refs_int hr).elim) (fun u hu b hr => trivial) (by have := HB1.out.2.2.2.2; omega) (by have := HB1.out.2.2.2.2; omega) B3.size ?_; intro v9 w9 r9 g9 m9; have B9 := Below.grown B3 g9 B3.size (fun k e => (R3.own_lt e).1); have H9 := hidE (And.intro r9 B9); clear B3 R3 B2 R2 r9 g9 m9 B9))
        go_roundg GK
        case measure => exact HG.out.1
        case rel => exact ⟨k + 1, HG.out.2, by go_num, by rw [HN.out.2]; exact H9.out.1, H9.out.2, HN.out.1⟩
    · have hkl' : (len : Int) ≤ (k : Int) := by omega
      have ht : l.take k = l := List.take_of_length_le (by omega)
      have HK2 := HK.out
      rw [ht] at HK2
      have HF : Hid (mayAd l = decide (nosL l).Nodup ∧ Below w.heap.size w wr) := by
        refine ⟨?_, HK2.2.1⟩
        rw [HR.out, HK2.2.2]
        rfl
      obtain ⟨a9, c9, e9, s9⟩ := HK2.1.slice
      simp only [Value.slice.injEq] at e9
      obtain ⟨rfl, rfl, rfl⟩ := e9
      have hA := eapart_any s9 (by unfold nosL; rw [List.length_map]; omega)
      clear hk HK hkl HK2 ht s9
      go_wp2_with (go_at_call 41; refine hA.mono ?_; rintro e w2 ⟨rfl, b2⟩)
      exact bodyPost_ret (v := .bool (decide (nosL l).Nodup)) (by simp [results, Try.results28, go_sem]) rfl ⟨by rw [HF.out.1], HF.out.2.trans (b2.mono HF.out.2.size)⟩
end Go.Proofs.Yteaicilehigjlaa

/- What the document's own MayEdit answers, and the landed May. -/
namespace Go.Proofs.Yteaicilehigjlaa
open Go.RowKit
set_option linter.unusedVariables false
set_option linter.unusedSimpArgs false

theorem run_headG {t : TypeId} (ht : Try.prog.underlying t = some (.slice (Try.prog.elem t))) {n : Nat} (w : World) (hn : (sizeOf (Try.prog.elem t)).run Try.prog w = .ok n w) (b off len cap j : Nat) (h2 : j ≤ cap) : (Instr.slice t (.slice (some ⟨b, off, none⟩) len cap) none (some (.int .i64 (j : Int))) none).run Try.prog w = .ok (.slice (some ⟨b, off, none⟩) j cap) w := by
  rw [run_slice_h (P := Try.prog) (w := w) t (some ⟨b, off, none⟩) len cap ht .i64 (j : Int) (by omega) (by omega), hn]
  simp only [Result.andThen, Int.toNat_natCast]
  unfold sliced
  simp [Addr.add]
theorem elemTs : Try.prog.elem 27 = 24 := by kernel_rfl
theorem underTs : Try.prog.underlying 27 = some (.slice (Try.prog.elem 27)) := by rw [elemTs]; exact Try.underlying27
theorem elemIs : Try.prog.elem 28 = 2 := by kernel_rfl
theorem underIs : Try.prog.underlying 28 = some (.slice (Try.prog.elem 28)) := by rw [elemIs]; exact Try.underlying28
theorem run_headT (w : World) (b off len cap j : Nat) (h2 : j ≤ cap) : (Instr.slice 27 (.slice (some ⟨b, off, none⟩) len cap) none (some (.int .i64 (j : Int))) none).run Try.prog w = .ok (.slice (some ⟨b, off, none⟩) j cap) w :=
  run_headG underTs w (by rw [elemTs, Try.sizeOf24]) b off len cap j h2
theorem run_headI (w : World) (b off len cap j : Nat) (h2 : j ≤ cap) : (Instr.slice 28 (.slice (some ⟨b, off, none⟩) len cap) none (some (.int .i64 (j : Int))) none).run Try.prog w = .ok (.slice (some ⟨b, off, none⟩) j cap) w :=
  run_headG underIs w (by rw [elemIs, Try.sizeOf2]) b off len cap j h2
/-- An edit as a value. -/
def edV (e : EdV) (aa : Option Addr) (ac : Nat) (ra : Option Addr) (rc : Nat) : Value := .agg #[.int .i64 e.log, .int .i64 e.next, .int .i64 e.seq, .slice aa e.add.length ac, .slice ra e.rem.length rc]
/-- What an edit that came in owes. -/
structure EdM (w : World) (e : EdV) (aa : Option Addr) (ac : Nat) (ra : Option Addr) (rc : Nat) : Prop where
  log : In64 e.log
  next : In64 e.next
  seq : In64 e.seq
  add : RS lnE w aa e.add.length ac e.add
  rem : RS i64E w ra e.rem.length rc e.rem
theorem EdM.later {w w' : World} {e : EdV} {aa ra : Option Addr} {ac rc : Nat} (h : EdM w e aa ac ra rc) (hb : Below w.heap.size w w') : EdM w' e aa ac ra rc := ⟨h.log, h.next, h.seq, h.add.later hb, h.rem.later hb⟩
/-- The five cells of an edit that was laid into a box. -/
theorem box5 (w : World) (c0 c1 c2 c3 c4 : Value) (t : TypeId) {wx : World} (hb : Below (w.alloc (.cells #[c0, c1, c2, c3, c4] t)).heap.size (w.alloc (.cells #[c0, c1, c2, c3, c4] t)) wx) :
    wx.cell? ⟨w.heap.size, 0, none⟩ = some c0 ∧ wx.cell? ⟨w.heap.size, 1, none⟩ = some c1 ∧ wx.cell? ⟨w.heap.size, 2, none⟩ = some c2 ∧ wx.cell? ⟨w.heap.size, 3, none⟩ = some c3 ∧ wx.cell? ⟨w.heap.size, 4, none⟩ = some c4 := by
  have h := heap_alloc_new w (.cells #[c0, c1, c2, c3, c4] t)
  exact ⟨cell_later hb (by rw [cell_of h]; rfl), cell_later hb (by rw [cell_of h]; rfl), cell_later hb (by rw [cell_of h]; rfl), cell_later hb (by rw [cell_of h]; rfl), cell_later hb (by rw [cell_of h]; rfl)⟩
set_option maxHeartbeats 4000000 in
set_option maxRecDepth 100000 in
theorem emay_any {w : World} {e : EdV} {aa ra : Option Addr} {ac rc : Nat} (h : EdM w e aa ac ra rc) :
    Calls Try.prog 14 #[edV e aa ac ra rc] w fun r w' => r = .returned (.bool (mayEd e)) ∧ Below w.heap.size w w' := by
  obtain ⟨log, next, seq, add, rem⟩ := e
  obtain ⟨i1, i2, i3, ha, hr⟩ := h
  unfold edV mayEd
  simp only at i1 i2 i3 ha hr ⊢
  have hbx := fun (wx : World) hb => box5 w (.int .i64 log) (.int .i64 next) (.int .i64 seq) (.slice aa add.length ac) (.slice ra rem.length rc) 30 (wx := wx) hb
  obtain ⟨W, hW⟩ : ∃ W, W = w.alloc (.cells #[.int .i64 log, .int .i64 next, .int .i64 seq, .slice aa add.length ac, .slice ra rem.length rc] 30) := ⟨_, rfl⟩
  have hWb : Below w.heap.size w W := by rw [hW]; exact (Below.refl _ w).alloc (Nat.le_refl _) _
  rw [← hW] at hbx
  have hA := ead_any (ha.later hWb)
  have HR : Hid (∀ wx, Below W.heap.size W wx → Calls Try.prog 29 #[.slice ra rem.length rc] wx fun e w' => e = .returned (.bool (mayRm rem)) ∧ Below wx.heap.size wx w') := fun wx hb => erm_any ((hr.later hWb).later hb)
  have hM1 := fun wx => emmk_any (w := wx) (n := log)
  have hM2 := fun wx => emmk_any (w := wx) (n := next)
  have hM3 := fun wx => emmk_any (w := wx) (n := seq)
  obtain ⟨b1, h1⟩ : ∃ b, b = mayMk log := ⟨_, rfl⟩
  obtain ⟨b2, h2⟩ : ∃ b, b = mayMk next := ⟨_, rfl⟩
  obtain ⟨b3, h3⟩ : ∃ b, b = mayMk seq := ⟨_, rfl⟩
  obtain ⟨b4, h4⟩ : ∃ b, b = mayAd add := ⟨_, rfl⟩
  obtain ⟨b5, h5⟩ : ∃ b, b = mayRm rem := ⟨_, rfl⟩
  rw [← h1] at hM1 ⊢
  rw [← h2] at hM2 ⊢
  rw [← h3] at hM3 ⊢
  rw [← h4] at hA ⊢
  rw [← h5] at HR ⊢
  have HBX := hidE hbx
  have HWB := hidE hWb
  have HW := hidE hW
  obtain ⟨x0, x1, x2, x3, x4⟩ := hbx _ (Below.refl _ _)
  generalize add.length = na at x3 hA HW HBX
  generalize rem.length = nr at x4 HR HW HBX
  rw [HW.out] at x0 x1 x2 x3 x4 hA
  clear h1 h2 h3 h4 h5 ha hr hWb hW hbx i1 i2 i3
  cases b1
  · go_enter Try.func14, Try.ntmps14
    go_wp2_with (go_at_call 27; refine (hM1 _).mono ?_; rintro e w2 ⟨rfl, hw⟩; obtain rfl := hw.symm)
    exact bodyPost_ret (v := .bool false) (by simp [results, Try.results14, go_sem]) rfl ⟨by simp, by rw [← HW.out]; exact HWB.out⟩
  cases b2
  · go_enter Try.func14, Try.ntmps14
    go_wp2_with (first | (go_at_call_of 27 (Value.int .i64 log); refine (hM1 _).mono ?_; rintro e w2 ⟨rfl, hw⟩; obtain rfl := hw.symm; clear hM1) | (go_at_call_of 27 (Value.int .i64 next); refine (hM2 _).mono ?_; rintro e w2 ⟨rfl, hw⟩; obtain rfl := hw.symm; clear hM2))
    exact bodyPost_ret (v := .bool false) (by simp [results, Try.results14, go_sem]) rfl ⟨by simp, by rw [← HW.out]; exact HWB.out⟩
  cases b3
  · go_enter Try.func14, Try.ntmps14
    go_wp2_with (first | (go_at_call_of 27 (Value.int .i64 log); refine (hM1 _).mono ?_; rintro e w2 ⟨rfl, hw⟩; obtain rfl := hw.symm; clear hM1) | (go_at_call_of 27 (Value.int .i64 next); refine (hM2 _).mono ?_; rintro e w2 ⟨rfl, hw⟩; obtain rfl := hw.symm; clear hM2) | (go_at_call_of 27 (Value.int .i64 seq); refine (hM3 _).mono ?_; rintro e w2 ⟨rfl, hw⟩; obtain rfl := hw.symm))
    exact bodyPost_ret (v := .bool false) (by simp [results, Try.results14, go_sem]) rfl ⟨by simp, by rw [← HW.out]; exact HWB.out⟩
  cases b4
  · go_enter Try.func14, Try.ntmps14
    go_wp2_with (first | (go_at_call_of 27 (Value.int .i64 log); refine (hM1 _).mono ?_; rintro e w2 ⟨rfl, hw⟩; obtain rfl := hw.symm; clear hM1) | (go_at_call_of 27 (Value.int .i64 next); refine (hM2 _).mono ?_; rintro e w2 ⟨rfl, hw⟩; obtain rfl := hw.symm; clear hM2) | (go_at_call_of 27 (Value.int .i64 seq); refine (hM3 _).mono ?_; rintro e w2 ⟨rfl, hw⟩; obtain rfl := hw.symm; clear hM3) | (go_at_call 28; refine hA.mono ?_; rintro e w3 ⟨rfl, c3⟩; rw [← HW.out] at c3))
    exact bodyPost_ret (v := .bool false) (by simp [results, Try.results14, go_sem]) rfl ⟨by simp, HWB.out.trans (c3.mono HWB.out.size)⟩
  · go_enter Try.func14, Try.ntmps14
    go_wp2_with (first | (go_at_call_of 27 (Value.int .i64 log); refine (hM1 _).mono ?_; rintro e w2 ⟨rfl, hw⟩; obtain rfl := hw.symm; clear hM1) | (go_at_call_of 27 (Value.int .i64 next); refine (hM2 _).mono ?_; rintro e w2 ⟨rfl, hw⟩; obtain rfl := hw.symm; clear hM2) | (go_at_call_of 27 (Value.int .i64 seq); refine (hM3 _).mono ?_; rintro e w2 ⟨rfl, hw⟩; obtain rfl := hw.symm; clear hM3) | (go_at_call 28; refine hA.mono ?_; rintro e w3 ⟨rfl, c3⟩; rw [← HW.out] at c3; obtain ⟨y0, y1, y2, y3, y4⟩ := HBX.out _ c3) | (go_at_call 29; refine (HR.out _ c3).mono ?_; rintro e w4 ⟨rfl, c4⟩))
    exact bodyPost_ret (v := .bool b5) (by simp [results, Try.results14, go_sem]) rfl ⟨by simp, HWB.out.trans ((c3.trans (c4.mono c3.size)).mono HWB.out.size)⟩
end Go.Proofs.Yteaicilehigjlaa

/- The document's own SameNumbers, SameTables, SameEdit, of what is the same. -/
namespace Go.Proofs.Yteaicilehigjlaa
open Go.RowKit
set_option linter.unusedVariables false
set_option linter.unusedSimpArgs false

set_option maxHeartbeats 1000000 in
set_option maxRecDepth 100000 in
theorem rsameN_eq {w : World} {a1 a2 : Option Addr} {len c1 c2 : Nat} {os : List Int} (h1 : RS i64E w a1 len c1 os) (h2 : RS i64E w a2 len c2 os) :
    Calls Try.prog 37 #[.slice a1 len c1, .slice a2 len c2] w fun e w' => e = .returned (.bool true) ∧ Below w.heap.size w w' := by
  have hl := h1.len
  have hl63 : len ≤ 2 ^ 63 - 1 := by have := hl.2; unfold maxLen at this; omega
  have HS : Hid (RS i64E w a1 len c1 os ∧ RS i64E w a2 len c2 os) := ⟨h1, h2⟩
  have hln := hl.1
  have hne : ((len : Int) != (len : Int)) = false := by simp
  clear h1 h2 hl
  go_enter Try.func37, Try.ntmps37
  go_wp2_with fail
  go_loopg [5, 13] len (fun g _ i wr => ∃ k : Nat, k + g = len ∧ i = .int .i64 (k : Int) ∧ Hid (Below w.heap.size w wr))
  case atStart => exact ⟨0, by omega, rfl, Below.refl _ _⟩
  case round =>
    obtain ⟨k, hk, rfl, HK⟩ := hrel
    by_cases hkl : k < len
    · have hkl' : (k : Int) < (len : Int) := by omega
      have hko : k < os.length := by omega
      have hox := List.getElem?_eq_getElem hko
      obtain ⟨b, off, rfl, d0, -⟩ := RS.i64 (HS.out.1.later HK.out) hox
      obtain ⟨b', off', rfl, e0, -⟩ := RS.i64 (HS.out.2.later HK.out) hox
      generalize os[k] = o at d0 e0
      have n3 : (o != o) = false := by simp
      have hk62 : k ≤ 2 ^ 63 - 2 := by omega
      obtain ⟨GK, HG⟩ : ∃ g, Hid (g < gk ∧ k + 1 + g = len) := ⟨gk - 1, by omega, by omega⟩
      clear hk hox
      go_wp2_with fail
      go_region_with (fail)
      all_goals
        have HW : Hid (Below w.heap.size w wr.drew) := HK.out.trans ((Below.refl _ _).drew.mono HK.out.size)
        go_wp2_with fail
        go_roundg GK
        case measure => exact HG.out.1
        case rel => exact ⟨k + 1, HG.out.2, by go_num, HW⟩
    · have hkl' : (len : Int) ≤ (k : Int) := by omega
      have HW : Hid (Below w.heap.size w wr) := HK.out
      clear hk HK
      go_wp2_with fail
      exact bodyPost_ret (v := .bool true) (by simp [results, Try.results37, go_sem]) rfl ⟨rfl, HW.out⟩

set_option maxHeartbeats 4000000 in
set_option maxRecDepth 100000 in
theorem rsameT_eq {w : World} {a1 a2 : Option Addr} {len c1 c2 : Nat} {os : List LnV} (h1 : RS lnE w a1 len c1 os) (h2 : RS lnE w a2 len c2 os) :
    Calls Try.prog 36 #[.slice a1 len c1, .slice a2 len c2] w fun e w' => e = .returned (.bool true) ∧ Below w.heap.size w w' := by
  have hl := h1.len
  have hl63 : len ≤ 2 ^ 63 - 1 := by have := hl.2; unfold maxLen at this; omega
  have HS : Hid (RS lnE w a1 len c1 os ∧ RS lnE w a2 len c2 os) := ⟨h1, h2⟩
  have hln := hl.1
  have hne : ((len : Int) != (len : Int)) = false := by simp
  clear h1 h2 hl
  go_enter Try.func36, Try.ntmps36
  go_wp2_with fail
  go_loopg [5, 6, 7, 15] len (fun g _ _ _ i wr => ∃ k : Nat, k + g = len ∧ i = .int .i64 (k : Int) ∧ Hid (Below w.heap.size w wr))
  case atStart => exact ⟨0, by omega, rfl, Below.refl _ _⟩
  case round =>
    obtain ⟨k, hk, rfl, HK⟩ := hrel
    by_cases hkl : k < len
    · have hkl' : (k : Int) < (len : Int) := by omega
      have hko : k < os.length := by omega
      have hox := List.getElem?_eq_getElem hko
      obtain ⟨b, off, ka, kc, va, vc, rfl, d0, d1, d2, d3, d4, k1, k2, k3⟩ := RS.ln (HS.out.1.later HK.out) hox
      obtain ⟨b', off', ka', kc', va', vc', rfl, e0, e1, e2, e3, e4, l1, l2, l3⟩ := RS.ln (HS.out.2.later HK.out) hox
      generalize os[k] = o at d0 d1 d2 d3 d4 k1 k2 k3 e0 e1 e2 e3 e4 l1 l2 l3
      obtain ⟨num, lvl, size, key, vl⟩ := o
      simp only at d0 d1 d2 d3 d4 k1 k2 k3 e0 e1 e2 e3 e4 l1 l2 l3
      have hbb : Below wr.heap.size wr ((wr.alloc (.cells #[.int .i64 num, .int .i64 lvl, .int .i64 size, .slice ka key.length kc, .slice va vl.length vc] 24)).alloc (.cells #[.int .i64 num, .int .i64 lvl, .int .i64 size, .slice ka' key.length kc', .slice va' vl.length vc'] 24)) := ((Below.refl _ _).alloc (Nat.le_refl _) _).alloc (by simp) _
      have g1 := str_l (k1.later hbb)
      have g2 := str_l (k2.later hbb)
      have g3 := str_l (l1.later hbb)
      have g4 := str_l (l2.later hbb)
      have hb1 := (Below.refl _ wr).alloc (Nat.le_refl _) (.cells #[.int .i64 num, .int .i64 lvl, .int .i64 size, .slice ka key.length kc, .slice va vl.length vc] 24)
      have q0 := cell_later hb1 e0
      have q1 := cell_later hb1 e1
      have q2 := cell_later hb1 e2
      have q3 := cell_later hb1 e3
      have q4 := cell_later hb1 e4
      have HW : Hid (Below w.heap.size w ((wr.alloc (.cells #[.int .i64 num, .int .i64 lvl, .int .i64 size, .slice ka key.length kc, .slice va vl.length vc] 24)).alloc (.cells #[.int .i64 num, .int .i64 lvl, .int .i64 size, .slice ka' key.length kc', .slice va' vl.length vc'] 24))) := HK.out.trans (hbb.mono HK.out.size)
      have hk62 : k ≤ 2 ^ 63 - 2 := by omega
      obtain ⟨GK, HG⟩ : ∃ g, Hid (g < gk ∧ k + 1 + g = len) := ⟨gk - 1, by omega, by omega⟩
      have n1 : ((strOfNums key).toList == (strOfNums key).toList) = true := by simp
      have n2 : ((strOfNums vl).toList == (strOfNums vl).toList) = true := by simp
      have n3 : (num != num) = false := by simp
      have n4 : (lvl != lvl) = false := by simp
      have n5 : (size != size) = false := by simp
      generalize strOfNums key = s1 at g1 g3 n1
      generalize strOfNums vl = s2 at g2 g4 n2
      generalize key.length = kl at d3 e3 g1 g3 HW q0 q1 q2 q3 q4 g2 g4
      generalize vl.length = ln at d4 e4 g2 g4 HW q0 q1 q2 q3 q4 g1 g3
      clear k1 k2 k3 l1 l2 l3 hbb hb1 hk HK hox
      go_wp2_with fail
      go_roundg GK
      case measure => exact HG.out.1
      case rel => exact ⟨k + 1, HG.out.2, by go_num, HW⟩
    · have hkl' : (len : Int) ≤ (k : Int) := by omega
      have HW : Hid (Below w.heap.size w wr) := HK.out
      clear hk HK
      go_wp2_with fail
      exact bodyPost_ret (v := .bool true) (by simp [results, Try.results36, go_sem]) rfl ⟨rfl, HW.out⟩

set_option maxHeartbeats 2000000 in
set_option maxRecDepth 100000 in
theorem rsameD_eq {w : World} {e : EdV} {a1 a2 r1 r2 : Option Addr} {c1 c2 d1 d2 : Nat} (h1 : EdM w e a1 c1 r1 d1) (h2 : EdM w e a2 c2 r2 d2) :
    Calls Try.prog 18 #[edV e a1 c1 r1 d1, edV e a2 c2 r2 d2] w fun x w' => x = .returned (.bool true) ∧ Below w.heap.size w w' := by
  unfold edV
  obtain ⟨lg, nx, sq, ad, rm⟩ := e
  have hbb : Below w.heap.size w ((w.alloc (.cells #[.int .i64 lg, .int .i64 nx, .int .i64 sq, .slice a1 ad.length c1, .slice r1 rm.length d1] 30)).alloc (.cells #[.int .i64 lg, .int .i64 nx, .int .i64 sq, .slice a2 ad.length c2, .slice r2 rm.length d2] 30)) := ((Below.refl _ _).alloc (Nat.le_refl _) _).alloc (by simp) _
  obtain ⟨W, hW⟩ : ∃ W, W = (w.alloc (.cells #[.int .i64 lg, .int .i64 nx, .int .i64 sq, .slice a1 ad.length c1, .slice r1 rm.length d1] 30)).alloc (.cells #[.int .i64 lg, .int .i64 nx, .int .i64 sq, .slice a2 ad.length c2, .slice r2 rm.length d2] 30) := ⟨_, rfl⟩
  rw [← hW] at hbb
  have hs1 : (w.alloc (.cells #[.int .i64 lg, .int .i64 nx, .int .i64 sq, .slice a1 ad.length c1, .slice r1 rm.length d1] 30)).heap.size = w.heap.size + 1 := by simp
  have x1 : W.heap[w.heap.size]? = some (.cells #[.int .i64 lg, .int .i64 nx, .int .i64 sq, .slice a1 ad.length c1, .slice r1 rm.length d1] 30 (0, 0)) := by
    rw [hW, heap_alloc_old (w := w.alloc (.cells #[.int .i64 lg, .int .i64 nx, .int .i64 sq, .slice a1 ad.length c1, .slice r1 rm.length d1] 30)) _ (by omega)]
    exact heap_alloc_new w _
  have x2 : W.heap[w.heap.size + 1]? = some (.cells #[.int .i64 lg, .int .i64 nx, .int .i64 sq, .slice a2 ad.length c2, .slice r2 rm.length d2] 30 (0, 0)) := by
    rw [hW, ← hs1]
    exact heap_alloc_new _ _
  have hT := rsameT_eq (h1.add.later hbb) (h2.add.later hbb)
  have HN : Hid (∀ wx, Below W.heap.size W wx → Calls Try.prog 37 #[.slice r1 rm.length d1, .slice r2 rm.length d2] wx fun e w' => e = .returned (.bool true) ∧ Below wx.heap.size wx w') := fun wx hb => rsameN_eq ((h1.rem.later hbb).later hb) ((h2.rem.later hbb).later hb)
  have HC : Hid (∀ wx, Below W.heap.size W wx → wx.cell? ⟨w.heap.size, 4, none⟩ = some (.slice r1 rm.length d1) ∧ wx.cell? ⟨w.heap.size + 1, 4, none⟩ = some (.slice r2 rm.length d2)) := fun wx hb => ⟨by rw [cell_of ((hb.block _ (Array.getElem?_eq_some_iff.1 x1).1).trans x1)]; rfl, by rw [cell_of ((hb.block _ (Array.getElem?_eq_some_iff.1 x2).1).trans x2)]; rfl⟩
  have y0 : W.cell? ⟨w.heap.size, 0, none⟩ = some (.int .i64 lg) := by rw [cell_of x1]; rfl
  have y1 : W.cell? ⟨w.heap.size, 1, none⟩ = some (.int .i64 nx) := by rw [cell_of x1]; rfl
  have y2 : W.cell? ⟨w.heap.size, 2, none⟩ = some (.int .i64 sq) := by rw [cell_of x1]; rfl
  have y3 : W.cell? ⟨w.heap.size, 3, none⟩ = some (.slice a1 ad.length c1) := by rw [cell_of x1]; rfl
  have z0 : W.cell? ⟨w.heap.size + 1, 0, none⟩ = some (.int .i64 lg) := by rw [cell_of x2]; rfl
  have z1 : W.cell? ⟨w.heap.size + 1, 1, none⟩ = some (.int .i64 nx) := by rw [cell_of x2]; rfl
  have z2 : W.cell? ⟨w.heap.size + 1, 2, none⟩ = some (.int .i64 sq) := by rw [cell_of x2]; rfl
  have z3 : W.cell? ⟨w.heap.size + 1, 3, none⟩ = some (.slice a2 ad.length c2) := by rw [cell_of x2]; rfl
  have n1 : (lg == lg) = true := by simp
  have n2 : (nx == nx) = true := by simp
  have n3 : (sq == sq) = true := by simp
  have HB : Hid (Below w.heap.size w W ∧ W = (w.alloc (.cells #[.int .i64 lg, .int .i64 nx, .int .i64 sq, .slice a1 ad.length c1, .slice r1 rm.length d1] 30)).alloc (.cells #[.int .i64 lg, .int .i64 nx, .int .i64 sq, .slice a2 ad.length c2, .slice r2 rm.length d2] 30)) := ⟨hbb, hW⟩
  clear h1 h2 hbb hs1 x1 x2 hW
  go_enter Try.func18, Try.ntmps18
  go_upto_region 1 with fail
  rw [← HB.out.2]
  go_wp2_with (first | (go_at_call 36; refine hT.mono ?_; rintro e w1 ⟨rfl, b1⟩; obtain ⟨u1, u2⟩ := HC.out _ b1) | (go_at_call 37; refine (HN.out _ b1).mono ?_; rintro e w2 ⟨rfl, b2⟩))
  have B1 := HB.out.1.trans (b1.mono HB.out.1.size)
  exact bodyPost_ret (v := .bool true) (by simp [results, Try.results18, go_sem]) rfl ⟨rfl, B1.trans (b2.mono B1.size)⟩
end Go.Proofs.Yteaicilehigjlaa
