import Derived.Deep.RegionHeldLaw
import Derived.Laws.OwnMore
import Derived.Test.YtjgfklbhagcbaabPk15
/- The document's own TakeBatch: bytes as a batch. -/
namespace Go.Proofs.Ytjgfklbhagcbaab
open Go.RowKit
set_option linter.unusedVariables false
set_option linter.unusedSimpArgs false

/-- The places: the answer's, the reader's, the batch's; all ahead of B, behind what was there. -/
structure Pl (w0 : World) (R p q B : Nat) : Prop where
  hR : w0.heap.size ≤ R
  hp : R < p
  hq : p < q
  hB : q < B
/-- Bytes behind ob. -/
def Sb (ob : Nat) (w : World) (a : Option Addr) (c : Nat) (xs : List Int) : Prop := Sl w a xs.length c xs ∧ ∀ b, Refs (.slice a xs.length c) b → ob < b
theorem Sb.grown {ob r : Nat} {w w' : World} {a : Option Addr} {c : Nat} {xs : List Int} (h : Sb ob w a c xs) (hg : w.grownBy w' (some r)) (hr : r ≤ ob) : Sb ob w' a c xs :=
  ⟨h.1.keep fun b hb => hg.block b (h.1.lt hb) (fun e => by simp only [Option.some.injEq] at e; have := h.2 b hb; omega), h.2⟩
theorem Sb.nil (ob : Nat) (w : World) : Sb ob w none 0 [] := ⟨Sl.nil w, fun b hr => by obtain ⟨_, _, _, e, h0⟩ := hr; cases e⟩
theorem sb_row {ob : Nat} {w w' : World} {v : Value} {xs : List Int} (h : Row w.heap.size w' v xs) (hob : ob < w.heap.size) (hok : Okb xs) : ∃ a c, v = .slice a xs.length c ∧ Sb ob w' a c xs := by
  obtain ⟨a, c, e, hs⟩ := Sl.ofRow h hok
  subst e
  refine ⟨a, c, rfl, hs, fun b hr => ?_⟩
  obtain ⟨off, l, c', e, h0⟩ := hr
  simp only [Value.slice.injEq] at e
  obtain ⟨rfl, rfl, rfl⟩ := e
  have := (World.ownsRow.lt h b rfl).1
  omega
theorem deOs_step {n : Nat} {st : Rd} {T : List OpV × Rd} {acc : List OpV} (h : T = (acc ++ (deOs (n + 1) st).1, (deOs (n + 1) st).2)) :
    ((deO st).2.2 ≠ 0 → T = (acc ++ [(deO st).1], (deO st).2)) ∧ ((deO st).2.2 = 0 → T = (acc ++ [(deO st).1] ++ (deOs n (deO st).2).1, (deOs n (deO st).2).2)) := by
  rw [deOs] at h
  constructor
  · intro q
    rw [if_pos q] at h
    exact h
  · intro q
    rw [if_neg (by simpa using q)] at h
    rw [h]
    simp
end Go.Proofs.Ytjgfklbhagcbaab

/- The document's own TakeBatch: the walk. -/
namespace Go.Proofs.Ytjgfklbhagcbaab
open Go.RowKit
set_option linter.unusedVariables false
set_option linter.unusedSimpArgs false

theorem RowF.slice {α : Type} {E : El α} {B : Nat} {F : Nat → Prop} {w : World} {v : Value} {xs : List α} (h : RowF E B F w v xs) : ∃ a c, v = .slice a xs.length c ∧ RS E w a xs.length c xs := h.s.rs
theorem RowF.slice' {α : Type} {E : El α} {B : Nat} {F : Nat → Prop} {w : World} {v : Value} {xs : List α} (h : RowF E B F w v xs) : ∃ a n c, v = .slice a n c ∧ n = xs.length := by
  obtain ⟨a, c, e, _⟩ := h.s.rs
  exact ⟨a, _, c, e, rfl⟩
theorem Hid.mk' {p : Prop} (h : p) : Hid p := h
theorem in64_0 : In64 0 := ⟨by decide, by decide⟩
end Go.Proofs.Ytjgfklbhagcbaab

/- What the landed edit's May answers: numbers that are unlike, lines, the edit. -/
namespace Go.Proofs.Ytjgfklbhagcbaab
open Go.RowKit
set_option linter.unusedVariables false
set_option linter.unusedSimpArgs false

theorem run_makeMap_hint (n : Int) (w : World) : (Instr.makeMap 73 (some (.int .i64 n))).run Try.prog w = .ok (.map (some w.heap.size)) (w.alloc (.map #[] 0)) := by
  have h1 := run_underlying (w := w) underI
  simp [Instr.makeMap, h1, asInt, Result.andThen]
  rfl
set_option maxHeartbeats 4000000 in
set_option maxRecDepth 100000 in
theorem eapart_any {w : World} {ao : Option Addr} {len cap : Nat} {l : List Int} (h : RS i64E w ao len cap l) (hl : len ≤ 1000000) :
    Calls Try.prog 51 #[.slice ao len cap] w fun e w' => e = .returned (.bool (decide l.Nodup)) ∧ Below w.heap.size w w' := by
  have hln : l.length = len := h.len.1
  have HS : Hid (RS i64E w ao len cap l ∧ l.length = len ∧ len ≤ 1000000) := ⟨h, hln, hl⟩
  have H0 : Hid (MapI (w.alloc (.map #[] 0)) w.heap.size 0 (l.take 0) ∧ Below w.heap.size w (w.alloc (.map #[] 0))) := ⟨mapI_new w, (Below.refl _ _).alloc (Nat.le_refl _) _⟩
  have hmk : ∀ (n : Int) (wx : World), (Instr.makeMap 73 (some (.int .i64 n))).run Try.prog wx = .ok (.map (some wx.heap.size)) (wx.alloc (.map #[] 0)) := fun n wx => run_makeMap_hint n wx
  have hl62 : len ≤ 2 ^ 61 := by omega
  clear h
  go_enter Try.func51, Try.ntmps51
  go_wp2_with fail
  go_loopg [5, 11] len (fun g _ i wr => ∃ k : Nat, k + g = len ∧ i = .int .i64 (k : Int) ∧ Hid (MapI wr w.heap.size k (l.take k) ∧ Below w.heap.size w wr))
  case atStart => exact ⟨0, by omega, rfl, H0⟩
  case round =>
    obtain ⟨k, hk, rfl, HK⟩ := hrel
    by_cases hkl : k < len
    · have hkl' : (k : Int) < (len : Int) := by omega
      have hkx : k < l.length := by omega
      have bel := HK.out.2
      have HT : Hid (l.take (k + 1) = l.take k ++ [l[k]]) := by show _ = _; rw [List.take_add_one, List.getElem?_eq_getElem hkx]; rfl
      obtain ⟨b, off, rfl, d0, i0⟩ := RS.i64 (HS.out.1.later bel) (List.getElem?_eq_getElem hkx)
      generalize l[k] = x at d0 i0 HT
      obtain ⟨c, L0⟩ := HK.out.1.look i0
      obtain ⟨w3, S3, M3, g3⟩ := HK.out.1.put (by omega) (x := x) (c := wrap64 (c + 1)) i0 (by unfold wrap64; constructor <;> omega)
      have HM : Hid (MapI w3 w.heap.size (k + 1) (l.take (k + 1)) ∧ Below w.heap.size w w3) := ⟨by rw [HT.out]; exact M3, Below.grown bel g3 bel.size (fun j e => by simp only [Option.some.injEq] at e; omega)⟩
      have hk62 : k ≤ 2 ^ 61 := by omega
      obtain ⟨GK, HG⟩ : ∃ g, Hid (g < gk ∧ k + 1 + g = len) := ⟨gk - 1, by omega, by omega⟩
      clear hk bel HK M3 g3 hmk i0 hkx
      go_wp2_with fail
      go_roundg GK
      case measure => exact HG.out.1
      case rel => exact ⟨k + 1, HG.out.2, by go_num, HM.out⟩
    · have hkl' : (len : Int) ≤ (k : Int) := by omega
      have ht : l.take k = l := List.take_of_length_le (by omega)
      have M := HK.out.1
      rw [ht] at M
      have hlen := fun ty => M.len ty
      have HB : Hid (Below w.heap.size w wr) := HK.out.2
      have hdr := dc_rev l
      have hdl : dc l.reverse ≤ len := by have := dc_le l.reverse; rw [List.length_reverse] at this; omega
      rw [hln] at hdr
      have HD : Hid (dc l.reverse = len ↔ l.Nodup) := hdr
      generalize dc l.reverse = n at hlen HD hdl
      have hn62 : n ≤ 2 ^ 61 := by omega
      clear hk HK hkl M ht hmk hdr H0
      go_wp2_with fail
      refine bodyPost_ret (v := .bool ((n : Int) == (len : Int))) (by simp [results, Try.results51, go_sem]) rfl ⟨?_, HB.out⟩
      refine congrArg (fun b => Ending.returned (.bool b)) ?_
      rw [Bool.eq_iff_iff, beq_iff_eq, decide_eq_true_eq, ← HD.out]
      omega
theorem mayAd_long {l : List LnV} (h : 200 < l.length) : mayAd l = false := by
  unfold mayAd
  rw [decide_eq_false (by omega)]
  rfl
theorem mayRm_long {l : List Int} (h : 200 < l.length) : mayRm l = false := by
  unfold mayRm
  rw [decide_eq_false (by omega)]
  rfl
theorem all_take_bad {α : Type} {p : α → Bool} {l : List α} {k : Nat} {x : α} (h : l[k]? = some x) (hp : p x = false) : l.all p = false := by
  obtain ⟨hk, rfl⟩ := List.getElem?_eq_some_iff.1 h
  rw [List.all_eq_false]
  exact ⟨_, List.getElem_mem hk, by rw [hp]; simp⟩
theorem all_take_next {α : Type} {p : α → Bool} {l : List α} {k : Nat} {x : α} (h : l[k]? = some x) (hp : p x = true) (ha : (l.take k).all p = true) : (l.take (k + 1)).all p = true := by
  obtain ⟨hk, rfl⟩ := List.getElem?_eq_some_iff.1 h
  rw [List.take_add_one, List.getElem?_eq_getElem hk, List.all_append, ha]
  simpa using hp
set_option maxHeartbeats 4000000 in
set_option maxRecDepth 100000 in
theorem erm_any {w : World} {ao : Option Addr} {len cap : Nat} {l : List Int} (h : RS i64E w ao len cap l) :
    Calls Try.prog 43 #[.slice ao len cap] w fun e w' => e = .returned (.bool (mayRm l)) ∧ Below w.heap.size w w' := by
  have hln : l.length = len := h.len.1
  have hl63 : len ≤ 2 ^ 63 - 1 := by have := h.len.2; unfold maxLen at this; omega
  by_cases q : 200 < len
  · rw [mayRm_long (by omega)]
    have q' : (200 : Int) < (len : Int) := by omega
    clear h q
    go_enter Try.func43, Try.ntmps43
    go_wp2_with fail
    exact bodyPost_ret (v := .bool false) (by simp [results, Try.results43, go_sem]) rfl ⟨rfl, Below.refl _ _⟩
  have q' : (len : Int) ≤ 200 := by omega
  have HS : Hid (RS i64E w ao len cap l ∧ l.length = len ∧ len ≤ 200) := ⟨h, hln, by omega⟩
  have hA := eapart_any h (by omega)
  have HR : Hid (mayRm l = (l.all mayNo && decide l.Nodup)) := by
    show _ = _
    unfold mayRm
    rw [decide_eq_true (by omega : l.length ≤ 200)]
    rfl
  clear h q
  go_enter Try.func43, Try.ntmps43
  go_wp2_with fail
  go_loopg [4, 10] len (fun g _ i wr => ∃ k : Nat, k + g = len ∧ i = .int .i64 (k : Int) ∧ wr = w ∧ Hid ((l.take k).all mayNo = true))
  case atStart => exact ⟨0, by omega, rfl, rfl, by show _ = _; simp⟩
  case round =>
    obtain ⟨k, hk, rfl, hw, HK⟩ := hrel
    obtain rfl := hw.symm
    by_cases hkl : k < len
    · have hkl' : (k : Int) < (len : Int) := by omega
      have hkx : k < l.length := by omega
      have hox := List.getElem?_eq_getElem hkx
      obtain ⟨b, off, rfl, d0, i0⟩ := RS.i64 HS.out.1 hox
      have HOX := hidE hox
      generalize l[k] = x at d0 i0 HOX
      clear hox
      have hN := fun wx => emno_any (w := wx) (n := x)
      obtain ⟨m, hm⟩ : ∃ m, m = mayNo x := ⟨_, rfl⟩
      rw [← hm] at hN
      have HM := hidE hm
      clear hm i0 hA
      have hk62 : k ≤ 2 ^ 61 := by omega
      obtain ⟨GK, HG⟩ : ∃ g, Hid (g < gk ∧ k + 1 + g = len) := ⟨gk - 1, by omega, by omega⟩
      cases m
      · have HF : Hid (mayRm l = false) := by show _ = _; rw [HR.out, all_take_bad HOX.out HM.out.symm]; rfl
        clear hk
        go_wp2_with (go_at_call 52; refine (hN _).mono ?_; rintro e w2 ⟨rfl, hw⟩; obtain rfl := hw.symm)
        exact bodyPost_ret (v := .bool false) (by simp [results, Try.results43, go_sem]) rfl ⟨by rw [HF.out], Below.refl _ _⟩
      · have HN : Hid ((l.take (k + 1)).all mayNo = true) := all_take_next HOX.out HM.out.symm HK.out
        clear hk HK
        go_wp2_with (go_at_call 52; refine (hN _).mono ?_; rintro e w2 ⟨rfl, hw⟩; obtain rfl := hw.symm)
        go_roundg GK
        case measure => exact HG.out.1
        case rel => exact ⟨k + 1, HG.out.2, by go_num, rfl, HN⟩
    · have hkl' : (len : Int) ≤ (k : Int) := by omega
      have HF : Hid (mayRm l = decide l.Nodup) := by
        show _ = _
        have := HK.out
        rw [List.take_of_length_le (by omega)] at this
        rw [HR.out, this]
        rfl
      clear hk HK hkl
      go_wp2_with (go_at_call 51; refine hA.mono ?_; rintro e w2 ⟨rfl, b2⟩)
      exact bodyPost_ret (v := .bool (decide l.Nodup)) (by simp [results, Try.results43, go_sem]) rfl ⟨by rw [HF.out], b2⟩
set_option maxHeartbeats 4000000 in
set_option maxRecDepth 100000 in
theorem ead_any {w : World} {ao : Option Addr} {len cap : Nat} {l : List LnV} (h : RS lnE w ao len cap l) :
    Calls Try.prog 42 #[.slice ao len cap] w fun e w' => e = .returned (.bool (mayAd l)) ∧ Below w.heap.size w w' := by
  have hln : l.length = len := h.len.1
  have hl63 : len ≤ 2 ^ 63 - 1 := by have := h.len.2; unfold maxLen at this; omega
  by_cases q : 200 < len
  · rw [mayAd_long (by omega)]
    have q' : (200 : Int) < (len : Int) := by omega
    clear h q
    go_enter Try.func42, Try.ntmps42
    go_wp2_with fail
    exact bodyPost_ret (v := .bool false) (by simp [results, Try.results42, go_sem]) rfl ⟨rfl, Below.refl _ _⟩
  have q' : (len : Int) ≤ 200 := by omega
  have HS : Hid (RS lnE w ao len cap l ∧ l.length = len ∧ len ≤ 200) := ⟨h, hln, by omega⟩
  have HR : Hid (mayAd l = (l.all mayLn && decide (nosL l).Nodup)) := by
    show _ = _
    unfold mayAd
    rw [decide_eq_true (by omega : l.length ≤ 200)]
    rfl
  obtain ⟨i0, hi, hz, hsize, hbytes⟩ := info_parts i64E_info
  have HI : Hid (len ≤ 200) := by show _ ≤ _; omega
  clear h q
  go_enter Try.func42, Try.ntmps42
  go_wp2_with (at_make; refine wpList_make_own w rfl _ _ 35 rfl w.heap.size 2 i0 (.int .i64 0) 1 Try.underlying35 hi hz hsize .i64 .i64 _ len rfl rfl (by omega) (by rw [hbytes]; have := HI.out; omega) (by have := HI.out; simp only [maxLen]; omega) (Nat.le_refl _) ?_; intro w1 hr1 hg1; have H0 : Hid (RowF i64E w.heap.size (fun _ => True) w1 (.slice (some ⟨w.heap.size, 0, none⟩) 0 len) (nosL (l.take 0)) ∧ Below w.heap.size w w1) := ⟨⟨[], hr1, rfl, (fun u hu => by cases hu), fun u hu => by cases hu⟩, Below.grown (Below.refl _ _) hg1 (Nat.le_refl _) (fun k hk => by cases hk)⟩; clear hr1 hg1)
  clear hi hz hsize hbytes
  go_loopg [3, 5, 14] len (fun g v _ i wr => ∃ k : Nat, k + g = len ∧ i = .int .i64 (k : Int) ∧ Hid (RowF i64E w.heap.size (fun _ => True) wr v (nosL (l.take k)) ∧ Below w.heap.size w wr ∧ (l.take k).all mayLn = true))
  case atStart => exact ⟨0, by omega, rfl, H0.out.1, H0.out.2, by simp⟩
  case round =>
    obtain ⟨k, hk, rfl, HK⟩ := hrel
    obtain ⟨va, vn, vc, hv, hvn⟩ := HK.out.1.slice'
    subst hv
    clear hvn
    by_cases hkl : k < len
    · have hkl' : (k : Int) < (len : Int) := by omega
      have hkx : k < l.length := by omega
      have hox := List.getElem?_eq_getElem hkx
      have bel := HK.out.2.1
      obtain ⟨b, off, la, lc, ma, mc, rfl, d0, d1, d2, d3, d4, k1, k2, j1, j2, j3⟩ := RS.ln (HS.out.1.later bel) hox
      have HOX := hidE hox
      generalize l[k] = x at d0 d1 d2 d3 d4 k1 k2 j1 HOX
      clear hox
      obtain ⟨W1, hW1⟩ : ∃ W1, W1 = wr.alloc (.cells #[.int .i64 x.num, .int .i64 x.lvl, .int .i64 x.size, .slice la x.least.length lc, .slice ma x.most.length mc] 30) := ⟨_, rfl⟩
      have b1 : Below wr.heap.size wr W1 := by rw [hW1]; exact (Below.refl _ _).alloc (Nat.le_refl _) _
      have hT := emtab_any (k1.later b1) (k2.later b1)
      have B1 := bel.trans (b1.mono bel.size)
      have R1 := HK.out.1.later b1
      have c0 : W1.cell? ⟨wr.heap.size, 0, none⟩ = some (.int .i64 x.num) := by rw [hW1, cell_of (heap_alloc_new wr _)]; rfl
      obtain ⟨m, hm⟩ : ∃ m, m = mayLn x := ⟨_, rfl⟩
      rw [← hm] at hT
      have HM := hidE hm
      have hnt : (nosL (l.take k)).length ≤ 200 := by unfold nosL; rw [List.length_map, List.length_take]; have := HS.out; omega
      have HB1 := hidE (And.intro B1 (And.intro R1 (And.intro c0 (And.intro j1 hnt))))
      have HW1 := hidE hW1
      rw [hW1] at hT
      have hk62 : k ≤ 2 ^ 61 := by omega
      obtain ⟨GK, HG⟩ : ∃ g, Hid (g < gk ∧ k + 1 + g = len) := ⟨gk - 1, by omega, by omega⟩
      have HALL : Hid ((l.take k).all mayLn = true) := HK.out.2.2
      generalize x.least.length = nl at d3 hT HW1
      generalize x.most.length = nm at d4 hT HW1
      clear hm k1 k2 bel b1 B1 R1 c0 hW1 HK hnt
      cases m
      · have HF : Hid (mayAd l = false) := by show _ = _; rw [HR.out, all_take_bad HOX.out HM.out.symm]; rfl
        clear hk
        go_wp2_with (go_at_call 50; refine hT.mono ?_; rintro e w2 ⟨rfl, b2⟩; rw [← HW1.out] at b2)
        exact bodyPost_ret (v := .bool false) (by simp [results, Try.results42, go_sem]) rfl ⟨by rw [HF.out], HB1.out.1.trans (b2.mono HB1.out.1.size)⟩
      · have HN : Hid ((l.take (k + 1)).all mayLn = true ∧ nosL (l.take (k + 1)) = nosL (l.take k) ++ [x.num]) := by
          refine ⟨all_take_next HOX.out HM.out.symm HALL.out, ?_⟩
          have h9 := List.getElem?_eq_some_iff.1 HOX.out
          obtain ⟨h8, h7⟩ := h9
          unfold nosL
          rw [List.take_add_one, List.getElem?_eq_getElem h8, List.map_append, h7]
          rfl
        clear hk
        go_wp2_with (first | (go_at_call 50; refine hT.mono ?_; rintro e w2 ⟨rfl, b2⟩; rw [← HW1.out] at b2; have B2 := HB1.out.1.trans (b2.mono HB1.out.1.size); have R2 := HB1.out.2.1.later b2; have c2 := cell_later b2 HB1.out.2.2.1; have b3 : Below w2.heap.size w2 (w2.alloc (.cells #[.int .i64 x.num] 2)) := (Below.refl _ _).alloc (Nat.le_refl _) _; have R3 := R2.later b3; have B3 := B2.trans (b3.mono B2.size); have ho := rs_one (E := i64E) (w := w2) (vs := [.int .i64 x.num]) (x := x.num) ⟨rfl, HB1.out.2.2.2.1⟩) | (at_builtin; refine wpList_appF i64E (t := 35) (z := .int .i64 0) (bytes := 8) Try.underlying35 i64E_info rfl (by decide) rfl (.tmp 21) (.tmp 24) rfl rfl R3 rfl ho (fun u hu b hr => by rw [List.mem_singleton.1 hu] at hr; exact (refs_int hr).elim) (fun u hu b hr => trivial) (by have := HB1.out.2.2.2.2; omega) (by have := HB1.out.2.2.2.2; omega) B3.size ?_; intro v9 w9 r9 g9 m9; have B9 := Below.grown B3 g9 B3.size (fun k e => (R3.own_lt e).1); have H9 := hidE (And.intro r9 B9); clear B3 R3 B2 R2 r9 g9 m9 B9))
        go_roundg GK
        case measure => exact HG.out.1
        case rel => exact ⟨k + 1, HG.out.2, by go_num, by rw [HN.out.2]; exact H9.out.1, H9.out.2, HN.out.1⟩
    · have hkl' : (len : Int) ≤ (k : Int) := by omega
      have ht : l.take k = l := List.take_of_length_le (by omega)
      have HK2 := HK.out
      rw [ht] at HK2
      have HF : Hid (mayAd l = decide (nosL l).Nodup ∧ Below w.heap.size w wr) := by
        refine ⟨?_, HK2.2.1⟩
        rw [HR.out, HK2.2.2]
        rfl
      obtain ⟨a9, c9, e9, s9⟩ := HK2.1.slice
      simp only [Value.slice.injEq] at e9
      obtain ⟨rfl, rfl, rfl⟩ := e9
      have hA := eapart_any s9 (by unfold nosL; rw [List.length_map]; omega)
      clear hk HK hkl HK2 ht s9
      go_wp2_with (go_at_call 51; refine hA.mono ?_; rintro e w2 ⟨rfl, b2⟩)
      exact bodyPost_ret (v := .bool (decide (nosL l).Nodup)) (by simp [results, Try.results42, go_sem]) rfl ⟨by rw [HF.out.1], HF.out.2.trans (b2.mono HF.out.2.size)⟩
end Go.Proofs.Ytjgfklbhagcbaab
