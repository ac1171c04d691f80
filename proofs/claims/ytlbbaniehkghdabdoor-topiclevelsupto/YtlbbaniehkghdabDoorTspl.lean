/- The program's levels: strings.Split at the stroke. -/
import Derived.Test.YtlbbaniehkghdabDoorTany
import Derived.Test.YtlbbaniehkghdabDoorRfil
import Derived.Deep.OwnRows
namespace Go.Proofs.YtlbbaniehkghdabDoor
open Go.RowKit
set_option linter.unusedVariables false
set_option linter.unusedSimpArgs false

theorem idx_hit : ∀ l : List UInt8, 0 < l.count 47 → ∃ a b, l = a ++ 47 :: b ∧ (47 : UInt8) ∉ a ∧ Lib.indexByte l 47 = (a.length : Int)
  | [], h => by simp at h
  | c :: l, h => by
    by_cases q : c = 47
    · subst q
      exact ⟨[], l, rfl, by simp, by simp [Lib.indexByte]⟩
    · have hc : (c :: l).count 47 = l.count 47 := List.count_cons_of_ne q
      rw [hc] at h
      obtain ⟨a, b, e1, e2, e3⟩ := idx_hit l h
      refine ⟨c :: a, b, by rw [e1]; rfl, by simp [e2, Ne.symm q], ?_⟩
      have hb : (c == 47) = false := by simp [q]
      have h1 : ((a.length : Int) == -1) = false := by simp
      simp only [Lib.indexByte, hb, e3, h1]
      simp
theorem RowS.shape {B : Nat} {w : World} {v : Value} {xs : List ByteArray} (h : RowS B w v xs) (hp : 0 < xs.length) : ∃ g cap, v = .slice (some ⟨g, 0, none⟩) xs.length cap ∧ xs.length ≤ cap := by
  rcases h.2 with ⟨_, h0⟩ | ⟨g, cap, cur, h1, _, _, h2, _⟩
  · omega
  · exact ⟨g, cap, h1, h2⟩
theorem RowS.at {B : Nat} {w : World} {g n cap : Nat} {xs : List ByteArray} (h : RowS B w (.slice (some ⟨g, 0, none⟩) n cap) xs) (hn : xs.length = n) (j : Nat) (hj : j < n) : w.cell? ⟨g, j, none⟩ = some (.string (xs.getD j ⟨#[]⟩)) ∧ w.frozen? ⟨g, j, none⟩ = false := by
  have h' : w.ownsRow B 9 1 (.slice (some ⟨g, 0, none⟩) n cap) n (xs.map Value.string) := by have := h; unfold RowS at this; rw [hn] at this; exact this
  refine ⟨?_, h'.frozenAt j⟩
  rw [h'.cellAt j (by omega)]
  simp [List.getElem?_eq_getElem (show j < xs.length by omega)]
theorem RowS.set {B : Nat} {w : World} {g n cap : Nat} {xs : List ByteArray} (h : RowS B w (.slice (some ⟨g, 0, none⟩) n cap) xs) (hn : xs.length = n) (j : Nat) (u : ByteArray) : RowS B (w.setCell ⟨g, j, none⟩ (.string u)) (.slice (some ⟨g, 0, none⟩) n cap) (xs.set j u) ∧ w.grownBy (w.setCell ⟨g, j, none⟩ (.string u)) (some g) := by
  have h' : w.ownsRow B 9 1 (.slice (some ⟨g, 0, none⟩) n cap) n (xs.map Value.string) := by have := h; unfold RowS at this; rw [hn] at this; exact this
  obtain ⟨h1, h2⟩ := h'.stored j (.string u)
  refine ⟨?_, h2⟩
  unfold RowS
  rw [List.map_set, List.length_set, hn]
  exact h1
theorem grownS_below {B : Nat} {w w' : World} {g n cap : Nat} {xs : List ByteArray} (hrow : RowS B w (.slice (some ⟨g, 0, none⟩) n cap) xs) (hg : w.grownBy w' (some g)) (hB : B ≤ w.heap.size) : Below B w w' :=
  Below.grown (Below.refl B w) hg hB (fun k hk => (World.ownsRow.lt hrow k (by simpa [Value.ownBlock] using hk)).1)

/-- A new row of empty strings. -/
theorem made_row (w : World) (n : Nat) (hn : n ≤ 1099511627776) : RowS w.heap.size (w.alloc (.cells (madeCells #[.string ⟨#[]⟩] n) 9)) (.slice (some ⟨w.heap.size, 0, none⟩) n n) (List.replicate n ⟨#[]⟩) := by
  unfold RowS
  refine ⟨by simp, .inr ⟨w.heap.size, n, _, by simp, Nat.le_refl _, heap_alloc_new w _, by simp, by unfold maxLen; omega, by simp [size_madeCells], ?_⟩⟩
  rw [List.take_of_length_le (by rw [Array.length_toList, size_madeCells]; simp)]
  apply List.ext_getElem
  · rw [Array.length_toList, size_madeCells]; simp
  · intro i h1 h2
    have h3 : i < n := by simpa using h2
    simp [madeCells, Nat.mod_one]

/-- Where the walk stands: k levels told, t left. -/
def Spl (s : ByteArray) (W w : World) (N k : Nat) (t : ByteArray) (v : Value) : Prop :=
  ∃ ys : List ByteArray, ys.length = N ∧ RowS W.heap.size w v ys ∧ Below W.heap.size W w ∧ lv s.data.toList = (ys.take k).map (fun x => x.data.toList) ++ lv t.data.toList ∧ k + t.data.toList.count 47 + 1 = N ∧ t.size ≤ s.size

set_option maxHeartbeats 4000000 in
set_option maxRecDepth 1000000 in
theorem gsplit_any (s : ByteArray) (w : World) (hl : s.size ≤ 1099511627000) : Calls Tryd.prog 25 #[.string s, .string ⟨#[47]⟩, .int .i64 0, .int .i64 (-1)] w fun e w' => ∃ v xs, e = .returned v ∧ RowS w.heap.size w' v xs ∧ xs.map (fun x => x.data.toList) = lv s.data.toList ∧ Below w.heap.size w w' := by
  have hC := Tryd.strings_Count_one s 47 w
  have hct := List.count_le_length (a := (47 : UInt8)) (l := s.data.toList)
  rw [len_data] at hct
  unfold Lib.countByte at hC
  obtain ⟨C, hCe⟩ : ∃ C, C = s.data.toList.count 47 := ⟨_, rfl⟩
  rw [← hCe] at hC hct
  have hmin : min ((C : Int) + 1) ((s.size : Int) + 1) = (C : Int) + 1 := by omega
  have hmk := run_make_row' (P := Tryd.prog) 22 9 (.string ⟨#[]⟩) 16 Tryd.underlying22 Tryd.info9 rfl .i64 .i64 (C + 1) (by omega) (by omega)
  rw [show ((C + 1 : Nat) : Int) = (C : Int) + 1 by omega] at hmk
  have hI := fun (t : ByteArray) w => Tryd.strings_Index_one t 47 w
  obtain ⟨wn, hwn⟩ : ∃ wn, wn = w.alloc (.cells (madeCells #[.string ⟨#[]⟩] (C + 1)) 9) := ⟨_, rfl⟩
  have hrow : RowS w.heap.size wn (.slice (some ⟨w.heap.size, 0, none⟩) (C + 1) (C + 1)) (List.replicate (C + 1) ⟨#[]⟩) := by rw [hwn]; exact made_row w (C + 1) (by omega)
  have hbn : Below w.heap.size w wn := by rw [hwn]; exact (Below.refl _ _).alloc (Nat.le_refl _) _
  have H0 : Hid (Spl s w wn (C + 1) 0 s (.slice (some ⟨w.heap.size, 0, none⟩) (C + 1) (C + 1))) := ⟨_, by simp, hrow, hbn, by simp, by rw [← hCe]; omega, Nat.le_refl _⟩
  have HL : Hid (s.size ≤ 1099511627000 ∧ C ≤ s.size) := ⟨hl, hct⟩
  have hC62 : C ≤ 2 ^ 62 := by omega
  have hs62 : s.size ≤ 2 ^ 62 := by omega
  clear hCe hrow hbn hl hct
  go_enter Tryd.func25, Tryd.ntmps25
  go_wp2_with (go_at_call 30; refine hC.mono ?_; rintro e w' ⟨rfl, hw⟩; obtain rfl := hw.symm)
  rw [← hwn]
  clear hwn hmk hC
  go_loopg [0, 10, 11] C (fun gh s0 s10 _ wr => ∃ (k : Nat) (t : ByteArray), k + gh = C ∧ s0 = .string t ∧ s10 = .int .i64 (k : Int) ∧ Hid (Spl s w wr (C + 1) k t (.slice (some ⟨w.heap.size, 0, none⟩) (C + 1) (C + 1))))
  case atStart => exact ⟨0, s, by omega, rfl, rfl, H0⟩
  case round =>
    obtain ⟨k, t, hk, rfl, rfl, HS⟩ := hrel
    obtain ⟨ys, y1, y2, y3, y4, y5, y6⟩ := HS.out
    have hat := y2.at y1 k (by omega)
    have hcell := hat.1
    have hfz := hat.2
    have hkC1 : (k : Int) < (C : Int) + 1 := by omega
    by_cases h : k < C
    · have h' : (k : Int) < (C : Int) := by omega
      obtain ⟨a, b, e1, e2, e3⟩ := idx_hit t.data.toList (by omega)
      have hix := hI t
      simp only [e3] at hix
      have hsz : a.length + 1 + b.length = t.size := by rw [← len_data, e1]; simp; omega
      obtain ⟨m, hm⟩ : ∃ m, m = a.length := ⟨_, rfl⟩
      rw [← hm] at hix hsz
      have hm0 : ¬ ((m : Int) < 0) := by omega
      have hm1 : (m : Int) ≤ (t.size : Int) := by omega
      have hm2 : (m : Int) + 1 ≤ (t.size : Int) := by omega
      have ht62 : t.size ≤ 2 ^ 62 := by have := HL.out; omega
      have hm62 : m ≤ 2 ^ 62 := by omega
      have hext1 : (t.extract 0 m).data.toList = a := by
        rw [ext_list t 0 m (by omega) (by omega), e1, hm]
        simp
      have hext2 : (t.extract (m + 1) t.size).data.toList = b := by
        rw [ext_list t (m + 1) t.size (by omega) (by omega), e1, hm]
        simp
        exact List.take_of_length_le (by omega)
      obtain ⟨GK, HG⟩ : ∃ g, Hid (g < gk ∧ k + 1 + g = C) := ⟨gk - 1, by omega, by omega⟩
      have HN : Hid (Spl s w (wr.setCell ⟨w.heap.size, k, none⟩ (.string (t.extract 0 m))) (C + 1) (k + 1) (t.extract (m + 1) t.size) (.slice (some ⟨w.heap.size, 0, none⟩) (C + 1) (C + 1))) := by
        obtain ⟨r1, r2⟩ := y2.set y1 k (t.extract 0 m)
        refine ⟨_, by rw [List.length_set]; exact y1, r1, y3.trans ((grownS_below y2 r2 y3.size)), ?_, ?_, ?_⟩
        · rw [y4, e1, lv_app _ e2, hext2, List.take_add_one, List.take_set_of_le (Nat.le_refl _), List.getElem?_set_self (by omega)]
          simp only [Option.toList_some, List.map_append, List.map_cons, List.map_nil, List.append_assoc, List.singleton_append, hext1]
        · rw [hext2]
          have : t.data.toList.count 47 = b.count 47 + 1 := by
            rw [e1, List.count_append, List.count_cons_self, List.count_eq_zero_of_not_mem e2]
            omega
          omega
        · rw [ByteArray.size_extract]
          have := y6
          omega
      clear hk h e1 e2 e3 hm hsz hext1 hext2 y1 y2 y3 y4 y5 y6 HS hat
      go_wp2_with (go_at_call 31; refine (hix _).mono ?_; rintro e w' ⟨rfl, hw⟩; obtain rfl := hw.symm)
      go_roundg GK
      case measure => exact HG.out.1
      case rel => exact ⟨k + 1, _, HG.out.2, rfl, by go_num, HN⟩
    · have h' : (C : Int) ≤ (k : Int) := by omega
      obtain rfl : k = C := by omega
      have hno : (47 : UInt8) ∉ t.data.toList := List.count_eq_zero.1 (by omega)
      have HN : Hid (∃ xs : List ByteArray, RowS w.heap.size (wr.setCell ⟨w.heap.size, k, none⟩ (.string t)) (.slice (some ⟨w.heap.size, 0, none⟩) (k + 1) (k + 1)) xs ∧ xs.map (fun x => x.data.toList) = lv s.data.toList ∧ Below w.heap.size w (wr.setCell ⟨w.heap.size, k, none⟩ (.string t))) := by
        obtain ⟨r1, r2⟩ := y2.set y1 k t
        refine ⟨_, r1, ?_, y3.trans (grownS_below y2 r2 y3.size)⟩
        rw [y4, lv_one _ hno]
        have hlen : (ys.set k t).length = k + 1 := by rw [List.length_set]; exact y1
        rw [show ys.set k t = (ys.set k t).take (k + 1) from (List.take_of_length_le (by omega)).symm, List.take_add_one, List.take_set_of_le (Nat.le_refl _), List.getElem?_set_self (by omega)]
        simp
      clear hk h hno y1 y2 y3 y4 y5 y6 HS hat
      go_wp2_with fail
      obtain ⟨xs, x1, x2, x3⟩ := HN.out
      exact bodyPost_ret (v := .slice (some ⟨w.heap.size, 0, none⟩) (k + 1) (k + 1)) (by simp [results, Tryd.results25, go_sem]) rfl ⟨_, xs, rfl, x1, x2, x3⟩
theorem ssplit_any (s : ByteArray) (w : World) (hl : s.size ≤ 1099511627000) : Calls Tryd.prog 19 #[.string s, .string ⟨#[47]⟩] w fun e w' => ∃ v xs, e = .returned v ∧ RowS w.heap.size w' v xs ∧ xs.map (fun x => x.data.toList) = lv s.data.toList ∧ Below w.heap.size w w' := by
  have h := gsplit_any s w hl
  go_enter Tryd.func19, Tryd.ntmps19
  go_wp2_with (go_at_call 25; refine h.mono ?_; rintro e w' ⟨v, xs, rfl, x1, x2, x3⟩)
  exact bodyPost_ret (v := v) (by simp [results, Tryd.results19, go_sem]) rfl ⟨_, xs, rfl, x1, x2, x3⟩
theorem tsplit_any (s : ByteArray) (w : World) (hl : s.size ≤ 1099511627000) : Calls Tryd.prog 11 #[.string s] w fun e w' => ∃ v xs, e = .returned v ∧ RowS w.heap.size w' v xs ∧ xs.map (fun x => x.data.toList) = lv s.data.toList ∧ Below w.heap.size w w' := by
  have h := ssplit_any s w hl
  go_enter Tryd.func11, Tryd.ntmps11
  go_wp2_with (go_at_call 19; refine h.mono ?_; rintro e w' ⟨v, xs, rfl, x1, x2, x3⟩)
  exact bodyPost_ret (v := v) (by simp [results, Tryd.results11, go_sem]) rfl ⟨_, xs, rfl, x1, x2, x3⟩
theorem RowS.base {B B' : Nat} {w : World} {v : Value} {xs : List ByteArray} (h : RowS B w v xs) (hB : B' ≤ B) : RowS B' w v xs := by
  unfold RowS at h ⊢
  refine ⟨h.1, ?_⟩
  rcases h.2 with q | ⟨g, cap, cur, h1, h2, h3⟩
  · exact .inl q
  · exact .inr ⟨g, cap, cur, h1, by omega, h3⟩
/-- strings.Clone, then split. -/
theorem tlev_any (s : ByteArray) (w : World) (hl : s.size ≤ 1099511627000) : Calls Tryd.prog 5 #[.string s] w fun e w' => ∃ v xs, e = .returned v ∧ RowS w.heap.size w' v xs ∧ xs.map (fun x => x.data.toList) = lv s.data.toList ∧ Below w.heap.size w w' := by
  have h1 := Tryd.stringslite_Clone s w (by omega)
  have h2 := fun w => tsplit_any s w hl
  clear hl
  have h3 : Calls Tryd.prog 12 #[.string s] w fun e w' => e = .returned (.string s) ∧ Below w.heap.size w w' := by
    go_enter Tryd.func12, Tryd.ntmps12
    go_wp2_with (go_at_call 20; refine h1.mono ?_; rintro e w' ⟨rfl, hb⟩)
    go_ret
    exact ⟨rfl, hb⟩
  go_enter Tryd.func5, Tryd.ntmps5
  go_wp2_with (first | (go_at_call 12; refine h3.mono ?_; rintro e w1 ⟨rfl, hb⟩) | (go_at_call 11; refine (h2 _).mono ?_; rintro e w' ⟨v, xs, rfl, x1, x2, x3⟩))
  exact bodyPost_ret (v := v) (by simp [results, Tryd.results5, go_sem]) rfl ⟨_, xs, rfl, x1.base hb.size, x2, hb.trans (x3.mono hb.size)⟩
end Go.Proofs.YtlbbaniehkghdabDoor
