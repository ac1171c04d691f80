import Derived.Sort.KeysCollected
import Derived.Test.YtligofmcmjblpaaGreatPk29
import Derived.Test.YtligofmcmjblpaaGreatPk30
/- The landed disk: names in order; List. -/
namespace Go.Proofs.YtligofmcmjblpaaGreat
open Go.RowKit Go.Maps Go.Sort Go.Shelf
set_option linter.unusedVariables false
set_option linter.unusedSimpArgs false

theorem less_lt : ∀ (a b : List UInt8), Op.bytesLess a b = true → a < b
  | [], [], h => by simp [Op.bytesLess] at h
  | [], _ :: _, _ => List.nil_lt_cons _ _
  | _ :: _, [], h => by simp [Op.bytesLess] at h
  | a :: r, b :: s, h => by
    simp only [Op.bytesLess, Bool.or_eq_true, Bool.and_eq_true, decide_eq_true_eq, beq_iff_eq] at h
    rw [List.cons_lt_cons_iff]
    rcases h with h | ⟨h1, h2⟩
    · exact .inl h
    · exact .inr ⟨h1, less_lt r s h2⟩
theorem names_sorted {l : List Ent} (h : Srt l) : (l.map fun e => e.1.data.toList).mergeSort (fun x y => decide (x ≤ y)) = l.map fun e => e.1.data.toList := by
  apply List.mergeSort_of_pairwise
  rw [List.pairwise_map]
  refine h.imp fun {a b} hab => ?_
  rw [ByteArray.toList_eq, ByteArray.toList_eq] at hab
  exact decide_eq_true (List.le_of_lt (less_lt _ _ hab))
theorem strKeys_dD (loc : Nat → Nat) (l : List Ent) : strKeys (dD loc l) = l.map fun e => e.1.data.toList := by
  show (l.map (dE loc)).map (fun p => strOf p.1) = _
  rw [List.map_map]
  rfl
theorem enc_names (l : List Ent) : (l.map fun e => e.1.data.toList).map encStr = (l.map (·.1)).map Value.string := by
  rw [List.map_map, List.map_map]
  apply List.map_congr_left
  intro e _
  simp [encStr]

theorem keys_any (mb : Option Nat) (w : World) : Calls Tryz.prog 86 #[.map mb] w fun e w' => e = .returned (.func (.func 91) #[] #[.pointer (some ⟨w.heap.size, 0, none⟩)]) ∧ w' = w.alloc (.cells #[.map mb] 46) :=
  (callsIn_wide (n := 5)).1 (AnyZ.keys_in Tryz.keysM Fence.wide 5 trivial rfl mb w)
theorem sorts_any (m : Nat) : AnyZ.SortsIn Tryz.prog Tryz.sortedM_ren Fence.wide m :=
  ⟨fun blk off cap ss W hH hblk hsz => callsIn_wide.2 (AnyM.slices_Sort_string Tryz.sortM blk off cap ss W hH hblk hsz), fun p cap W => callsIn_wide.2 (AnyM.slices_Sort_string_none Tryz.sortM p cap W)⟩
set_option maxHeartbeats 1000000 in
theorem sorted_any (b : Nat) (loc : Nat → Nat) (l : List Ent) (w : World) (h : MapL w b loc l) (hs : Srt l) (hl : l.length ≤ 1048577) :
    Calls Tryz.prog 85 #[.func (.func 91) #[] #[.pointer (some ⟨w.heap.size, 0, none⟩)]] (w.alloc (.cells #[.map (some b)] 46)) fun e w' => ∃ v, e = .returned v ∧ RowS w.heap.size w' v (l.map (·.1)) ∧ Below w.heap.size w w' := by
  have hbl := h.lt
  have hsz := dD_size loc l
  have hown : (w.alloc (.cells #[.map (some b)] 46)).ownsMap Tryz.prog 9 fileE b l.length (dD loc l) := h.same (Below.heap_alloc _ _ b hbl)
  have hseq : SeqGives Fence.wide 2 Tryz.prog 91 #[.pointer (some ⟨w.heap.size, 0, none⟩)] encStr (fun ss => ss.Perm (strKeys (dD loc l))) (Maps.size (dD loc l)) (w.alloc (.cells #[.map (some b)] 46)) :=
    AnyZ.keys_gives (ρ := Tryz.keysM_ren) { Tryz.keysM with } Fence.wide _ trivial rfl (by omega) w.heap.size b l.length (dD loc l) _ (by simp) (by simp) hown
  have k := AnyZ.sorted_in Tryz.sortedM Fence.wide 5 trivial trivial trivial trivial rfl (by omega) (sorts_any _) (enters_of Tryz.func90 (by kernel_rfl) rfl) 91 #[.pointer (some ⟨w.heap.size, 0, none⟩)] trivial (enters_of Tryz.func91 (by kernel_rfl) rfl) _ _ (by unfold maxLen; omega) (by omega) _ hseq
  refine ((callsIn_wide (n := 5)).1 k).mono ?_
  rintro e w' ⟨v, ss, he, hp, hrow, _, hb⟩
  have h1 : ss.mergeSort (fun x y => decide (x ≤ y)) = l.map fun e => e.1.data.toList := by
    rw [strKeys_dD] at hp
    have := mergeSort_of_perm hp
    unfold leB at this
    rw [this]
    exact names_sorted hs
  rw [h1, enc_names] at hrow
  have h2 : ss.length = (l.map (·.1)).length := by
    rw [hp.length_eq, strKeys_dD]
    simp
  rw [h2] at hrow
  have hb0 : Below w.heap.size w (w.alloc (.cells #[.map (some b)] 46)) := (Below.refl _ _).alloc (Nat.le_refl _) _
  refine ⟨v, he, ?_, hb0.trans (hb.mono hb0.size)⟩
  refine ⟨hrow.1, ?_⟩
  rcases hrow.2 with h3 | ⟨g, cap, cur, e1, h4, h5⟩
  · exact .inl h3
  · exact .inr ⟨g, cap, cur, e1, by have := hb0.size; omega, h5⟩
set_option maxHeartbeats 1000000 in
theorem sorted_nil (w : World) : Calls Tryz.prog 85 #[.func (.func 91) #[] #[.pointer (some ⟨w.heap.size, 0, none⟩)]] (w.alloc (.cells #[.map none] 46)) fun e w' => ∃ v, e = .returned v ∧ RowS w.heap.size w' v [] ∧ Below w.heap.size w w' := by
  have hseq : SeqGives Fence.wide 2 Tryz.prog 91 #[.pointer (some ⟨w.heap.size, 0, none⟩)] encStr (fun ss : List (List UInt8) => ss = []) 0 (w.alloc (.cells #[.map none] 46)) :=
    AnyZ.keys_gives_nil (ρ := Tryz.keysM_ren) { Tryz.keysM with } Fence.wide _ trivial rfl w.heap.size _ (by simp) (by simp)
  have k := AnyZ.sorted_in Tryz.sortedM Fence.wide 5 trivial trivial trivial trivial rfl (by omega) (sorts_any _) (enters_of Tryz.func90 (by kernel_rfl) rfl) 91 #[.pointer (some ⟨w.heap.size, 0, none⟩)] trivial (enters_of Tryz.func91 (by kernel_rfl) rfl) _ 0 (Nat.zero_le _) (by omega) _ hseq
  refine ((callsIn_wide (n := 5)).1 k).mono ?_
  rintro e w' ⟨v, ss, he, rfl, hrow, hnil, hb⟩
  have hb0 : Below w.heap.size w (w.alloc (.cells #[.map none] 46)) := (Below.refl _ _).alloc (Nat.le_refl _) _
  have hv := hnil.2 rfl
  subst hv
  exact ⟨_, he, World.ownsRow_nil _ _ _ _, hb0.trans (hb.mono hb0.size)⟩

set_option maxHeartbeats 1000000 in
set_option maxRecDepth 100000 in
theorem rising_any (v : Value) (F : Nat → Prop) (loc : Nat → Nat) (l : List Ent) (w : World) (h : DirM w F loc v l) (hs : Srt l) (hl : l.length ≤ 1048577) :
    Calls Tryz.prog 66 #[v] w fun e w' => ∃ v, e = .returned v ∧ RowS w.heap.size w' v (l.map (·.1)) ∧ Below w.heap.size w w' := by
  rcases h with ⟨rfl, rfl⟩ | ⟨b, rfl, hF, hM⟩
  · have k1 := keys_any none w
    have k2 := sorted_nil w
    go_enter Tryz.func66, Tryz.ntmps66
    go_wp2_with (first | (go_at_call 86; refine k1.mono ?_; rintro e w1 ⟨rfl, rfl⟩) | (go_at_call 85; refine k2.mono ?_; rintro e w2 ⟨v, rfl, hr, hb⟩))
    go_ret
    exact ⟨_, rfl, hr, hb⟩
  · have k1 := keys_any (some b) w
    have k2 := sorted_any b loc l w hM hs hl
    clear hM
    go_enter Tryz.func66, Tryz.ntmps66
    go_wp2_with (first | (go_at_call 86; refine k1.mono ?_; rintro e w1 ⟨rfl, rfl⟩) | (go_at_call 85; refine k2.mono ?_; rintro e w2 ⟨v, rfl, hr, hb⟩))
    go_ret
    exact ⟨_, rfl, hr, hb⟩

/-- A row of strings, one of them written as it stood. -/
theorem rowS_set {B : Nat} {w : World} {v : Value} {xs : List ByteArray} (h : RowS B w v xs) {g k n c : Nat} (hv : v = .slice (some ⟨g, 0, none⟩) n c) {s : ByteArray} (hk : xs[k]? = some s) : RowS B (w.setCell ⟨g, k, none⟩ (.string s)) v xs := by
  refine ⟨h.1, ?_⟩
  rcases h.2 with ⟨rfl, _⟩ | ⟨g', cap, cur, e, hb, hgg, h1, h2, h3, h4⟩
  · cases hv
  · rw [hv] at e
    simp only [Value.slice.injEq, Option.some.injEq, Addr.mk.injEq] at e
    obtain ⟨⟨rfl, _⟩, rfl, rfl⟩ := e
    refine .inr ⟨g, c, cur.setIfInBounds k (.string s), hv, hb, heap_set hgg k _, h1, h2, by simp [h3], ?_⟩
    rw [Array.toList_setIfInBounds, List.take_set, h4]
    apply List.ext_getElem?
    intro i
    rw [List.getElem?_set]
    split
    · next e =>
      subst e
      split
      · rw [List.getElem?_map, hk]
        rfl
      · next hn => rw [List.getElem?_eq_none (by omega)]
    · rfl
theorem rowS_shape {B : Nat} {w : World} {v : Value} {xs : List ByteArray} (h : RowS B w v xs) : (v = .slice none 0 0 ∧ xs = []) ∨ ∃ g cap, v = .slice (some ⟨g, 0, none⟩) xs.length cap ∧ B ≤ g ∧ g < w.heap.size ∧ (∀ k s, xs[k]? = some s → w.cell? ⟨g, k, none⟩ = some (.string s)) ∧ ∀ k, w.frozen? ⟨g, k, none⟩ = false := by
  have hcells : ∀ g, v.ownBlock = some g → _ := fun g hg => World.ownsRow.cells h (g := g) hg
  rcases h.2 with ⟨rfl, h0⟩ | ⟨g, cap, cur, rfl, hb, hgg, h1, h2, h3, h4⟩
  · exact .inl ⟨rfl, List.eq_nil_of_length_eq_zero h0⟩
  · refine .inr ⟨g, cap, rfl, hb, (Array.getElem?_eq_some_iff.1 hgg).1, fun k s hk => ?_, fun k => frozen_of hgg k⟩
    have := hcells g rfl k (.string s) (by rw [List.getElem?_map, hk]; rfl)
    rw [Addr.add_lit] at this
    simpa using this

set_option maxHeartbeats 2000000 in
set_option maxRecDepth 100000 in
theorem list_any (p : Nat) (σ : DS) (F : Nat → Prop) (w : World) (h : RL w p σ F) (hi : Inv σ) :
    Calls Tryz.prog 38 #[ptr p] w fun e w' => ∃ v, e = .returned v ∧ StrsR w' v σ.list ∧ Below w.heap.size w w' ∧ ∀ k, v.ownBlock = some k → w.heap.size ≤ k := by
  obtain ⟨A, loc, dv, nv, sv, cv, sd, ch, h⟩ := h
  have c5 : w.cell? ⟨p, 5, none⟩ = some (.bool σ.c.off) := cell_of h.blk 5
  have c1 : w.cell? ⟨p, 1, none⟩ = some nv := cell_of h.blk 1
  have hdl : σ.dir.length ≤ 1048576 := by have := hi.dl; have := hi.ok.2.1; omega
  have k1 := rising_any nv F loc σ.dir w h.dir h.gdDir.srt (by omega)
  have HM : Hid (∀ s ∈ σ.dir.map (·.1), s.size ≤ 64) := fun s hs => by
    obtain ⟨e, he, rfl⟩ := List.mem_map.1 hs
    exact (may_size (h.gdDir.may e he)).2
  have HL : Hid ((σ.dir.map (·.1)).length ≤ 1048576) := by show _ ≤ _; simpa using hdl
  unfold DS.list
  unfold ptr
  cases ho : σ.c.off with
  | true =>
    rw [ho] at c5
    simp only [if_true]
    clear h hi k1
    go_enter Tryz.func38, Tryz.ntmps38
    go_wp2_with fail
    go_ret
    exact ⟨_, rfl, ⟨none, 0, rfl, fun k s hk => by simp at hk⟩, Below.refl _ _, fun k e => by cases e⟩
  | false =>
    rw [ho] at c5
    simp only [Bool.false_eq_true, if_false]
    generalize σ.dir.map (·.1) = xs at *
    clear h hi hdl
    go_enter Tryz.func38, Tryz.ntmps38
    go_wp2_with (go_at_call 66; refine k1.mono ?_; rintro e w1 ⟨v, rfl, hr, hb⟩; have HR : Hid (RowS w.heap.size w1 v xs) := hr; rcases rowS_shape hr with ⟨rfl, rfl⟩ | ⟨g, cap, rfl, hg1, hg2, hg3, hg4⟩)
    · refine wp_loop_rounds 1 ?_
      rw [rounds_succ]
      go_wp2
      go_ret
      exact ⟨_, rfl, ⟨none, 0, rfl, fun k s hk => by simp at hk⟩, hb, fun k e => by cases e⟩
    · have hl := HL.out
      clear k1 c1 c5 hr hg2 hg3 hg4
      go_loopg [21] xs.length (fun gk i wr => ∃ k : Nat, i = .int .i64 (k : Int) ∧ k + gk = xs.length ∧ Hid (RowS w.heap.size wr (.slice (some ⟨g, 0, none⟩) xs.length cap) xs) ∧ Hid (Below w.heap.size w wr))
      case atStart => exact ⟨0, rfl, by omega, HR, hb⟩
      case round =>
        obtain ⟨k, rfl, hk, HR2, HB2⟩ := hrel
        have hb2 := HB2.out
        rcases rowS_shape HR2.out with ⟨e, _⟩ | ⟨g', cap', e, y1, y2, y3, y4⟩
        · cases e
        · simp only [Value.slice.injEq, Option.some.injEq, Addr.mk.injEq] at e
          obtain ⟨⟨rfl, _⟩, _, rfl⟩ := e
          by_cases hkl : k < xs.length
          · obtain ⟨s, hsk⟩ : ∃ s, xs[k]? = some s := ⟨_, List.getElem?_eq_getElem hkl⟩
            have y5 := y3 k s hsk
            have y6 := y4 k
            have kc := fun wx => sclone_any s wx (HM.out s (List.mem_of_getElem? hsk))
            have HC : Hid (∀ wx, Below wr.heap.size wr wx → wx.cell? ⟨g, k, none⟩ = some (.string s) ∧ wx.frozen? ⟨g, k, none⟩ = false ∧ RowS w.heap.size (wx.setCell ⟨g, k, none⟩ (.string s)) (.slice (some ⟨g, 0, none⟩) xs.length cap) xs ∧ Below w.heap.size w (wx.setCell ⟨g, k, none⟩ (.string s))) := fun wx hx => by
              have hb3 : Below w.heap.size w wx := hb2.trans (hx.mono hb2.size)
              refine ⟨cell_later hx y5, (hx.frozen y2).trans y6, rowS_set (owns_same HR2.out fun b e => hx.block b (owns_ty HR2.out e).lt) rfl hsk, hb3.grown (grown_set _ _ _ _) hb3.size fun j hj => by cases hj; exact y1⟩
            have hki : (k : Int) < (xs.length : Int) := by omega
            obtain ⟨G, HG⟩ : ∃ G, Hid (G < gk ∧ k + 1 + G = xs.length) := ⟨gk - 1, by omega, by omega⟩
            clear y3 y4 hk HR2 HB2 hb2
            go_wp2_with (go_at_call 55; refine (kc _).mono ?_; rintro e w3 ⟨rfl, hb3⟩; obtain ⟨v1, v2, v3, v4⟩ := HC.out _ hb3)
            go_roundg G
            case measure => exact HG.out.1
            case rel => exact ⟨k + 1, by simp, HG.out.2, v3, v4⟩
          · have hki : ¬ (k : Int) < (xs.length : Int) := by omega
            have HSR := RowS.strs HR2.out
            clear y3 y4 hk HR2 HB2 y1
            go_wp2_with fail
            go_ret
            exact ⟨_, rfl, HSR, hb2, fun j e => by cases e; exact hg1⟩
end Go.Proofs.YtligofmcmjblpaaGreat
