/- What the laws on frames lean on: rows that are like one another; a record that every program knows. -/
import Derived.Test.YtbinabegiikcaaaRfrm
namespace Go.Proofs.Ytbinabegiikcaaa
open Go.RowKit
set_option linter.unusedVariables false
set_option linter.unusedSimpArgs false

/-- A frame's three calls, as the document has them: what a program's own must keep. -/
def SlV (w : World) (v : Value) (xs : List Int) : Prop := ∃ a c, v = .slice a xs.length c ∧ Sl w a xs.length c xs
def RBV (w : World) (v : Value) (rs : List (List Int)) : Prop := ∃ a c, v = .slice a rs.length c ∧ RB w a rs.length c rs
structure PF : Prop where
  putR : ∀ {w : World} {ao so : Option Addr} {len cap ls cs : Nat} {xs rs : List Int}, Sl w ao len cap xs → Sl w so ls cs rs → ls ≤ 1048576 → len ≤ 140737488351232 →
    Calls Try.prog 8 #[.slice ao len cap, .slice so ls cs] w fun e w' => ∃ v, e = .returned (.tuple #[v, .int .i64 0]) ∧ Row w.heap.size w' v (xs ++ fr rs) ∧ Below w.heap.size w w'
  long : ∀ {w : World} {ao so : Option Addr} {len cap ls cs : Nat} {xs rs : List Int}, Sl w ao len cap xs → Sl w so ls cs rs → 1048576 < ls → ls ≤ 2 ^ 62 →
    Calls Try.prog 8 #[.slice ao len cap, .slice so ls cs] w fun e w' => e = .returned (.tuple #[.slice none 0 0, .int .i64 2]) ∧ Below w.heap.size w w'
  take : ∀ {w : World} {ao : Option Addr} {len cap : Nat} {xs : List Int}, Sl w ao len cap xs → len ≤ 1099511627000 →
    Calls Try.prog 11 #[.slice ao len cap] w fun e w' => ∃ v, e = .returned (.tuple #[v, .int .i64 ((tf xs).2.2 : Int), .int .i64 ((tf xs).1 : Int)]) ∧ SlV w' v (tf xs).2.1 ∧ Below w.heap.size w w'
  scan : ∀ {w : World} {ao : Option Addr} {len cap : Nat} {xs : List Int}, Sl w ao len cap xs → len ≤ 1099511627000 →
    Calls Try.prog 13 #[.slice ao len cap] w fun e w' => ∃ v, e = .returned (.tuple #[v, .int .i64 ((Go.Proofs.Ytbinabegiikcaaa.scan xs).2 : Int)]) ∧ RBV w' v (Go.Proofs.Ytbinabegiikcaaa.scan xs).1 ∧ Below w.heap.size w w'

theorem SlV.later {w w' : World} {v : Value} {xs : List Int} (h : SlV w v xs) (hb : Below w.heap.size w w') : SlV w' v xs := by
  obtain ⟨a, c, e, hs⟩ := h
  exact ⟨a, c, e, hs.later hb⟩
theorem RBV.later {w w' : World} {v : Value} {rs : List (List Int)} (h : RBV w v rs) (hb : Below w.heap.size w w') : RBV w' v rs := by
  obtain ⟨a, c, e, hs⟩ := h
  exact ⟨a, c, e, hs.later hb⟩
theorem SlV.ofRow {B : Nat} {w : World} {v : Value} {xs : List Int} (h : Row B w v xs) (hok : Okb xs) : SlV w v xs := by
  obtain ⟨a, c, e, hs⟩ := Sl.ofRow h hok
  exact ⟨a, c, e, hs⟩
theorem RBV.ofRow {B : Nat} {w : World} {v : Value} {rs : List (List Int)} (h : RowB B w v rs) : RBV w v rs := by
  obtain ⟨a, c, e, hs⟩ := h.rb
  exact ⟨a, c, e, hs⟩
theorem PF.put (D : PF) {w : World} {ao so : Option Addr} {len cap ls cs : Nat} {xs rs : List Int} (h1 : Sl w ao len cap xs) (h2 : Sl w so ls cs rs) (h3 : ls ≤ 1048576) (h4 : len ≤ 140737488351232) :
    Calls Try.prog 8 #[.slice ao len cap, .slice so ls cs] w fun e w' => ∃ v, e = .returned (.tuple #[v, .int .i64 0]) ∧ SlV w' v (xs ++ fr rs) ∧ Below w.heap.size w w' := by
  refine (D.putR h1 h2 h3 h4).mono ?_
  rintro e w' ⟨v, rfl, hr, hb⟩
  exact ⟨v, rfl, SlV.ofRow hr (h1.2.1.app (okb_fr h2.2.1)), hb⟩
theorem str_l {w : World} {ao : Option Addr} {len cap : Nat} {xs : List Int} (h : Sl w ao len cap xs) : (convert 22 9 (.slice ao len cap)).run Try.prog w = .ok (.string (strOfNums xs)) w := by
  have := run_str (cap := cap) h.2.2.2.2.2 h.2.2.1
  rw [← h.1, bs_xof h.2.1, h.1] at this
  exact this
theorem Sl.drewN {w : World} {ao : Option Addr} {len cap : Nat} {xs : List Int} (h : Sl w ao len cap xs) (m : Nat) : Sl (w.drewN m) ao len cap xs := h.later (below_drewN (Below.refl _ _) m)
theorem str_inj' : ∀ {xs ys : List Int}, Okb xs → Okb ys → (xs.map fun n => UInt8.ofNat n.toNat) = (ys.map fun n => UInt8.ofNat n.toNat) → xs = ys
  | [], [], _, _, _ => rfl
  | [], _ :: _, _, _, h => by simp at h
  | _ :: _, [], _, _, h => by simp at h
  | x :: xs, y :: ys, hx, hy, h => by
    rw [List.map_cons, List.map_cons, List.cons.injEq] at h
    have h1 := hx x (List.mem_cons_self ..)
    have h2 := hy y (List.mem_cons_self ..)
    have e : x = y := by
      have := congrArg UInt8.toNat h.1
      rw [UInt8.toNat_ofNat', UInt8.toNat_ofNat'] at this
      simp only [Nat.reducePow] at this
      rw [Nat.mod_eq_of_lt (by omega), Nat.mod_eq_of_lt (by omega)] at this
      omega
    rw [e, str_inj' hx.tail hy.tail h.2]
theorem str_inj {xs ys : List Int} (hx : Okb xs) (hy : Okb ys) (h : (strOfNums xs).toList = (strOfNums ys).toList) : xs = ys := by
  rw [ByteArray.toList_eq, ByteArray.toList_eq, strOfNums_data, strOfNums_data] at h
  exact str_inj' hx hy h
theorem str_eq {xs ys : List Int} (hx : Okb xs) (hy : Okb ys) : ((strOfNums xs).toList == (strOfNums ys).toList) = decide (xs = ys) := by
  rw [Bool.eq_iff_iff, beq_iff_eq, decide_eq_true_eq]
  exact ⟨str_inj hx hy, fun e => by rw [e]⟩

set_option maxHeartbeats 2000000 in
set_option maxRecDepth 100000 in
theorem same_any {w : World} {a b : Option Addr} {la ca lb cb : Nat} {rs qs : List (List Int)} (ha : RB w a la ca rs) (hb : RB w b lb cb qs) :
    Calls Try.prog 15 #[.slice a la ca, .slice b lb cb] w fun e w' => e = .returned (.bool (decide (rs = qs))) ∧ Below w.heap.size w w' := by
  have la62 : la ≤ 2 ^ 63 - 1 := by have := ha.2.2; unfold maxLen at this; omega
  have lb62 : lb ≤ 2 ^ 63 - 1 := by have := hb.2.2; unfold maxLen at this; omega
  by_cases hl : la = lb
  · subst hl
    have hne : ((la : Int) != (la : Int)) = false := by simp
    have HA : Hid (RB w a la ca rs ∧ RB w b la cb qs) := ⟨ha, hb⟩
    obtain ⟨T, hT⟩ : ∃ T, T = decide (rs = qs) := ⟨_, rfl⟩
    rw [← hT]
    have H0 : Hid (decide (rs.drop 0 = qs.drop 0) = T) := hT.symm
    clear ha hb hT
    go_enter Try.func15, Try.ntmps15
    go_wp2_with fail
    go_loopg [5, 13] la (fun g _ i wr => ∃ k m : Nat, k + g = la ∧ i = .int .i64 (k : Int) ∧ wr = w.drewN m ∧ Hid (decide (rs.drop k = qs.drop k) = T))
    case atStart => exact ⟨0, 0, by omega, rfl, rfl, H0⟩
    case round =>
      obtain ⟨k, m, hk, rfl, hw, HK⟩ := hrel
      by_cases h : k < la
      · have h' : (k : Int) < (la : Int) := by omega
        have hr1 : k < rs.length := by have := HA.out.1.1; omega
        have hr2 : k < qs.length := by have := HA.out.2.1; omega
        obtain ⟨b1, o1, a1, c1, rfl, hc1, hs1⟩ := HA.out.1.2.2.2.2 k rs[k] (List.getElem?_eq_getElem hr1)
        obtain ⟨b2, o2, a2, c2, rfl, hc2, hs2⟩ := HA.out.2.2.2.2.2 k qs[k] (List.getElem?_eq_getElem hr2)
        have hd := HK.out
        rw [List.drop_eq_getElem_cons hr1, List.drop_eq_getElem_cons hr2] at hd
        obtain ⟨r, hr⟩ : ∃ r, r = rs[k] := ⟨_, rfl⟩
        obtain ⟨q, hq⟩ : ∃ q, q = qs[k] := ⟨_, rfl⟩
        rw [← hr] at hc1 hs1 hd
        rw [← hq] at hc2 hs2 hd
        have g1 := fun j => str_l (hs1.drewN j)
        have g2 := fun j => str_l (hs2.drewN j)
        have heq := str_eq hs1.2.1 hs2.2.1
        obtain ⟨GK, HG⟩ : ∃ g, Hid (g < gk ∧ k + 1 + g = la) := ⟨gk - 1, by omega, by omega⟩
        have hk62 : k ≤ 2 ^ 63 - 2 := by omega
        generalize r.length = n1 at hc1 g1
        generalize q.length = n2 at hc2 g2
        generalize strOfNums r = S1 at g1 heq
        generalize strOfNums q = S2 at g2 heq
        subst hw
        by_cases e : r = q
        · have hne2 : (S1.toList == S2.toList) = true := by rw [heq]; simp [e]
          have HN : Hid (decide (rs.drop (k + 1) = qs.drop (k + 1)) = T) := by
            show decide (rs.drop (k + 1) = qs.drop (k + 1)) = T
            rw [← hd]
            simp [e]
          clear hd hk heq hr hq e hs1 hs2
          go_wp2_with fail
          go_quiet (fail)
          go_wp2_with fail
          go_roundg GK
          case measure => exact HG.out.1
          case rel => exact ⟨k + 1, _, HG.out.2, by go_num, by first | rfl | (rw [World.drewN_drewN]), HN⟩
        · have hne2 : (S1.toList == S2.toList) = false := by rw [heq]; simp [e]
          have hF : T = false := by rw [← hd]; simp [e]
          subst hF
          clear hd hk heq hr hq e hs1 hs2
          go_wp2_with fail
          go_quiet (fail)
          go_wp2_with fail
          go_ret
          exact ⟨rfl, below_drewN (below_drewN (Below.refl _ _) _) _⟩
      · have h' : (la : Int) ≤ (k : Int) := by omega
        have hF : T = true := by
          rw [← HK.out, List.drop_eq_nil_of_le (by have := HA.out.1.1; omega), List.drop_eq_nil_of_le (by have := HA.out.2.1; omega)]
          simp
        subst hF
        subst hw
        clear hk h
        go_wp2_with fail
        go_ret
        exact ⟨rfl, below_drewN (Below.refl _ _) _⟩
  · have hne : ((la : Int) != (lb : Int)) = true := by simp; omega
    have e : decide (rs = qs) = false := by
      rw [decide_eq_false_iff_not]
      intro e
      have h1 := ha.1
      have h2 := hb.1
      rw [e] at h1
      omega
    rw [e]
    clear ha hb e
    go_enter Try.func15, Try.ntmps15
    go_wp2_with fail
    go_ret
    exact ⟨rfl, Below.refl _ _⟩
end Go.Proofs.Ytbinabegiikcaaa
