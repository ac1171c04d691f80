/- The law on what stands below a name. -/
import Derived.Test.YtlbbaniehkghdabDoorLevels
namespace Go.Proofs.YtlbbaniehkghdabDoor
open Go.RowKit
set_option linter.unusedVariables false

theorem below_cut {s o : List UInt8} (h : s.length < o.length) : (∃ t, o = s ++ 47 :: t) ↔ o.take (s.length + 1) = s ++ [47] := by
  constructor
  · rintro ⟨t, rfl⟩
    rw [List.take_append, List.take_of_length_le (by omega), show s.length + 1 - s.length = 1 by omega]
    rfl
  · intro e
    refine ⟨o.drop (s.length + 1), ?_⟩
    conv => lhs; rw [← List.take_append_drop (s.length + 1) o, e]
    simp

set_option maxHeartbeats 2000000 in
set_option maxRecDepth 100000 in
theorem below_any (s o : ByteArray) (w : World) (hs : s.size ≤ maxLen) (ho : o.size ≤ maxLen) : Calls Tryd.prog 4 #[.string s, .string o] w fun e w' => e = .returned (.bool true) ∧ Below w.heap.size w w' := by
  have h1 := fun w => tname_any s w hs
  have h2 := fun w => tname_any o w ho
  cases hS : nam s.data.toList with
  | false =>
    simp only [hS] at h1
    clear h2 hs ho
    go_enter Tryd.func4, Tryd.ntmps4
    go_wp2_with fail
    refine (h1 w).mono ?_
    rintro e w1 ⟨rfl, hb1⟩
    go_wp2_with fail
    refine (awake_any w1).mono ?_
    rintro e w2 ⟨rfl, hb2⟩
    go_wp2_with fail
    go_ret
    exact ⟨rfl, hb1.trans (hb2.mono hb1.size)⟩
  | true =>
    simp only [hS] at h1
    cases hO : nam o.data.toList with
    | false =>
      simp only [hO] at h2
      clear hs ho
      go_enter Tryd.func4, Tryd.ntmps4
      go_wp2_with fail
      refine (h1 w).mono ?_
      rintro e w1 ⟨rfl, hb1⟩
      go_wp2_with fail
      refine (h2 w1).mono ?_
      rintro e w2 ⟨rfl, hb2⟩
      go_wp2_with fail
      refine (awake_any w2).mono ?_
      rintro e w3 ⟨rfl, hb3⟩
      go_wp2_with fail
      go_ret
      have B2 := hb1.trans (hb2.mono hb1.size)
      exact ⟨rfl, B2.trans (hb3.mono B2.size)⟩
    | true =>
      simp only [hO] at h2
      obtain ⟨s1, s64⟩ := nam_size s hS
      obtain ⟨o1, o64⟩ := nam_size o hO
      by_cases q : s.size + 2 ≤ 64
      · have q' : (s.size : Int) + 2 ≤ 64 := by omega
        have ef : (s ++ ByteArray.mk #[47, 35]).data.toList = s.data.toList ++ [47, 35] := by simp
        have hfs : (s ++ ByteArray.mk #[47, 35]).size = s.size + 2 := by rw [ByteArray.size_append]; rfl
        have hadd1 : ∀ w, (Op.stringOp .add s (ByteArray.mk #[47])).run Tryd.prog w = .ok (.string (s ++ ByteArray.mk #[47])) w := fun w => run_string_add_sum (P := Tryd.prog) (w := w) _ _ (by have : (ByteArray.mk #[47]).size = 1 := rfl; omega)
        have hadd2 : ∀ w, (Op.stringOp .add s (ByteArray.mk #[47, 35])).run Tryd.prog w = .ok (.string (s ++ ByteArray.mk #[47, 35])) w := fun w => run_string_add_sum (P := Tryd.prog) (w := w) _ _ (by have : (ByteArray.mk #[47, 35]).size = 2 := rfl; omega)
        have hsl : s.data.toList.length + 2 ≤ 64 := by rw [len_data]; exact q
        obtain ⟨F, hFe⟩ : ∃ F, F = s ++ ByteArray.mk #[47, 35] := ⟨_, rfl⟩
        rw [← hFe] at ef hfs hadd2
        have F64 : F.size ≤ maxLen := small_ok (by omega)
        have hf := fun w => tfil_any F w F64
        have hm := fun w => tmat_any F o w F64 ho
        have hc1 := fun w => tcov_any F s w F64 hs
        have hc2 := fun w => tcov_any F F w F64 F64
        have hc3 := fun w => tcov_any F o w F64 ho
        have kf : fil F.data.toList = true := by rw [ef]; exact fil_below hS hsl
        have km : mat F.data.toList o.data.toList = true ↔ (o.data.toList = s.data.toList ∨ ∃ t, o.data.toList = s.data.toList ++ 47 :: t) := by rw [ef]; exact mat_below hS hO hsl
        have kc1 : cov F.data.toList s.data.toList = true := by rw [ef]; exact cov_below hS (nam_fil hS) hsl (.inl rfl)
        have kc2 : cov F.data.toList F.data.toList = true := cov_self kf
        have kc3 : (o.data.toList = s.data.toList ∨ ∃ t, o.data.toList = s.data.toList ++ 47 :: t) → cov F.data.toList o.data.toList = true := fun h => by rw [ef]; exact cov_below hS (nam_fil hO) hsl h
        simp only [kf] at hf
        simp only [kc1] at hc1
        simp only [kc2] at hc2
        have hsz62 : s.size ≤ 2 ^ 62 := by omega
        by_cases p1 : o.data.toList = s.data.toList
        · have bos : (o.toList == s.toList) = true := by rw [tl_eq, tl_eq, p1]; simp
          have m1 : mat F.data.toList o.data.toList = true := km.2 (.inl p1)
          simp only [m1] at hm
          simp only [kc3 (.inl p1)] at hc3
          clear hs ho hS hO ef hfs hsl hFe F64 kf km kc1 kc2 kc3 m1 p1 hadd1
          go_enter Tryd.func4, Tryd.ntmps4
          go_wp2_with fail
          refine (h1 w).mono ?_
          rintro e w1 ⟨rfl, hb1⟩
          go_wp2_with fail
          refine (h2 w1).mono ?_
          rintro e w2 ⟨rfl, hb2⟩
          go_wp2_with fail
          refine (hf w2).mono ?_
          rintro e w3 ⟨rfl, hb3⟩
          go_wp2_with fail
          refine (hm w3).mono ?_
          rintro e w4 ⟨rfl, hb4⟩
          go_wp2_with fail
          refine (hc1 w4).mono ?_
          rintro e w5 ⟨rfl, hb5⟩
          go_wp2_with fail
          refine (hc2 w5).mono ?_
          rintro e w6 ⟨rfl, hb6⟩
          go_wp2_with fail
          refine (hc3 w6).mono ?_
          rintro e w7 ⟨rfl, hb7⟩
          go_wp2_with fail
          refine (awake_any w7).mono ?_
          rintro e w8 ⟨rfl, hb8⟩
          go_wp2_with fail
          go_ret
          have B2 := hb1.trans (hb2.mono hb1.size)
          have B3 := B2.trans (hb3.mono B2.size)
          have B4 := B3.trans (hb4.mono B3.size)
          have B5 := B4.trans (hb5.mono B4.size)
          have B6 := B5.trans (hb6.mono B5.size)
          have B7 := B6.trans (hb7.mono B6.size)
          exact ⟨rfl, B7.trans (hb8.mono B7.size)⟩
        · have bos : (o.toList == s.toList) = false := by rw [tl_eq, tl_eq]; simpa using p1
          by_cases p2 : s.size < o.size
          · have p2' : (s.size : Int) < (o.size : Int) := by omega
            have p2'' : (s.size : Int) + 1 ≤ (o.size : Int) := by omega
            have hcutl : (o.extract 0 (s.size + 1)).data.toList = o.data.toList.take (s.data.toList.length + 1) := by rw [ext_list o 0 (s.size + 1) (by omega) (by omega), len_data]; simp
            have hsl1 : (s ++ ByteArray.mk #[47]).data.toList = s.data.toList ++ [47] := by simp
            have hcut := @below_cut s.data.toList o.data.toList (by rw [len_data, len_data]; exact p2)
            by_cases p3 : ∃ t, o.data.toList = s.data.toList ++ 47 :: t
            · have bex : ((o.extract 0 (s.size + 1)).toList == (s ++ ByteArray.mk #[47]).toList) = true := by rw [tl_eq, tl_eq, hcutl, hsl1, hcut.1 p3]; simp
              have m1 : mat F.data.toList o.data.toList = true := km.2 (.inr p3)
              simp only [m1] at hm
              simp only [kc3 (.inr p3)] at hc3
              clear hs ho hS hO ef hfs hsl hFe F64 kf km kc1 kc2 kc3 m1 p1 p3 hcutl hsl1 hcut
              go_enter Tryd.func4, Tryd.ntmps4
              go_wp2_with fail
              refine (h1 w).mono ?_
              rintro e w1 ⟨rfl, hb1⟩
              go_wp2_with fail
              refine (h2 w1).mono ?_
              rintro e w2 ⟨rfl, hb2⟩
              go_wp2_with fail
              refine (hf w2).mono ?_
              rintro e w3 ⟨rfl, hb3⟩
              go_wp2_with fail
              refine (hm w3).mono ?_
              rintro e w4 ⟨rfl, hb4⟩
              go_wp2_with fail
              refine (hc1 w4).mono ?_
              rintro e w5 ⟨rfl, hb5⟩
              go_wp2_with fail
              refine (hc2 w5).mono ?_
              rintro e w6 ⟨rfl, hb6⟩
              go_wp2_with fail
              refine (hc3 w6).mono ?_
              rintro e w7 ⟨rfl, hb7⟩
              go_wp2_with fail
              refine (awake_any w7).mono ?_
              rintro e w8 ⟨rfl, hb8⟩
              go_wp2_with fail
              go_ret
              have B2 := hb1.trans (hb2.mono hb1.size)
              have B3 := B2.trans (hb3.mono B2.size)
              have B4 := B3.trans (hb4.mono B3.size)
              have B5 := B4.trans (hb5.mono B4.size)
              have B6 := B5.trans (hb6.mono B5.size)
              have B7 := B6.trans (hb7.mono B6.size)
              exact ⟨rfl, B7.trans (hb8.mono B7.size)⟩
            · have bex : ((o.extract 0 (s.size + 1)).toList == (s ++ ByteArray.mk #[47]).toList) = false := by
                rw [tl_eq, tl_eq, hcutl, hsl1]
                have : ¬ o.data.toList.take (s.data.toList.length + 1) = s.data.toList ++ [47] := fun e => p3 (hcut.2 e)
                simpa using this
              have m1 : mat F.data.toList o.data.toList = false := by
                cases e : mat F.data.toList o.data.toList with
                | false => rfl
                | true => rcases km.1 e with h | h
                          · exact absurd h p1
                          · exact absurd h p3
              simp only [m1] at hm
              clear hs ho hS hO ef hfs hsl hFe F64 kf km kc1 kc2 kc3 m1 p1 p3 hcutl hsl1 hcut hc3
              go_enter Tryd.func4, Tryd.ntmps4
              go_wp2_with fail
              refine (h1 w).mono ?_
              rintro e w1 ⟨rfl, hb1⟩
              go_wp2_with fail
              refine (h2 w1).mono ?_
              rintro e w2 ⟨rfl, hb2⟩
              go_wp2_with fail
              refine (hf w2).mono ?_
              rintro e w3 ⟨rfl, hb3⟩
              go_wp2_with fail
              refine (hm w3).mono ?_
              rintro e w4 ⟨rfl, hb4⟩
              go_wp2_with fail
              refine (hc1 w4).mono ?_
              rintro e w5 ⟨rfl, hb5⟩
              go_wp2_with fail
              refine (hc2 w5).mono ?_
              rintro e w6 ⟨rfl, hb6⟩
              go_wp2_with fail
              refine (awake_any w6).mono ?_
              rintro e w7 ⟨rfl, hb7⟩
              go_wp2_with fail
              go_ret
              have B2 := hb1.trans (hb2.mono hb1.size)
              have B3 := B2.trans (hb3.mono B2.size)
              have B4 := B3.trans (hb4.mono B3.size)
              have B5 := B4.trans (hb5.mono B4.size)
              have B6 := B5.trans (hb6.mono B5.size)
              exact ⟨rfl, B6.trans (hb7.mono B6.size)⟩
          · have p2' : (o.size : Int) ≤ (s.size : Int) := by omega
            have m1 : mat F.data.toList o.data.toList = false := by
              cases e : mat F.data.toList o.data.toList with
              | false => rfl
              | true =>
                rcases km.1 e with h | ⟨t, h⟩
                · exact absurd h p1
                · have := congrArg List.length h
                  rw [len_data, List.length_append, len_data, List.length_cons] at this
                  omega
            simp only [m1] at hm
            clear hs ho hS hO ef hfs hsl hFe F64 kf km kc1 kc2 kc3 m1 p1 hc3 hadd1
            go_enter Tryd.func4, Tryd.ntmps4
            go_wp2_with fail
            refine (h1 w).mono ?_
            rintro e w1 ⟨rfl, hb1⟩
            go_wp2_with fail
            refine (h2 w1).mono ?_
            rintro e w2 ⟨rfl, hb2⟩
            go_wp2_with fail
            refine (hf w2).mono ?_
            rintro e w3 ⟨rfl, hb3⟩
            go_wp2_with fail
            refine (hm w3).mono ?_
            rintro e w4 ⟨rfl, hb4⟩
            go_wp2_with fail
            refine (hc1 w4).mono ?_
            rintro e w5 ⟨rfl, hb5⟩
            go_wp2_with fail
            refine (hc2 w5).mono ?_
            rintro e w6 ⟨rfl, hb6⟩
            go_wp2_with fail
            refine (awake_any w6).mono ?_
            rintro e w7 ⟨rfl, hb7⟩
            go_wp2_with fail
            go_ret
            have B2 := hb1.trans (hb2.mono hb1.size)
            have B3 := B2.trans (hb3.mono B2.size)
            have B4 := B3.trans (hb4.mono B3.size)
            have B5 := B4.trans (hb5.mono B4.size)
            have B6 := B5.trans (hb6.mono B5.size)
            exact ⟨rfl, B6.trans (hb7.mono B6.size)⟩
      · have q' : (64 : Int) < (s.size : Int) + 2 := by omega
        have hsz62 : s.size ≤ 2 ^ 62 := by omega
        clear hs ho hS hO
        go_enter Tryd.func4, Tryd.ntmps4
        go_wp2_with fail
        refine (h1 w).mono ?_
        rintro e w1 ⟨rfl, hb1⟩
        go_wp2_with fail
        refine (h2 w1).mono ?_
        rintro e w2 ⟨rfl, hb2⟩
        go_wp2_with fail
        refine (awake_any w2).mono ?_
        rintro e w3 ⟨rfl, hb3⟩
        go_wp2_with fail
        go_ret
        have B2 := hb1.trans (hb2.mono hb1.size)
        exact ⟨rfl, B2.trans (hb3.mono B2.size)⟩
end Go.Proofs.YtlbbaniehkghdabDoor
