/- What the landed key's After answers, and the landed key's contracts together. -/
import Derived.Test.YtgfkjbckhgndcaaLktake
import Derived.Test.YtgfkjbckhgndcaaKlaw
namespace Go.Proofs.Ytgfkjbckhgndcaa
open Go.RowKit
set_option linter.unusedVariables false
set_option linter.unusedSimpArgs false

set_option maxHeartbeats 2000000 in
set_option maxRecDepth 100000 in
theorem kafter_any {w : World} {ao : Option Addr} {len cap : Nat} {xs : List Int} (h : Sl w ao len cap xs) (hl : len ≤ 140737488355000) :
    Calls Try.prog 18 #[.slice ao len cap] w fun e w' => Af xs w.heap.size e w' ∧ Below w.heap.size w w' := by
  have HS : Hid (Sl w ao len cap xs ∧ len ≤ 140737488355000) := ⟨h, hl⟩
  have hmax : len ≤ 2 ^ 62 := by omega
  have hln := h.1
  have hlc := h.2.2.2.1
  clear h hl
  go_enter Try.func18, Try.ntmps18
  go_upto_block 0 with fail
  go_cut [4] from 8 to 19 (fun s4 wx => ∃ k : Nat, s4 = .int .i64 (k : Int) ∧ wx = w ∧ Hid (k ≤ len ∧ (∀ y ∈ xs.drop k, y = 255) ∧ (∀ m, k = m + 1 → ∀ hm : m < xs.length, xs[m] ≠ 255)))
  case first =>
    go_wp2_with fail
    go_loopg [4] len (fun g o wr => o = .int .i64 (g : Int) ∧ wr = w ∧ Hid (g ≤ len ∧ ∀ y ∈ xs.drop g, y = 255))
    case atStart => exact ⟨rfl, rfl, Nat.le_refl _, fun y hy => by rw [List.drop_of_length_le (by omega)] at hy; cases hy⟩
    case round =>
      obtain ⟨rfl, hwr, HK⟩ := hrel
      obtain rfl := hwr.symm
      by_cases q : gk = 0
      · subst q
        have hg : (((0 : Nat) : Int) > 0) = False := by simp
        go_wp2_with fail
        go_meet
        exact ⟨0, rfl, rfl, Nat.zero_le _, HK.out.2, fun m e => by cases e⟩
      · obtain ⟨m, rfl⟩ : ∃ m, gk = m + 1 := ⟨gk - 1, by omega⟩
        have hmx : m < xs.length := by have := HK.out.1; omega
        obtain ⟨h8, b, off, hab, hc⟩ := HS.out.1.2.2.2.2.2 m (by omega)
        subst hab
        have hx := xof_at HS.out.1.2.1 hmx
        obtain ⟨c, hcc⟩ : ∃ c, c = xof xs m := ⟨_, rfl⟩
        rw [← hcc] at hc hx h8
        have hm62 : m ≤ 2 ^ 61 := by have := HK.out.1; have := HS.out.2; omega
        have hml : (m : Int) < (len : Int) := by omega
        by_cases z : c = 255
        · subst z
          have HN : Hid (m ≤ len ∧ ∀ y ∈ xs.drop m, y = 255) := by
            refine ⟨by have := HK.out.1; omega, fun y hy => ?_⟩
            rw [List.drop_eq_getElem_cons hmx] at hy
            rcases List.mem_cons.1 hy with e | e
            · rw [e, hx]; rfl
            · exact HK.out.2 y e
          clear q h8 hx hcc
          go_wp2_with fail
          go_roundg m
          case measure => omega
          case rel => exact ⟨rfl, rfl, HN⟩
        · have zb : ((c : Int) == 255) = false := by simp; omega
          have HN : Hid (∀ m', m + 1 = m' + 1 → ∀ hm : m' < xs.length, xs[m'] ≠ 255) := fun m' e hm => by
            obtain rfl : m = m' := by omega
            rw [hx]
            omega
          clear q h8 hx hcc z
          go_wp2_with fail
          go_meet
          exact ⟨m + 1, rfl, rfl, HK.out.1, HK.out.2, HN.out⟩
  case rest =>
    obtain ⟨k, rfl, hwx, HK⟩ := hcut
    obtain rfl := hwx.symm
    cases k with
    | zero =>
      have HT : Hid (aft xs = none) := aft_all fun y hy => HK.out.2.1 y hy
      go_wp2_with fail
      exact bodyPost_ret (v := .tuple #[.slice none 0 0, .bool false]) (by simp [results, Try.results18, go_sem]) rfl ⟨⟨_, by rw [HT.out]; rfl, by rw [HT.out]; exact Row.nil _ _⟩, Below.refl _ _⟩
    | succ m =>
      have hmx : m < xs.length := by have := HK.out.1; omega
      have hne := HK.out.2.2 m rfl hmx
      have hT := aft_at hmx hne HK.out.2.1
      have hhd := HS.out.1.head (m + 1) (by omega)
      have hfr := kfresh_any 0 hhd (by have := HS.out.2; omega)
      have e0 : ((0 : Nat) : Int) = 0 := rfl
      have ea : cutA ao cap 0 = ao := by
        obtain ⟨_, b, off, hab, _⟩ := HS.out.1.2.2.2.2.2 m (by omega)
        rw [hab]
        exact cutA_zero
      rw [ea, e0] at hfr
      clear e0 ea
      have hlen : (xs.take (m + 1)).length = m + 1 := by rw [List.length_take]; omega
      have hx := xof_at HS.out.1.2.1 hmx
      have h8 := HS.out.1.2.1 xs[m] (List.getElem_mem hmx)
      obtain ⟨c, hcc⟩ : ∃ c, c = xof xs m := ⟨_, rfl⟩
      rw [← hcc] at hx
      rw [hx] at hT hne h8
      have hc255 : c + 1 < 256 := by omega
      have HV : Hid (aft xs = some (xs.take m ++ [(c : Int) + 1]) ∧ (xs.take (m + 1)).length = m + 1 ∧ xs[m] = (c : Int) ∧ Okb (xs.take (m + 1))) := ⟨hT, hlen, hx, hhd.2.1⟩
      have hm62 : m ≤ 2 ^ 61 := by have := HK.out.1; have := HS.out.2; omega
      clear hne hT hhd hlen hx h8 hcc HK
      go_upto_region 7 with (go_at_call 23; refine hfr.mono ?_; rintro e w1 ⟨v1, rfl, hr1, hb1⟩)
      obtain ⟨a1, c1, hv1, hs1⟩ := Sl.ofRow hr1 HV.out.2.2.2
      subst hv1
      have hown : ∃ g, a1 = some ⟨g, 0, none⟩ := by
        rcases hr1.2 with ⟨e, _⟩ | ⟨g, _, _, e, _⟩
        · simp only [Value.slice.injEq] at e
          have := HV.out.2.1
          omega
        · simp only [Value.slice.injEq] at e
          exact ⟨g, e.1⟩
      obtain ⟨g, hg⟩ := hown
      subst hg
      obtain ⟨hcell, hfz⟩ := hr1.at m (by have := HV.out.2.1; omega)
      have e1 : (xs.take (m + 1))[m]'(by have := HV.out.2.1; omega) = (c : Int) := by rw [List.getElem_take]; exact HV.out.2.2.1
      rw [e1] at hcell
      obtain ⟨hset, hgrow⟩ := hr1.set m (c + 1)
      have hcl : m + 1 ≤ c1 := by have := hs1.2.2.2.1; have := HV.out.2.1; omega
      rw [take_set hmx] at hset
      have HF : Hid (Row w.heap.size (w1.setCell ⟨g, m, none⟩ (.int .u8 ((c + 1 : Nat) : Int))) (.slice (some ⟨g, 0, none⟩) (m + 1) c1) (xs.take m ++ [((c + 1 : Nat) : Int)]) ∧ Below w.heap.size w (w1.setCell ⟨g, m, none⟩ (.int .u8 ((c + 1 : Nat) : Int))) ∧ aft xs = some (xs.take m ++ [((c + 1 : Nat) : Int)])) := by
        refine ⟨by rw [HV.out.2.1] at hset; exact hset, hb1.trans (grown_below hr1 hgrow hb1.size), ?_⟩
        rw [HV.out.1]
        rfl
      rw [HV.out.2.1]
      have hcl' : (m : Int) < (m : Int) + 1 := by omega
      clear hset hgrow hr1 hs1 e1 hb1 hfr HV
      go_wp2_with fail
      refine bodyPost_ret (v := .tuple #[.slice (some ⟨g, 0, none⟩) (m + 1) c1, .bool true]) (by simp [results, Try.results18, go_sem]) rfl ⟨⟨_, by rw [HF.out.2.2]; rfl, ?_⟩, ?_⟩
      · rw [HF.out.2.2]; exact HF.out.1
      · exact HF.out.2.1

/-- The landed key keeps what is asked. -/
theorem theKey : PK where
  bytes := fun h1 h2 h3 => kbytes_any h1 h2 h3
  number := fun h1 h2 h3 => knumber_any h1 h2 h3
  take := fun h1 h2 => (ktake_any h1 h2).mono fun e w' ⟨v, he, hr, hb⟩ => ⟨v, he, SlV.ofRow hr (okb_tp _ _ (Nat.le_refl _) h1.2.1), hb⟩
  takeN := fun h1 => (ktakeN_any h1).mono fun e w' ⟨he, hw⟩ => ⟨he, by rw [hw]; exact Below.refl _ _⟩
  after := fun {w} {_} {_} {_} {xs} h1 h2 => (kafter_any h1 h2).mono fun e w' ⟨⟨v, he, hr⟩, hb⟩ => ⟨v, he, SlV.ofRow hr (by
    cases h : aft xs with
    | none => exact fun x hx => by cases hx
    | some e => exact okb_aft h1.2.1 h), hb⟩
  compare := fun h1 h2 => (kcompare_any h1 h2).mono fun e w' ⟨he, hw⟩ => ⟨he, by rw [hw]; exact Below.refl _ _⟩
end Go.Proofs.Ytgfkjbckhgndcaa
