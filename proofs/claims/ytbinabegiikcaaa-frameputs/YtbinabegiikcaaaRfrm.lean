/- The document's own Frame. -/
import Derived.Test.YtbinabegiikcaaaRscn
namespace Go.Proofs.Ytbinabegiikcaaa
open Go.RowKit
set_option linter.unusedVariables false
set_option linter.unusedSimpArgs false

theorem Row.later {B : Nat} {w w' : World} {v : Value} {xs : List Int} (h : Row B w v xs) (hb : Below w.heap.size w w') : Row B w' v xs := by
  unfold Row at h ⊢
  refine ⟨h.1, ?_⟩
  rcases h.2 with q | ⟨g, cap, cur, q1, q2, q3, q4⟩
  · exact .inl q
  · exact .inr ⟨g, cap, cur, q1, q2, by rw [hb.block g (Array.getElem?_eq_some_iff.1 q3).1]; exact q3, q4⟩
theorem Row.base {B B' : Nat} {w : World} {v : Value} {xs : List Int} (h : Row B w v xs) (hB : B' ≤ B) : Row B' w v xs := by
  unfold Row at h ⊢
  refine ⟨h.1, ?_⟩
  rcases h.2 with q | ⟨g, cap, cur, q1, q2, q3⟩
  · exact .inl q
  · exact .inr ⟨g, cap, cur, q1, by omega, q3⟩
theorem fxs4 (n : Nat) : fxs n 4 = fx n 4 := by unfold fxs; rw [if_pos in4]; rfl
/-- A body: a record with its length ahead. -/
theorem rbody_any {w : World} {so : Option Addr} {ls cs : Nat} {rs : List Int} (hs : Sl w so ls cs rs) (hle : ls ≤ 1099511627776) : Calls Try.prog 22 #[.slice none 0 0, .slice so ls cs] w fun e w' => ∃ v', e = .returned v' ∧ Row w.heap.size w' v' (bd rs) ∧ Below w.heap.size w w' := by
  have h := rpby_any w.heap.size (.slice none 0 0) [] so ls cs (xof rs) w w (Row.nil _ _) (Nat.le_refl _) (Nat.le_refl _) (Below.refl _ _) hs.2.2.2.2.2 hs.2.2.1 (by simp; omega)
  refine h.mono ?_
  rintro e w' ⟨v', rfl, h1, h2, h3⟩
  rw [List.nil_append, ← hs.1, bs_xof hs.2.1] at h1
  exact ⟨v', rfl, h1, grown_below (Row.nil _ _) h2 (Nat.le_refl _)⟩

set_option maxHeartbeats 2000000 in
set_option maxRecDepth 100000 in
theorem rframe_any {B : Nat} {w : World} {v : Value} {xs : List Int} {so : Option Addr} {ls cs : Nat} {rs : List Int} (hrow : Row B w v xs) (hB : B ≤ w.heap.size) (hs : Sl w so ls cs rs) (hle : ls ≤ 1048576) (hx : xs.length ≤ 140737488351232) :
    Calls Try.prog 9 #[v, .slice so ls cs] w fun e w' => ∃ v', e = .returned (.tuple #[v', .int .i64 0]) ∧ Row B w' v' (xs ++ fr rs) ∧ Below B w w' := by
  have hbd := rbody_any hs (by omega)
  have c1 : (ls : Int) ≤ 1048576 := by omega
  have hok : Okb (bd rs) := (okb_uv _).app hs.2.1
  have hbl : (bd rs).length ≤ 1048576 + 10 := by
    have := uv_len64 (n := rs.length) (by have := hs.1; omega)
    have := hs.1
    simp [bd]
    omega
  have hM := fun w => rmask_any (more 0 (nl (bd rs))) w (more0_lt hok)
  have hML := mask_lt (more 0 (nl (bd rs)))
  have e4 : fx (mask (more 0 (nl (bd rs)))) 4 ++ bd rs = fr rs := rfl
  obtain ⟨M, hMe⟩ : ∃ M, M = mask (more 0 (nl (bd rs))) := ⟨_, rfl⟩
  rw [← hMe] at hM hML e4
  have hfx := fun w1 (h : Below w.heap.size w w1) => rfixed_any B v xs M 4 w1 (hrow.later h) (Nat.le_trans hB h.size) (by omega)
  simp only [fxs4] at hfx
  have HV : Hid (Row B w v xs ∧ B ≤ w.heap.size ∧ Okb (bd rs) ∧ (bd rs).length ≤ 1048576 + 10 ∧ xs.length ≤ 140737488351232) := ⟨hrow, hB, hok, hbl, hx⟩
  have hS : ∀ {w1 : World} {a : Option Addr} {n c : Nat}, Sl w1 a n c (bd rs) → Calls Try.prog 25 #[.slice a n c] w1 fun e w' => e = .returned (.int .u32 (more 0 (nl (bd rs)) : Nat)) ∧ w' = w1 := fun h => rsum_l h
  generalize more 0 (nl (bd rs)) = G at hM hS hMe
  clear hrow hB hs hle hx hok hbl hMe
  go_enter Try.func9, Try.ntmps9
  go_upto_region 4 with (go_at_call 22; refine hbd.mono ?_; rintro e w1 ⟨v1, rfl, hr1, hb1⟩)
  obtain ⟨a1, n1, hv1, hsl1⟩ := Sl.ofRow hr1 HV.out.2.2.1
  subst hv1
  have hS1 := hS hsl1
  have hM1 := hM w1
  have hF1 := hfx w1 hb1
  have HR : Hid (Row w.heap.size w1 (.slice a1 (bd rs).length n1) (bd rs) ∧ Sl w1 a1 (bd rs).length n1 (bd rs) ∧ Below w.heap.size w w1) := ⟨hr1, hsl1, hb1⟩
  clear hS hM hfx hr1 hsl1 hb1 hbd
  have hK : ∀ {w2 : World}, w1.grownBy w2 v.ownBlock → Sl w2 a1 (bd rs).length n1 (bd rs) := fun {w2} hg => HR.out.2.1.grown hg (fun _ b off e hv => by
    have h1 := (World.ownsRow.lt HR.out.1 b (by rw [e]; rfl)).1
    have h2 := (World.ownsRow.lt HV.out.1 b hv).2
    omega)
  have HK : Hid (∀ {w2 : World}, w1.grownBy w2 v.ownBlock → Sl w2 a1 (bd rs).length n1 (bd rs)) := @hK
  clear hK
  go_wp2_with (first | (go_at_call 25; refine hS1.mono ?_; rintro e w' ⟨rfl, hw⟩; obtain rfl := hw.symm) | (go_at_call 24; refine hM1.mono ?_; rintro e w' ⟨rfl, hw⟩; obtain rfl := hw.symm) | (go_at_call 23; refine hF1.mono ?_; rintro e w2 ⟨v2, rfl, hr2, hg2, hm2⟩) | (at_builtin; refine wpList_appW rfl _ _ rfl B v2 _ (by simp [Act.eval]) hr2 a1 (bd rs).length n1 (xof (bd rs)) (by simp [Act.eval]) (HK.out hg2).2.2.1 (HK.out hg2).2.2.2.2.2 (by have := HV.out; rw [List.length_append, fx4]; omega) (Nat.le_trans HV.out.2.1 (Nat.le_trans HR.out.2.2.size hg2.size)) ?_; intro v3 w3 hr3 hg3 hm3))
  rw [bs_xof HV.out.2.2.1, List.append_assoc, e4] at hr3
  have B1 : Below B w w1 := HR.out.2.2.mono HV.out.2.1
  have B2 : Below B w1 w2 := grown_below (HV.out.1.later HR.out.2.2) hg2 (Nat.le_trans HV.out.2.1 HR.out.2.2.size)
  have B3 : Below B w2 w3 := grown_below hr2 hg3 (Nat.le_trans HV.out.2.1 (Nat.le_trans HR.out.2.2.size hg2.size))
  exact bodyPost_ret (v := .tuple #[v3, .int .i64 0]) (by simp [results, Try.results9, go_sem]) rfl ⟨v3, rfl, hr3, (B1.trans B2).trans B3⟩
theorem rframe_long {w : World} {v : Value} {so : Option Addr} {ls cs : Nat} (hle : 1048576 < ls) (hl : ls ≤ 2 ^ 62) :
    Calls Try.prog 9 #[v, .slice so ls cs] w fun e w' => e = .returned (.tuple #[.slice none 0 0, .int .i64 2]) ∧ w' = w := by
  have c1 : (1048576 : Int) < (ls : Int) := by omega
  go_enter Try.func9, Try.ntmps9
  go_wp2_with fail
  exact bodyPost_ret (v := .tuple #[.slice none 0 0, .int .i64 2]) (by simp [results, Try.results9, go_sem]) rfl ⟨rfl, rfl⟩
end Go.Proofs.Ytbinabegiikcaaa
