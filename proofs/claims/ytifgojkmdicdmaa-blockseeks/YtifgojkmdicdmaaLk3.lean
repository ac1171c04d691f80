/- The landed block: an entry behind the bytes. -/
import Derived.Test.YtifgojkmdicdmaaLk2
import Derived.Deep.RegionHeldLaw
namespace Go.Proofs.Ytifgojkmdicdmaa
open Go.RowKit
set_option linter.unusedVariables false
set_option linter.unusedSimpArgs false

theorem shr_comm : ∀ a b : List Int, shr a b = shr b a
  | [], [] => rfl
  | [], y :: b => rfl
  | x :: a, [] => rfl
  | x :: a, y :: b => by
    unfold shr
    rw [shr_comm a b]
    by_cases h : x = y
    · rw [if_pos h, if_pos h.symm]
    · rw [if_neg h, if_neg (fun e => h e.symm)]
theorem vput_k {w : World} {n : Nat} (hn : n < 18446744073709551616) : Calls Try.prog 46 #[.slice none 0 0, .int .u64 (n : Int)] w fun e w' => ∃ a m c, e = .returned (.slice a m c) ∧ Sl w' a m c (uv n) ∧ m ≤ 10 ∧ Below w.heap.size w w' := by
  refine (vput_nil hn).mono ?_
  rintro e w' ⟨v', rfl, r, b⟩
  obtain ⟨a, c, rfl, hs⟩ := Sl.ofRow r (okb_uv _)
  exact ⟨a, _, c, rfl, hs, uv_len64 hn, b⟩
theorem vputw_k {w : World} {n : Nat} (hn : n < 18446744073709551616) : Calls Try.prog 46 #[.slice none 0 0, .int .u64 (IntKind.u64.wrap (n : Int))] w fun e w' => ∃ a m c, e = .returned (.slice a m c) ∧ Sl w' a m c (uv n) ∧ m ≤ 10 ∧ Below w.heap.size w w' := by
  rw [wrap64u hn]
  exact vput_k hn
theorem vpby_k {w : World} {so : Option Addr} {ls cs : Nat} {rs : List Int} (h : Sl w so ls cs rs) (hl : ls ≤ 1000000) : Calls Try.prog 47 #[.slice none 0 0, .slice so ls cs] w fun e w' => ∃ a m c, e = .returned (.slice a m c) ∧ Sl w' a m c (lb rs) ∧ m ≤ ls + 10 ∧ Below w.heap.size w w' := by
  refine (vpby_nil h (by omega)).mono ?_
  rintro e w' ⟨v', rfl, r, b⟩
  obtain ⟨a, c, rfl, hs⟩ := Sl.ofRow r (okb_lb h.2.1)
  exact ⟨a, _, c, rfl, hs, by rw [lb_len, h.1]; have := uv_len64 (n := ls) (by omega); omega, b⟩

/-- A row of one's own has grown, and nothing else that was there has changed. -/
def Grw (w : World) (v : Value) (w' : World) (v' : Value) : Prop := w.grownBy w' v.ownBlock ∧ Moved w v v'
theorem Grw.later {w w1 w2 : World} {v v1 : Value} (h : Grw w v w1 v1) (hb : Below w1.heap.size w1 w2) : Grw w v w2 v1 := ⟨grown_trans h.1 (below_grown hb _), h.2⟩
theorem Grw.refl {w w' : World} {v : Value} (hb : Below w.heap.size w w') : Grw w v w' v := ⟨below_grown hb _, .inl rfl⟩
theorem Grw.step {w w1 w2 : World} {v v1 v2 : Value} (h : Grw w v w1 v1) (g : w1.grownBy w2 v1.ownBlock) (m : Moved w1 v1 v2) : Grw w v w2 v2 := by
  refine ⟨⟨g.os.trans h.1.os, g.tape.trans h.1.tape, g.output.trans h.1.output, Nat.le_trans h.1.size g.size, fun k hk hne => ?_⟩, ?_⟩
  · rw [g.block k (Nat.lt_of_lt_of_le hk h.1.size) (fun e => ?_)]
    · exact h.1.block k hk hne
    · rcases h.2 with q | ⟨g', q1, q2⟩
      · rw [q] at e; exact hne e
      · rw [q1] at e; simp only [Option.some.injEq] at e; omega
  · rcases m with q | ⟨g', q1, q2⟩
    · rcases h.2 with q' | ⟨g', q1, q2⟩
      · exact .inl (q.trans q')
      · exact .inr ⟨g', q.trans q1, q2⟩
    · exact .inr ⟨g', q1, Nat.le_trans h.1.size q2⟩

set_option maxHeartbeats 4000000 in
set_option maxRecDepth 100000 in
theorem app_k {W w : World} {v u : Value} {xs zs : List Int} {pa ka va : Option Addr} {pl pc kc vc : Nat} {prev : List Int} {o : EntV} (hP : Pair W w v u xs zs) (hp : Sl W pa pl pc prev) (hpl : pl ≤ 512) (hk : Sl W ka o.key.length kc o.key) (hv : Sl W va o.val.length vc o.val)
    (hm : mayE o = true) (hx : xs.length ≤ 1500000) :
    Calls Try.prog 24 #[v, .slice pa pl pc, entA ka kc va vc o] w fun r w' => ∃ v', r = .returned v' ∧ Pair W w' v' u (xs ++ enE (shr prev o.key) o) zs ∧ Grw w v w' v' := by
  obtain ⟨h1, h2, h3, h4, h5, h6, h7, h8⟩ := mayE_ok hm
  obtain ⟨key, seq, gone, till, vl⟩ := o
  simp only at h1 h2 h3 h4 h5 h6 h7 h8 hk hv ⊢
  obtain ⟨Q, rfl⟩ := Int.eq_ofNat_of_zero_le (show 0 ≤ seq by omega)
  obtain ⟨U, rfl⟩ := Int.eq_ofNat_of_zero_le h5
  obtain ⟨S, hS⟩ : ∃ S, S = shr prev key := ⟨_, rfl⟩
  have hSk : S ≤ key.length := by rw [hS]; exact (shr_le prev key).2
  unfold entA
  simp only
  have HE : Hid (enE (shr prev key) ⟨key, (Q : Int), gone, (U : Int), vl⟩ = uv S ++ (lb (key.drop S) ++ (uv Q ++ (if gone then [1] else 0 :: (uv U ++ lb vl))))) := by show _ = _; rw [← hS]; rfl
  have HSH : Hid (∀ {wx : World}, Below W.heap.size W wx → Calls Try.prog 45 #[.slice pa pl pc, .slice ka key.length kc] wx fun e w' => e = .returned (.int .i64 (S : Int)) ∧ Below wx.heap.size wx w') := fun {wx} hb => by rw [hS]; exact shd_k (hp.later hb) (hk.later hb) (by omega)
  have HL : Hid (xs.length ≤ 1500000 ∧ (uv S).length ≤ 10 ∧ (lb (key.drop S)).length ≤ 522 ∧ (uv Q).length ≤ 10 ∧ (uv U).length ≤ 10 ∧ Q < 18446744073709551616 ∧ U < 18446744073709551616 ∧ S < 18446744073709551616 ∧ key.length - S ≤ 512 ∧ vl.length ≤ 2048) := by
    have a1 := uv_len64 (n := S) (by omega)
    have a2 := uv_len64 (n := Q) (by omega)
    have a3 := uv_len64 (n := U) (by omega)
    have a4 := uv_len64 (n := (key.drop S).length) (by rw [List.length_drop]; omega)
    refine ⟨hx, a1, ?_, a2, a3, by omega, by omega, by omega, by omega, h7⟩
    rw [lb_len]; rw [List.length_drop] at a4 ⊢; omega
  have T0 : Hid (Two W w.heap.size #[.slice ka key.length kc, .int .i64 (Q : Int), .bool gone, .int .i64 (U : Int), .slice va vl.length vc] 35 (w.alloc (.cells #[.slice ka key.length kc, .int .i64 (Q : Int), .bool gone, .int .i64 (U : Int), .slice va vl.length vc] 35)) v u xs zs) := hP.two
  have hsh := HSH.out T0.out.mid.bel
  have hcf := fun w => run_from w ka key.length kc S hSk hk.2.2.2.1
  have HSF := hid (hk.from S hSk)
  have HSV := hid hv
  generalize cutA ka kc S = a9 at hcf HSF
  have hS62 : S ≤ 2 ^ 61 := by omega
  have hQ63 : Q ≤ 2 ^ 63 - 1 := by omega
  have hU63 : U ≤ 2 ^ 63 - 1 := by omega
  have hk62 : key.length ≤ 2 ^ 61 := by omega
  have hv62 : vl.length ≤ 2 ^ 61 := by omega
  clear hm hp hpl hk hv h1 h2 h3 h4 h5 h6 h7 h8 hx hP hS HSH
  generalize key.length - S = kr at hcf HSF HL
  go_enter Try.func24, Try.ntmps24
  go_upto_region 2 with (go_at_call 45; refine hsh.mono ?_; rintro e w2 ⟨rfl, b2⟩)
  have T2 := hid (T0.out.later b2)
  have G2 : Hid (Grw w v w2 v) := Grw.refl (((Below.refl _ w).alloc (Nat.le_refl _) _).trans (b2.mono (by simp)))
  clear b2 hsh T0
  go_upto_region 3 with (first | (go_at_call 46; refine (vput_k HL.out.2.2.2.2.2.2.2.1).mono ?_; rintro e w3 ⟨a3, m3, c3, rfl, s3, l3, b3⟩) | (at_builtin; refine wpList_appl (B := W.heap.size) rfl (.tmp 12) (.tmp 15) rfl rfl (T2.out.later b3).mid.row rfl s3 (by have := HL.out; omega) (T2.out.later b3).mid.bel.size ?_; intro v4 w4 r4 g4 m4))
  have T4 := hid ((T2.out.later b3).step g4 m4 r4)
  have G4 := hid ((G2.out.later b3).step g4 m4)
  obtain ⟨z0, z1, z2, z3, z4⟩ := T4.out.cells
  clear T2 b3 r4 g4 m4 s3 l3
  go_upto_region 4 with (first | (go_at_call 47; refine (vpby_k (HSF.out.later T4.out.mid.bel) (by have := HL.out; omega)).mono ?_; rintro e w5 ⟨a5, m5, c5, rfl, s5, l5, b5⟩) | (at_builtin; refine wpList_appl (B := W.heap.size) rfl (.tmp 17) (.tmp 22) rfl rfl (T4.out.later b5).mid.row rfl s5 (by have := HL.out; simp; omega) (T4.out.later b5).mid.bel.size ?_; intro v6 w6 r6 g6 m6))
  have T6 := hid ((T4.out.later b5).step g6 m6 r6)
  have G6 := hid ((G4.out.later b5).step g6 m6)
  clear z0 z1 z2 z3 z4 T4 b5 r6 g6 m6 s5 l5 hcf HSF
  obtain ⟨z0, z1, z2, z3, z4⟩ := T6.out.cells
  go_upto_region 5 with (first | (go_at_call 46; refine (vput_k HL.out.2.2.2.2.2.1).mono ?_; rintro e w7 ⟨a7, m7, c7, rfl, s7, l7, b7⟩) | (at_builtin; refine wpList_appl (B := W.heap.size) rfl (.tmp 24) (.tmp 28) rfl rfl (T6.out.later b7).mid.row rfl s7 (by have := HL.out; simp; omega) (T6.out.later b7).mid.bel.size ?_; intro v8 w8 r8 g8 m8))
  have T8 := hid ((T6.out.later b7).step g8 m8 r8)
  have G8 := hid ((G6.out.later b7).step g8 m8)
  clear z0 z1 z2 z3 z4 T6 b7 r8 g8 m8 s7 l7
  have HL8 : Hid ((xs ++ uv S ++ lb (key.drop S) ++ uv Q).length + 3000 ≤ 140737488355328) := by show _ ≤ _; have := HL.out; simp; omega
  cases gone with
  | true =>
    obtain ⟨z0, z1, z2, z3, z4⟩ := T8.out.cells
    go_wp2_with (at_builtin; refine wpList_app1r (B := W.heap.size) (c := 1) rfl (.tmp 32) (.tmp 33) rfl rfl (T8.out.alloc _).mid.row rfl (by simp) (by omega) (by have := HL8.out; omega) (T8.out.alloc _).mid.bel.size ?_; intro v9 w9 r9 g9 m9)
    have T9 := (T8.out.alloc _).step g9 m9 r9
    exact bodyPost_ret (v := v9) (by simp [results, Try.results24, go_sem]) rfl ⟨v9, rfl, by rw [HE.out]; have := T9.pair; simpa using this, (G8.out.later ((Below.refl _ _).alloc (Nat.le_refl _) _)).step g9 m9⟩
  | false =>
    obtain ⟨z0, z1, z2, z3, z4⟩ := T8.out.cells
    go_upto_region 7 with fail
    go_region_held_law (fun w' => w'.cell? ⟨w.heap.size, 3, none⟩ = some (.int .i64 (U : Int))) (first | exact z3 | exact T11.cells.2.2.2.1 | exact T10.cells.2.2.2.1 | exact T9.cells.2.2.2.1 | exact (T8.out.drew.alloc _).cells.2.2.2.1) (first | (refine step_app1 (B := W.heap.size) (c := 0) rfl (.tmp 35) (.tmp 36) rfl rfl (T8.out.drew.alloc _).mid.row rfl (by simp) (by omega) (by have := HL8.out; omega) (T8.out.drew.alloc _).mid.bel.size ?_; intro v9 w9 r9 g9 m9; have T9 := (T8.out.drew.alloc _).step g9 m9 r9) | (go_at_call 46; refine (vputw_k HL.out.2.2.2.2.2.2.1).mono ?_; rintro e w10 ⟨a10, m10, c10, rfl, s10, l10, b10⟩; have T10 := T9.later b10) | (refine step_appl (B := W.heap.size) rfl (.tmp 37) (.tmp 41) rfl rfl T10.mid.row rfl s10 (by have := HL8.out; rw [List.length_append]; simp only [List.length_cons, List.length_nil]; omega) T10.mid.bel.size ?_; intro v11 w11 r11 g11 m11; have T11 := T10.step g11 m11 r11))
    have T12 := hid T11
    have G12 := hid ((((G8.out.later (((Below.refl _ w8).drew).alloc (Nat.le_refl _) _)).step g9 m9).later b10).step g11 m11)
    clear z0 z1 z2 z3 z4 T8 T9 T10 T11 r9 g9 m9 s10 l10 b10 r11 g11 m11
    obtain ⟨z0, z1, z2, z3, z4⟩ := T12.out.cells
    have HL12 : Hid ((xs ++ uv S ++ lb (key.drop S) ++ uv Q ++ [0] ++ uv U).length + 2500 ≤ 140737488355328) := by show _ ≤ _; have := HL8.out; have := HL.out; rw [List.length_append, List.length_append]; simp only [List.length_cons, List.length_nil]; omega
    go_wp2_with (first | (go_at_call 47; refine (vpby_k (HSV.out.later T12.out.mid.bel) (by have := HL.out; omega)).mono ?_; rintro e w13 ⟨a13, m13, c13, rfl, s13, l13, b13⟩) | (at_builtin; refine wpList_appl (B := W.heap.size) rfl (.tmp 43) (.tmp 46) rfl rfl (T12.out.later b13).mid.row rfl s13 (by have := HL12.out; have := HL.out; omega) (T12.out.later b13).mid.bel.size ?_; intro v14 w14 r14 g14 m14))
    have T14 := (T12.out.later b13).step g14 m14 r14
    exact bodyPost_ret (v := v14) (by simp [results, Try.results24, go_sem]) rfl ⟨v14, rfl, by rw [HE.out]; have := T14.pair; simpa using this, (G12.out.later b13).step g14 m14⟩
end Go.Proofs.Ytifgojkmdicdmaa
