import Derived.Test.YtjgfklbhagcbaabPk06
import Derived.Test.YtjgfklbhagcbaabPk07
/- The library's stable sort of lines of tables: the merge. -/
namespace Go.Proofs.Ytjgfklbhagcbaab
open Go.Shelf Go.RowKit Go.Lib Go.Sort
set_option linter.unusedVariables false
set_option linter.unusedSimpArgs false
set_option linter.unusedSectionVars false
variable {α : Type} [Inhabited α]
section
variable {k : Nat} {enc : α → List Value} {cf : α → α → Int} {g : Nat} {cb : Array Value} {w0 : World} {blk off cap : Nat} {d0 : Array α}
/-- Where there is nothing to rotate nothing is rotated. -/
theorem rot_none {d : Array α} {s m e : Nat} (h1 : s ≤ m) (h2 : m ≤ e) (h : ¬ (s < m ∧ m < e)) : Rot d s m e d := by
  refine ⟨permIn_refl _ _ _, fun t ht => ?_, fun t ht => ?_⟩
  · rw [show m = s by omega]
  · rw [show s + (e - m) + t = s + t by omega]
theorem merge_fin (hS : SWO (ltOf cf)) {d d1 d2 d3 : Array α} {a m b M s e : Nat} (he : e = M + m - s) (h1 : SortedIn (ltOf cf) a m d) (h2 : SortedIn (ltOf cf) m b d) (ha : a ≤ s) (hsm : s ≤ m) (hsd : s ≤ M) (hm : m ≤ e) (hb : e ≤ b) (hbd : b ≤ d.size)
    (hL : a < s → e < b → ltOf cf d[e]! d[s - 1]! = false) (hR : s < m → m < e → ltOf cf d[e - 1]! d[s]! = true) (r : Rot d s m e d1)
    (p1 : PermIn a M d1 d2 ∧ SortedIn (ltOf cf) a M d2 ∨ d2 = d1 ∧ ¬ (a < s ∧ s < M)) (p2 : PermIn M b d2 d3 ∧ SortedIn (ltOf cf) M b d3 ∨ d3 = d2 ∧ ¬ (M < e ∧ e < b)) : PermIn a b d d3 ∧ SortedIn (ltOf cf) a b d3 := by
  subst he
  have hz : d1.size = d.size := r.perm.1
  obtain ⟨q1, q2, q3, q4, q5⟩ := halves hS h1 h2 ha hsm hsd hm hb hL hR r
  have k1 : PermIn a M d1 d2 ∧ SortedIn (ltOf cf) a M d2 := by
    rcases p1 with p | ⟨rfl, p⟩
    · exact p
    · refine ⟨permIn_refl _ _ _, ?_⟩
      by_cases z : s = a
      · rw [← z]; exact q2
      · rw [show M = s by omega]; exact q1
  have k2 : PermIn M b d2 d3 ∧ SortedIn (ltOf cf) M b d3 := by
    rcases p2 with p | ⟨rfl, p⟩
    · exact p
    · refine ⟨permIn_refl _ _ _, ?_⟩
      have q6 : SortedIn (ltOf cf) M b d1 := by
        by_cases z : M + m - s = b
        · have := q3; rwa [z] at this
        · have z2 : M + m - s = M := by omega
          have := q4; rwa [z2] at this
      intro i j hi hij hj
      rw [k1.1.2.1 i (.inr hi), k1.1.2.1 j (.inr (by omega))]
      exact q6 i j hi hij hj
  obtain ⟨g1, g2⟩ := halves_done (by omega) (by omega) (by omega) q5 k1.1 k1.2 k2.1 k2.2
  exact ⟨permIn_trans _ _ _ _ _ (permIn_mono _ _ _ _ _ _ ha hb hbd r.perm) g1, g2⟩
set_option maxHeartbeats 16000000 in
set_option maxRecDepth 1000000 in
/-- Two elements and more on either side. -/
theorem merge_both (zE : Fives k) (R : RowK enc k w0 blk off d0) (eg : ∀ args w, (callFunc g args).run Try.prog w = .ok (.enter g args) w) (hC : CmpLays Try.prog g cb enc k cf blk off d0.size w0) (hS : SWO (ltOf cf)) (hsz : d0.size < 4611686018427387904)
    {N : Nat} (ih : MergeSay (k := k) enc cf g cb w0 blk off cap d0.size N)
    {d : Array α} {w : World} {a m b : Nat} (hN : b - a ≤ N + 1) (hs : d0.size = d.size) (S : SWK enc k w0 blk off d w) (ham : a + 1 < m) (hmb : m + 1 < b) (hbd : b ≤ d.size) (h1 : SortedIn (ltOf cf) a m d) (h2 : SortedIn (ltOf cf) m b d) :
    Calls Try.prog 48 #[.slice (some ⟨blk, off, none⟩) d.size cap, .int .i64 a, .int .i64 m, .int .i64 b, .func (.func g) #[] cb] w fun e w' => e = .returned (.tuple #[]) ∧ MergedTo enc k cf w0 blk off d a b w' := by
  unfold Fives at zE
  have ZE := hidS zE
  have aE := aggT
  have mixed := mixedT
  have S0 : Aside (SWK enc k w0 blk off d w) := S
  have HR := hidS R
  have HC := hidS hC
  have H12 := hidS (And.intro h1 h2)
  have HS := hidS hS
  have IH := hidS ih
  clear S R hC h2 h1 hS ih
  have e0 : ¬ (m : Int) - (a : Int) = 1 := by omega
  have e0b : ((m : Int) - (a : Int) == 1) = false := by simpa using e0
  have e1 : ¬ (b : Int) - (m : Int) = 1 := by omega
  have e1b : ((b : Int) - (m : Int) == 1) = false := by simpa using e1
  obtain ⟨M, hM⟩ : ∃ M, M = (a + b) / 2 := ⟨_, rfl⟩
  have hM2 : M * 2 ≤ a + b ∧ a + b ≤ M * 2 + 1 := by omega
  have ha62 : a ≤ 2 ^ 62 := by omega
  have hb62 : b ≤ 2 ^ 62 := by omega
  have hm62 : m ≤ 2 ^ 62 := by omega
  have hMM62 : M ≤ 2 ^ 62 := by omega
  have hdiv : ((a : Int) + (b : Int)) / 2 = (M : Int) := by omega
  obtain ⟨nn, hnn⟩ : ∃ nn, nn = M + m := ⟨_, rfl⟩
  have hn63 : nn ≤ 2 ^ 63 - 1 := by omega
  have hnz : (M : Int) + (m : Int) = (nn : Int) := by omega
  obtain ⟨pp, hpp⟩ : ∃ pp, nn = pp + 1 := ⟨nn - 1, by omega⟩
  have hpz : (nn : Int) - 1 = (pp : Int) := by omega
  have hp63 : pp ≤ 2 ^ 63 - 1 := by omega
  have HN1 := hidS (And.intro hnn hpp)
  clear hM hnn hpp
  by_cases hmm : M < m
  · have hmz : (M : Int) < (m : Int) := by omega
    go_enter Try.func48, Try.ntmps48
    go_wp2
    go_loopg [20, 21, 23] (M - (M + m - b)) (fun kx s20 s21 _ wr => ∃ (i j : Nat), s20 = .int .i64 i ∧ s21 = .int .i64 j ∧ Aside (M + m - b ≤ i ∧ i ≤ j ∧ j ≤ M ∧ i + kx = j ∧ SWK enc k w0 blk off d wr ∧ (∀ t, M + m - b ≤ t → t < i → ltOf cf d[pp - t]! d[t]! = false) ∧ (∀ t, j ≤ t → t < M → ltOf cf d[pp - t]! d[t]! = true)))
    case atStart =>
     obtain ⟨hnn, hpp⟩ := HN1.out
     exact ⟨M + m - b, M, by first | rfl | (congr 1; omega), rfl, by omega, by omega, by omega, by omega, S0.out, fun t h1 h2 => by omega, fun t h1 h2 => by omega⟩
    case round =>
      clear S0 e0 e0b e1 e1b hdiv
      obtain ⟨i, j, rfl, rfl, HK⟩ := hrel
      obtain ⟨hnn, hpp⟩ := HN1.out
      by_cases hlt : i < j
      · have hltz : (i : Int) < (j : Int) := by omega
        obtain ⟨h, hh⟩ : ∃ h, h = (i + j) / 2 := ⟨_, rfl⟩
        have HJ := HK.out
        have hi62 : i ≤ 2 ^ 62 := by omega
        have hj62 : j ≤ 2 ^ 62 := by omega
        have hdiv : ((i : Int) + (j : Int)) / 2 = (h : Int) := by omega
        have HH : Hid (i ≤ h ∧ h < j ∧ h < d.size) := ⟨by omega, by omega, by omega⟩
        have hh62 : h ≤ 2 ^ 62 := by omega
        obtain ⟨y, hy⟩ : ∃ y, y = pp - h := ⟨_, rfl⟩
        have hym : m ≤ y ∧ y < b := by omega
        have ea : ((h : Int)).toNat = h := by omega
        have pa : (0 : Int) ≤ (h : Int) := by omega
        have ba : (h : Int) < (d.size : Int) := by omega
        have rh : IntKind.i64.wrap (h : Int) = (h : Int) := by rw [IntKind.wrap_i64]; omega
        have ec : ((y : Int)).toNat = y := by omega
        have pc : (0 : Int) ≤ (y : Int) := by omega
        have bc : (y : Int) < (d.size : Int) := by omega
        have ry : IntKind.i64.wrap ((pp : Int) - (h : Int)) = (y : Int) := by rw [IntKind.wrap_i64]; omega
        have la := HK.out.2.2.2.2.1.ld HR.out hs.symm Try.prog h (by omega)
        have lc := HK.out.2.2.2.2.1.ld HR.out hs.symm Try.prog y (by omega)
        have hcg := HK.out.2.2.2.2.1.cmp HC.out hs.symm d[y]! d[h]!
        have CLS := hidS (HK.out.2.2.2.2.1.grown)
        have ML : Hid (ltOf cf d[y]! d[h]! = false → ∀ t, M + m - b ≤ t → t < h + 1 → ltOf cf d[pp - t]! d[t]! = false) := fun q t h1 h2' => by
          have k1 := srt_le HS.out H12.out.2 (i := y) (j := pp - t) (by omega) (by omega) (by omega)
          have k2 := srt_le HS.out H12.out.1 (i := t) (j := h) (by omega) (by omega) (by omega)
          exact HS.out.ntrans _ _ _ (HS.out.ntrans _ _ _ k1 q) k2
        have MR : Hid (ltOf cf d[y]! d[h]! = true → ∀ t, h ≤ t → t < M → ltOf cf d[pp - t]! d[t]! = true) := fun q t h1 h2' => by
          have k1 := srt_le HS.out H12.out.2 (i := pp - t) (j := y) (by omega) (by omega) (by omega)
          have k2 := srt_le HS.out H12.out.1 (i := h) (j := t) (by omega) (by omega) (by omega)
          exact swo_le_lt HS.out k1 (swo_lt_le HS.out q k2)
        have LT : Hid (cf d[y]! d[h]! < 0 → ltOf cf d[y]! d[h]! = true) := ltOf_t
        have LF : Hid (¬ cf d[y]! d[h]! < 0 → ltOf cf d[y]! d[h]! = false) := ltOf_f
        clear HJ hh hy hym hM2 hnn hpp hnz hmz hmm
        generalize cf d[y]! d[h]! = c at hcg LT LF
        generalize enc d[h]! = cH at la hcg
        generalize enc d[y]! = cA at lc hcg
        by_cases hlv : c < 0
        · have hln : (!decide (c < 0)) = false := by simp [hlv]
          go_wp2_with fail
          go_quiet_grown (first | (go_at_fn g; refine Calls.grown_of (hcg _ _)))
          clear la lc hcg
          go_wp2
          go_roundg (h - i)
          case measure => have := HK.out; have := HH.out; omega
          case rel => exact ⟨i, h, rfl, rfl, HK.out.1, HH.out.1, by have := HK.out; have := HH.out; omega, by have := HH.out; omega, CLS.out _ _, HK.out.2.2.2.2.2.1, MR.out (LT.out hlv)⟩
        · have hln : (!decide (c < 0)) = true := by simp [hlv]
          go_wp2_with fail
          go_quiet_grown (first | (go_at_fn g; refine Calls.grown_of (hcg _ _)))
          clear la lc hcg
          go_wp2
          go_roundg (j - (h + 1))
          case measure => have := HK.out; have := HH.out; omega
          case rel => exact ⟨h + 1, j, by simp, rfl, by have := HK.out; have := HH.out; omega, by have := HH.out; omega, HK.out.2.2.1, by have := HH.out; omega, CLS.out _ _, ML.out (LF.out hlv), HK.out.2.2.2.2.2.2⟩
      · have hltz : ¬ (i : Int) < (j : Int) := by omega
        have hij : i = j := by have := HK.out; omega
        subst hij
        obtain ⟨i1, -, i2, -, S1, i3, i4⟩ := HK.out
        clear HK hlt
        obtain ⟨E, hE⟩ : ∃ E, E = nn - i := ⟨_, rfl⟩
        have hez : (nn : Int) - (i : Int) = (E : Int) := by omega
        have hi63 : i ≤ 2 ^ 62 := by omega
        have hE63 : E ≤ 2 ^ 62 := by omega
        have FIN : Hid (∀ d1 d2 d3 w', Rot d i m E d1 → (PermIn a M d1 d2 ∧ SortedIn (ltOf cf) a M d2 ∨ d2 = d1 ∧ ¬ (a < i ∧ i < M)) → (PermIn M b d2 d3 ∧ SortedIn (ltOf cf) M b d3 ∨ d3 = d2 ∧ ¬ (M < E ∧ E < b)) → SWK enc k w0 blk off d3 w' → MergedTo enc k cf w0 blk off d a b w') := fun d1 d2 d3 w' r p1 p2 S3 => by
          have := merge_fin HS.out (e := E) (by omega) H12.out.1 H12.out.2 (by omega) (by omega) (by omega) (by omega) (by omega) hbd (fun q1 q2 => by have := i3 (i - 1) (by omega) (by omega); rwa [show pp - (i - 1) = E by omega] at this) (fun q1 q2 => by have := i4 i (by omega) (by omega); rwa [show pp - i = E - 1 by omega] at this) r p1 p2
          exact ⟨d3, this.1, this.2, S3⟩
        have HV : Hid (∀ d1, Rot d i m E d1 → SortedIn (ltOf cf) a i d1 ∧ SortedIn (ltOf cf) i M d1 ∧ SortedIn (ltOf cf) M E d1 ∧ SortedIn (ltOf cf) E b d1 ∧ d1.size = d.size) := fun d1 r => by
          have hE2 : E = M + m - i := by omega
          have := halves HS.out H12.out.1 H12.out.2 (s := i) (mid := M) (by omega) (by omega) (by omega) (by omega) (by omega) (fun q1 q2 => by have := i3 (i - 1) (by omega) (by omega); rwa [show pp - (i - 1) = M + m - i by omega] at this) (fun q1 q2 => by have := i4 i (by omega) (by omega); rwa [show pp - i = M + m - i - 1 by omega] at this) (by rw [← hE2]; exact r)
          rw [← hE2] at this
          exact ⟨this.1, this.2.1, this.2.2.1, this.2.2.2.1, r.perm.1⟩
        have HRO : Hid (i < m → m < E → Calls Try.prog 54 #[.slice (some ⟨blk, off, none⟩) d.size cap, .int .i64 i, .int .i64 m, .int .i64 E, .func (.func g) #[] cb] wr fun e w' => e = .returned (.tuple #[]) ∧ ∃ d', Rot d i m E d' ∧ SWK enc k w0 blk off d' w') := fun q1 q2 => rot_any ZE.out enc g cb blk off cap i m E d0 d w0 wr HR.out hs S1 q1 q2 (by omega) (by omega)
        have C1 : Hid (∀ d1 w1, Rot d i m E d1 → SWK enc k w0 blk off d1 w1 → a < i → i < M → Calls Try.prog 48 #[.slice (some ⟨blk, off, none⟩) d.size cap, .int .i64 a, .int .i64 i, .int .i64 M, .func (.func g) #[] cb] w1 fun e w' => e = .returned (.tuple #[]) ∧ ∃ d2, (PermIn a M d1 d2 ∧ SortedIn (ltOf cf) a M d2) ∧ SWK enc k w0 blk off d2 w') := fun d1 w1 r S2 q1 q2 => by
          obtain ⟨v1, v2, v3, v4, v5⟩ := HV.out d1 r
          have := IH.out d1 w1 a i M (by omega) (by omega) S2 q1 q2 (by omega) v1 v2
          rw [v5] at this
          exact this.mono fun e w' hh => ⟨hh.1, hh.2.elim fun d2 z => ⟨d2, ⟨z.1, z.2.1⟩, z.2.2⟩⟩
        have C2 : Hid (∀ d1 d2 w1, Rot d i m E d1 → PermIn a M d1 d2 → SWK enc k w0 blk off d2 w1 → M < E → E < b → Calls Try.prog 48 #[.slice (some ⟨blk, off, none⟩) d.size cap, .int .i64 M, .int .i64 E, .int .i64 b, .func (.func g) #[] cb] w1 fun e w' => e = .returned (.tuple #[]) ∧ ∃ d3, (PermIn M b d2 d3 ∧ SortedIn (ltOf cf) M b d3) ∧ SWK enc k w0 blk off d3 w') := fun d1 d2 w1 r p S2 q1 q2 => by
          obtain ⟨v1, v2, v3, v4, v5⟩ := HV.out d1 r
          have v6 : d2.size = d.size := by rw [p.1, v5]
          have := IH.out d2 w1 M E b (by omega) (by omega) S2 q1 q2 (by omega) (fun x y hx hxy hy => by rw [p.2.1 x (.inr hx), p.2.1 y (.inr (by omega))]; exact v3 x y hx hxy hy) (fun x y hx hxy hy => by rw [p.2.1 x (.inr (by omega)), p.2.1 y (.inr (by omega))]; exact v4 x y hx hxy hy)
          rw [v6] at this
          exact this.mono fun e w' hh => ⟨hh.1, hh.2.elim fun d2 z => ⟨d2, ⟨z.1, z.2.1⟩, z.2.2⟩⟩
        have HI : Hid (i ≤ m ∧ m ≤ E ∧ a ≤ i ∧ i ≤ M ∧ M ≤ E ∧ E ≤ b) := ⟨by omega, by omega, by omega, by omega, by omega, by omega⟩
        have HS1 := hidS S1
        clear i3 i4 S1 hM2 hnn hpp hmm hN hE i1 i2
        have T1 : ((i : Int) < (m : Int) ∧ (m : Int) < (E : Int)) ∨ (¬ (i : Int) < (m : Int)) ∨ ((i : Int) < (m : Int) ∧ ¬ (m : Int) < (E : Int)) := by omega
        have T2 : ((a : Int) < (i : Int) ∧ (i : Int) < (M : Int)) ∨ (¬ (a : Int) < (i : Int)) ∨ ((a : Int) < (i : Int) ∧ ¬ (i : Int) < (M : Int)) := by omega
        have T3 : ((M : Int) < (E : Int) ∧ (E : Int) < (b : Int)) ∨ (¬ (M : Int) < (E : Int)) ∨ ((M : Int) < (E : Int) ∧ ¬ (E : Int) < (b : Int)) := by omega
        rcases T1 with ⟨t1a, t1b⟩ | t1a | ⟨t1a, t1b⟩ <;> rcases T2 with ⟨t2a, t2b⟩ | t2a | ⟨t2a, t2b⟩ <;> rcases T3 with ⟨t3a, t3b⟩ | t3a | ⟨t3a, t3b⟩
        · -- yes yes yes
          go_wp2_with fail
          all_goals go_at_call 54
          all_goals refine (HRO.out (by omega) (by omega)).mono ?_
          all_goals rintro e w2 ⟨rfl, d1, hR, S2⟩
          all_goals go_wp2_with fail
          all_goals go_at_call 48
          all_goals refine (C1.out d1 _ hR S2 (by omega) (by omega)).mono ?_
          all_goals rintro e w3 ⟨rfl, d2, hP1, S3⟩
          all_goals go_wp2_with fail
          all_goals go_at_call 48
          all_goals refine (C2.out d1 d2 _ hR hP1.1 S3 (by omega) (by omega)).mono ?_
          all_goals rintro e w4 ⟨rfl, d3, hP2, S4⟩
          all_goals go_wp2_with fail
          all_goals go_end0
          all_goals exact ⟨rfl, FIN.out d1 d2 d3 _ hR (.inl hP1) (.inl hP2) S4⟩
        · -- yes yes no1
          go_wp2_with fail
          all_goals go_at_call 54
          all_goals refine (HRO.out (by omega) (by omega)).mono ?_
          all_goals rintro e w2 ⟨rfl, d1, hR, S2⟩
          all_goals go_wp2_with fail
          all_goals go_at_call 48
          all_goals refine (C1.out d1 _ hR S2 (by omega) (by omega)).mono ?_
          all_goals rintro e w3 ⟨rfl, d2, hP1, S3⟩
          all_goals go_wp2_with fail
          all_goals go_end0
          all_goals exact ⟨rfl, FIN.out d1 d2 d2 _ hR (.inl hP1) (.inr ⟨rfl, by omega⟩) S3⟩
        · -- yes yes no2
          go_wp2_with fail
          all_goals go_at_call 54
          all_goals refine (HRO.out (by omega) (by omega)).mono ?_
          all_goals rintro e w2 ⟨rfl, d1, hR, S2⟩
          all_goals go_wp2_with fail
          all_goals go_at_call 48
          all_goals refine (C1.out d1 _ hR S2 (by omega) (by omega)).mono ?_
          all_goals rintro e w3 ⟨rfl, d2, hP1, S3⟩
          all_goals go_wp2_with fail
          all_goals go_end0
          all_goals exact ⟨rfl, FIN.out d1 d2 d2 _ hR (.inl hP1) (.inr ⟨rfl, by omega⟩) S3⟩
        · -- yes no1 yes
          go_wp2_with fail
          all_goals go_at_call 54
          all_goals refine (HRO.out (by omega) (by omega)).mono ?_
          all_goals rintro e w2 ⟨rfl, d1, hR, S2⟩
          all_goals go_wp2_with fail
          all_goals go_at_call 48
          all_goals refine (C2.out d1 d1 _ hR (permIn_refl _ _ _) S2 (by omega) (by omega)).mono ?_
          all_goals rintro e w4 ⟨rfl, d3, hP2, S4⟩
          all_goals go_wp2_with fail
          all_goals go_end0
          all_goals exact ⟨rfl, FIN.out d1 d1 d3 _ hR (.inr ⟨rfl, by omega⟩) (.inl hP2) S4⟩
        · -- yes no1 no1
          go_wp2_with fail
          all_goals go_at_call 54
          all_goals refine (HRO.out (by omega) (by omega)).mono ?_
          all_goals rintro e w2 ⟨rfl, d1, hR, S2⟩
          all_goals go_wp2_with fail
          all_goals go_end0
          all_goals exact ⟨rfl, FIN.out d1 d1 d1 _ hR (.inr ⟨rfl, by omega⟩) (.inr ⟨rfl, by omega⟩) S2⟩
        · -- yes no1 no2
          go_wp2_with fail
          all_goals go_at_call 54
          all_goals refine (HRO.out (by omega) (by omega)).mono ?_
          all_goals rintro e w2 ⟨rfl, d1, hR, S2⟩
          all_goals go_wp2_with fail
          all_goals go_end0
          all_goals exact ⟨rfl, FIN.out d1 d1 d1 _ hR (.inr ⟨rfl, by omega⟩) (.inr ⟨rfl, by omega⟩) S2⟩
        · -- yes no2 yes
          go_wp2_with fail
          all_goals go_at_call 54
          all_goals refine (HRO.out (by omega) (by omega)).mono ?_
          all_goals rintro e w2 ⟨rfl, d1, hR, S2⟩
          all_goals go_wp2_with fail
          all_goals go_at_call 48
          all_goals refine (C2.out d1 d1 _ hR (permIn_refl _ _ _) S2 (by omega) (by omega)).mono ?_
          all_goals rintro e w4 ⟨rfl, d3, hP2, S4⟩
          all_goals go_wp2_with fail
          all_goals go_end0
          all_goals exact ⟨rfl, FIN.out d1 d1 d3 _ hR (.inr ⟨rfl, by omega⟩) (.inl hP2) S4⟩
        · -- yes no2 no1
          go_wp2_with fail
          all_goals go_at_call 54
          all_goals refine (HRO.out (by omega) (by omega)).mono ?_
          all_goals rintro e w2 ⟨rfl, d1, hR, S2⟩
          all_goals go_wp2_with fail
          all_goals go_end0
          all_goals exact ⟨rfl, FIN.out d1 d1 d1 _ hR (.inr ⟨rfl, by omega⟩) (.inr ⟨rfl, by omega⟩) S2⟩
        · -- yes no2 no2
          go_wp2_with fail
          all_goals go_at_call 54
          all_goals refine (HRO.out (by omega) (by omega)).mono ?_
          all_goals rintro e w2 ⟨rfl, d1, hR, S2⟩
          all_goals go_wp2_with fail
          all_goals go_end0
          all_goals exact ⟨rfl, FIN.out d1 d1 d1 _ hR (.inr ⟨rfl, by omega⟩) (.inr ⟨rfl, by omega⟩) S2⟩
        · -- no1 yes yes
          go_wp2_with fail
          all_goals go_at_call 48
          all_goals refine (C1.out d _ (rot_none HI.out.1 HI.out.2.1 (by omega)) HS1.out (by omega) (by omega)).mono ?_
          all_goals rintro e w3 ⟨rfl, d2, hP1, S3⟩
          all_goals go_wp2_with fail
          all_goals go_at_call 48
          all_goals refine (C2.out d d2 _ (rot_none HI.out.1 HI.out.2.1 (by omega)) hP1.1 S3 (by omega) (by omega)).mono ?_
          all_goals rintro e w4 ⟨rfl, d3, hP2, S4⟩
          all_goals go_wp2_with fail
          all_goals go_end0
          all_goals exact ⟨rfl, FIN.out d d2 d3 _ (rot_none HI.out.1 HI.out.2.1 (by omega)) (.inl hP1) (.inl hP2) S4⟩
        · -- no1 yes no1
          go_wp2_with fail
          all_goals go_at_call 48
          all_goals refine (C1.out d _ (rot_none HI.out.1 HI.out.2.1 (by omega)) HS1.out (by omega) (by omega)).mono ?_
          all_goals rintro e w3 ⟨rfl, d2, hP1, S3⟩
          all_goals go_wp2_with fail
          all_goals go_end0
          all_goals exact ⟨rfl, FIN.out d d2 d2 _ (rot_none HI.out.1 HI.out.2.1 (by omega)) (.inl hP1) (.inr ⟨rfl, by omega⟩) S3⟩
        · -- no1 yes no2
          go_wp2_with fail
          all_goals go_at_call 48
          all_goals refine (C1.out d _ (rot_none HI.out.1 HI.out.2.1 (by omega)) HS1.out (by omega) (by omega)).mono ?_
          all_goals rintro e w3 ⟨rfl, d2, hP1, S3⟩
          all_goals go_wp2_with fail
          all_goals go_end0
          all_goals exact ⟨rfl, FIN.out d d2 d2 _ (rot_none HI.out.1 HI.out.2.1 (by omega)) (.inl hP1) (.inr ⟨rfl, by omega⟩) S3⟩
        · -- no1 no1 yes
          go_wp2_with fail
          all_goals go_at_call 48
          all_goals refine (C2.out d d _ (rot_none HI.out.1 HI.out.2.1 (by omega)) (permIn_refl _ _ _) HS1.out (by omega) (by omega)).mono ?_
          all_goals rintro e w4 ⟨rfl, d3, hP2, S4⟩
          all_goals go_wp2_with fail
          all_goals go_end0
          all_goals exact ⟨rfl, FIN.out d d d3 _ (rot_none HI.out.1 HI.out.2.1 (by omega)) (.inr ⟨rfl, by omega⟩) (.inl hP2) S4⟩
        · -- no1 no1 no1
          go_wp2_with fail
          all_goals go_end0
          all_goals exact ⟨rfl, FIN.out d d d _ (rot_none HI.out.1 HI.out.2.1 (by omega)) (.inr ⟨rfl, by omega⟩) (.inr ⟨rfl, by omega⟩) HS1.out⟩
        · -- no1 no1 no2
          go_wp2_with fail
          all_goals go_end0
          all_goals exact ⟨rfl, FIN.out d d d _ (rot_none HI.out.1 HI.out.2.1 (by omega)) (.inr ⟨rfl, by omega⟩) (.inr ⟨rfl, by omega⟩) HS1.out⟩
        · -- no1 no2 yes
          go_wp2_with fail
          all_goals go_at_call 48
          all_goals refine (C2.out d d _ (rot_none HI.out.1 HI.out.2.1 (by omega)) (permIn_refl _ _ _) HS1.out (by omega) (by omega)).mono ?_
          all_goals rintro e w4 ⟨rfl, d3, hP2, S4⟩
          all_goals go_wp2_with fail
          all_goals go_end0
          all_goals exact ⟨rfl, FIN.out d d d3 _ (rot_none HI.out.1 HI.out.2.1 (by omega)) (.inr ⟨rfl, by omega⟩) (.inl hP2) S4⟩
        · -- no1 no2 no1
          go_wp2_with fail
          all_goals go_end0
          all_goals exact ⟨rfl, FIN.out d d d _ (rot_none HI.out.1 HI.out.2.1 (by omega)) (.inr ⟨rfl, by omega⟩) (.inr ⟨rfl, by omega⟩) HS1.out⟩
        · -- no1 no2 no2
          go_wp2_with fail
          all_goals go_end0
          all_goals exact ⟨rfl, FIN.out d d d _ (rot_none HI.out.1 HI.out.2.1 (by omega)) (.inr ⟨rfl, by omega⟩) (.inr ⟨rfl, by omega⟩) HS1.out⟩
        · -- no2 yes yes
          go_wp2_with fail
          all_goals go_at_call 48
          all_goals refine (C1.out d _ (rot_none HI.out.1 HI.out.2.1 (by omega)) HS1.out (by omega) (by omega)).mono ?_
          all_goals rintro e w3 ⟨rfl, d2, hP1, S3⟩
          all_goals go_wp2_with fail
          all_goals go_at_call 48
          all_goals refine (C2.out d d2 _ (rot_none HI.out.1 HI.out.2.1 (by omega)) hP1.1 S3 (by omega) (by omega)).mono ?_
          all_goals rintro e w4 ⟨rfl, d3, hP2, S4⟩
          all_goals go_wp2_with fail
          all_goals go_end0
          all_goals exact ⟨rfl, FIN.out d d2 d3 _ (rot_none HI.out.1 HI.out.2.1 (by omega)) (.inl hP1) (.inl hP2) S4⟩
        · -- no2 yes no1
          go_wp2_with fail
          all_goals go_at_call 48
          all_goals refine (C1.out d _ (rot_none HI.out.1 HI.out.2.1 (by omega)) HS1.out (by omega) (by omega)).mono ?_
          all_goals rintro e w3 ⟨rfl, d2, hP1, S3⟩
          all_goals go_wp2_with fail
          all_goals go_end0
          all_goals exact ⟨rfl, FIN.out d d2 d2 _ (rot_none HI.out.1 HI.out.2.1 (by omega)) (.inl hP1) (.inr ⟨rfl, by omega⟩) S3⟩
        · -- no2 yes no2
          go_wp2_with fail
          all_goals go_at_call 48
          all_goals refine (C1.out d _ (rot_none HI.out.1 HI.out.2.1 (by omega)) HS1.out (by omega) (by omega)).mono ?_
          all_goals rintro e w3 ⟨rfl, d2, hP1, S3⟩
          all_goals go_wp2_with fail
          all_goals go_end0
          all_goals exact ⟨rfl, FIN.out d d2 d2 _ (rot_none HI.out.1 HI.out.2.1 (by omega)) (.inl hP1) (.inr ⟨rfl, by omega⟩) S3⟩
        · -- no2 no1 yes
          go_wp2_with fail
          all_goals go_at_call 48
          all_goals refine (C2.out d d _ (rot_none HI.out.1 HI.out.2.1 (by omega)) (permIn_refl _ _ _) HS1.out (by omega) (by omega)).mono ?_
          all_goals rintro e w4 ⟨rfl, d3, hP2, S4⟩
          all_goals go_wp2_with fail
          all_goals go_end0
          all_goals exact ⟨rfl, FIN.out d d d3 _ (rot_none HI.out.1 HI.out.2.1 (by omega)) (.inr ⟨rfl, by omega⟩) (.inl hP2) S4⟩
        · -- no2 no1 no1
          go_wp2_with fail
          all_goals go_end0
          all_goals exact ⟨rfl, FIN.out d d d _ (rot_none HI.out.1 HI.out.2.1 (by omega)) (.inr ⟨rfl, by omega⟩) (.inr ⟨rfl, by omega⟩) HS1.out⟩
        · -- no2 no1 no2
          go_wp2_with fail
          all_goals go_end0
          all_goals exact ⟨rfl, FIN.out d d d _ (rot_none HI.out.1 HI.out.2.1 (by omega)) (.inr ⟨rfl, by omega⟩) (.inr ⟨rfl, by omega⟩) HS1.out⟩
        · -- no2 no2 yes
          go_wp2_with fail
          all_goals go_at_call 48
          all_goals refine (C2.out d d _ (rot_none HI.out.1 HI.out.2.1 (by omega)) (permIn_refl _ _ _) HS1.out (by omega) (by omega)).mono ?_
          all_goals rintro e w4 ⟨rfl, d3, hP2, S4⟩
          all_goals go_wp2_with fail
          all_goals go_end0
          all_goals exact ⟨rfl, FIN.out d d d3 _ (rot_none HI.out.1 HI.out.2.1 (by omega)) (.inr ⟨rfl, by omega⟩) (.inl hP2) S4⟩
        · -- no2 no2 no1
          go_wp2_with fail
          all_goals go_end0
          all_goals exact ⟨rfl, FIN.out d d d _ (rot_none HI.out.1 HI.out.2.1 (by omega)) (.inr ⟨rfl, by omega⟩) (.inr ⟨rfl, by omega⟩) HS1.out⟩
        · -- no2 no2 no2
          go_wp2_with fail
          all_goals go_end0
          all_goals exact ⟨rfl, FIN.out d d d _ (rot_none HI.out.1 HI.out.2.1 (by omega)) (.inr ⟨rfl, by omega⟩) (.inr ⟨rfl, by omega⟩) HS1.out⟩
  · have hmz : ¬ (M : Int) < (m : Int) := by omega
    go_enter Try.func48, Try.ntmps48
    go_wp2
    go_loopg [20, 21, 23] (m - (a)) (fun kx s20 s21 _ wr => ∃ (i j : Nat), s20 = .int .i64 i ∧ s21 = .int .i64 j ∧ Aside (a ≤ i ∧ i ≤ j ∧ j ≤ m ∧ i + kx = j ∧ SWK enc k w0 blk off d wr ∧ (∀ t, a ≤ t → t < i → ltOf cf d[pp - t]! d[t]! = false) ∧ (∀ t, j ≤ t → t < m → ltOf cf d[pp - t]! d[t]! = true)))
    case atStart =>
     obtain ⟨hnn, hpp⟩ := HN1.out
     exact ⟨a, m, by first | rfl | (congr 1; omega), rfl, by omega, by omega, by omega, by omega, S0.out, fun t h1 h2 => by omega, fun t h1 h2 => by omega⟩
    case round =>
      clear S0 e0 e0b e1 e1b hdiv
      obtain ⟨i, j, rfl, rfl, HK⟩ := hrel
      obtain ⟨hnn, hpp⟩ := HN1.out
      by_cases hlt : i < j
      · have hltz : (i : Int) < (j : Int) := by omega
        obtain ⟨h, hh⟩ : ∃ h, h = (i + j) / 2 := ⟨_, rfl⟩
        have HJ := HK.out
        have hi62 : i ≤ 2 ^ 62 := by omega
        have hj62 : j ≤ 2 ^ 62 := by omega
        have hdiv : ((i : Int) + (j : Int)) / 2 = (h : Int) := by omega
        have HH : Hid (i ≤ h ∧ h < j ∧ h < d.size) := ⟨by omega, by omega, by omega⟩
        have hh62 : h ≤ 2 ^ 62 := by omega
        obtain ⟨y, hy⟩ : ∃ y, y = pp - h := ⟨_, rfl⟩
        have hym : m ≤ y ∧ y < b := by omega
        have ea : ((h : Int)).toNat = h := by omega
        have pa : (0 : Int) ≤ (h : Int) := by omega
        have ba : (h : Int) < (d.size : Int) := by omega
        have rh : IntKind.i64.wrap (h : Int) = (h : Int) := by rw [IntKind.wrap_i64]; omega
        have ec : ((y : Int)).toNat = y := by omega
        have pc : (0 : Int) ≤ (y : Int) := by omega
        have bc : (y : Int) < (d.size : Int) := by omega
        have ry : IntKind.i64.wrap ((pp : Int) - (h : Int)) = (y : Int) := by rw [IntKind.wrap_i64]; omega
        have la := HK.out.2.2.2.2.1.ld HR.out hs.symm Try.prog h (by omega)
        have lc := HK.out.2.2.2.2.1.ld HR.out hs.symm Try.prog y (by omega)
        have hcg := HK.out.2.2.2.2.1.cmp HC.out hs.symm d[y]! d[h]!
        have CLS := hidS (HK.out.2.2.2.2.1.grown)
        have ML : Hid (ltOf cf d[y]! d[h]! = false → ∀ t, a ≤ t → t < h + 1 → ltOf cf d[pp - t]! d[t]! = false) := fun q t h1 h2' => by
          have k1 := srt_le HS.out H12.out.2 (i := y) (j := pp - t) (by omega) (by omega) (by omega)
          have k2 := srt_le HS.out H12.out.1 (i := t) (j := h) (by omega) (by omega) (by omega)
          exact HS.out.ntrans _ _ _ (HS.out.ntrans _ _ _ k1 q) k2
        have MR : Hid (ltOf cf d[y]! d[h]! = true → ∀ t, h ≤ t → t < m → ltOf cf d[pp - t]! d[t]! = true) := fun q t h1 h2' => by
          have k1 := srt_le HS.out H12.out.2 (i := pp - t) (j := y) (by omega) (by omega) (by omega)
          have k2 := srt_le HS.out H12.out.1 (i := h) (j := t) (by omega) (by omega) (by omega)
          exact swo_le_lt HS.out k1 (swo_lt_le HS.out q k2)
        have LT : Hid (cf d[y]! d[h]! < 0 → ltOf cf d[y]! d[h]! = true) := ltOf_t
        have LF : Hid (¬ cf d[y]! d[h]! < 0 → ltOf cf d[y]! d[h]! = false) := ltOf_f
        clear HJ hh hy hym hM2 hnn hpp hnz hmz hmm
        generalize cf d[y]! d[h]! = c at hcg LT LF
        generalize enc d[h]! = cH at la hcg
        generalize enc d[y]! = cA at lc hcg
        by_cases hlv : c < 0
        · have hln : (!decide (c < 0)) = false := by simp [hlv]
          go_wp2_with fail
          go_quiet_grown (first | (go_at_fn g; refine Calls.grown_of (hcg _ _)))
          clear la lc hcg
          go_wp2
          go_roundg (h - i)
          case measure => have := HK.out; have := HH.out; omega
          case rel => exact ⟨i, h, rfl, rfl, HK.out.1, HH.out.1, by have := HK.out; have := HH.out; omega, by have := HH.out; omega, CLS.out _ _, HK.out.2.2.2.2.2.1, MR.out (LT.out hlv)⟩
        · have hln : (!decide (c < 0)) = true := by simp [hlv]
          go_wp2_with fail
          go_quiet_grown (first | (go_at_fn g; refine Calls.grown_of (hcg _ _)))
          clear la lc hcg
          go_wp2
          go_roundg (j - (h + 1))
          case measure => have := HK.out; have := HH.out; omega
          case rel => exact ⟨h + 1, j, by simp, rfl, by have := HK.out; have := HH.out; omega, by have := HH.out; omega, HK.out.2.2.1, by have := HH.out; omega, CLS.out _ _, ML.out (LF.out hlv), HK.out.2.2.2.2.2.2⟩
      · have hltz : ¬ (i : Int) < (j : Int) := by omega
        have hij : i = j := by have := HK.out; omega
        subst hij
        obtain ⟨i1, -, i2, -, S1, i3, i4⟩ := HK.out
        clear HK hlt
        obtain ⟨E, hE⟩ : ∃ E, E = nn - i := ⟨_, rfl⟩
        have hez : (nn : Int) - (i : Int) = (E : Int) := by omega
        have hi63 : i ≤ 2 ^ 62 := by omega
        have hE63 : E ≤ 2 ^ 62 := by omega
        have FIN : Hid (∀ d1 d2 d3 w', Rot d i m E d1 → (PermIn a M d1 d2 ∧ SortedIn (ltOf cf) a M d2 ∨ d2 = d1 ∧ ¬ (a < i ∧ i < M)) → (PermIn M b d2 d3 ∧ SortedIn (ltOf cf) M b d3 ∨ d3 = d2 ∧ ¬ (M < E ∧ E < b)) → SWK enc k w0 blk off d3 w' → MergedTo enc k cf w0 blk off d a b w') := fun d1 d2 d3 w' r p1 p2 S3 => by
          have := merge_fin HS.out (e := E) (by omega) H12.out.1 H12.out.2 (by omega) (by omega) (by omega) (by omega) (by omega) hbd (fun q1 q2 => by have := i3 (i - 1) (by omega) (by omega); rwa [show pp - (i - 1) = E by omega] at this) (fun q1 q2 => by have := i4 i (by omega) (by omega); rwa [show pp - i = E - 1 by omega] at this) r p1 p2
          exact ⟨d3, this.1, this.2, S3⟩
        have HV : Hid (∀ d1, Rot d i m E d1 → SortedIn (ltOf cf) a i d1 ∧ SortedIn (ltOf cf) i M d1 ∧ SortedIn (ltOf cf) M E d1 ∧ SortedIn (ltOf cf) E b d1 ∧ d1.size = d.size) := fun d1 r => by
          have hE2 : E = M + m - i := by omega
          have := halves HS.out H12.out.1 H12.out.2 (s := i) (mid := M) (by omega) (by omega) (by omega) (by omega) (by omega) (fun q1 q2 => by have := i3 (i - 1) (by omega) (by omega); rwa [show pp - (i - 1) = M + m - i by omega] at this) (fun q1 q2 => by have := i4 i (by omega) (by omega); rwa [show pp - i = M + m - i - 1 by omega] at this) (by rw [← hE2]; exact r)
          rw [← hE2] at this
          exact ⟨this.1, this.2.1, this.2.2.1, this.2.2.2.1, r.perm.1⟩
        have HRO : Hid (i < m → m < E → Calls Try.prog 54 #[.slice (some ⟨blk, off, none⟩) d.size cap, .int .i64 i, .int .i64 m, .int .i64 E, .func (.func g) #[] cb] wr fun e w' => e = .returned (.tuple #[]) ∧ ∃ d', Rot d i m E d' ∧ SWK enc k w0 blk off d' w') := fun q1 q2 => rot_any ZE.out enc g cb blk off cap i m E d0 d w0 wr HR.out hs S1 q1 q2 (by omega) (by omega)
        have C1 : Hid (∀ d1 w1, Rot d i m E d1 → SWK enc k w0 blk off d1 w1 → a < i → i < M → Calls Try.prog 48 #[.slice (some ⟨blk, off, none⟩) d.size cap, .int .i64 a, .int .i64 i, .int .i64 M, .func (.func g) #[] cb] w1 fun e w' => e = .returned (.tuple #[]) ∧ ∃ d2, (PermIn a M d1 d2 ∧ SortedIn (ltOf cf) a M d2) ∧ SWK enc k w0 blk off d2 w') := fun d1 w1 r S2 q1 q2 => by
          obtain ⟨v1, v2, v3, v4, v5⟩ := HV.out d1 r
          have := IH.out d1 w1 a i M (by omega) (by omega) S2 q1 q2 (by omega) v1 v2
          rw [v5] at this
          exact this.mono fun e w' hh => ⟨hh.1, hh.2.elim fun d2 z => ⟨d2, ⟨z.1, z.2.1⟩, z.2.2⟩⟩
        have C2 : Hid (∀ d1 d2 w1, Rot d i m E d1 → PermIn a M d1 d2 → SWK enc k w0 blk off d2 w1 → M < E → E < b → Calls Try.prog 48 #[.slice (some ⟨blk, off, none⟩) d.size cap, .int .i64 M, .int .i64 E, .int .i64 b, .func (.func g) #[] cb] w1 fun e w' => e = .returned (.tuple #[]) ∧ ∃ d3, (PermIn M b d2 d3 ∧ SortedIn (ltOf cf) M b d3) ∧ SWK enc k w0 blk off d3 w') := fun d1 d2 w1 r p S2 q1 q2 => by
          obtain ⟨v1, v2, v3, v4, v5⟩ := HV.out d1 r
          have v6 : d2.size = d.size := by rw [p.1, v5]
          have := IH.out d2 w1 M E b (by omega) (by omega) S2 q1 q2 (by omega) (fun x y hx hxy hy => by rw [p.2.1 x (.inr hx), p.2.1 y (.inr (by omega))]; exact v3 x y hx hxy hy) (fun x y hx hxy hy => by rw [p.2.1 x (.inr (by omega)), p.2.1 y (.inr (by omega))]; exact v4 x y hx hxy hy)
          rw [v6] at this
          exact this.mono fun e w' hh => ⟨hh.1, hh.2.elim fun d2 z => ⟨d2, ⟨z.1, z.2.1⟩, z.2.2⟩⟩
        have HI : Hid (i ≤ m ∧ m ≤ E ∧ a ≤ i ∧ i ≤ M ∧ M ≤ E ∧ E ≤ b) := ⟨by omega, by omega, by omega, by omega, by omega, by omega⟩
        have HS1 := hidS S1
        clear i3 i4 S1 hM2 hnn hpp hmm hN hE i1 i2
        have T1 : ((i : Int) < (m : Int) ∧ (m : Int) < (E : Int)) ∨ (¬ (i : Int) < (m : Int)) ∨ ((i : Int) < (m : Int) ∧ ¬ (m : Int) < (E : Int)) := by omega
        have T2 : ((a : Int) < (i : Int) ∧ (i : Int) < (M : Int)) ∨ (¬ (a : Int) < (i : Int)) ∨ ((a : Int) < (i : Int) ∧ ¬ (i : Int) < (M : Int)) := by omega
        have T3 : ((M : Int) < (E : Int) ∧ (E : Int) < (b : Int)) ∨ (¬ (M : Int) < (E : Int)) ∨ ((M : Int) < (E : Int) ∧ ¬ (E : Int) < (b : Int)) := by omega
        rcases T1 with ⟨t1a, t1b⟩ | t1a | ⟨t1a, t1b⟩ <;> rcases T2 with ⟨t2a, t2b⟩ | t2a | ⟨t2a, t2b⟩ <;> rcases T3 with ⟨t3a, t3b⟩ | t3a | ⟨t3a, t3b⟩
        · -- yes yes yes
          go_wp2_with fail
          all_goals go_at_call 54
          all_goals refine (HRO.out (by omega) (by omega)).mono ?_
          all_goals rintro e w2 ⟨rfl, d1, hR, S2⟩
          all_goals go_wp2_with fail
          all_goals go_at_call 48
          all_goals refine (C1.out d1 _ hR S2 (by omega) (by omega)).mono ?_
          all_goals rintro e w3 ⟨rfl, d2, hP1, S3⟩
          all_goals go_wp2_with fail
          all_goals go_at_call 48
          all_goals refine (C2.out d1 d2 _ hR hP1.1 S3 (by omega) (by omega)).mono ?_
          all_goals rintro e w4 ⟨rfl, d3, hP2, S4⟩
          all_goals go_wp2_with fail
          all_goals go_end0
          all_goals exact ⟨rfl, FIN.out d1 d2 d3 _ hR (.inl hP1) (.inl hP2) S4⟩
        · -- yes yes no1
          go_wp2_with fail
          all_goals go_at_call 54
          all_goals refine (HRO.out (by omega) (by omega)).mono ?_
          all_goals rintro e w2 ⟨rfl, d1, hR, S2⟩
          all_goals go_wp2_with fail
          all_goals go_at_call 48
          all_goals refine (C1.out d1 _ hR S2 (by omega) (by omega)).mono ?_
          all_goals rintro e w3 ⟨rfl, d2, hP1, S3⟩
          all_goals go_wp2_with fail
          all_goals go_end0
          all_goals exact ⟨rfl, FIN.out d1 d2 d2 _ hR (.inl hP1) (.inr ⟨rfl, by omega⟩) S3⟩
        · -- yes yes no2
          go_wp2_with fail
          all_goals go_at_call 54
          all_goals refine (HRO.out (by omega) (by omega)).mono ?_
          all_goals rintro e w2 ⟨rfl, d1, hR, S2⟩
          all_goals go_wp2_with fail
          all_goals go_at_call 48
          all_goals refine (C1.out d1 _ hR S2 (by omega) (by omega)).mono ?_
          all_goals rintro e w3 ⟨rfl, d2, hP1, S3⟩
          all_goals go_wp2_with fail
          all_goals go_end0
          all_goals exact ⟨rfl, FIN.out d1 d2 d2 _ hR (.inl hP1) (.inr ⟨rfl, by omega⟩) S3⟩
        · -- yes no1 yes
          go_wp2_with fail
          all_goals go_at_call 54
          all_goals refine (HRO.out (by omega) (by omega)).mono ?_
          all_goals rintro e w2 ⟨rfl, d1, hR, S2⟩
          all_goals go_wp2_with fail
          all_goals go_at_call 48
          all_goals refine (C2.out d1 d1 _ hR (permIn_refl _ _ _) S2 (by omega) (by omega)).mono ?_
          all_goals rintro e w4 ⟨rfl, d3, hP2, S4⟩
          all_goals go_wp2_with fail
          all_goals go_end0
          all_goals exact ⟨rfl, FIN.out d1 d1 d3 _ hR (.inr ⟨rfl, by omega⟩) (.inl hP2) S4⟩
        · -- yes no1 no1
          go_wp2_with fail
          all_goals go_at_call 54
          all_goals refine (HRO.out (by omega) (by omega)).mono ?_
          all_goals rintro e w2 ⟨rfl, d1, hR, S2⟩
          all_goals go_wp2_with fail
          all_goals go_end0
          all_goals exact ⟨rfl, FIN.out d1 d1 d1 _ hR (.inr ⟨rfl, by omega⟩) (.inr ⟨rfl, by omega⟩) S2⟩
        · -- yes no1 no2
          go_wp2_with fail
          all_goals go_at_call 54
          all_goals refine (HRO.out (by omega) (by omega)).mono ?_
          all_goals rintro e w2 ⟨rfl, d1, hR, S2⟩
          all_goals go_wp2_with fail
          all_goals go_end0
          all_goals exact ⟨rfl, FIN.out d1 d1 d1 _ hR (.inr ⟨rfl, by omega⟩) (.inr ⟨rfl, by omega⟩) S2⟩
        · -- yes no2 yes
          go_wp2_with fail
          all_goals go_at_call 54
          all_goals refine (HRO.out (by omega) (by omega)).mono ?_
          all_goals rintro e w2 ⟨rfl, d1, hR, S2⟩
          all_goals go_wp2_with fail
          all_goals go_at_call 48
          all_goals refine (C2.out d1 d1 _ hR (permIn_refl _ _ _) S2 (by omega) (by omega)).mono ?_
          all_goals rintro e w4 ⟨rfl, d3, hP2, S4⟩
          all_goals go_wp2_with fail
          all_goals go_end0
          all_goals exact ⟨rfl, FIN.out d1 d1 d3 _ hR (.inr ⟨rfl, by omega⟩) (.inl hP2) S4⟩
        · -- yes no2 no1
          go_wp2_with fail
          all_goals go_at_call 54
          all_goals refine (HRO.out (by omega) (by omega)).mono ?_
          all_goals rintro e w2 ⟨rfl, d1, hR, S2⟩
          all_goals go_wp2_with fail
          all_goals go_end0
          all_goals exact ⟨rfl, FIN.out d1 d1 d1 _ hR (.inr ⟨rfl, by omega⟩) (.inr ⟨rfl, by omega⟩) S2⟩
        · -- yes no2 no2
          go_wp2_with fail
          all_goals go_at_call 54
          all_goals refine (HRO.out (by omega) (by omega)).mono ?_
          all_goals rintro e w2 ⟨rfl, d1, hR, S2⟩
          all_goals go_wp2_with fail
          all_goals go_end0
          all_goals exact ⟨rfl, FIN.out d1 d1 d1 _ hR (.inr ⟨rfl, by omega⟩) (.inr ⟨rfl, by omega⟩) S2⟩
        · -- no1 yes yes
          go_wp2_with fail
          all_goals go_at_call 48
          all_goals refine (C1.out d _ (rot_none HI.out.1 HI.out.2.1 (by omega)) HS1.out (by omega) (by omega)).mono ?_
          all_goals rintro e w3 ⟨rfl, d2, hP1, S3⟩
          all_goals go_wp2_with fail
          all_goals go_at_call 48
          all_goals refine (C2.out d d2 _ (rot_none HI.out.1 HI.out.2.1 (by omega)) hP1.1 S3 (by omega) (by omega)).mono ?_
          all_goals rintro e w4 ⟨rfl, d3, hP2, S4⟩
          all_goals go_wp2_with fail
          all_goals go_end0
          all_goals exact ⟨rfl, FIN.out d d2 d3 _ (rot_none HI.out.1 HI.out.2.1 (by omega)) (.inl hP1) (.inl hP2) S4⟩
        · -- no1 yes no1
          go_wp2_with fail
          all_goals go_at_call 48
          all_goals refine (C1.out d _ (rot_none HI.out.1 HI.out.2.1 (by omega)) HS1.out (by omega) (by omega)).mono ?_
          all_goals rintro e w3 ⟨rfl, d2, hP1, S3⟩
          all_goals go_wp2_with fail
          all_goals go_end0
          all_goals exact ⟨rfl, FIN.out d d2 d2 _ (rot_none HI.out.1 HI.out.2.1 (by omega)) (.inl hP1) (.inr ⟨rfl, by omega⟩) S3⟩
        · -- no1 yes no2
          go_wp2_with fail
          all_goals go_at_call 48
          all_goals refine (C1.out d _ (rot_none HI.out.1 HI.out.2.1 (by omega)) HS1.out (by omega) (by omega)).mono ?_
          all_goals rintro e w3 ⟨rfl, d2, hP1, S3⟩
          all_goals go_wp2_with fail
          all_goals go_end0
          all_goals exact ⟨rfl, FIN.out d d2 d2 _ (rot_none HI.out.1 HI.out.2.1 (by omega)) (.inl hP1) (.inr ⟨rfl, by omega⟩) S3⟩
        · -- no1 no1 yes
          go_wp2_with fail
          all_goals go_at_call 48
          all_goals refine (C2.out d d _ (rot_none HI.out.1 HI.out.2.1 (by omega)) (permIn_refl _ _ _) HS1.out (by omega) (by omega)).mono ?_
          all_goals rintro e w4 ⟨rfl, d3, hP2, S4⟩
          all_goals go_wp2_with fail
          all_goals go_end0
          all_goals exact ⟨rfl, FIN.out d d d3 _ (rot_none HI.out.1 HI.out.2.1 (by omega)) (.inr ⟨rfl, by omega⟩) (.inl hP2) S4⟩
        · -- no1 no1 no1
          go_wp2_with fail
          all_goals go_end0
          all_goals exact ⟨rfl, FIN.out d d d _ (rot_none HI.out.1 HI.out.2.1 (by omega)) (.inr ⟨rfl, by omega⟩) (.inr ⟨rfl, by omega⟩) HS1.out⟩
        · -- no1 no1 no2
          go_wp2_with fail
          all_goals go_end0
          all_goals exact ⟨rfl, FIN.out d d d _ (rot_none HI.out.1 HI.out.2.1 (by omega)) (.inr ⟨rfl, by omega⟩) (.inr ⟨rfl, by omega⟩) HS1.out⟩
        · -- no1 no2 yes
          go_wp2_with fail
          all_goals go_at_call 48
          all_goals refine (C2.out d d _ (rot_none HI.out.1 HI.out.2.1 (by omega)) (permIn_refl _ _ _) HS1.out (by omega) (by omega)).mono ?_
          all_goals rintro e w4 ⟨rfl, d3, hP2, S4⟩
          all_goals go_wp2_with fail
          all_goals go_end0
          all_goals exact ⟨rfl, FIN.out d d d3 _ (rot_none HI.out.1 HI.out.2.1 (by omega)) (.inr ⟨rfl, by omega⟩) (.inl hP2) S4⟩
        · -- no1 no2 no1
          go_wp2_with fail
          all_goals go_end0
          all_goals exact ⟨rfl, FIN.out d d d _ (rot_none HI.out.1 HI.out.2.1 (by omega)) (.inr ⟨rfl, by omega⟩) (.inr ⟨rfl, by omega⟩) HS1.out⟩
        · -- no1 no2 no2
          go_wp2_with fail
          all_goals go_end0
          all_goals exact ⟨rfl, FIN.out d d d _ (rot_none HI.out.1 HI.out.2.1 (by omega)) (.inr ⟨rfl, by omega⟩) (.inr ⟨rfl, by omega⟩) HS1.out⟩
        · -- no2 yes yes
          go_wp2_with fail
          all_goals go_at_call 48
          all_goals refine (C1.out d _ (rot_none HI.out.1 HI.out.2.1 (by omega)) HS1.out (by omega) (by omega)).mono ?_
          all_goals rintro e w3 ⟨rfl, d2, hP1, S3⟩
          all_goals go_wp2_with fail
          all_goals go_at_call 48
          all_goals refine (C2.out d d2 _ (rot_none HI.out.1 HI.out.2.1 (by omega)) hP1.1 S3 (by omega) (by omega)).mono ?_
          all_goals rintro e w4 ⟨rfl, d3, hP2, S4⟩
          all_goals go_wp2_with fail
          all_goals go_end0
          all_goals exact ⟨rfl, FIN.out d d2 d3 _ (rot_none HI.out.1 HI.out.2.1 (by omega)) (.inl hP1) (.inl hP2) S4⟩
        · -- no2 yes no1
          go_wp2_with fail
          all_goals go_at_call 48
          all_goals refine (C1.out d _ (rot_none HI.out.1 HI.out.2.1 (by omega)) HS1.out (by omega) (by omega)).mono ?_
          all_goals rintro e w3 ⟨rfl, d2, hP1, S3⟩
          all_goals go_wp2_with fail
          all_goals go_end0
          all_goals exact ⟨rfl, FIN.out d d2 d2 _ (rot_none HI.out.1 HI.out.2.1 (by omega)) (.inl hP1) (.inr ⟨rfl, by omega⟩) S3⟩
        · -- no2 yes no2
          go_wp2_with fail
          all_goals go_at_call 48
          all_goals refine (C1.out d _ (rot_none HI.out.1 HI.out.2.1 (by omega)) HS1.out (by omega) (by omega)).mono ?_
          all_goals rintro e w3 ⟨rfl, d2, hP1, S3⟩
          all_goals go_wp2_with fail
          all_goals go_end0
          all_goals exact ⟨rfl, FIN.out d d2 d2 _ (rot_none HI.out.1 HI.out.2.1 (by omega)) (.inl hP1) (.inr ⟨rfl, by omega⟩) S3⟩
        · -- no2 no1 yes
          go_wp2_with fail
          all_goals go_at_call 48
          all_goals refine (C2.out d d _ (rot_none HI.out.1 HI.out.2.1 (by omega)) (permIn_refl _ _ _) HS1.out (by omega) (by omega)).mono ?_
          all_goals rintro e w4 ⟨rfl, d3, hP2, S4⟩
          all_goals go_wp2_with fail
          all_goals go_end0
          all_goals exact ⟨rfl, FIN.out d d d3 _ (rot_none HI.out.1 HI.out.2.1 (by omega)) (.inr ⟨rfl, by omega⟩) (.inl hP2) S4⟩
        · -- no2 no1 no1
          go_wp2_with fail
          all_goals go_end0
          all_goals exact ⟨rfl, FIN.out d d d _ (rot_none HI.out.1 HI.out.2.1 (by omega)) (.inr ⟨rfl, by omega⟩) (.inr ⟨rfl, by omega⟩) HS1.out⟩
        · -- no2 no1 no2
          go_wp2_with fail
          all_goals go_end0
          all_goals exact ⟨rfl, FIN.out d d d _ (rot_none HI.out.1 HI.out.2.1 (by omega)) (.inr ⟨rfl, by omega⟩) (.inr ⟨rfl, by omega⟩) HS1.out⟩
        · -- no2 no2 yes
          go_wp2_with fail
          all_goals go_at_call 48
          all_goals refine (C2.out d d _ (rot_none HI.out.1 HI.out.2.1 (by omega)) (permIn_refl _ _ _) HS1.out (by omega) (by omega)).mono ?_
          all_goals rintro e w4 ⟨rfl, d3, hP2, S4⟩
          all_goals go_wp2_with fail
          all_goals go_end0
          all_goals exact ⟨rfl, FIN.out d d d3 _ (rot_none HI.out.1 HI.out.2.1 (by omega)) (.inr ⟨rfl, by omega⟩) (.inl hP2) S4⟩
        · -- no2 no2 no1
          go_wp2_with fail
          all_goals go_end0
          all_goals exact ⟨rfl, FIN.out d d d _ (rot_none HI.out.1 HI.out.2.1 (by omega)) (.inr ⟨rfl, by omega⟩) (.inr ⟨rfl, by omega⟩) HS1.out⟩
        · -- no2 no2 no2
          go_wp2_with fail
          all_goals go_end0
          all_goals exact ⟨rfl, FIN.out d d d _ (rot_none HI.out.1 HI.out.2.1 (by omega)) (.inr ⟨rfl, by omega⟩) (.inr ⟨rfl, by omega⟩) HS1.out⟩
end
end Go.Proofs.Ytjgfklbhagcbaab

/- The library's stable sort of lines of tables: the insertion sort of a block. -/
namespace Go.Proofs.Ytjgfklbhagcbaab
open Go.Shelf Go.RowKit Go.Lib Go.Sort
set_option linter.unusedVariables false
set_option linter.unusedSimpArgs false
set_option linter.unusedSectionVars false
variable {α : Type} [Inhabited α]
section
variable {k : Nat} {enc : α → List Value} {cf : α → α → Int} {g : Nat} {cb : Array Value} {w0 : World} {blk off cap : Nat} {d0 : Array α}
set_option maxHeartbeats 4000000 in
set_option maxRecDepth 1000000 in
theorem ins_any (zE : Fives k) (R : RowK enc k w0 blk off d0) (eg : ∀ args w, (callFunc g args).run Try.prog w = .ok (.enter g args) w) (hC : CmpLays Try.prog g cb enc k cf blk off d0.size w0) (hS : SWO (ltOf cf)) (hsz : d0.size < 4611686018427387904)
    {d : Array α} {w : World} {a b : Nat} (hs : d0.size = d.size) (S : SWK enc k w0 blk off d w) (hab : a ≤ b) (hb : b ≤ d.size) :
    Calls Try.prog 47 #[.slice (some ⟨blk, off, none⟩) d.size cap, .int .i64 a, .int .i64 b, .func (.func g) #[] cb] w fun e w' => e = .returned (.tuple #[]) ∧ ∃ d', PermIn a b d d' ∧ SortedIn (ltOf cf) a b d' ∧ SWK enc k w0 blk off d' w' := by
  unfold Fives at zE
  have aE := aggT
  have mixed := mixedT
  have HF : Hid (∀ w', SWK enc k w0 blk off (Sort.insertionSort (ltOf cf) d a b) w' → ∃ d', PermIn a b d d' ∧ SortedIn (ltOf cf) a b d' ∧ SWK enc k w0 blk off d' w') := fun w' h => ⟨_, (insertionSort_holds hS d a b hab hb).1, (insertionSort_holds hS d a b hab hb).2, h⟩
  have S0 : Aside (SWK enc k w0 blk off d w) := S
  have HR := hidS R
  have HC := hidS hC
  clear S R hC hS
  go_enter Try.func47, Try.ntmps47
  go_wp2
  go_loopg [8] (b - a) (fun g1 vi wr => ∃ (i : Nat) (dk : Array α), vi = .int .i64 i ∧ a < i ∧ i ≤ b + 1 ∧ b + 1 - i ≤ g1 + 1 ∧ dk.size = d.size ∧ Aside (SWK enc k w0 blk off dk wr) ∧ Hid (insOuter (ltOf cf) a b i dk = insOuter (ltOf cf) a b (a + 1) d))
  case atStart => exact ⟨a + 1, d, by go_num, by omega, by omega, by omega, rfl, S0, rfl⟩
  case round =>
    clear S0
    obtain ⟨i, dk, rfl, hai, hib, hg1, hsk, S1, HO⟩ := hrel
    by_cases hlt : i < b
    · have hltz : (i : Int) < (b : Int) := by omega
      go_wp2
      go_loopg [9] i (fun g2 vj wr2 => ∃ (j : Nat) (dj : Array α), vj = .int .i64 j ∧ a ≤ j ∧ j ≤ i ∧ j ≤ g2 ∧ dj.size = d.size ∧ Aside (SWK enc k w0 blk off dj wr2) ∧ Hid (insInner (ltOf cf) a j dj = insInner (ltOf cf) a i dk))
      case atStart => exact ⟨i, dk, rfl, by omega, Nat.le_refl _, Nat.le_refl _, hsk, S1, rfl⟩
      case round =>
        clear S1
        obtain ⟨j, dj, rfl, haj, hji, hg2, hsj, S2, HI⟩ := hrel
        have OUT : Hid ((j ≤ a ∨ ltOf cf dj[j]! dj[j - 1]! = false) → Hid (insOuter (ltOf cf) a b (i + 1) dj = insOuter (ltOf cf) a b (a + 1) d)) := fun hs => by
          show _ = _
          rw [← HO.out, insOuter_go _ _ _ _ _ hlt, ← HI.out, insInner_stop _ _ _ _ hs]
        by_cases hja : a < j
        · have hjaz : (a : Int) < (j : Int) := by omega
          obtain ⟨jp, rfl⟩ : ∃ jp, j = jp + 1 := ⟨j - 1, by omega⟩
          have hjaz' : (a : Int) < (jp : Int) + 1 := by omega
          have ea : ((jp : Int) + 1).toNat = jp + 1 := by omega
          have pa : (0 : Int) ≤ (jp : Int) + 1 := by omega
          have ba : (jp : Int) + 1 < (d.size : Int) := by omega
          have ec : ((jp : Int)).toNat = jp := by omega
          have pc : (0 : Int) ≤ (jp : Int) := by omega
          have bc : (jp : Int) < (d.size : Int) := by omega
          have rc : IntKind.i64.wrap (jp : Int) = (jp : Int) := by rw [IntKind.wrap_i64]; omega
          have hs' : dj.size = d0.size := hsj.trans hs.symm
          have la := S2.out.ld HR.out hs' Try.prog (jp + 1) (by omega)
          have lc := S2.out.ld HR.out hs' Try.prog jp (by omega)
          have hcg := S2.out.cmp HC.out hs' dj[jp + 1]! dj[jp]!
          have CLS := hidS (S2.out.grown)
          have LT : Hid (cf dj[jp + 1]! dj[jp]! < 0 → ltOf cf dj[jp + 1]! dj[jp]! = true) := fun h => decide_eq_true h
          have LF : Hid (¬ cf dj[jp + 1]! dj[jp]! < 0 → ltOf cf dj[jp + 1]! dj[jp]! = false) := fun h => decide_eq_false h
          have HE : Hid (∀ W, SWK enc k w0 blk off dj W → SWK enc k w0 blk off (swp dj (jp + 1) jp) ((W.drew.setCells blk (off + (jp + 1) * k) (enc dj[jp]!)).setCells blk (off + jp * k) (enc dj[jp + 1]!)) ∧
              Sem.run Try.prog (loadCellsFrom ⟨blk, off + (jp + 1) * k, none⟩ 0 k #[]) W.drew = .ok (enc dj[jp + 1]!).toArray W.drew ∧ Sem.run Try.prog (loadCellsFrom ⟨blk, off + jp * k, none⟩ 0 k #[]) W.drew = .ok (enc dj[jp]!).toArray W.drew ∧
              Sem.run Try.prog (storeCells ⟨blk, off + (jp + 1) * k, none⟩ (enc dj[jp]!) 0) W.drew = .ok () (W.drew.setCells blk (off + (jp + 1) * k) (enc dj[jp]!)) ∧
              Sem.run Try.prog (storeCells ⟨blk, off + jp * k, none⟩ (enc dj[jp + 1]!) 0) (W.drew.setCells blk (off + (jp + 1) * k) (enc dj[jp]!)) = .ok () ((W.drew.setCells blk (off + (jp + 1) * k) (enc dj[jp]!)).setCells blk (off + jp * k) (enc dj[jp + 1]!))) := fun W SW =>
            ⟨SW.swapped HR.out (jp + 1) jp (by omega) (by omega), SW.ld1 HR.out hs' Try.prog (jp + 1) (by omega), SW.ld1 HR.out hs' Try.prog jp (by omega), SW.st1 HR.out hs' Try.prog (jp + 1) (by omega) _, SW.st2 HR.out hs' Try.prog (jp + 1) jp (by omega) (by omega) _ _⟩
          have na : (enc dj[jp + 1]!).length = k := HR.out.hk _
          have nc : (enc dj[jp]!).length = k := HR.out.hk _
          generalize hcv : cf dj[jp + 1]! dj[jp]! = c at hcg LT LF
          clear hcv
          generalize enc dj[jp + 1]! = cI at la hcg HE na
          generalize enc dj[jp]! = cJ at lc hcg HE nc
          by_cases hlv : c < 0
          · go_wp2_with fail
            go_quiet_grown (first | (go_at_fn g; refine Calls.grown_of (hcg _ _)))
            clear la lc hcg
            go_wp2_with fail
            obtain ⟨s3, la, lb, sa, sb⟩ := HE.out _ (CLS.out nq osq)
            have S3 : Aside _ := s3
            clear s3
            generalize grow (wr.drewN nq) osq = wq2 at S3 la lb sa sb ⊢
            apply wp_thenN
            · go_big_region
              exact ⟨rfl, rfl⟩
            clear la lb sa sb
            generalize (wq2.drew.setCells blk (off + (jp + 1) * k) cJ).setCells blk (off + jp * k) cI = w2 at S3 ⊢
            go_wp2
            go_roundg jp
            case measure => omega
            case rel =>
              refine ⟨jp, swp dj (jp + 1) jp, by first | rfl | go_num | (congr 1; omega), by omega, by omega, Nat.le_refl _, by rw [size_swp]; exact hsj, S3, (show Hid _ from ?_)⟩
              show _ = _
              have := insInner_go (ltOf cf) a (jp + 1) dj hja (by simp only [Nat.add_sub_cancel]; exact LT.out hlv)
              simp only [Nat.add_sub_cancel] at this
              rw [← HI.out, this]
          · go_wp2_with fail
            go_quiet_grown (first | (go_at_fn g; refine Calls.grown_of (hcg _ _)))
            clear la lc hcg
            go_wp2
            go_roundg (b - (i + 1))
            case measure => omega
            case rel => exact ⟨i + 1, dj, by go_num, by omega, by omega, by omega, hsj, CLS.out nq osq, OUT.out (Or.inr (by simp only [Nat.add_sub_cancel]; exact LF.out hlv))⟩
        · have hjaz : decide ((j : Int) > (a : Int)) = false := decide_eq_false (by omega)
          have hjaz' : ¬ (a : Int) < (j : Int) := by omega
          have S4 : Aside (SWK enc k w0 blk off dj wr.drew) := S2.out.drew
          clear S2
          go_wp2_with fail
          go_big_region
          all_goals go_wp2
          go_roundg (b - (i + 1))
          case measure => omega
          case rel => exact ⟨i + 1, dj, by go_num, by omega, by omega, by omega, hsj, S4, OUT.out (Or.inl (by omega))⟩
    · have hltz : ¬ (i : Int) < (b : Int) := by omega
      go_wp2
      go_end0
      exact ⟨rfl, HF.out _ (by unfold Sort.insertionSort; rw [← HO.out, insOuter_stop _ _ _ _ _ hlt]; exact S1.out)⟩
end
end Go.Proofs.Ytjgfklbhagcbaab

/- The library's stable sort of lines of tables: its whole. -/
namespace Go.Proofs.Ytjgfklbhagcbaab
open Go.Shelf Go.RowKit Go.Lib Go.Sort
set_option linter.unusedVariables false
set_option linter.unusedSimpArgs false
set_option linter.unusedSectionVars false
variable {α : Type} [Inhabited α]
section
variable {k : Nat} {enc : α → List Value} {cf : α → α → Int} {g : Nat} {cb : Array Value} {w0 : World} {blk off cap : Nat} {d0 : Array α}
/-- Any merge. -/
theorem merge_any (zE : Fives k) (R : RowK enc k w0 blk off d0) (eg : ∀ args w, (callFunc g args).run Try.prog w = .ok (.enter g args) w) (hC : CmpLays Try.prog g cb enc k cf blk off d0.size w0) (hS : SWO (ltOf cf)) (hsz : d0.size < 4611686018427387904) :
    ∀ N, MergeSay (k := k) enc cf g cb w0 blk off cap d0.size N
  | 0 => fun d w a m b hN hs S ha hb hbd h1 h2 => by omega
  | N + 1 => fun d w a m b hN hs S ha hb hbd h1 h2 => by
    by_cases q1 : m = a + 1
    · subst q1
      exact merge_left zE R eg hC hS hsz hs S hb hbd h2
    · by_cases q2 : b = m + 1
      · subst q2
        exact merge_right zE R eg hC hS hsz hs S (by omega) hbd h1
      · exact merge_both zE R eg hC hS hsz (merge_any zE R eg hC hS hsz N) hN hs S (by omega) (by omega) hbd h1 h2
/-- Blocks from x on are sorted. -/
def Tby (lt : α → α → Bool) (bs x n : Nat) (d : Array α) : Prop := ∀ i j, x ≤ i → i < j → j < n → i / bs = j / bs → lt d[j]! d[i]! = false
theorem Tby.block {lt : α → α → Bool} {bs q x n y : Nat} {d : Array α} (hb : 0 < bs) (h : Tby lt bs x n d) (hx : x ≤ q * bs) (hy : y ≤ n) (hq : y ≤ (q + 1) * bs) : SortedIn lt (q * bs) y d := fun i j hi hij hj => by
  refine h i j (by omega) hij (by omega) ?_
  have h1 := (Nat.le_div_iff_mul_le hb).2 hi
  have h2 := div_lt_of_mul (i := i) hb (show i < (q + 1) * bs by omega)
  have h3 := (Nat.le_div_iff_mul_le hb).2 (show q * bs ≤ j by omega)
  have h4 := div_lt_of_mul (i := j) hb (show j < (q + 1) * bs by omega)
  omega
theorem Tby.next {lt : α → α → Bool} {bs x y n : Nat} {d d' : Array α} (h : Tby lt bs x n d) (hxy : x ≤ y) (p : ∀ i, y ≤ i → d'[i]! = d[i]!) : Tby lt bs y n d' := fun i j hi hij hj e => by
  rw [p i hi, p j (by omega)]
  exact h i j (by omega) hij hj e
theorem permIn_0 {d0 d d' : Array α} {a b n : Nat} (h : PermIn 0 n d0 d) (hn : n = d0.size) (p : PermIn a b d d') (hb : b ≤ n) : PermIn 0 n d0 d' := permIn_trans _ _ _ _ _ h (permIn_mono _ _ _ _ _ _ (Nat.zero_le _) hb (by rw [h.1]; omega) p)
set_option maxHeartbeats 8000000 in
set_option maxRecDepth 1000000 in
theorem stable_any (zE : Fives k) (R : RowK enc k w0 blk off d0) (eg : ∀ args w, (callFunc g args).run Try.prog w = .ok (.enter g args) w) (hC : CmpLays Try.prog g cb enc k cf blk off d0.size w0) (hS : SWO (ltOf cf)) (hsz : d0.size ≤ 1000000)
    {w : World} (S : SWK enc k w0 blk off d0 w) :
    Calls Try.prog 35 #[.slice (some ⟨blk, off, none⟩) d0.size cap, .int .i64 (d0.size : Int), .func (.func g) #[] cb] w fun e w' => e = .returned (.tuple #[]) ∧ MergedTo enc k cf w0 blk off d0 0 d0.size w' := by
  have HSz := hidS hsz
  obtain ⟨n, hn⟩ : ∃ n, n = d0.size := ⟨_, rfl⟩
  have HI : Hid (∀ (d : Array α) (w : World) (a b : Nat), d.size = n → SWK enc k w0 blk off d w → a ≤ b → b ≤ n → Calls Try.prog 47 #[.slice (some ⟨blk, off, none⟩) n cap, .int .i64 a, .int .i64 b, .func (.func g) #[] cb] w fun e w' => e = .returned (.tuple #[]) ∧ ∃ d', PermIn a b d d' ∧ SortedIn (ltOf cf) a b d' ∧ SWK enc k w0 blk off d' w') := fun d w a b h1 h2 h3 h4 => by
    have := ins_any zE R eg hC hS (by omega) (cap := cap) (d := d) (w := w) (by omega) h2 h3 (by omega)
    rwa [h1] at this
  have HM : Hid (∀ (d : Array α) (w : World) (a m b : Nat), d.size = n → SWK enc k w0 blk off d w → a < m → m < b → b ≤ n → SortedIn (ltOf cf) a m d → SortedIn (ltOf cf) m b d → Calls Try.prog 48 #[.slice (some ⟨blk, off, none⟩) n cap, .int .i64 a, .int .i64 m, .int .i64 b, .func (.func g) #[] cb] w fun e w' => e = .returned (.tuple #[]) ∧ ∃ d', PermIn a b d d' ∧ SortedIn (ltOf cf) a b d' ∧ SWK enc k w0 blk off d' w') := fun d w a m b h1 h2 h3 h4 h5 h6 h7 => by
    have := merge_any zE R eg hC hS (by omega) (b - a) d w a m b (Nat.le_refl _) (by omega) h2 h3 h4 (by omega) h6 h7 (cap := cap)
    rwa [h1] at this
  have S0 := hidS S
  have hn62 : n ≤ 2 ^ 20 := by omega
  have HN := hidS hn
  rw [← hn]
  clear S R hC hS hsz hn eg zE
  go_enter Try.func35, Try.ntmps35
  go_wp2
  go_loopg [7, 8] n (fun kx s7 s8 wr => ∃ (a b : Nat) (dk : Array α), s7 = .int .i64 a ∧ s8 = .int .i64 b ∧ Aside (a + kx = n ∧ b = a + 20 ∧ (∃ q, a = q * 20) ∧ dk.size = n ∧ PermIn 0 n d0 dk ∧ SWK enc k w0 blk off dk wr ∧ Sby (ltOf cf) 20 a dk))
  case atStart => exact ⟨0, 20, d0, rfl, rfl, by omega, rfl, ⟨0, rfl⟩, HN.out.symm, permIn_refl _ _ _, S0.out, Sby.zero⟩
  case round =>
    clear S0
    obtain ⟨a, b, dk, rfl, rfl, HK⟩ := hrel
    have k1 := HK.out.1
    have k2 := HK.out.2.1
    by_cases hlt : b ≤ n
    · have hltz : (b : Int) ≤ (n : Int) := by omega
      have hb62 : b ≤ 2 ^ 21 := by omega
      have hc := HI.out dk wr a b HK.out.2.2.2.1 HK.out.2.2.2.2.2.1 (by omega) hlt
      clear k1 k2
      go_wp2_with (go_at_call 47; refine hc.mono ?_; rintro e w2 ⟨rfl, d', p1, p2, S2⟩)
      go_roundg (n - b)
      case measure => have := HK.out; omega
      case rel =>
        obtain ⟨h1, h2, ⟨q, h3⟩, h4, h5, h6, h7⟩ := HK.out
        refine ⟨b, b + 20, d', rfl, by congr 1, by omega, rfl, ⟨q + 1, by omega⟩, by rw [p1.1, h4], permIn_0 h5 HN.out p1 hlt, S2, ?_⟩
        rw [h3] at h7 p1 p2
        exact Sby.next (by decide) h7 (fun i hi => p1.2.1 i (.inl hi)) p2
    · have hltz : ¬ (b : Int) ≤ (n : Int) := by omega
      have hc := HI.out dk wr a n HK.out.2.2.2.1 HK.out.2.2.2.2.2.1 (by omega) (Nat.le_refl _)
      have HB : Hid (¬ b ≤ n) := hlt
      clear k1 k2 hlt
      go_wp2_with (go_at_call 47; refine hc.mono ?_; rintro e w2 ⟨rfl, d', p1, p2, S2⟩)
      have HD : Hid (d'.size = n ∧ PermIn 0 n d0 d' ∧ SWK enc k w0 blk off d' w2 ∧ Sby (ltOf cf) 20 n d') := by
        obtain ⟨h1, h2, ⟨q, h3⟩, h4, h5, h6, h7⟩ := HK.out
        refine ⟨by rw [p1.1, h4], permIn_0 h5 HN.out p1 (Nat.le_refl _), S2, ?_⟩
        rw [h3] at h7 p1 p2
        exact Sby.next (by decide) h7 (fun i hi => p1.2.1 i (.inl hi)) p2
      clear HK HB p1 p2 S2 hc
      go_loopg [6, 7, 8, 9] (n - 20) (fun kx s6 _ _ _ wr => ∃ (bs : Nat) (dk : Array α), s6 = .int .i64 bs ∧ Aside (0 < bs ∧ n - bs = kx ∧ dk.size = n ∧ PermIn 0 n d0 dk ∧ SWK enc k w0 blk off dk wr ∧ Sby (ltOf cf) bs n dk))
      case atStart => exact ⟨20, d', rfl, by decide, rfl, HD.out⟩
      case round =>
        clear HD
        obtain ⟨bs, dk, rfl, HK⟩ := hrel
        by_cases hbn : bs < n
        · have hbz : (bs : Int) < (n : Int) := by omega
          have hbs62 : bs ≤ 2 ^ 20 := by omega
          obtain ⟨B2, hB2⟩ : ∃ B2, B2 = 2 * bs := ⟨_, rfl⟩
          have hB62 : B2 ≤ 2 ^ 21 := by omega
          have hBz : (2 : Int) * (bs : Int) = (B2 : Int) := by omega
          have HB2 := hidS hB2
          clear hB2
          go_wp2
          go_loopg [7, 8] n (fun kx s7 s8 wx => ∃ (a b : Nat) (dj : Array α), s7 = .int .i64 a ∧ s8 = .int .i64 b ∧ Aside (a + kx = n ∧ b = a + B2 ∧ (∃ q, a = q * B2) ∧ dj.size = n ∧ PermIn 0 n d0 dj ∧ SWK enc k w0 blk off dj wx ∧ Sby (ltOf cf) B2 a dj ∧ Tby (ltOf cf) bs a n dj))
          case atStart => exact ⟨0, B2, dk, rfl, rfl, by omega, by omega, ⟨0, by omega⟩, HK.out.2.2.1, HK.out.2.2.2.1, HK.out.2.2.2.2.1, Sby.zero, fun i j _ h1 h2 h3 => HK.out.2.2.2.2.2 i j h1 h2 h3⟩
          case round =>
            obtain ⟨a, b, dj, rfl, rfl, HJ⟩ := hrel
            have k1 := HJ.out.1
            have k2 := HJ.out.2.1
            have hb0 := HK.out.1
            obtain ⟨mN, hmN⟩ : ∃ mN, mN = a + bs := ⟨_, rfl⟩
            have ha62 : a ≤ 2 ^ 20 := by omega
            have hb62 : b ≤ 2 ^ 22 := by omega
            have hm62 : mN ≤ 2 ^ 22 := by omega
            have hmz : (a : Int) + (bs : Int) = (mN : Int) := by omega
            have HS2 : Hid (∀ y, y ≤ n → y ≤ b → SortedIn (ltOf cf) a (min y mN) dj ∧ SortedIn (ltOf cf) mN y dj) := fun y hy hyb => by
              obtain ⟨h1, h2, ⟨q, h3⟩, h4, h5, h6, h7, h8⟩ := HJ.out
              have e1 : a = 2 * q * bs := by rw [h3, HB2.out, Nat.mul_left_comm, ← Nat.mul_assoc]
              have e2 : mN = (2 * q + 1) * bs := by rw [hmN, e1, Nat.add_mul, Nat.one_mul]
              have e3 : b = (2 * q + 1 + 1) * bs := by rw [Nat.add_mul, ← e2, Nat.one_mul, h2, hmN, HB2.out]; omega
              refine ⟨?_, ?_⟩
              · have := Tby.block (y := min y mN) (q := 2 * q) hb0 h8 (by omega) (by omega) (by omega)
                rwa [← e1] at this
              · have := Tby.block (y := y) (q := 2 * q + 1) hb0 h8 (by omega) (by omega) (by omega)
                rwa [← e2] at this
            by_cases hlt2 : b ≤ n
            · have hltz2 : (b : Int) ≤ (n : Int) := by omega
              have hB0 := HB2.out
              have hc := HM.out dj wr a mN b HJ.out.2.2.2.1 HJ.out.2.2.2.2.2.1 (by omega) (by omega) hlt2 (by have := (HS2.out b hlt2 (Nat.le_refl _)).1; rwa [show min b mN = mN by omega] at this) (HS2.out b hlt2 (Nat.le_refl _)).2
              clear k1 k2 hmN hB0 hb0
              go_wp2_with (go_at_call 48; refine hc.mono ?_; rintro e w3 ⟨rfl, d3, p1, p2, S3⟩)
              go_roundg (n - b)
              case measure => have := HJ.out; have := HK.out.1; have := HB2.out; omega
              case rel =>
                obtain ⟨h1, h2, ⟨q, h3⟩, h4, h5, h6, h7, h8⟩ := HJ.out
                refine ⟨b, b + B2, d3, rfl, by congr 1, by omega, rfl, ⟨q + 1, by rw [Nat.add_mul, ← h3, h2, Nat.one_mul]⟩, by rw [p1.1, h4], permIn_0 h5 HN.out p1 hlt2, S3, ?_, Tby.next h8 (by omega) fun i hi => p1.2.1 i (.inr hi)⟩
                rw [h3] at h7 p1 p2
                exact Sby.next (by have := HK.out.1; have := HB2.out; omega) h7 (fun i hi => p1.2.1 i (.inl hi)) p2
            · have hltz2 : ¬ (b : Int) ≤ (n : Int) := by omega
              by_cases hmn : mN < n
              · have hmnz : (mN : Int) < (n : Int) := by omega
                have hc := HM.out dj wr a mN n HJ.out.2.2.2.1 HJ.out.2.2.2.2.2.1 (by omega) hmn (Nat.le_refl _) (by have := (HS2.out n (Nat.le_refl _) (by omega)).1; rwa [show min n mN = mN by omega] at this) (HS2.out n (Nat.le_refl _) (by omega)).2
                clear k1 k2 hmN hb0
                go_wp2_with (go_at_call 48; refine hc.mono ?_; rintro e w3 ⟨rfl, d3, p1, p2, S3⟩)
                go_roundg (n - B2)
                case measure => have := HK.out; have := HB2.out; omega
                case rel =>
                  obtain ⟨h1, h2, ⟨q, h3⟩, h4, h5, h6, h7, h8⟩ := HJ.out
                  refine ⟨B2, d3, by congr 1; have := HB2.out; omega, by have := HK.out.1; have := HB2.out; omega, rfl, by rw [p1.1, h4], permIn_0 h5 HN.out p1 (Nat.le_refl _), S3, ?_⟩
                  rw [h3] at h7 p1 p2
                  exact Sby.next (by have := HK.out.1; have := HB2.out; omega) h7 (fun i hi => p1.2.1 i (.inl hi)) p2
              · have hmnz : ¬ (mN : Int) < (n : Int) := by omega
                have HP2 : Hid (SortedIn (ltOf cf) a n dj) := by
                  have := (HS2.out n (Nat.le_refl _) (by omega)).1
                  rwa [show min n mN = n by omega] at this
                clear k1 k2 hmN hb0
                go_wp2
                go_roundg (n - B2)
                case measure => have := HK.out; have := HB2.out; omega
                case rel =>
                  obtain ⟨h1, h2, ⟨q, h3⟩, h4, h5, h6, h7, h8⟩ := HJ.out
                  refine ⟨B2, dj, by congr 1; have := HB2.out; omega, by have := HK.out.1; have := HB2.out; omega, rfl, h4, h5, h6, ?_⟩
                  have p2 := HP2.out
                  rw [h3] at h7 p2
                  exact Sby.next (by have := HK.out.1; have := HB2.out; omega) h7 (fun i hi => rfl) p2
        · have hbz : ¬ (bs : Int) < (n : Int) := by omega
          have HF : Hid (MergedTo enc k cf w0 blk off d0 0 n wr) := ⟨dk, HK.out.2.2.2.1, HK.out.2.2.2.2.2.all (by omega), HK.out.2.2.2.2.1⟩
          clear HK
          go_wp2
          go_end0
          exact ⟨rfl, HF.out⟩
end
end Go.Proofs.Ytjgfklbhagcbaab
