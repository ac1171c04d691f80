/- What the landed key's TakeBytes answers. -/
import Derived.Test.YtgfkjbckhgndcaaLkey
namespace Go.Proofs.Ytgfkjbckhgndcaa
open Go.RowKit
set_option linter.unusedVariables false
set_option linter.unusedSimpArgs false

def natv (v : Value) : Nat := match v with | .int _ n => n.toNat | _ => 0
theorem run_cut_all (ao : Option Addr) (len cap i j : Nat) (h1 : i ≤ j) (h2 : j ≤ cap) : ∀ w, (Instr.slice 22 (.slice ao len cap) (some (.int .i64 (i : Int))) (some (.int .i64 (j : Int))) none).run Try.prog w = .ok (.slice (cutA ao cap i) (j - i) (cap - i)) w := fun w => run_cut w ao len cap i j h1 h2

set_option maxHeartbeats 4000000 in
set_option maxRecDepth 100000 in
theorem ktake_any {w : World} {ao : Option Addr} {len cap : Nat} {xs : List Int} (h : Sl w ao len cap xs) (hl : len ≤ 140737488355000) :
    Calls Try.prog 9 #[.slice ao len cap] w fun e w' => ∃ v, e = .returned (.tuple #[v, .int .i64 ((tp xs).2.2 : Int), .int .i64 ((tp xs).1 : Int)]) ∧ Row w.heap.size w' v (tp xs).2.1 ∧ Below w.heap.size w w' := by
  have HS : Hid (Sl w ao len cap xs ∧ len ≤ 140737488355000) := ⟨h, hl⟩
  have hlen62 : len ≤ 2 ^ 62 := by omega
  have hln := h.1
  have hcap := h.2.2.2.1
  clear h hl
  go_enter Try.func9, Try.ntmps9
  go_wp2_with fail
  refine wp_scope_jumps 0 (fun a' w' => ∃ (k : Nat) (out : List Int) (v : Value), Hid (Row w.heap.size w' v out ∧ Below w.heap.size w w' ∧ J xs out k ∧ out.length ≤ k ∧ k ≤ len) ∧ ∃ (u1 u2 u3 u4 u7 u8 u9 u10 u11 u12 u13 u14 u15 u16 u17 u18 u19 u20 u21 u22 u23 u24 u25 u26 u27 u28 u29 u30 u31 u32 u33 u34 u35 u36 u37 u38 u39 u40 u41 u42 u43 u44 u45 u46 u47 u48 : Value), a' = { tmps := #[.slice ao len cap, u1, u2, u3, u4, v, .int .i64 (k : Int), u7, u8, u9, u10, u11, u12, u13, u14, u15, u16, u17, u18, u19, u20, u21, u22, u23, u24, u25, u26, u27, u28, u29, u30, u31, u32, u33, u34, u35, u36, u37, u38, u39, u40, u41, u42, u43, u44, u45, u46, u47, u48], defers := [] }) (fun a _ => len - natv (a.eval (.tmp 6))) rfl ?_ ?_
  · go_wp2_with fail
    refine (fun (H : ∀ (k : Nat) (v : Value), k = 0 → v = Value.slice none 0 0 → Code.wp _ _ _ { tmps := #[Value.slice ao len cap, undef, Value.slice none 0 0, Value.int IntKind.i64 0, Value.int IntKind.i64 0, v, Value.int IntKind.i64 (k : Int), undef, undef, undef, undef, undef, undef, undef, undef, undef, undef, undef, undef, undef, undef, undef, undef, undef, undef, undef, undef, undef, undef, undef, undef, undef, undef, undef, undef, undef, undef, undef, undef, undef, undef, undef, undef, undef, undef, undef, undef, undef, undef], defers := [] } w) => H 0 (Value.slice none 0 0) rfl rfl) ?_
    intro k v hk0 hv0
    obtain ⟨out, ho⟩ : ∃ o : List Int, o = [] := ⟨_, rfl⟩
    have HK : Hid (Row w.heap.size w v out ∧ Below w.heap.size w w ∧ J xs out k ∧ out.length ≤ k ∧ k ≤ len) := ⟨by rw [hv0, ho]; exact Row.nil _ _, Below.refl _ _, by rw [hk0, ho]; exact J.zero xs, by rw [ho]; exact Nat.zero_le _, by omega⟩
    clear ho hk0 hv0
    go_step3
    have hsl := HS.out.1.later HK.out.2.1
    have hf := hsl.from k (by have := HK.out.2.2.2.2; omega)
    have hcf := fun w => run_from w ao len cap k (by have := HK.out.2.2.2.2; omega) hcap
    have hix := index_l hf
    have hJ := HK.out.2.2.1
    have hkx : k ≤ xs.length := by have := HK.out.2.2.2.2; omega
    have hrl : (xs.drop k).length = xs.length - k := List.length_drop
    have hk62 : k ≤ 2 ^ 62 := by omega
    by_cases hz : fz (xs.drop k) < (xs.drop k).length
    · have hix' : ix (xs.drop k) = (fz (xs.drop k) : Int) := by unfold ix; rw [if_pos hz]
      rw [hix'] at hix
      obtain ⟨r, hr⟩ : ∃ r, r = fz (xs.drop k) := ⟨_, rfl⟩
      have h0 : ∀ hh : k + r < xs.length, xs[k + r] = 0 := fun hh => by
        have := fz_at hz
        rw [List.getElem_drop] at this
        simp only [← hr] at this
        exact this
      have hrun : J xs (out ++ (xs.drop k).take r) (k + r) := hJ.run r (by omega) fun j a b hk => by
        have := fz_before (xs := xs.drop k) (k := j - k) (by omega) (by omega)
        rw [List.getElem_drop] at this
        have e : k + (j - k) = j := by omega
        simp only [e] at this
        exact this
      rw [← hr] at hix hz
      have hx0 := h0 (by omega)
      have hrn : ¬ ((r : Int) < 0) := by omega
      have hr62 : r ≤ 2 ^ 62 := by omega
      obtain ⟨S, hS⟩ : ∃ s, s = k + r := ⟨_, rfl⟩
      have hS62 : S ≤ 2 ^ 62 := by omega
      have hKS : (k : Int) ≤ (S : Int) := by omega
      have hSc : (S : Int) ≤ (cap : Int) := by omega
      have hw1 : wrap64 ((k : Int) + (r : Int)) = (S : Int) := by unfold wrap64; omega
      have HW1 : Hid (wrap64 ((k : Int) + (r : Int)) = (S : Int)) := hw1
      clear hw1
      by_cases hlast : k + r + 1 = len
      · have hlast' : ((S : Int) + 1 == (len : Int)) = true := by simp; omega
        have HT : Hid (tp xs = (5, [], 0)) := hrun.lone (by omega) hx0
        have HB : Hid (Below w.heap.size w w) := HK.out.2.1
        clear hsl hf hJ hrl hz hix' hr h0 hrun hx0 hlast HK hkx hS
        have hw1 := HW1.out
        go_wp2_with (go_at_call 22; refine hix.mono ?_; rintro e w2 ⟨rfl, hw⟩; obtain rfl := hw.symm)
        simp only [Exit.jump]
        exact bodyPost_ret (v := .tuple #[.slice none 0 0, .int .i64 0, .int .i64 5]) (by simp [results, Try.results9, go_sem]) rfl ⟨_, by rw [HT.out]; rfl, by rw [HT.out]; exact Row.nil _ _, HB.out⟩
      · have hlast' : ((S : Int) + 1 == (len : Int)) = false := by simp; omega
        have hk1 : k + r + 1 < len := by omega
        have hkx1 : k + r + 1 < xs.length := by omega
        obtain ⟨h8, b, off, hab, hc0⟩ := HS.out.1.2.2.2.2.2 (k + r + 1) hk1
        have hcc := run_cut_all ao len cap k S (by omega) (by omega)
        have hct := hsl.cut k S (by omega) (by omega)
        have e3 : S - k = r := by omega
        rw [e3] at hcc hct
        obtain ⟨run, hrun'⟩ : ∃ l, l = (xs.drop k).take r := ⟨_, rfl⟩
        rw [← hrun'] at hct hrun
        have hx1 := xof_at HS.out.1.2.1 hkx1
        obtain ⟨d, hdd⟩ : ∃ d, d = xof xs (k + r + 1) := ⟨_, rfl⟩
        rw [← hdd] at hc0 hx1 h8
        have hc1 := cell_later HK.out.2.1 hc0
        obtain ⟨ca, hca⟩ : ∃ a, a = cutA ao cap k := ⟨_, rfl⟩
        obtain ⟨cc, hccap⟩ : ∃ a, a = cap - k := ⟨_, rfl⟩
        rw [← hca, ← hccap] at hcc hct hcf hix
        have HC : Hid (Sl w ca r cc run) := hct
        have hrl2 := hct.1
        have HO : Hid (out.length + r ≤ 140737488355328 ∧ run.length = r) := ⟨by have := HK.out.2.2.2.1; have := HS.out.2; omega, hrl2⟩
        obtain ⟨T, hT⟩ : ∃ t, t = k + r + 1 := ⟨_, rfl⟩
        have hT1 : wrap64 ((k : Int) + ((r : Int) + 2)) = ((T + 1 : Nat) : Int) := by unfold wrap64; omega
        have HW2 : Hid (wrap64 ((k : Int) + ((r : Int) + 2)) = ((T + 1 : Nat) : Int)) := hT1
        clear hT1
        have hT2 : (T : Int) < (len : Int) := by omega
        have hT62 : T ≤ 2 ^ 62 := by omega
        rw [← hT] at hc0
        clear hc1
        by_cases d2 : d = 255
        · subst d2
          have HN : Hid (J xs (out ++ run ++ [((0 : Nat) : Int)]) (T + 1) ∧ out.length + run.length + 1 ≤ T + 1 ∧ T + 1 ≤ len) := ⟨by rw [hT]; exact hrun.esc (by omega) hx0 (by rw [hx1]; rfl), by have := HK.out.2.2.2.1; omega, by omega⟩
          have HT : Hid (T = k + r + 1) := hT
          clear hsl hf hJ hrl hz hix' hr h0 hrun hx0 hlast hkx hk1 hkx1 h8 hct e3 hrun' hx1 hdd hca hccap hrl2 hT hS
          have HC0 : Hid (w.cell? ⟨b, off + T, none⟩ = some (.int .u8 ((255 : Nat) : Int))) := hc0
          clear hc0
          subst hab
          have hw1 := HW1.out
          have hw2 := HW2.out
          go_wp2_with (first | (go_at_call 22; refine hix.mono ?_; rintro e w2 ⟨rfl, hw⟩; obtain rfl := hw.symm) | (at_builtin; refine wpList_app rfl (.tmp 23) (.tmp 29) rfl w.heap.size v out rfl HK.out.1 ca r cc (xof run) rfl HC.out.2.2.1 HC.out.2.2.2.2.2 HO.out.1 HK.out.2.1.size ?_; intro v3 w3 hr3 hg3 hm3; rw [← HO.out.2, bs_xof HC.out.2.1] at hr3; have hb3 := grown_below HK.out.1 hg3 HK.out.2.1.size; have hc3 := cell_later (HK.out.2.1.trans hb3) HC0.out) | (at_builtin; refine wpList_app1 (w := w3) (c := 0) (s := .tmp 42) (x := .tmp 43) rfl rfl rfl rfl hr3 (by decide) (by have := HN.out.2.1; have := HN.out.2.2; have := HS.out.2; simp only [List.length_append]; omega) (Nat.le_trans HK.out.2.1.size hb3.size) ?_; intro v4 w4 hr4 hb4 _))
          go_step3
          exact ⟨rfl, T + 1, _, v4, ⟨hr4, (HK.out.2.1.trans hb3).trans hb4, HN.out.1, by have := HN.out.2.1; simp; omega, HN.out.2.2⟩, _, _, _, _, _, _, _, _, _, _, _, _, _, _, _, _, _, _, _, _, _, _, _, _, _, _, _, _, _, _, _, _, _, _, _, _, _, _, _, _, _, _, _, _, _, _, rfl⟩
        · have d2b : ((d : Int) == 255) = false := by simp; omega
          by_cases d1 : d = 1
          · subst d1
            have HT : Hid (tp xs = (0, out ++ run, T + 1)) := by rw [hT]; exact hrun.end (by omega) hx0 (by rw [hx1]; rfl)
            clear hsl hf hJ hrl hz hix' hr h0 hrun hx0 hlast hkx hk1 hkx1 h8 hct e3 hrun' hx1 hdd hca hccap hrl2 hT hS d2
            have HC0 : Hid (w.cell? ⟨b, off + T, none⟩ = some (.int .u8 ((1 : Nat) : Int))) := hc0
            clear hc0
            subst hab
            have hw1 := HW1.out
            have hw2 := HW2.out
            go_wp2_with (first | (go_at_call 22; refine hix.mono ?_; rintro e w2 ⟨rfl, hw⟩; obtain rfl := hw.symm) | (at_builtin; refine wpList_app rfl (.tmp 23) (.tmp 29) rfl w.heap.size v out rfl HK.out.1 ca r cc (xof run) rfl HC.out.2.2.1 HC.out.2.2.2.2.2 HO.out.1 HK.out.2.1.size ?_; intro v3 w3 hr3 hg3 hm3; rw [← HO.out.2, bs_xof HC.out.2.1] at hr3; have hb3 := grown_below HK.out.1 hg3 HK.out.2.1.size; have hc3 := cell_later (HK.out.2.1.trans hb3) HC0.out))
            simp only [Exit.jump]
            refine bodyPost_ret (v := .tuple #[v3, .int .i64 ((T + 1 : Nat) : Int), .int .i64 0]) (by simp [results, Try.results9, go_sem]) rfl ⟨v3, by rw [HT.out]; rfl, ?_, HK.out.2.1.trans hb3⟩
            rw [HT.out]
            exact hr3
          · have d1b : ((d : Int) == 1) = false := by simp; omega
            have HT : Hid (tp xs = (3, [], 0)) := hrun.bad (by omega) hx0 (by rw [hx1]; omega) (by rw [hx1]; omega)
            clear hsl hf hJ hrl hz hix' hr h0 hrun hx0 hlast hkx hk1 hkx1 h8 hct e3 hrun' hx1 hdd hca hccap hrl2 hT hS d2 d1
            have HC0 : Hid (w.cell? ⟨b, off + T, none⟩ = some (.int .u8 (d : Int))) := hc0
            clear hc0
            subst hab
            have hw1 := HW1.out
            have hw2 := HW2.out
            go_wp2_with (first | (go_at_call 22; refine hix.mono ?_; rintro e w2 ⟨rfl, hw⟩; obtain rfl := hw.symm) | (at_builtin; refine wpList_app rfl (.tmp 23) (.tmp 29) rfl w.heap.size v out rfl HK.out.1 ca r cc (xof run) rfl HC.out.2.2.1 HC.out.2.2.2.2.2 HO.out.1 HK.out.2.1.size ?_; intro v3 w3 hr3 hg3 hm3; rw [← HO.out.2, bs_xof HC.out.2.1] at hr3; have hb3 := grown_below HK.out.1 hg3 HK.out.2.1.size; have hc3 := cell_later (HK.out.2.1.trans hb3) HC0.out))
            simp only [Exit.jump]
            exact bodyPost_ret (v := .tuple #[.slice none 0 0, .int .i64 0, .int .i64 3]) (by simp [results, Try.results9, go_sem]) rfl ⟨_, by rw [HT.out]; rfl, by rw [HT.out]; exact Row.nil _ _, HK.out.2.1.trans hb3⟩
    · have hix' : ix (xs.drop k) = -1 := by unfold ix; rw [if_neg hz]
      rw [hix'] at hix
      have hfe : fz (xs.drop k) = xs.length - k := by have := fz_le (xs.drop k); omega
      have HT : Hid (tp xs = (5, [], 0)) := J.out (hJ.run (xs.length - k) (by omega) fun j a b hk => by
        have := fz_before (xs := xs.drop k) (k := j - k) (by omega) (by omega)
        rw [List.getElem_drop] at this
        have e : k + (j - k) = j := by omega
        simp only [e] at this
        exact this) (by omega)
      have HB : Hid (Below w.heap.size w w) := HK.out.2.1
      clear hsl hf hJ hrl hz hix' hfe HK hkx
      go_wp2_with (go_at_call 22; refine hix.mono ?_; rintro e w2 ⟨rfl, hw⟩; obtain rfl := hw.symm)
      simp only [Exit.jump]
      exact bodyPost_ret (v := .tuple #[.slice none 0 0, .int .i64 0, .int .i64 5]) (by simp [results, Try.results9, go_sem]) rfl ⟨_, by rw [HT.out]; rfl, by rw [HT.out]; exact Row.nil _ _, HB.out⟩
  · rintro a' wr ⟨k, out, v, HK, u1, u2, u3, u4, u7, u8, u9, u10, u11, u12, u13, u14, u15, u16, u17, u18, u19, u20, u21, u22, u23, u24, u25, u26, u27, u28, u29, u30, u31, u32, u33, u34, u35, u36, u37, u38, u39, u40, u41, u42, u43, u44, u45, u46, u47, u48, rfl⟩
    have hsl := HS.out.1.later HK.out.2.1
    have hf := hsl.from k (by have := HK.out.2.2.2.2; omega)
    have hcf := fun w => run_from w ao len cap k (by have := HK.out.2.2.2.2; omega) hcap
    have hix := index_l hf
    have hJ := HK.out.2.2.1
    have hkx : k ≤ xs.length := by have := HK.out.2.2.2.2; omega
    have hrl : (xs.drop k).length = xs.length - k := List.length_drop
    have hk62 : k ≤ 2 ^ 62 := by omega
    by_cases hz : fz (xs.drop k) < (xs.drop k).length
    · have hix' : ix (xs.drop k) = (fz (xs.drop k) : Int) := by unfold ix; rw [if_pos hz]
      rw [hix'] at hix
      obtain ⟨r, hr⟩ : ∃ r, r = fz (xs.drop k) := ⟨_, rfl⟩
      have h0 : ∀ hh : k + r < xs.length, xs[k + r] = 0 := fun hh => by
        have := fz_at hz
        rw [List.getElem_drop] at this
        simp only [← hr] at this
        exact this
      have hrun : J xs (out ++ (xs.drop k).take r) (k + r) := hJ.run r (by omega) fun j a b hk => by
        have := fz_before (xs := xs.drop k) (k := j - k) (by omega) (by omega)
        rw [List.getElem_drop] at this
        have e : k + (j - k) = j := by omega
        simp only [e] at this
        exact this
      rw [← hr] at hix hz
      have hx0 := h0 (by omega)
      have hrn : ¬ ((r : Int) < 0) := by omega
      have hr62 : r ≤ 2 ^ 62 := by omega
      obtain ⟨S, hS⟩ : ∃ s, s = k + r := ⟨_, rfl⟩
      have hS62 : S ≤ 2 ^ 62 := by omega
      have hKS : (k : Int) ≤ (S : Int) := by omega
      have hSc : (S : Int) ≤ (cap : Int) := by omega
      have hw1 : wrap64 ((k : Int) + (r : Int)) = (S : Int) := by unfold wrap64; omega
      have HW1 : Hid (wrap64 ((k : Int) + (r : Int)) = (S : Int)) := hw1
      clear hw1
      by_cases hlast : k + r + 1 = len
      · have hlast' : ((S : Int) + 1 == (len : Int)) = true := by simp; omega
        have HT : Hid (tp xs = (5, [], 0)) := hrun.lone (by omega) hx0
        have HB : Hid (Below w.heap.size w wr) := HK.out.2.1
        clear hsl hf hJ hrl hz hix' hr h0 hrun hx0 hlast HK hkx hS
        have hw1 := HW1.out
        go_wp2_with (go_at_call 22; refine hix.mono ?_; rintro e w2 ⟨rfl, hw⟩; obtain rfl := hw.symm)
        simp only [Exit.jump]
        exact bodyPost_ret (v := .tuple #[.slice none 0 0, .int .i64 0, .int .i64 5]) (by simp [results, Try.results9, go_sem]) rfl ⟨_, by rw [HT.out]; rfl, by rw [HT.out]; exact Row.nil _ _, HB.out⟩
      · have hlast' : ((S : Int) + 1 == (len : Int)) = false := by simp; omega
        have hk1 : k + r + 1 < len := by omega
        have hkx1 : k + r + 1 < xs.length := by omega
        obtain ⟨h8, b, off, hab, hc0⟩ := HS.out.1.2.2.2.2.2 (k + r + 1) hk1
        have hcc := run_cut_all ao len cap k S (by omega) (by omega)
        have hct := hsl.cut k S (by omega) (by omega)
        have e3 : S - k = r := by omega
        rw [e3] at hcc hct
        obtain ⟨run, hrun'⟩ : ∃ l, l = (xs.drop k).take r := ⟨_, rfl⟩
        rw [← hrun'] at hct hrun
        have hx1 := xof_at HS.out.1.2.1 hkx1
        obtain ⟨d, hdd⟩ : ∃ d, d = xof xs (k + r + 1) := ⟨_, rfl⟩
        rw [← hdd] at hc0 hx1 h8
        have hc1 := cell_later HK.out.2.1 hc0
        obtain ⟨ca, hca⟩ : ∃ a, a = cutA ao cap k := ⟨_, rfl⟩
        obtain ⟨cc, hccap⟩ : ∃ a, a = cap - k := ⟨_, rfl⟩
        rw [← hca, ← hccap] at hcc hct hcf hix
        have HC : Hid (Sl wr ca r cc run) := hct
        have hrl2 := hct.1
        have HO : Hid (out.length + r ≤ 140737488355328 ∧ run.length = r) := ⟨by have := HK.out.2.2.2.1; have := HS.out.2; omega, hrl2⟩
        obtain ⟨T, hT⟩ : ∃ t, t = k + r + 1 := ⟨_, rfl⟩
        have hT1 : wrap64 ((k : Int) + ((r : Int) + 2)) = ((T + 1 : Nat) : Int) := by unfold wrap64; omega
        have HW2 : Hid (wrap64 ((k : Int) + ((r : Int) + 2)) = ((T + 1 : Nat) : Int)) := hT1
        clear hT1
        have hT2 : (T : Int) < (len : Int) := by omega
        have hT62 : T ≤ 2 ^ 62 := by omega
        rw [← hT] at hc0
        clear hc1
        by_cases d2 : d = 255
        · subst d2
          have HN : Hid (J xs (out ++ run ++ [((0 : Nat) : Int)]) (T + 1) ∧ out.length + run.length + 1 ≤ T + 1 ∧ T + 1 ≤ len) := ⟨by rw [hT]; exact hrun.esc (by omega) hx0 (by rw [hx1]; rfl), by have := HK.out.2.2.2.1; omega, by omega⟩
          have HT : Hid (T = k + r + 1) := hT
          clear hsl hf hJ hrl hz hix' hr h0 hrun hx0 hlast hkx hk1 hkx1 h8 hct e3 hrun' hx1 hdd hca hccap hrl2 hT hS
          have HC0 : Hid (w.cell? ⟨b, off + T, none⟩ = some (.int .u8 ((255 : Nat) : Int))) := hc0
          clear hc0
          subst hab
          have hw1 := HW1.out
          have hw2 := HW2.out
          go_wp2_with (first | (go_at_call 22; refine hix.mono ?_; rintro e w2 ⟨rfl, hw⟩; obtain rfl := hw.symm) | (at_builtin; refine wpList_app rfl (.tmp 23) (.tmp 29) rfl w.heap.size v out rfl HK.out.1 ca r cc (xof run) rfl HC.out.2.2.1 HC.out.2.2.2.2.2 HO.out.1 HK.out.2.1.size ?_; intro v3 w3 hr3 hg3 hm3; rw [← HO.out.2, bs_xof HC.out.2.1] at hr3; have hb3 := grown_below HK.out.1 hg3 HK.out.2.1.size; have hc3 := cell_later (HK.out.2.1.trans hb3) HC0.out) | (at_builtin; refine wpList_app1 (w := w3) (c := 0) (s := .tmp 42) (x := .tmp 43) rfl rfl rfl rfl hr3 (by decide) (by have := HN.out.2.1; have := HN.out.2.2; have := HS.out.2; simp only [List.length_append]; omega) (Nat.le_trans HK.out.2.1.size hb3.size) ?_; intro v4 w4 hr4 hb4 _))
          go_step3
          refine ⟨rfl, ⟨T + 1, _, v4, ⟨hr4, (HK.out.2.1.trans hb3).trans hb4, HN.out.1, by have := HN.out.2.1; simp; omega, HN.out.2.2⟩, _, _, _, _, _, _, _, _, _, _, _, _, _, _, _, _, _, _, _, _, _, _, _, _, _, _, _, _, _, _, _, _, _, _, _, _, _, _, _, _, _, _, _, _, _, _, rfl⟩, ?_⟩
          have := HT.out; have := HN.out.2.2; simp [natv, Act.eval]; omega
        · have d2b : ((d : Int) == 255) = false := by simp; omega
          by_cases d1 : d = 1
          · subst d1
            have HT : Hid (tp xs = (0, out ++ run, T + 1)) := by rw [hT]; exact hrun.end (by omega) hx0 (by rw [hx1]; rfl)
            clear hsl hf hJ hrl hz hix' hr h0 hrun hx0 hlast hkx hk1 hkx1 h8 hct e3 hrun' hx1 hdd hca hccap hrl2 hT hS d2
            have HC0 : Hid (w.cell? ⟨b, off + T, none⟩ = some (.int .u8 ((1 : Nat) : Int))) := hc0
            clear hc0
            subst hab
            have hw1 := HW1.out
            have hw2 := HW2.out
            go_wp2_with (first | (go_at_call 22; refine hix.mono ?_; rintro e w2 ⟨rfl, hw⟩; obtain rfl := hw.symm) | (at_builtin; refine wpList_app rfl (.tmp 23) (.tmp 29) rfl w.heap.size v out rfl HK.out.1 ca r cc (xof run) rfl HC.out.2.2.1 HC.out.2.2.2.2.2 HO.out.1 HK.out.2.1.size ?_; intro v3 w3 hr3 hg3 hm3; rw [← HO.out.2, bs_xof HC.out.2.1] at hr3; have hb3 := grown_below HK.out.1 hg3 HK.out.2.1.size; have hc3 := cell_later (HK.out.2.1.trans hb3) HC0.out))
            simp only [Exit.jump]
            refine bodyPost_ret (v := .tuple #[v3, .int .i64 ((T + 1 : Nat) : Int), .int .i64 0]) (by simp [results, Try.results9, go_sem]) rfl ⟨v3, by rw [HT.out]; rfl, ?_, HK.out.2.1.trans hb3⟩
            rw [HT.out]
            exact hr3
          · have d1b : ((d : Int) == 1) = false := by simp; omega
            have HT : Hid (tp xs = (3, [], 0)) := hrun.bad (by omega) hx0 (by rw [hx1]; omega) (by rw [hx1]; omega)
            clear hsl hf hJ hrl hz hix' hr h0 hrun hx0 hlast hkx hk1 hkx1 h8 hct e3 hrun' hx1 hdd hca hccap hrl2 hT hS d2 d1
            have HC0 : Hid (w.cell? ⟨b, off + T, none⟩ = some (.int .u8 (d : Int))) := hc0
            clear hc0
            subst hab
            have hw1 := HW1.out
            have hw2 := HW2.out
            go_wp2_with (first | (go_at_call 22; refine hix.mono ?_; rintro e w2 ⟨rfl, hw⟩; obtain rfl := hw.symm) | (at_builtin; refine wpList_app rfl (.tmp 23) (.tmp 29) rfl w.heap.size v out rfl HK.out.1 ca r cc (xof run) rfl HC.out.2.2.1 HC.out.2.2.2.2.2 HO.out.1 HK.out.2.1.size ?_; intro v3 w3 hr3 hg3 hm3; rw [← HO.out.2, bs_xof HC.out.2.1] at hr3; have hb3 := grown_below HK.out.1 hg3 HK.out.2.1.size; have hc3 := cell_later (HK.out.2.1.trans hb3) HC0.out))
            simp only [Exit.jump]
            exact bodyPost_ret (v := .tuple #[.slice none 0 0, .int .i64 0, .int .i64 3]) (by simp [results, Try.results9, go_sem]) rfl ⟨_, by rw [HT.out]; rfl, by rw [HT.out]; exact Row.nil _ _, HK.out.2.1.trans hb3⟩
    · have hix' : ix (xs.drop k) = -1 := by unfold ix; rw [if_neg hz]
      rw [hix'] at hix
      have hfe : fz (xs.drop k) = xs.length - k := by have := fz_le (xs.drop k); omega
      have HT : Hid (tp xs = (5, [], 0)) := J.out (hJ.run (xs.length - k) (by omega) fun j a b hk => by
        have := fz_before (xs := xs.drop k) (k := j - k) (by omega) (by omega)
        rw [List.getElem_drop] at this
        have e : k + (j - k) = j := by omega
        simp only [e] at this
        exact this) (by omega)
      have HB : Hid (Below w.heap.size w wr) := HK.out.2.1
      clear hsl hf hJ hrl hz hix' hfe HK hkx
      go_wp2_with (go_at_call 22; refine hix.mono ?_; rintro e w2 ⟨rfl, hw⟩; obtain rfl := hw.symm)
      simp only [Exit.jump]
      exact bodyPost_ret (v := .tuple #[.slice none 0 0, .int .i64 0, .int .i64 5]) (by simp [results, Try.results9, go_sem]) rfl ⟨_, by rw [HT.out]; rfl, by rw [HT.out]; exact Row.nil _ _, HB.out⟩
end Go.Proofs.Ytgfkjbckhgndcaa
