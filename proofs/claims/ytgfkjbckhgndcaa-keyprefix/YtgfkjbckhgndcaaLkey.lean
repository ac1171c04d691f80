/- What the landed key's calls answer: Bytes, Number, TakeBytes, TakeNumber, Compare. -/
import Derived.Test.YtgfkjbckhgndcaaKext
import Derived.Test.YtgfkjbckhgndcaaKcmp
namespace Go.Proofs.Ytgfkjbckhgndcaa
open Go.RowKit
set_option linter.unusedVariables false
set_option linter.unusedSimpArgs false

set_option maxHeartbeats 1000000 in
set_option maxRecDepth 100000 in
theorem kfresh_any {w : World} {ao : Option Addr} {len cap : Nat} {xs : List Int} (room : Nat) (h : Sl w ao len cap xs) (hr : len + room ≤ 175921860444160) :
    Calls Try.prog 23 #[.slice ao len cap, .int .i64 (room : Int)] w fun e w' => ∃ v', e = .returned v' ∧ Row w.heap.size w' v' xs ∧ Below w.heap.size w w' := by
  obtain ⟨i0, hi, hz, hsize, hbytes⟩ := info_parts Try.info5
  have HB : Hid (Sl w ao len cap xs) := h
  have HL : Hid (len + room ≤ 175921860444160) := hr
  have hw : IntKind.i64.wrap ((len : Int) + (room : Int)) = ((len + room : Nat) : Int) := by rw [IntKind.wrap_i64]; omega
  have hw' : wrap64 ((len : Int) + (room : Int)) = ((len + room : Nat) : Int) := by unfold wrap64; omega
  clear h hr
  go_enter Try.func23, Try.ntmps23
  go_wp2_with (first
    | (at_make; refine wpList_make_own w rfl _ _ 22 rfl w.heap.size 5 i0 (.int .u8 0) 1 Try.underlying22 hi hz hsize .i64 .i64 _ (len + room) rfl rfl (by omega) (by rw [hbytes]; have := HL.out; omega) (by have := HL.out; simp only [maxLen]; omega) (Nat.le_refl _) ?_; intro w1 hr1 hg1)
    | (at_builtin; refine wpList_appW rfl (.tmp 9) (.tmp 10) rfl w.heap.size _ [] rfl hr1 ao len cap (xof xs) rfl HB.out.2.2.1 (HB.out.2.2.2.2.2.grown hg1 (fun _ _ _ => by simp)) (by have := HL.out; simp; omega) (by have := hg1.size; omega) ?_; intro v2 w2 hr2 hg2 hm2))
  rw [List.nil_append, ← HB.out.1, bs_xof HB.out.2.1] at hr2
  refine bodyPost_ret (v := v2) (by simp [results, Try.results23, go_sem]) rfl ⟨v2, rfl, hr2, ?_⟩
  have b1 : Below w.heap.size w w1 := Below.grown (Below.refl _ _) hg1 (Nat.le_refl _) (fun k hk => by cases hk)
  exact Below.grown b1 hg2 hg1.size (fun k hk => by simp [Act.eval, Value.ownBlock] at hk; omega)

set_option maxHeartbeats 1000000 in
set_option maxRecDepth 100000 in
theorem kbytes_any {w : World} {ao so : Option Addr} {len cap ls cs : Nat} {xs ps : List Int} (h : Sl w ao len cap xs) (hp : Sl w so ls cs ps) (hl : len + 2 * ls ≤ 140737488355000) :
    Calls Try.prog 11 #[.slice ao len cap, .slice so ls cs] w fun e w' => ∃ v, e = .returned v ∧ Row w.heap.size w' v (xs ++ pt ps) ∧ Below w.heap.size w w' := by
  have hcz := cz_le ps
  have hpl := hp.1
  have hb0 : Below w.heap.size w (w.alloc (.cells #[.int .u8 0] 5)) := (Below.refl _ _).alloc (Nat.le_refl _) _
  have hcell : (w.alloc (.cells #[.int .u8 0] 5)).cell? ⟨w.heap.size, 0, none⟩ = some (.int .u8 0) := by simp
  have hcnt := count_l (hp.later hb0) hcell
  obtain ⟨m, hm⟩ : ∃ m, m = cz ps := ⟨_, rfl⟩
  rw [← hm] at hcnt hcz
  obtain ⟨s1, hs1⟩ : ∃ s, s = ls + m := ⟨_, rfl⟩
  have hfr := kfresh_any (s1 + 2) (h.later hb0) (by omega)
  have e2 : ((s1 + 2 : Nat) : Int) = (s1 : Int) + 2 := by omega
  rw [e2] at hfr
  have hsz : (w.alloc (.cells #[.int .u8 0] 5)).heap.size = w.heap.size + 1 := by simp
  rw [hsz] at hfr
  have HP : Hid (Sl w so ls cs ps ∧ xs.length + 2 * ls ≤ 140737488355000 ∧ Below w.heap.size w (w.alloc (.cells #[.int .u8 0] 5))) := ⟨hp, by have := h.1; omega, hb0⟩
  have hmax : ls ≤ 2 ^ 62 := by omega
  have hm62 : m ≤ 2 ^ 62 := by omega
  have hs62 : s1 ≤ 2 ^ 62 := by omega
  have hw1 : wrap64 ((ls : Int) + (m : Int)) = (s1 : Int) := by unfold wrap64; omega
  clear hm h hp hl hcz hpl hb0 hcell hsz hs1 e2
  go_enter Try.func11, Try.ntmps11
  go_wp2_with fail
  refine hcnt.mono ?_
  rintro e w1 ⟨rfl, hw⟩
  subst hw
  go_wp2_with fail
  refine hfr.mono ?_
  rintro e w1 ⟨v1, rfl, hr1, hb1⟩
  have H0 : Hid (Row w.heap.size w1 v1 (xs ++ esc (ps.take 0)) ∧ Below w.heap.size w w1) := ⟨by simpa [esc] using hr1.base (by omega), HP.out.2.2.trans (hb1.mono (by omega))⟩
  clear hr1 hb1 hcnt hfr hw1
  go_wp2_with fail
  go_loopg [5, 7, 19] ls (fun g b _ i wr => ∃ k : Nat, k + g = ls ∧ i = .int .i64 (k : Int) ∧ Hid (Row w.heap.size wr b (xs ++ esc (ps.take k)) ∧ Below w.heap.size w wr))
  case atStart => exact ⟨0, by omega, rfl, H0⟩
  case round =>
    obtain ⟨k, hk, rfl, HK⟩ := hrel
    have hel : (xs ++ esc (ps.take k)).length + 2 ≤ 140737488355010 := by
      have h1 := esc_len (ps.take k)
      have h2 := HP.out.2.1
      rw [List.length_take] at h1
      rw [List.length_append]
      have := HP.out.1.1
      omega
    have HLEN : Hid ((xs ++ esc (ps.take k)).length + 2 ≤ 140737488355010) := hel
    clear hel
    by_cases hkl : k < ls
    · have hkl' : (k : Int) < (ls : Int) := by omega
      have hkp : k < ps.length := by have := HP.out.1.1; omega
      obtain ⟨h8, b, off, rfl, hc0⟩ := HP.out.1.2.2.2.2.2 k hkl
      have hc := cell_later HK.out.2 hc0
      have he := esc_take hkp
      rw [xof_at HP.out.1.2.1 hkp] at he
      obtain ⟨c, hcc⟩ : ∃ c, c = xof ps k := ⟨_, rfl⟩
      rw [← hcc] at hc he h8
      have H8 : Hid (c < 256) := h8
      have hk62 : k ≤ 2 ^ 62 := by omega
      obtain ⟨GK, HG⟩ : ∃ g, Hid (g < gk ∧ k + 1 + g = ls) := ⟨gk - 1, by omega, by omega⟩
      clear hk hcc hc0 h8
      by_cases z : c = 0
      · subst z
        have HE : Hid (xs ++ esc (ps.take (k + 1)) = xs ++ esc (ps.take k) ++ [((0 : Nat) : Int)] ++ [((255 : Nat) : Int)]) := by
          show _ = _
          rw [he]
          simp
        clear he
        go_wp2_with (first | (at_builtin; refine wpList_app1 (w := wr) (c := 0) (s := .tmp 23) (x := .tmp 25) rfl rfl rfl rfl HK.out.1 (by decide) (by have := HLEN.out; omega) HK.out.2.size ?_; intro v2 w2 hr2 hb2 gm2) | (at_builtin; refine wpList_app1 (w := w2) (c := 255) (s := .tmp 29) (x := .tmp 30) rfl rfl rfl rfl hr2 (by decide) (by have := HLEN.out; simp only [List.length_append, List.length_cons, List.length_nil] at this ⊢; omega) (Nat.le_trans HK.out.2.size hb2.size) ?_; intro v3 w3 hr3 hb3 gm3))
        go_roundg GK
        case measure => exact HG.out.1
        case rel => exact ⟨k + 1, HG.out.2, by go_num, by rw [HE.out]; exact hr3, (HK.out.2.trans hb2).trans hb3⟩
      · have z' : ((c : Int) == 0) = false := by simp; omega
        have HE : Hid (xs ++ esc (ps.take (k + 1)) = xs ++ esc (ps.take k) ++ [(c : Int)]) := by
          show _ = _
          rw [he, if_neg (by omega)]
          simp
        clear he z
        go_wp2_with (at_builtin; refine wpList_app1 (w := wr) (c := c) (s := .tmp 23) (x := .tmp 25) rfl rfl rfl rfl HK.out.1 H8.out (by have := HLEN.out; omega) HK.out.2.size ?_; intro v2 w2 hr2 hb2 gm2)
        go_roundg GK
        case measure => exact HG.out.1
        case rel => exact ⟨k + 1, HG.out.2, by go_num, by rw [HE.out]; exact hr2, HK.out.2.trans hb2⟩
    · have hkl' : (ls : Int) ≤ (k : Int) := by omega
      have HE : Hid (ps.take k = ps) := List.take_of_length_le (by have := HP.out.1.1; omega)
      clear hk hkl
      go_wp2_with (at_builtin; refine wpList_app2 (w := wr) (c := 0) (d := 1) (s := .tmp 33) (x := .tmp 34) rfl rfl rfl rfl HK.out.1 (by decide) (by decide) (by have := HLEN.out; omega) HK.out.2.size ?_; intro v2 w2 hr2 hb2 gm2)
      refine bodyPost_ret (v := v2) (by simp [results, Try.results11, go_sem]) rfl ⟨v2, rfl, ?_, HK.out.2.trans hb2⟩
      rw [HE.out, List.append_assoc] at hr2
      exact hr2

set_option maxHeartbeats 1000000 in
set_option maxRecDepth 100000 in
theorem knumber_any {w : World} {ao : Option Addr} {len cap : Nat} {xs : List Int} {n : Int} (h : Sl w ao len cap xs) (hn : Hid (InI n)) (hl : len ≤ 140737488355000) :
    Calls Try.prog 16 #[.slice ao len cap, .int .i64 n] w fun e w' => ∃ v, e = .returned v ∧ Row w.heap.size w' v (xs ++ fx (turned n) 8) ∧ Below w.heap.size w w' := by
  obtain ⟨A, hA, hwr, hxo⟩ := turn_xor hn.out
  have hbits : bits .xor .u64 (A : Int) 9223372036854775808 = (turned n : Int) := by
    rw [← hxo]
    exact u64_xor_nat A 9223372036854775808 hA (by decide)
  have hfr := kfresh_any 8 h (by omega)
  have HL : Hid (xs.length ≤ 140737488355000) := by have := h.1; show _ ≤ _; omega
  generalize turned n = T at hbits ⊢
  clear hA hxo h hl
  go_enter Try.func16, Try.ntmps16
  go_wp2_with (go_at_call 23; refine hfr.mono ?_; rintro e w1 ⟨v1, rfl, hr1, hb1⟩)
  have H0 : Hid (Row w.heap.size w1 v1 xs ∧ Below w.heap.size w w1) := ⟨hr1, hb1⟩
  clear hr1 hb1 hfr hbits hwr
  go_loopg [5, 7] 8 (fun g b i wr => ∃ (ys : List Int), Hid (Row w.heap.size wr b ys ∧ ys ++ fx T g = xs ++ fx T 8 ∧ g ≤ 8 ∧ Below w.heap.size w wr) ∧ i = .int .i64 ((g : Int) - 1))
  case atStart => exact ⟨xs, ⟨H0.out.1, rfl, Nat.le_refl _, H0.out.2⟩, by go_num⟩
  case round =>
    obtain ⟨ys, HM, rfl⟩ := hrel
    by_cases h : gk = 0
    · obtain rfl := h
      go_wp2_with fail
      have h1 := HM.out
      have e0 : ys = xs ++ fx T 8 := by rw [← h1.2.1]; simp [fx]
      rw [e0] at h1
      exact bodyPost_ret (v := u5) (by simp [results, Try.results16, go_sem]) rfl ⟨u5, rfl, h1.1, h1.2.2.2⟩
    · obtain ⟨j, rfl⟩ : ∃ j, gk = j + 1 := ⟨gk - 1, by omega⟩
      have hys : Hid (ys.length + 1 ≤ 140737488355328) := by
        show ys.length + 1 ≤ 140737488355328
        have h1 := congrArg List.length HM.out.2.1
        simp only [List.length_append, fx_length] at h1
        have := HL.out
        omega
      obtain ⟨c, HC⟩ : ∃ c : Nat, Hid (c = T / 256 ^ j % 256) := ⟨_, rfl⟩
      have hj8 : (j : Int) < 8 := by have := HM.out.2.2.1; omega
      have ej : ((j + 1 : Nat) : Int) - 1 = (j : Int) := by omega
      have hw8 : ((T : Int) / 2 ^ (8 * j)) % 256 = (c : Int) := by rw [HC.out, ← IntKind.wrap_u8]; exact fx_byte T j
      rw [ej]
      clear h ej
      go_wp2_with (at_builtin; refine wpList_app1 (w := wr) (c := c) (s := .tmp 17) (x := .tmp 23) rfl rfl rfl rfl HM.out.1 (by have := HC.out; omega) hys.out HM.out.2.2.2.size ?_; intro v2 w2 hr2 hb2 gm2)
      go_roundg j
      case measure => omega
      case rel =>
        refine ⟨ys ++ [(c : Int)], ⟨hr2, ?_, by have := HM.out.2.2.1; omega, HM.out.2.2.2.trans hb2⟩, by go_num⟩
        rw [← HM.out.2.1]
        simp [HC.out, fx]

set_option maxHeartbeats 1000000 in
set_option maxRecDepth 100000 in
theorem ktakeN_any {w : World} {ao : Option Addr} {len cap : Nat} {xs : List Int} (h : Sl w ao len cap xs) :
    Calls Try.prog 14 #[.slice ao len cap] w fun e w' => e = .returned (.tuple #[.int .i64 (tn xs).2, .int .i64 ((tn xs).1 : Int)]) ∧ w' = w := by
  have hln := h.1
  have hmax : cap ≤ 2 ^ 63 - 1 := by have := h.2.2.2.2.1; unfold maxLen at this; omega
  have hcap := h.2.2.2.1
  unfold tn
  by_cases q : xs.length < 8
  · rw [if_pos q]
    have q' : (len : Int) < 8 := by omega
    clear h hln q
    go_enter Try.func14, Try.ntmps14
    go_wp2_with fail
    exact bodyPost_ret (v := .tuple #[.int .i64 0, .int .i64 5]) (by simp [results, Try.results14, go_sem]) rfl ⟨rfl, rfl⟩
  · rw [if_neg q]
    have q' : (8 : Int) ≤ (len : Int) := by omega
    have q2 : (8 : Int) ≤ (cap : Int) := by omega
    have hv := fv8_lt h.2.1 (by omega)
    have HB : Hid (Byt w ao len (xof xs) ∧ 8 ≤ len) := ⟨h.2.2.2.2.2, by omega⟩
    obtain ⟨A, hA, hxo, hwr⟩ := back_xor hv
    have hbits : bits .xor .u64 (fv (xof xs) 8 : Int) 9223372036854775808 = (A : Int) := by
      rw [← hxo]
      exact u64_xor_nat _ 9223372036854775808 hv (by decide)
    generalize back (fv (xof xs) 8) = R at hwr ⊢
    generalize xof xs = X at HB hbits hv hwr
    clear h hln q hv hxo hA
    go_enter Try.func14, Try.ntmps14
    go_wp2_with fail
    go_loopg [4, 6, 13] 8 (fun g n _ i wr => ∃ (k : Nat), k + g = 8 ∧ n = .int .u64 ((fv X k : Nat) : Int) ∧ i = .int .i64 (k : Int) ∧ wr = w)
    case atStart => exact ⟨0, by omega, rfl, rfl, rfl⟩
    case round =>
      obtain ⟨k, hk, rfl, rfl, hw⟩ := hrel
      obtain rfl := hw.symm
      by_cases h : k < 8
      · obtain ⟨hx, b, off, rfl, hcell⟩ := HB.out.1 k (by have := HB.out.2; omega)
        have h' : (k : Int) < 8 := by omega
        have hst := fv_step X k (by omega) (fun j hj => (HB.out.1 j (by have := HB.out.2; omega)).1)
        obtain ⟨GK, HG⟩ : ∃ g, Hid (g < gk ∧ k + 1 + g = 8) := ⟨gk - 1, by omega, by omega⟩
        have HST : Hid (bits .or .u64 (IntKind.u64.wrap ((fv X k : Nat) * 256)) ((X k : Nat) : Int) = ((fv X (k + 1) : Nat) : Int)) := hst
        clear hk hst
        go_wp2_with fail
        go_roundg GK
        case measure => exact HG.out.1
        case rel => exact ⟨k + 1, HG.out.2, by rw [← HST.out], by go_num, rfl⟩
      · obtain rfl : k = 8 := by omega
        clear hk HB h
        go_wp2_with fail
        exact bodyPost_ret (v := .tuple #[.int .i64 R, .int .i64 0]) (by simp [results, Try.results14, go_sem]) rfl ⟨rfl, rfl⟩

theorem kcompare_any {w : World} {a b : Option Addr} {la ca lb cb : Nat} {xs ys : List Int} (ha : Sl w a la ca xs) (hb : Sl w b lb cb ys) :
    Calls Try.prog 20 #[.slice a la ca, .slice b lb cb] w fun e w' => e = .returned (.int .i64 (cmp xs ys)) ∧ w' = w := by
  have hx := compare_l ha hb
  clear ha hb
  go_enter Try.func20, Try.ntmps20
  go_wp2_with (go_at_call 27; refine hx.mono ?_; rintro e w' ⟨rfl, hw⟩; obtain rfl := hw.symm)
  go_ret
  exact ⟨rfl, rfl⟩
end Go.Proofs.Ytgfkjbckhgndcaa
