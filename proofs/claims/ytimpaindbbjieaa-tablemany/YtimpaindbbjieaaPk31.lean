import Derived.BigQuiet
import Derived.Laws.Tables
import Derived.Laws.Rows
import Derived.Test.YtimpaindbbjieaaPk16
import Derived.Test.YtimpaindbbjieaaPk19
import Derived.Test.YtimpaindbbjieaaPk20
import Derived.Test.YtimpaindbbjieaaPk24
import Derived.Test.YtimpaindbbjieaaPk30
/- The landed table: numbers of four bytes; the keys, each once. -/
namespace Go.Proofs.Ytimpaindbbjieaa
open Go.RowKit
set_option linter.unusedVariables false
set_option linter.unusedSimpArgs false

theorem fixs_t {w : World} {ao : Option Addr} {len cap : Nat} {xs : List Int} (h : Sl w ao len cap xs) (hl : len ≤ 1000000) (n : Nat) : Calls Try.prog 67 #[.slice ao len cap, .int .u64 (n : Int), .int .i64 4] w fun e w' => ∃ a c, e = .returned (.slice a (len + 4) c) ∧ Row w.heap.size w' (.slice a (len + 4) c) (xs ++ fx n 4) ∧ Below w.heap.size w w' := by
  have h0 := fixed_any ao len cap n (xof xs) 4 w h.2.2.2.2.2 h.2.2.1 (by omega)
  refine h0.mono ?_
  rintro e w' ⟨v', rfl, h1, h2⟩
  rw [← h.1, bs_xof h.2.1, fxs4b] at h1
  obtain ⟨a, c, hv, hs⟩ := Sl.ofRow h1 (h.2.1.app (okb_fx n 4))
  rw [List.length_append, fx_length, h.1] at hv
  rw [hv] at h1 ⊢
  exact ⟨a, c, rfl, h1, h2⟩
/-- Numbers of four bytes, one behind the other. -/
def wdsT (ns : List Nat) : List Int := ns.flatMap fun n => fx n 4
theorem wdsT_take {ns : List Nat} {k : Nat} (h : k < ns.length) : wdsT (ns.take (k + 1)) = wdsT (ns.take k) ++ fx ns[k] 4 := by
  unfold wdsT
  rw [List.take_add_one, List.getElem?_eq_getElem h, List.flatMap_append]
  simp
theorem okb_wdsT (ns : List Nat) : Okb (wdsT ns) := fun x hx => by
  unfold wdsT at hx
  obtain ⟨n, _, hn⟩ := List.mem_flatMap.1 hx
  exact okb_fx n 4 x hn
theorem wdsT_len : ∀ (ns : List Nat), (wdsT ns).length = 4 * ns.length
  | [] => rfl
  | n :: r => by
    show (fx n 4 ++ wdsT r).length = _
    rw [List.length_append, fx_length, wdsT_len r, List.length_cons]
    omega
set_option maxHeartbeats 1000000 in
set_option maxRecDepth 100000 in
theorem words_t {w : World} {ao : Option Addr} {len cap : Nat} {ns : List Nat} (h : RS numE w ao len cap ns) (hl : len ≤ 100) (hn : ∀ n ∈ ns, n ≤ 1000000000) :
    Calls Try.prog 33 #[.slice ao len cap] w fun e w' => ∃ a c, e = .returned (.slice a (4 * len) c) ∧ Row w.heap.size w' (.slice a (4 * len) c) (wdsT ns) ∧ Below w.heap.size w w' := by
  have hln : ns.length = len := h.len.1
  have HS : Hid (RS numE w ao len cap ns ∧ ns.length = len ∧ len ≤ 100 ∧ ∀ n ∈ ns, n ≤ 1000000000) := ⟨h, hln, hl, hn⟩
  have H0 : Hid (Row w.heap.size w (.slice none (4 * 0) 0) (wdsT (ns.take 0)) ∧ Below w.heap.size w w) := ⟨Row.nil _ _, Below.refl _ _⟩
  have hl62 : len ≤ 2 ^ 61 := by omega
  clear h hn
  go_enter Try.func33, Try.ntmps33
  go_wp2_with fail
  go_loopg [3, 5, 8] len (fun g v _ i wr => ∃ (k : Nat) (a : Option Addr) (c : Nat), k + g = len ∧ i = .int .i64 (k : Int) ∧ v = .slice a (4 * k) c ∧ Hid (Row w.heap.size wr (.slice a (4 * k) c) (wdsT (ns.take k)) ∧ Below w.heap.size w wr))
  case atStart => exact ⟨0, none, 0, by omega, rfl, rfl, H0⟩
  case round =>
    obtain ⟨k, a, c, hk, rfl, rfl, HK⟩ := hrel
    by_cases hkl : k < len
    · have hkl' : (k : Int) < (len : Int) := by omega
      have hkx : k < ns.length := by omega
      obtain ⟨b, off, rfl, d0⟩ := RS.num (HS.out.1.later HK.out.2) (List.getElem?_eq_getElem hkx)
      have hnk := HS.out.2.2.2 _ (List.getElem_mem hkx)
      have HT := hid (wdsT_take hkx)
      generalize ns[k] = N at d0 hnk HT
      have hf := fixs_t (HK.out.1.slT (okb_wdsT _)) (by omega) N
      have hN62 : N ≤ 2 ^ 61 := by omega
      have hwN : IntKind.u64.wrap (N : Int) = (N : Int) := wrap64u (by omega)
      have hk62 : k ≤ 2 ^ 61 := by omega
      obtain ⟨GK, HG⟩ : ∃ g, Hid (g < gk ∧ k + 1 + g = len) := ⟨gk - 1, by omega, by omega⟩
      have HB := hid HK.out.2
      clear hk HK
      go_wp2_with (go_at_call 67; refine hf.mono ?_; rintro e w1 ⟨a1, c1, rfl, s1, b1⟩)
      have HN : Hid (Row w.heap.size w1 (.slice a1 (4 * (k + 1)) c1) (wdsT (ns.take (k + 1))) ∧ Below w.heap.size w w1) := ⟨by rw [HT.out]; exact s1.base HB.out.size, HB.out.trans (b1.mono HB.out.size)⟩
      go_roundg GK
      case measure => exact HG.out.1
      case rel => exact ⟨k + 1, a1, c1, HG.out.2, by go_num, rfl, HN⟩
    · have hkl' : (len : Int) ≤ (k : Int) := by omega
      have hke : k = len := by omega
      have h1 := HK.out.1
      rw [List.take_of_length_le (by omega), hke] at h1
      have HF : Hid (Row w.heap.size wr (.slice a (4 * len) c) (wdsT ns) ∧ Below w.heap.size w wr) := ⟨h1, HK.out.2⟩
      have hk4 : 4 * k = 4 * len := by rw [hke]
      rw [hk4]
      clear hk hkl HK h1 hk4
      go_wp2_with fail
      exact bodyPost_ret (v := .slice a (4 * len) c) (by simp [results, Try.results33, go_sem]) rfl ⟨a, c, rfl, HF.out.1, HF.out.2⟩
theorem kys_take {l : List EntV} {k : Nat} (h : k < l.length) : kys (l.take (k + 1)) = ky1 (kys (l.take k)) l[k] := by
  unfold kys
  rw [take_snoc h, List.foldl_append]
  rfl
theorem kys_last : ∀ (l : List EntV), l ≠ [] → (kys l).getLast? = some (lastK [] l) := fun l h => by
  have : ∀ (l : List EntV) (out : List (List Int)) (p : List Int), (l = [] → out.getLast? = some p) → (l.foldl ky1 out).getLast? = some (lastK p l) := fun l => by
    induction l with
    | nil => intro out p h; exact h rfl
    | cons e r ih =>
      intro out p _
      show (r.foldl ky1 (ky1 out e)).getLast? = some (lastK e.key r)
      refine ih _ _ fun _ => ?_
      unfold ky1
      split
      · simp
      · rename_i q; simp only [not_or, Classical.not_not] at q; exact q.2
  exact this l [] [] fun z => absurd z h
/-- Is the key unlike the one ahead? -/
theorem ky1_at {l : List EntV} {k : Nat} (h : k < l.length) : (k = 0 → kys (l.take (k + 1)) = kys (l.take k) ++ [l[k].key]) ∧ (∀ hk : 1 ≤ k, kys (l.take (k + 1)) = if l[k].key = (l[k - 1]'(by omega)).key then kys (l.take k) else kys (l.take k) ++ [l[k].key]) := by
  refine ⟨fun z => ?_, fun hk => ?_⟩
  · rw [kys_take h]
    subst z
    simp [kys, ky1]
  · rw [kys_take h]
    have hne : l.take k ≠ [] := fun z => by have := congrArg List.length z; rw [List.length_take, List.length_nil] at this; omega
    have hl := kys_last (l.take k) hne
    have hk1 := lastK_take l (k - 1) [] (by omega)
    rw [show k - 1 + 1 = k by omega] at hk1
    rw [hk1] at hl
    have hkn : kys (l.take k) ≠ [] := fun z => by rw [z] at hl; cases hl
    unfold ky1
    rw [hl]
    by_cases q : l[k].key = (l[k - 1]'(by omega)).key
    · rw [if_pos q, if_neg (by simp [hkn, q])]
    · rw [if_neg q, if_pos (.inr (by simp only [ne_eq, Option.some.injEq]; exact fun e => q e.symm))]
set_option maxHeartbeats 4000000 in
set_option maxRecDepth 100000 in
theorem keys_t {w : World} {ao : Option Addr} {len cap : Nat} {l : List EntV} (h : RS entE w ao len cap l) (hl : len ≤ 5000) :
    Calls Try.prog 32 #[.slice ao len cap] w fun e w' => ∃ v, e = .returned v ∧ RowS byE w.heap.size w' v (kys l) ∧ Below w.heap.size w w' := by
  have hln : l.length = len := h.len.1
  have HS : Hid (RS entE w ao len cap l ∧ l.length = len ∧ len ≤ 5000) := ⟨h, hln, hl⟩
  have H0 : Hid (RowS byE w.heap.size w (.slice none 0 0) (kys (l.take 0)) ∧ Below w.heap.size w w) := ⟨by rw [List.take_zero]; exact RowS.nil _ _, Below.refl _ _⟩
  have hl62 : len ≤ 2 ^ 61 := by omega
  clear h
  go_enter Try.func32, Try.ntmps32
  go_wp2_with fail
  go_loopg [3, 4, 5, 8] len (fun g v _ _ i wr => ∃ k : Nat, k + g = len ∧ i = .int .i64 (k : Int) ∧ Hid (RowS byE w.heap.size wr v (kys (l.take k)) ∧ Below w.heap.size w wr))
  case atStart => exact ⟨0, by omega, rfl, H0⟩
  case round =>
    obtain ⟨k, hk, rfl, HK⟩ := hrel
    by_cases hkl : k < len
    · have hkl' : (k : Int) < (len : Int) := by omega
      have hkx : k < l.length := by omega
      have bel := HK.out.2
      obtain ⟨b, off, ka, kc, va, vc, hab, e0, e1, e2, e3, e4, sk, sv, i1, i2⟩ := RS.ent HS.out.1 (List.getElem?_eq_getElem hkx)
      have d0 := cell_later bel e0
      have d1 := cell_later bel e1
      have d2 := cell_later bel e2
      have d3 := cell_later bel e3
      have d4 := cell_later bel e4
      obtain ⟨kt1, kt2⟩ := ky1_at hkx
      have hk62 : k ≤ 2 ^ 61 := by omega
      obtain ⟨GK, HG⟩ : ∃ g, Hid (g < gk ∧ k + 1 + g = len) := ⟨gk - 1, by omega, by omega⟩
      obtain ⟨W1, hW1⟩ : ∃ W, wr.alloc (.cells #[.slice ka l[k].key.length kc, .int .i64 l[k].seq, .bool l[k].gone, .int .i64 l[k].till, .slice va l[k].val.length vc] 34) = W := ⟨_, rfl⟩
      have bW1 : Below wr.heap.size wr W1 := by rw [← hW1]; exact (Below.refl _ _).alloc (Nat.le_refl _) _
      have HB1 := hid (bel.trans (bW1.mono bel.size))
      have hkl3 : (kys (l.take k)).length ≤ 5000 := by
        have := kys_len (l.take k)
        rw [List.length_take] at this
        omega
      subst hab
      have y0 : W1.cell? ⟨wr.heap.size, 0, none⟩ = some (.slice ka l[k].key.length kc) := by rw [← hW1, cell_of (heap_alloc_new wr _)]; rfl
      have HROW : Hid (RowS byE w.heap.size W1 u3 (kys (l.take k)) ∧ (kys (l.take k)).length ≤ 5000) := ⟨HK.out.1.later bW1, hkl3⟩
      have HADD : Hid (∀ W2, Below W1.heap.size W1 W2 → RSu byE (W2.alloc (.cells #[.slice ka l[k].key.length kc] 25)) (some ⟨W2.heap.size, 0, none⟩) 1 1 [.slice ka l[k].key.length kc] [l[k].key] ∧ RowS byE w.heap.size (W2.alloc (.cells #[.slice ka l[k].key.length kc] 25)) u3 (kys (l.take k)) ∧ Below w.heap.size w (W2.alloc (.cells #[.slice ka l[k].key.length kc] 25)) ∧ (∀ u ∈ [Value.slice ka l[k].key.length kc], ∀ b, Refs u b → u3.ownBlock ≠ some b)) := fun W2 hb => by
        have b3 : Below W2.heap.size W2 (W2.alloc (.cells #[.slice ka l[k].key.length kc] 25)) := (Below.refl _ _).alloc (Nat.le_refl _) _
        refine ⟨rs_one (E := byE) (w := W2) (vs := [.slice ka l[k].key.length kc]) (x := l[k].key) ⟨ka, kc, rfl, (sk.later HB1.out).later hb⟩, (HROW.out.1.later hb).later b3, (HB1.out.trans (hb.mono HB1.out.size)).trans (b3.mono (Nat.le_trans HB1.out.size hb.size)), fun u hu b hr e => ?_⟩
        rw [List.mem_singleton.1 hu] at hr
        have h2 := sk.lt hr
        have h3 := (HROW.out.1.own_lt e).1
        omega
      by_cases hk0 : k = 0
      · have HT := hid (kt1 hk0)
        subst hk0
        simp only [Nat.zero_mul, Nat.add_zero] at d0 d1 d2 d3 d4
        generalize l[0] = o at d0 d1 d2 d3 d4 HADD HT hW1 y0
        generalize kys (l.take 0) = KS at HROW HADD HT
        generalize o.key = key at d0 HADD HT hW1 y0
        generalize key.length = kl at d0 HADD hW1 y0
        clear kt1 kt2 sk sv i1 i2 hk bel bW1 hkl3 HK e0 e1 e2 e3 e4
        go_wp2_with fail
        go_quiet (fail)
        obtain ⟨A1, A2, A3, A4⟩ := HADD.out (W1.drewN nq) (below_drewN (Below.refl _ _) _)
        go_wp2_with (at_builtin; refine wpList_appS byE (t := 38) (z := .slice none 0 0) (bytes := 24) (B := w.heap.size) Try.underlying38 byE_info rfl (by decide) rfl (.tmp 27) (.tmp 30) rfl rfl A2 rfl A1 A4 (by have := HROW.out.2; omega) (by have := HROW.out.2; omega) A3.size ?_; intro v9 w9 r9 g9 m9; have B9 := A3.trans (A2.below g9 A3.size))
        go_roundg GK
        case measure => exact HG.out.1
        case rel => exact ⟨0 + 1, HG.out.2, by go_num, by rw [HT.out]; exact r9, B9⟩
      · have hk1 : k - 1 < l.length := by omega
        obtain ⟨b', off', kb, kd, vb, vd, hab', f0, -, -, -, -, tk, -, -, -⟩ := RS.ent HS.out.1 (List.getElem?_eq_getElem hk1)
        simp only [Option.some.injEq, Addr.mk.injEq, and_true] at hab'
        obtain ⟨rfl, rfl⟩ := hab'
        have f1 := cell_later HB1.out f0
        have HT := hid (kt2 (by omega))
        have HEQ : Hid (∀ wx, Below W1.heap.size W1 wx → Calls Try.prog 50 #[.slice ka l[k].key.length kc, .slice kb l[k - 1].key.length kd] wx fun e w' => e = .returned (.bool (decide (l[k].key = l[k - 1].key))) ∧ w' = wx) := fun wx hb => eql_m ((sk.later HB1.out).later hb) ((tk.later HB1.out).later hb)
        have hg1 : ((k : Int) == 0) = false := by simpa using hk0
        have hg2 : decide ((k : Int) = 0) = false := by simpa using hk0
        have hi1 : (k : Int) - 1 < (len : Int) := by omega
        have hi2 : (1 : Int) ≤ (k : Int) := by omega
        have hi3 : wrap64 ((k : Int) - 1) = ((k - 1 : Nat) : Int) := by unfold wrap64; omega
        have hi4 : IntKind.i64.wrap ((k : Int) - 1) = ((k - 1 : Nat) : Int) := by rw [IntKind.wrap_i64]; omega
        have hi5 : (k : Int) - 1 = ((k - 1 : Nat) : Int) := by omega
        by_cases q : l[k].key = l[k - 1].key
        · rw [if_pos q] at HT
          rw [decide_eq_true q] at HEQ
          generalize l[k] = o at d0 d1 d2 d3 d4 HADD hW1 y0 HEQ
          generalize l[k - 1].key.length = kl2 at f1 HEQ
          generalize kys (l.take k) = KS at HROW HADD HT
          generalize o.key = key at d0 HADD hW1 y0 HEQ
          generalize key.length = kl at d0 HADD hW1 y0 HEQ
          clear kt1 kt2 sk sv i1 i2 hk bel bW1 hkl3 HK e0 e1 e2 e3 e4 q f0 tk
          go_wp2_with fail
          go_quiet ((go_at_call 50; exact Calls.quiet_of_same (HEQ.out _ (below_drewN (Below.refl _ _) _))))
          go_wp2_with fail
          go_roundg GK
          case measure => exact HG.out.1
          case rel => exact ⟨k + 1, HG.out.2, by go_num, by rw [HT.out]; exact HROW.out.1.later (below_drewN (Below.refl _ _) _), below_drewN HB1.out _⟩
        · rw [if_neg q] at HT
          rw [decide_eq_false q] at HEQ
          generalize l[k] = o at d0 d1 d2 d3 d4 HADD HT hW1 y0 HEQ
          generalize l[k - 1].key.length = kl2 at f1 HEQ
          generalize kys (l.take k) = KS at HROW HADD HT
          generalize o.key = key at d0 HADD HT hW1 y0 HEQ
          generalize key.length = kl at d0 HADD hW1 y0 HEQ
          clear kt1 kt2 sk sv i1 i2 hk bel bW1 hkl3 HK e0 e1 e2 e3 e4 q f0 tk
          go_wp2_with fail
          go_quiet ((go_at_call 50; exact Calls.quiet_of_same (HEQ.out _ (below_drewN (Below.refl _ _) _))))
          obtain ⟨A1, A2, A3, A4⟩ := HADD.out (W1.drewN nq) (below_drewN (Below.refl _ _) _)
          go_wp2_with (at_builtin; refine wpList_appS byE (t := 38) (z := .slice none 0 0) (bytes := 24) (B := w.heap.size) Try.underlying38 byE_info rfl (by decide) rfl (.tmp 27) (.tmp 30) rfl rfl A2 rfl A1 A4 (by have := HROW.out.2; omega) (by have := HROW.out.2; omega) A3.size ?_; intro v9 w9 r9 g9 m9; have B9 := A3.trans (A2.below g9 A3.size))
          go_roundg GK
          case measure => exact HG.out.1
          case rel => exact ⟨k + 1, HG.out.2, by go_num, by rw [HT.out]; exact r9, B9⟩
    · have hkl' : (len : Int) ≤ (k : Int) := by omega
      have h1 := HK.out.1
      rw [List.take_of_length_le (by omega)] at h1
      have HF : Hid (RowS byE w.heap.size wr u3 (kys l) ∧ Below w.heap.size w wr) := ⟨h1, HK.out.2⟩
      clear hk hkl HK h1
      go_wp2_with fail
      exact bodyPost_ret (v := u3) (by simp [results, Try.results32, go_sem]) rfl ⟨u3, rfl, HF.out.1, HF.out.2⟩
end Go.Proofs.Ytimpaindbbjieaa

/- The landed filters: Hash, places, Probes. -/
namespace Go.Proofs.Ytimpaindbbjieaa
open Go.RowKit
set_option linter.unusedVariables false
set_option linter.unusedSimpArgs false

set_option maxHeartbeats 1000000 in
set_option maxRecDepth 100000 in
theorem bhash_any {w : World} {ao : Option Addr} {len cap : Nat} {xs : List Int} (h : Sl w ao len cap xs) :
    Calls Try.prog 90 #[.slice ao len cap] w fun e w' => e = .returned (.int .u64 (hsh xs : Nat)) ∧ w' = w := by
  have HS : Hid (Sl w ao len cap xs) := h
  have hln := h.1
  have hl63 : len ≤ 2 ^ 63 - 1 := by have := h.2.2.2; unfold maxLen at this; omega
  clear h
  go_enter Try.func90, Try.ntmps90
  go_wp2_with fail
  go_loopg [3, 5, 8] len (fun g v _ i wr => ∃ k : Nat, k + g = len ∧ i = .int .i64 (k : Int) ∧ v = .int .u64 ((hsh (xs.take k) : Nat) : Int) ∧ wr = w)
  case atStart => exact ⟨0, by omega, rfl, rfl, rfl⟩
  case round =>
    obtain ⟨k, hk, rfl, rfl, hw⟩ := hrel
    obtain rfl := hw.symm
    by_cases hkl : k < len
    · have hkl' : (k : Int) < (len : Int) := by omega
      obtain ⟨h8, b, off, rfl, hc⟩ := HS.out.2.2.2.2.2 k hkl
      have hkx : k < xs.length := by omega
      have e1 := hsh_take (List.getElem?_eq_getElem hkx)
      have e2 := xof_toNat (List.getElem?_eq_getElem hkx)
      have hlt := hsh_lt (xs.take k)
      obtain ⟨H, hH⟩ : ∃ H, H = hsh (xs.take k) := ⟨_, rfl⟩
      obtain ⟨c, hcc⟩ : ∃ c, c = xof xs k := ⟨_, rfl⟩
      rw [← hcc] at hc h8 e2
      rw [← hH] at hlt e1 ⊢
      unfold hst at e1
      rw [← e2] at e1
      have hx := u64_xor_nat H c hlt (by omega)
      have hZ : H ^^^ c < 2 ^ 64 := Nat.xor_lt_two_pow (n := 64) (by omega) (by omega)
      obtain ⟨Z, hZZ⟩ : ∃ Z, Z = H ^^^ c := ⟨_, rfl⟩
      rw [← hZZ] at hx e1 hZ
      have HST : Hid (IntKind.u64.wrap ((Z : Int) * 1099511628211) = ((hsh (xs.take (k + 1)) : Nat) : Int)) := by show _ = _; rw [IntKind.wrap_u64, e1]; omega
      have hk62 : k ≤ 2 ^ 63 - 2 := by omega
      obtain ⟨GK, HG⟩ : ∃ g, Hid (g < gk ∧ k + 1 + g = len) := ⟨gk - 1, by omega, by omega⟩
      clear hk e1 e2 hH hcc hZZ hkx
      go_wp2_with fail
      go_roundg GK
      case measure => exact HG.out.1
      case rel => exact ⟨k + 1, HG.out.2, by go_num, by rw [← HST.out], rfl⟩
    · have hkl' : (len : Int) ≤ (k : Int) := by omega
      have HE : Hid (xs.take k = xs) := List.take_of_length_le (by omega)
      clear hk hkl
      go_wp2_with fail
      exact bodyPost_ret (v := .int .u64 ((hsh (xs.take k) : Nat) : Int)) (by simp [results, Try.results90, go_sem]) rfl ⟨by rw [HE.out], rfl⟩

/-- The six places as an array. -/
def prA (key : List Int) (M : Nat) : Array Value := ((prbs key M).map fun (p : Nat) => Value.int .i64 (p : Int)).toArray
theorem prA_at {key : List Int} {M j : Nat} {p : Nat} (h : (prbs key M)[j]? = some p) : (prA key M)[j]? = some (.int .i64 (p : Int)) := by
  unfold prA
  rw [List.getElem?_toArray, List.getElem?_map, h]
  rfl
theorem prA_size {key : List Int} {M : Nat} (h : M ≠ 0) : (prA key M).size = 6 := by
  unfold prA
  rw [List.size_toArray, List.length_map, prbs_len h]
theorem prA_one (key : List Int) (M : Nat) : (prA key M).all (·.oneCell') = true := by
  unfold prA
  rw [List.all_toArray, List.all_eq_true]
  intro v hv
  obtain ⟨p, _, rfl⟩ := List.mem_map.1 hv
  rfl
theorem arr6_size : (Try.prog.info? 96).map (·.size) = some 6 := by kernel_rfl
theorem arr6_sizeA {key : List Int} {M : Nat} (h : M ≠ 0) : (Try.prog.info? 96).map (·.size) = some (prA key M).size := by rw [prA_size h]; exact arr6_size
def z6 : Array Value := #[.int .i64 0, .int .i64 0, .int .i64 0, .int .i64 0, .int .i64 0, .int .i64 0]
/-- What places has laid down. -/
structure PlS (w : World) (H M j : Nat) (wx : World) : Prop where
  bel : Below w.heap.size w wx
  res : wx.heap[w.heap.size]? = some (.cells z6 96 (0, 0))
  arr : ∃ C, wx.heap[w.heap.size + 1]? = some (.cells C 96 (0, 0)) ∧ C.size = 6 ∧ ∀ i, i < j → C[i]? = some (.int .i64 ((prb1 H M i : Nat) : Int))
theorem PlS.cell {w : World} {H M j i : Nat} {wx : World} (h : PlS w H M j wx) (hi : i < 6) : (∃ v, wx.cell? ⟨w.heap.size + 1, i, none⟩ = some v) ∧ wx.frozen? ⟨w.heap.size + 1, i, none⟩ = false := by
  obtain ⟨C, h1, h2, h3⟩ := h.arr
  exact ⟨⟨C[i], by rw [cell_of_row _ _ _ _ _ _ h1]; exact Array.getElem?_eq_getElem (by omega)⟩, frozen_of_row _ _ _ _ _ h1⟩
theorem PlS.put {w : World} {H M j : Nat} {wx : World} (h : PlS w H M j wx) (hj : j < 6) : PlS w H M (j + 1) (wx.setCell ⟨w.heap.size + 1, j, none⟩ (.int .i64 ((prb1 H M j : Nat) : Int))) := by
  obtain ⟨C, h1, h2, h3⟩ := h.arr
  have hne : ∀ b, b ≠ w.heap.size + 1 → (wx.setCell ⟨w.heap.size + 1, j, none⟩ (.int .i64 ((prb1 H M j : Nat) : Int))).heap[b]? = wx.heap[b]? := fun b hb => Below.heap_setCell _ _ _ _ (fun e => hb e)
  refine ⟨⟨h.bel.os, h.bel.tape, h.bel.output, by simp [World.setCell]; exact h.bel.size, fun k hk => by rw [hne k (by omega)]; exact h.bel.block k hk⟩, (hne _ (by omega)).trans h.res, _, heap_setB h1 j _, by simpa using h2, fun i hi => ?_⟩
  rw [Array.getElem?_setIfInBounds]
  by_cases q : j = i
  · subst q
    rw [if_pos rfl, if_pos (by omega)]
  · rw [if_neg q]
    exact h3 i (by omega)
theorem PlS.all {w : World} {key : List Int} {M : Nat} {wx : World} (hM : M ≠ 0) (h : PlS w (hsh key) M 6 wx) : wx.heap[w.heap.size + 1]? = some (.cells (prA key M) 96 (0, 0)) := by
  obtain ⟨C, h1, h2, h3⟩ := h.arr
  have : C = prA key M := by
    apply Array.ext_getElem?
    intro i
    by_cases hi : i < 6
    · rw [h3 i hi, prA_at (prbs_at hM hi)]
    · rw [Array.getElem?_eq_none (by omega), Array.getElem?_eq_none (by have := prA_size (key := key) hM; omega)]
  rw [← this]
  exact h1
theorem below_rowB {B : Nat} {w0 w : World} (h : Below B w0 w) (q : Nat) (C : Array Value) (hq : B ≤ q) : Below B w0 (w.setRow q C) :=
  ⟨h.os, h.tape, h.output, by have : (w.setRow q C).heap.size = w.heap.size := by simp [World.setRow]
                              rw [this]; exact h.size, fun i hi => (setRow_other w q i C (by omega)).trans (h.block i hi)⟩
def cntB (v : Value) : Nat := match v with | .int _ n => n.toNat | _ => 0
/-- One round of places, in numbers. -/
theorem place_step {H M j A : Nat} (hM : M ≠ 0) (hM63 : M ≤ 2 ^ 63 - 1) (hA : A = (H + j * (H / 8589934592 * 2 + 1)) % 18446744073709551616) (hH : H < 18446744073709551616) :
    (A : Int).tmod (M : Int) = ((prb1 H M j : Nat) : Int) ∧ prb1 H M j ≤ 2 ^ 63 - 1 ∧ A < 18446744073709551616 ∧ ∃ A', A' = (H + (j + 1) * (H / 8589934592 * 2 + 1)) % 18446744073709551616 ∧ IntKind.u64.wrap ((A : Int) + ((H / 8589934592 * 2 + 1 : Nat) : Int)) = (A' : Int) := by
  have h1 : prb1 H M j = A % M := by unfold prb1; rw [← hA]
  obtain ⟨D, hD⟩ : ∃ D, D = H / 8589934592 * 2 + 1 := ⟨_, rfl⟩
  rw [← hD] at hA ⊢
  refine ⟨by rw [h1]; exact (Int.ofNat_tmod A M).symm, by rw [h1]; have := Nat.mod_lt A (by omega : M > 0); omega, by rw [hA]; exact Nat.mod_lt _ (by omega), _, rfl, ?_⟩
  rw [IntKind.wrap_u64, Nat.add_mul, Nat.one_mul, ← Nat.add_assoc]
  generalize j * D = X at hA ⊢
  omega

set_option maxHeartbeats 2000000 in
set_option maxRecDepth 100000 in
theorem places_any {w : World} {ao : Option Addr} {len cap : Nat} {xs : List Int} {M : Nat} (h : Sl w ao len cap xs) (hM : M ≠ 0) (hM63 : M ≤ 2 ^ 63 - 1) :
    Calls Try.prog 65 #[.slice ao len cap, .int .i64 (M : Int)] w fun e w' => e = .returned (.agg (prA xs M)) ∧ Below w.heap.size w w' := by
  obtain ⟨W, hW⟩ : ∃ W, W = (w.alloc (.cells #[.int .i64 0, .int .i64 0, .int .i64 0, .int .i64 0, .int .i64 0, .int .i64 0] 96)).alloc (.cells #[.int .i64 0, .int .i64 0, .int .i64 0, .int .i64 0, .int .i64 0, .int .i64 0] 96) := ⟨_, rfl⟩
  have HW := hid9 hW
  have b1 : Below w.heap.size w (w.alloc (.cells #[.int .i64 0, .int .i64 0, .int .i64 0, .int .i64 0, .int .i64 0, .int .i64 0] 96)) := (Below.refl _ w).alloc (Nat.le_refl _) _
  have H0 : Hid (PlS w (hsh xs) M 0 W) := by
    refine ⟨by rw [hW]; exact b1.alloc b1.size _, by rw [hW]; exact heap_alloc2_old w _ _, _, by rw [hW]; exact heap_alloc2_new w _ _, rfl, fun i hi => by omega⟩
  have hh := bhash_any (h.later H0.out.bel)
  have HH : Hid (hsh xs < 18446744073709551616) := hsh_lt xs
  have HAL : Hid (∀ wx, PlS w (hsh xs) M 6 wx → wx.heap[w.heap.size + 1]? = some (.cells (prA xs M) 96 (0, 0))) := fun wx hx => hx.all hM
  obtain ⟨H, hHH⟩ : ∃ H, H = hsh xs := ⟨_, rfl⟩
  rw [← hHH] at hh H0 HH HAL
  have hst : ((H : Int) / 8589934592) * 2 + 1 = ((H / 8589934592 * 2 + 1 : Nat) : Int) := by omega
  have HD0 : Hid ((H : Int) / 8589934592 * 2 + 1 = ((H / 8589934592 * 2 + 1 : Nat) : Int)) := hst
  have hH64 : H < 18446744073709551616 := HH.out
  clear h hW b1 hHH hst
  go_enter Try.func65, Try.ntmps65
  go_wp2_with fail
  refine wp_scope_jumps 0 (fun a' wx => ∃ (j A D : Nat), Hid (j < 6 ∧ PlS w H M j wx ∧ A = (H + j * (H / 8589934592 * 2 + 1)) % 18446744073709551616 ∧ D = H / 8589934592 * 2 + 1) ∧ ∃ (u2 u3 u9 u10 u11 u12 u13 u14 u15 u16 u17 u18 u19 u20 u21 u22 u23 u24 u25 u26 u27 u28 u29 : Value), a' = { tmps := #[.slice ao len cap, .int .i64 (M : Int), u2, u3, .pointer (some ⟨w.heap.size, 0, none⟩), .pointer (some ⟨w.heap.size + 1, 0, none⟩), .int .u64 (A : Int), .int .u64 (D : Int), .int .i64 (j : Int), u9, u10, u11, u12, u13, u14, u15, u16, u17, u18, u19, u20, u21, u22, u23, u24, u25, u26, u27, u28, u29], defers := [] }) (fun a _ => 6 - cntB (a.eval (.tmp 8))) rfl ?_ ?_
  · go_upto_region 2 with fail
    rw [← HW.out]
    go_wp2_with (go_at_call 90; refine hh.mono ?_; rintro e w' ⟨rfl, hw⟩; obtain rfl := hw.symm)
    rw [HD0.out]
    refine (fun (H9 : ∀ (wx : World) (j A D : Nat) (u2 u3 u9 u10 u11 u12 u13 u14 u15 u16 u17 u18 u19 u20 u21 u22 u23 u24 u25 u26 u27 u28 u29 : Value), Hid (j < 6 ∧ PlS w H M j wx ∧ A = (H + j * (H / 8589934592 * 2 + 1)) % 18446744073709551616 ∧ D = H / 8589934592 * 2 + 1) → Code.wp _ _ _ { tmps := #[.slice ao len cap, .int .i64 (M : Int), u2, u3, .pointer (some ⟨w.heap.size, 0, none⟩), .pointer (some ⟨w.heap.size + 1, 0, none⟩), .int .u64 (A : Int), .int .u64 (D : Int), .int .i64 (j : Int), u9, u10, u11, u12, u13, u14, u15, u16, u17, u18, u19, u20, u21, u22, u23, u24, u25, u26, u27, u28, u29], defers := [] } wx) => H9 W 0 H (H / 8589934592 * 2 + 1) _ _ _ _ _ _ _ _ _ _ _ _ _ _ _ _ _ _ _ _ _ _ _ ⟨by omega, H0.out, by rw [Nat.zero_mul, Nat.add_zero, Nat.mod_eq_of_lt HH.out], rfl⟩) ?_
    intro wx j A D u2 u3 u9 u10 u11 u12 u13 u14 u15 u16 u17 u18 u19 u20 u21 u22 u23 u24 u25 u26 u27 u28 u29 HK
    go_step3
    have hj62 : j ≤ 2 ^ 62 := by have := HK.out.1; omega
    have hj6' : (j : Int) < 6 := by have := HK.out.1; omega
    obtain ⟨q1, q2, q3, A', q4, q5⟩ := place_step (j := j) hM hM63 HK.out.2.2.1 HH.out
    rw [← HK.out.2.2.2] at q5
    have HP : Hid (PlS w H M (j + 1) (wx.setCell ⟨w.heap.size + 1, j, none⟩ (.int .i64 ((prb1 H M j : Nat) : Int)))) := HK.out.2.1.put HK.out.1
    obtain ⟨⟨vj, hc⟩, hf⟩ := HK.out.2.1.cell HK.out.1
    have HA : Hid (A' = (H + (j + 1) * (H / 8589934592 * 2 + 1)) % 18446744073709551616 ∧ D = H / 8589934592 * 2 + 1) := ⟨q4, HK.out.2.2.2⟩
    generalize prb1 H M j = p at q1 q2 HP
    have hpw : wrap64 (p : Int) = (p : Int) := by unfold wrap64; omega
    have hM0 : (M : Int) ≠ 0 := by omega
    obtain ⟨W2, hW2⟩ : ∃ W2, W2 = wx.setCell ⟨w.heap.size + 1, j, none⟩ (.int .i64 (p : Int)) := ⟨_, rfl⟩
    rw [← hW2] at HP
    have HW2 := hid9 hW2
    clear hW2 q4
    by_cases hl : j + 1 < 6
    · have hl' : (j : Int) + 1 < 6 := by omega
      go_wp2_with fail
      go_step3
      exact ⟨rfl, ⟨j + 1, A', D, ⟨by omega, by rw [← HW2.out]; exact HP.out, HA.out.1, HA.out.2⟩, _, _, _, _, _, _, _, _, _, _, _, _, _, _, _, _, _, _, _, _, _, _, _, by go_num⟩⟩
    · have hl' : ¬ ((j : Int) + 1 < 6) := by omega
      have hj5 : j = 5 := by have := HK.out.1; omega
      have HG : Hid (W2.heap[w.heap.size + 1]? = some (.cells (prA xs M) 96 (0, 0)) ∧ W2.heap[w.heap.size]? = some (.cells z6 96 (0, 0)) ∧ Below w.heap.size w W2) := ⟨HAL.out _ (by have := HP.out; rw [hj5] at this; exact this), HP.out.res, HP.out.bel⟩
      clear hj5
      go_upto_region 9 with fail
      rw [← HW2.out]
      go_wp2_with (first | (refine wpList_load_row rfl 96 (.tmp 5) rfl (w.heap.size + 1) rfl 96 (prA xs M) (0, 0) (.array 6 3) HG.out.1 Try.underlying96 rfl (arr6_sizeA hM) ?_) | (refine wpList_store_row rfl 96 (.tmp 4) (.tmp 29) rfl w.heap.size (prA xs M) rfl rfl 96 z6 HG.out.2.1 (arr6_sizeA hM) (by rw [prA_size hM]; rfl) (prA_one xs M) ?_))
      try simp only [Exit.jump]
      exact ⟨by simp, _, results_cell_row Try.results65 _ _ w.heap.size 96 (prA xs M) (0, 0) (.array 6 3) rfl (setRow_heap _ _ _ _ _ _ HG.out.2.1) Try.underlying96 rfl (arr6_sizeA hM), rfl, below_rowB HG.out.2.2 _ _ (Nat.le_refl _)⟩
  · rintro a' wx ⟨j, A, D, HK, u2, u3, u9, u10, u11, u12, u13, u14, u15, u16, u17, u18, u19, u20, u21, u22, u23, u24, u25, u26, u27, u28, u29, rfl⟩
    have hj62 : j ≤ 2 ^ 62 := by have := HK.out.1; omega
    have hj6' : (j : Int) < 6 := by have := HK.out.1; omega
    obtain ⟨q1, q2, q3, A', q4, q5⟩ := place_step (j := j) hM hM63 HK.out.2.2.1 HH.out
    rw [← HK.out.2.2.2] at q5
    have HP : Hid (PlS w H M (j + 1) (wx.setCell ⟨w.heap.size + 1, j, none⟩ (.int .i64 ((prb1 H M j : Nat) : Int)))) := HK.out.2.1.put HK.out.1
    obtain ⟨⟨vj, hc⟩, hf⟩ := HK.out.2.1.cell HK.out.1
    have HA : Hid (A' = (H + (j + 1) * (H / 8589934592 * 2 + 1)) % 18446744073709551616 ∧ D = H / 8589934592 * 2 + 1) := ⟨q4, HK.out.2.2.2⟩
    generalize prb1 H M j = p at q1 q2 HP
    have hpw : wrap64 (p : Int) = (p : Int) := by unfold wrap64; omega
    have hM0 : (M : Int) ≠ 0 := by omega
    obtain ⟨W2, hW2⟩ : ∃ W2, W2 = wx.setCell ⟨w.heap.size + 1, j, none⟩ (.int .i64 (p : Int)) := ⟨_, rfl⟩
    rw [← hW2] at HP
    have HW2 := hid9 hW2
    clear hW2 q4
    by_cases hl : j + 1 < 6
    · have hl' : (j : Int) + 1 < 6 := by omega
      go_wp2_with fail
      go_step3
      refine ⟨rfl, ⟨j + 1, A', D, ⟨by omega, by rw [← HW2.out]; exact HP.out, HA.out.1, HA.out.2⟩, _, _, _, _, _, _, _, _, _, _, _, _, _, _, _, _, _, _, _, _, _, _, _, by go_num⟩, by simp [cntB, Act.eval]; omega⟩
    · have hl' : ¬ ((j : Int) + 1 < 6) := by omega
      have hj5 : j = 5 := by have := HK.out.1; omega
      have HG : Hid (W2.heap[w.heap.size + 1]? = some (.cells (prA xs M) 96 (0, 0)) ∧ W2.heap[w.heap.size]? = some (.cells z6 96 (0, 0)) ∧ Below w.heap.size w W2) := ⟨HAL.out _ (by have := HP.out; rw [hj5] at this; exact this), HP.out.res, HP.out.bel⟩
      clear hj5
      go_upto_region 9 with fail
      rw [← HW2.out]
      go_wp2_with (first | (refine wpList_load_row rfl 96 (.tmp 5) rfl (w.heap.size + 1) rfl 96 (prA xs M) (0, 0) (.array 6 3) HG.out.1 Try.underlying96 rfl (arr6_sizeA hM) ?_) | (refine wpList_store_row rfl 96 (.tmp 4) (.tmp 29) rfl w.heap.size (prA xs M) rfl rfl 96 z6 HG.out.2.1 (arr6_sizeA hM) (by rw [prA_size hM]; rfl) (prA_one xs M) ?_))
      try simp only [Exit.jump]
      exact ⟨by simp, _, results_cell_row Try.results65 _ _ w.heap.size 96 (prA xs M) (0, 0) (.array 6 3) rfl (setRow_heap _ _ _ _ _ _ HG.out.2.1) Try.underlying96 rfl (arr6_sizeA hM), rfl, below_rowB HG.out.2.2 _ _ (Nat.le_refl _)⟩
end Go.Proofs.Ytimpaindbbjieaa

/- The landed filters: Probes, and what is small. -/
namespace Go.Proofs.Ytimpaindbbjieaa
open Go.RowKit
set_option linter.unusedVariables false
set_option linter.unusedSimpArgs false

theorem lay_nums (w : World) : ∀ (P : List Nat), Lay numE w (P.map fun (p : Nat) => Value.int .i64 (p : Int)) P
  | [] => rfl
  | p :: r => ⟨[.int .i64 (p : Int)], _, rfl, rfl, lay_nums w r⟩
theorem rs_prA {w : World} {g : Nat} {key : List Int} {M : Nat} (hM : M ≠ 0) (h : w.heap[g]? = some (.cells (prA key M) 96 (0, 0))) : RSV numE w (.slice (some ⟨g, 0, none⟩) 6 6) (prbs key M) := by
  refine ⟨some ⟨g, 0, none⟩, 6, by rw [prbs_len hM], (prbs key M).map fun (p : Nat) => Value.int .i64 (p : Int), rfl, fun e => (by cases e), by rw [prbs_len hM]; exact Nat.le_refl _, by unfold maxLen; omega, lay_nums w _, fun j u hu => ⟨g, 0, rfl, ?_⟩⟩
  rw [Nat.zero_add, cell_of_row _ _ _ _ _ _ h]
  unfold prA
  rw [List.getElem?_toArray]
  exact hu

theorem fbytes_any {w : World} {n : Nat} (hn : n ≤ 100000) : Calls Try.prog 64 #[.int .i64 (n : Int)] w fun e w' => e = .returned (.int .i64 ((fsz n : Nat) : Int)) ∧ w' = w := by
  by_cases q : 64 ≤ 10 * n
  · have q' : ¬ ((64 : Int) > (n : Int) * 10) := by omega
    have hf : fsz n = (10 * n + 7) / 8 := by unfold fsz; omega
    have hn62 : n ≤ 2 ^ 50 := by omega
    have e1 : ((n : Int) * 10 + 8 - 1) / 8 = ((fsz n : Nat) : Int) := by rw [hf]; omega
    have HE := hid9 e1
    clear e1 hf
    go_enter Try.func64, Try.ntmps64
    go_wp2_with fail
    exact bodyPost_ret (v := .int .i64 ((fsz n : Nat) : Int)) (by simp [results, Try.results64, go_sem]; exact HE.out) rfl ⟨rfl, rfl⟩
  · have q' : (64 : Int) > (n : Int) * 10 := by omega
    have hf : fsz n = 8 := by unfold fsz; omega
    have hn62 : n ≤ 2 ^ 50 := by omega
    rw [hf]
    clear hf
    go_enter Try.func64, Try.ntmps64
    go_wp2_with fail
    exact bodyPost_ret (v := .int .i64 8) (by simp [results, Try.results64, go_sem]) rfl ⟨rfl, rfl⟩
set_option maxRecDepth 100000 in
theorem bmask_any {w : World} {p r : Nat} (hp : p ≤ 2 ^ 60) (hr : r = p % 8) : Calls Try.prog 66 #[.int .i64 (p : Int)] w fun e w' => e = .returned (.int .u8 ((2 ^ r : Nat) : Int)) ∧ w' = w := by
  have hr8 : (p : Int) % 8 = (r : Int) := by omega
  have hr7 : r < 8 := by omega
  clear hr
  go_enter Try.func66, Try.ntmps66
  have hpw : 2 ^ r < 2 ^ 8 := Nat.pow_lt_pow_right (by decide) (by omega)
  have HE : Hid ((2 : Int) ^ r % 256 = ((2 ^ r : Nat) : Int)) := by
    show _ = _
    rw [Int.emod_eq_of_lt (by exact_mod_cast Nat.zero_le (2 ^ r)) (by exact_mod_cast hpw)]
    norm_cast
  clear hpw
  go_wp2_with fail
  generalize (2 : Int) ^ r % 256 = V at HE ⊢
  exact bodyPost_ret (v := .int .u8 V) (by simp [results, Try.results66, go_sem]) rfl ⟨by rw [HE.out], rfl⟩
end Go.Proofs.Ytimpaindbbjieaa
