/- The document's own filters: Hash, Probes. -/
import Derived.Test.YtpmebgcknijnkaaBlm
import Derived.Test.YtpmebgcknijnkaaStrc
import Derived.Laws.BitsAllLaws
namespace Go.Proofs.Ytpmebgcknijnkaa
open Go.RowKit
set_option linter.unusedVariables false
set_option linter.unusedSimpArgs false

/-- A whole number in a cell. -/
def numE : El Nat where
  ty := 3
  size := 1
  M := fun _ vs x => vs = [.int .i64 (x : Int)]
  len := fun h => by rw [h]; rfl
  one := fun h v hv => by rw [h] at hv; rw [List.mem_singleton.1 hv]; rfl
  lt := fun h v hv b hr => by rw [h] at hv; rw [List.mem_singleton.1 hv] at hr; exact (refs_int hr).elim
  keep := fun h _ => h
theorem numE_info : (Try.prog.info? numE.ty).map (fun i => (i.zero, i.size, i.bytes)) = some (some (.int .i64 0), numE.size, 8) := by kernel_rfl
theorem RS.num {w : World} {ao : Option Addr} {len cap : Nat} {xs : List Nat} (h : RS numE w ao len cap xs) {i : Nat} {x : Nat} (hx : xs[i]? = some x) : ∃ b off, ao = some ⟨b, off, none⟩ ∧ w.cell? ⟨b, off + i, none⟩ = some (.int .i64 (x : Int)) := by
  obtain ⟨b, off, vs, e, hM, hc⟩ := RS.at h (by decide) hx
  have hM' : vs = [.int .i64 (x : Int)] := hM
  subst hM'
  refine ⟨b, off, e, ?_⟩
  have := hc 0 _ rfl
  rw [show off + (i * numE.size + 0) = off + i by show off + (i * 1 + 0) = off + i; omega] at this
  exact this
theorem RS.length {α : Type} {E : El α} {w : World} {ao : Option Addr} {len cap : Nat} {xs : List α} (h : RS E w ao len cap xs) : xs.length = len ∧ len ≤ cap ∧ cap ≤ maxLen := by
  obtain ⟨us, h1, h2, h3, h4, _⟩ := h
  exact ⟨h1, h3, h4⟩
theorem xof_toNat {xs : List Int} {k : Nat} {c : Int} (h : xs[k]? = some c) : xof xs k = c.toNat := by simp [xof, h]

set_option maxHeartbeats 1000000 in
set_option maxRecDepth 100000 in
theorem rhash_any {w : World} {ao : Option Addr} {len cap : Nat} {xs : List Int} (h : Sl w ao len cap xs) :
    Calls Try.prog 11 #[.slice ao len cap] w fun e w' => e = .returned (.int .u64 (hsh xs : Nat)) ∧ w' = w := by
  have HS : Hid (Sl w ao len cap xs) := h
  have hln := h.1
  have hl63 : len ≤ 2 ^ 63 - 1 := by have := h.2.2.2; unfold maxLen at this; omega
  clear h
  go_enter Try.func11, Try.ntmps11
  go_wp2_with fail
  go_loopg [3, 5, 8] len (fun g v _ i wr => ∃ k : Nat, k + g = len ∧ i = .int .i64 (k : Int) ∧ v = .int .u64 ((hsh (xs.take k) : Nat) : Int) ∧ wr = w)
  case atStart => exact ⟨0, by omega, rfl, rfl, rfl⟩
  case round =>
    obtain ⟨k, hk, rfl, rfl, hw⟩ := hrel
    obtain rfl := hw.symm
    by_cases hkl : k < len
    · have hkl' : (k : Int) < (len : Int) := by omega
      obtain ⟨h8, b, off, rfl, hc⟩ := HS.out.2.2.2.2.2 k hkl
      have hkx : k < xs.length := by omega
      have e1 := hsh_take (List.getElem?_eq_getElem hkx)
      have e2 := xof_toNat (List.getElem?_eq_getElem hkx)
      have hlt := hsh_lt (xs.take k)
      obtain ⟨H, hH⟩ : ∃ H, H = hsh (xs.take k) := ⟨_, rfl⟩
      obtain ⟨c, hcc⟩ : ∃ c, c = xof xs k := ⟨_, rfl⟩
      rw [← hcc] at hc h8 e2
      rw [← hH] at hlt e1 ⊢
      unfold hst at e1
      rw [← e2] at e1
      have hx := u64_xor_nat H c hlt (by omega)
      have hZ : H ^^^ c < 2 ^ 64 := Nat.xor_lt_two_pow (n := 64) (by omega) (by omega)
      obtain ⟨Z, hZZ⟩ : ∃ Z, Z = H ^^^ c := ⟨_, rfl⟩
      rw [← hZZ] at hx e1 hZ
      have HST : Hid (IntKind.u64.wrap ((Z : Int) * 1099511628211) = ((hsh (xs.take (k + 1)) : Nat) : Int)) := by show _ = _; rw [IntKind.wrap_u64, e1]; omega
      have hk62 : k ≤ 2 ^ 63 - 2 := by omega
      obtain ⟨GK, HG⟩ : ∃ g, Hid (g < gk ∧ k + 1 + g = len) := ⟨gk - 1, by omega, by omega⟩
      clear hk e1 e2 hH hcc hZZ hkx
      go_wp2_with fail
      go_roundg GK
      case measure => exact HG.out.1
      case rel => exact ⟨k + 1, HG.out.2, by go_num, by rw [← HST.out], rfl⟩
    · have hkl' : (len : Int) ≤ (k : Int) := by omega
      have HE : Hid (xs.take k = xs) := List.take_of_length_le (by omega)
      clear hk hkl
      go_wp2_with fail
      exact bodyPost_ret (v := .int .u64 ((hsh (xs.take k) : Nat) : Int)) (by simp [results, Try.results11, go_sem]) rfl ⟨by rw [HE.out], rfl⟩

def prI (key : List Int) (m : Int) : List Nat := if m < 1 then [] else prbs key m.toNat

set_option maxHeartbeats 2000000 in
set_option maxRecDepth 100000 in
theorem rprobes_any {w : World} {ao : Option Addr} {len cap : Nat} {xs : List Int} {m : Int} (h : Sl w ao len cap xs) (hm : -9223372036854775808 ≤ m ∧ m ≤ 9223372036854775807) :
    Calls Try.prog 9 #[.slice ao len cap, .int .i64 m] w fun e w' => ∃ v, e = .returned v ∧ RowS numE w.heap.size w' v (prI xs m) ∧ Below w.heap.size w w' := by
  unfold prI
  by_cases q : m < 1
  · rw [if_pos q]
    clear h hm
    go_enter Try.func9, Try.ntmps9
    go_wp2_with fail
    exact bodyPost_ret (v := .slice none 0 0) (by simp [results, Try.results9, go_sem]) rfl ⟨_, rfl, RowS.nil _ _, Below.refl _ _⟩
  · rw [if_neg q]
    obtain ⟨M, rfl⟩ := Int.eq_ofNat_of_zero_le (by omega : 0 ≤ m)
    have hM : M ≠ 0 := by omega
    have hM1 : ¬ ((M : Int) < 1) := by omega
    have hM63 : M ≤ 2 ^ 63 - 1 := by omega
    have hh := rhash_any h
    have hlt := hsh_lt xs
    rw [show ((M : Int)).toNat = M by omega]
    have HP : Hid (∀ j, j < 6 → (prbs xs M).take (j + 1) = (prbs xs M).take j ++ [prb1 (hsh xs) M j]) := fun j hj => prbs_take hM hj
    have HL : Hid ((prbs xs M).length = 6) := prbs_len hM
    obtain ⟨H, hH⟩ : ∃ H, H = hsh xs := ⟨_, rfl⟩
    rw [← hH] at hh hlt HP
    generalize prbs xs M = P at HP HL
    clear h hm q hH
    go_enter Try.func9, Try.ntmps9
    go_wp2_with (go_at_call 11; refine hh.mono ?_; rintro e w' ⟨rfl, hw⟩; obtain rfl := hw.symm)
    have H0 : Hid (RowS numE w.heap.size w (.slice none 0 0) (P.take 0) ∧ Below w.heap.size w w) := ⟨by rw [List.take_zero]; exact RowS.nil _ _, Below.refl _ _⟩
    clear hh
    go_loopg [6, 7, 12] 6 (fun g v _ i wr => ∃ j : Nat, j + g = 6 ∧ i = .int .u64 (j : Int) ∧ Hid (RowS numE w.heap.size wr v (P.take j) ∧ Below w.heap.size w wr))
    case atStart => exact ⟨0, by omega, rfl, H0⟩
    case round =>
      obtain ⟨j, hj, rfl, HJ⟩ := hrel
      by_cases hj6 : j < 6
      · have hj6' : (j : Int) < 6 := by omega
        have hD : bits .or .u64 ((H : Int) / 8589934592 * 2) 1 = ((H / 8589934592 * 2 + 1 : Nat) : Int) := by
          have e := u64_or_nat (H / 8589934592 * 2) 1 (by omega) (by decide)
          rw [show ((H / 8589934592 * 2 : Nat) : Int) = (H : Int) / 8589934592 * 2 by omega] at e
          rw [show ((1 : Nat) : Int) = 1 from rfl] at e
          rw [e]
          congr 1
          have := Nat.two_pow_add_eq_or_of_lt (i := 1) (b := 1) (by decide) (H / 8589934592)
          rw [show 2 ^ 1 * (H / 8589934592) = H / 8589934592 * 2 by omega] at this
          exact this.symm
        obtain ⟨Dn, hDn⟩ : ∃ D, D = H / 8589934592 * 2 + 1 := ⟨_, rfl⟩
        rw [← hDn] at hD
        obtain ⟨X, hX⟩ : ∃ X, X = j * Dn := ⟨_, rfl⟩
        obtain ⟨A, hA⟩ : ∃ A, A = X % 18446744073709551616 := ⟨_, rfl⟩
        have hw1 : IntKind.u64.wrap ((j : Int) * (Dn : Int)) = (A : Int) := by rw [IntKind.wrap_u64, ← Int.natCast_mul, ← hX]; omega
        obtain ⟨B, hB⟩ : ∃ B, B = (H + A) % 18446744073709551616 := ⟨_, rfl⟩
        have hw2 : IntKind.u64.wrap ((H : Int) + (A : Int)) = (B : Int) := by rw [IntKind.wrap_u64]; omega
        obtain ⟨Pn, hPn⟩ : ∃ Q, Q = B % M := ⟨_, rfl⟩
        have hPM : Pn < M := by rw [hPn]; exact Nat.mod_lt _ (by omega)
        have hw3 : (B : Int).tmod (M : Int) = (Pn : Int) := by rw [hPn]; exact (Int.ofNat_tmod B M).symm
        have hw4 : wrap64 (Pn : Int) = (Pn : Int) := by unfold wrap64; omega
        have hpr : prb1 H M j = Pn := by
          unfold prb1
          rw [← hDn, ← hX, hPn]
          congr 1
          omega
        have hst := HP.out j hj6
        rw [hpr] at hst
        have HT : Hid (P.take (j + 1) = P.take j ++ [Pn]) := hst
        have hb1 : Below wr.heap.size wr (wr.alloc (.cells #[.int .i64 (Pn : Int)] 3)) := (Below.refl _ _).alloc (Nat.le_refl _) _
        have hone := rs_one (E := numE) (w := wr) (vs := [.int .i64 (Pn : Int)]) (x := Pn) rfl
        have HA : Hid (RowS numE w.heap.size (wr.alloc (.cells #[.int .i64 (Pn : Int)] 3)) u6 (P.take j) ∧ Below w.heap.size w (wr.alloc (.cells #[.int .i64 (Pn : Int)] 3)) ∧ (P.take j).length ≤ 6) := ⟨HJ.out.1.later hb1, HJ.out.2.trans (hb1.mono HJ.out.2.size), by rw [List.length_take]; omega⟩
        have HO : Hid (RSu numE (wr.alloc (.cells #[.int .i64 (Pn : Int)] 3)) (some ⟨wr.heap.size, 0, none⟩) 1 1 [.int .i64 (Pn : Int)] [Pn]) := hone
        have HSE : Hid (∀ u ∈ [Value.int .i64 (Pn : Int)], ∀ b, Refs u b → u6.ownBlock ≠ some b) := fun u hu b hr => by rw [List.mem_singleton.1 hu] at hr; exact (refs_int hr).elim
        obtain ⟨GJ, HG⟩ : ∃ g, Hid (g < gk ∧ j + 1 + g = 6) := ⟨gk - 1, by omega, by omega⟩
        clear hDn hX hA hPn hpr hst hb1 hone hj HJ
        have hPn63 : Pn ≤ 2 ^ 63 - 1 := Nat.le_trans (Nat.le_of_lt hPM) hM63
        have hB64 : B < 18446744073709551616 := by clear hD hw1 hw2 hw3 hw4; omega
        have hM0 : (M : Int) ≠ 0 := by clear hD hw1 hw2 hw3 hw4 hB; omega
        clear hB
        go_wp2_with (at_builtin; refine wpList_appS numE (t := 23) (z := .int .i64 0) (bytes := 8) Try.underlying23 numE_info rfl (by decide) rfl (.tmp 15) (.tmp 28) rfl rfl HA.out.1 rfl HO.out HSE.out (by have := HA.out.2.2; omega) (by have := HA.out.2.2; omega) HA.out.2.1.size ?_; intro v9 w9 r9 g9 m9)
        have HF : Hid (RowS numE w.heap.size w9 v9 (P.take (j + 1)) ∧ Below w.heap.size w w9) := ⟨by rw [HT.out]; exact r9, HA.out.2.1.trans (HA.out.1.below g9 HA.out.2.1.size)⟩
        go_roundg GJ
        case measure => exact HG.out.1
        case rel => exact ⟨j + 1, HG.out.2, by go_num, HF⟩
      · have hj6' : (6 : Int) ≤ (j : Int) := by omega
        have HE : Hid (P.take j = P) := List.take_of_length_le (by have := HL.out; omega)
        clear hj hj6
        go_wp2_with fail
        exact bodyPost_ret (v := u6) (by simp [results, Try.results9, go_sem]) rfl ⟨u6, rfl, by rw [← HE.out]; exact HJ.out.1, HJ.out.2⟩
end Go.Proofs.Ytpmebgcknijnkaa
