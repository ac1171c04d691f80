/- The landed filters: Probes, and what is small. -/
import Derived.Test.YtpmebgcknijnkaaLbl1
namespace Go.Proofs.Ytpmebgcknijnkaa
open Go.RowKit
set_option linter.unusedVariables false
set_option linter.unusedSimpArgs false

theorem lay_nums (w : World) : ∀ (P : List Nat), Lay numE w (P.map fun (p : Nat) => Value.int .i64 (p : Int)) P
  | [] => rfl
  | p :: r => ⟨[.int .i64 (p : Int)], _, rfl, rfl, lay_nums w r⟩
theorem rs_prA {w : World} {g : Nat} {key : List Int} {M : Nat} (hM : M ≠ 0) (h : w.heap[g]? = some (.cells (prA key M) 38 (0, 0))) : RSV numE w (.slice (some ⟨g, 0, none⟩) 6 6) (prbs key M) := by
  refine ⟨some ⟨g, 0, none⟩, 6, by rw [prbs_len hM], (prbs key M).map fun (p : Nat) => Value.int .i64 (p : Int), rfl, fun e => (by cases e), by rw [prbs_len hM]; exact Nat.le_refl _, by unfold maxLen; omega, lay_nums w _, fun j u hu => ⟨g, 0, rfl, ?_⟩⟩
  rw [Nat.zero_add, cell_of_row _ _ _ _ _ _ h]
  unfold prA
  rw [List.getElem?_toArray]
  exact hu

set_option maxHeartbeats 1000000 in
set_option maxRecDepth 100000 in
theorem bprobes_any {w : World} {ao : Option Addr} {len cap : Nat} {xs : List Int} {m : Int} (h : Sl w ao len cap xs) (hm : -9223372036854775808 ≤ m ∧ m ≤ 9223372036854775807) :
    Calls Try.prog 8 #[.slice ao len cap, .int .i64 m] w fun e w' => ∃ v, e = .returned v ∧ RSV numE w' v (prI xs m) ∧ Below w.heap.size w w' := by
  unfold prI
  by_cases q : m < 1
  · rw [if_pos q]
    clear h hm
    go_enter Try.func8, Try.ntmps8
    go_wp2_with fail
    exact bodyPost_ret (v := .slice none 0 0) (by simp [results, Try.results8, go_sem]) rfl ⟨_, rfl, RSV.nil _, Below.refl _ _⟩
  · rw [if_neg q]
    obtain ⟨M, rfl⟩ := Int.eq_ofNat_of_zero_le (by omega : 0 ≤ m)
    have hM : M ≠ 0 := by omega
    have hM1 : ¬ ((M : Int) < 1) := by omega
    have hM63 : M ≤ 2 ^ 63 - 1 := by omega
    have hp := places_any h hM hM63
    rw [show ((M : Int)).toNat = M by omega]
    clear h hm q
    go_enter Try.func8, Try.ntmps8
    go_upto_region 3 with fail
    go_wp2_with (first | (go_at_call 18; refine hp.mono ?_; rintro e w1 ⟨rfl, b1⟩) | (refine wpList_store_row rfl 38 (.tmp 5) (.tmp 10) rfl w1.heap.size (prA xs M) rfl rfl 38 z6 (heap_alloc_new w1 _) (arr6_sizeA hM) (by rw [prA_size hM]; rfl) (prA_one xs M) ?_))
    refine bodyPost_ret (v := .slice (some ⟨w1.heap.size, 0, none⟩) 6 6) (by simp [results, Try.results8, go_sem]) rfl ⟨_, rfl, rs_prA hM (setRow_heap _ _ _ _ _ _ (heap_alloc_new w1 _)), below_rowB (b1.alloc b1.size _) _ _ b1.size⟩

theorem fbytes_any {w : World} {n : Nat} (hn : n ≤ 100000) : Calls Try.prog 19 #[.int .i64 (n : Int)] w fun e w' => e = .returned (.int .i64 ((fsz n : Nat) : Int)) ∧ w' = w := by
  by_cases q : 64 ≤ 10 * n
  · have q' : ¬ ((64 : Int) > (n : Int) * 10) := by omega
    have hf : fsz n = (10 * n + 7) / 8 := by unfold fsz; omega
    have hn62 : n ≤ 2 ^ 50 := by omega
    have e1 : ((n : Int) * 10 + 8 - 1) / 8 = ((fsz n : Nat) : Int) := by rw [hf]; omega
    have HE := hid9 e1
    clear e1 hf
    go_enter Try.func19, Try.ntmps19
    go_wp2_with fail
    exact bodyPost_ret (v := .int .i64 ((fsz n : Nat) : Int)) (by simp [results, Try.results19, go_sem]; exact HE.out) rfl ⟨rfl, rfl⟩
  · have q' : (64 : Int) > (n : Int) * 10 := by omega
    have hf : fsz n = 8 := by unfold fsz; omega
    have hn62 : n ≤ 2 ^ 50 := by omega
    rw [hf]
    clear hf
    go_enter Try.func19, Try.ntmps19
    go_wp2_with fail
    exact bodyPost_ret (v := .int .i64 8) (by simp [results, Try.results19, go_sem]) rfl ⟨rfl, rfl⟩
set_option maxRecDepth 100000 in
theorem bmask_any {w : World} {p r : Nat} (hp : p ≤ 2 ^ 60) (hr : r = p % 8) : Calls Try.prog 20 #[.int .i64 (p : Int)] w fun e w' => e = .returned (.int .u8 ((2 ^ r : Nat) : Int)) ∧ w' = w := by
  have hr8 : (p : Int) % 8 = (r : Int) := by omega
  have hr7 : r < 8 := by omega
  clear hr
  go_enter Try.func20, Try.ntmps20
  have hpw : 2 ^ r < 2 ^ 8 := Nat.pow_lt_pow_right (by decide) (by omega)
  have HE : Hid ((2 : Int) ^ r % 256 = ((2 ^ r : Nat) : Int)) := by
    show _ = _
    rw [Int.emod_eq_of_lt (by exact_mod_cast Nat.zero_le (2 ^ r)) (by exact_mod_cast hpw)]
    norm_cast
  clear hpw
  go_wp2_with fail
  generalize (2 : Int) ^ r % 256 = V at HE ⊢
  exact bodyPost_ret (v := .int .u8 V) (by simp [results, Try.results20, go_sem]) rfl ⟨by rw [HE.out], rfl⟩
end Go.Proofs.Ytpmebgcknijnkaa
