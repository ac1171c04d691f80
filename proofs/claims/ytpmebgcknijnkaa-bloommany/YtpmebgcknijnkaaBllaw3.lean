/- The laws on filters: Many. -/
import Derived.Test.YtpmebgcknijnkaaBllaw
import Derived.Test.YtpmebgcknijnkaaRwb
namespace Go.Proofs.Ytpmebgcknijnkaa
open Go.RowKit
set_option linter.unusedVariables false
set_option linter.unusedSimpArgs false

theorem rb_zeros (w : World) (n : Nat) (hn : n ≤ 1099511627776) : RB (w.alloc (.cells (madeCells #[.slice none 0 0] n) 22)) (some ⟨w.heap.size, 0, none⟩) n n (List.replicate n []) := by
  refine ⟨by simp, (fun e => by cases e), Nat.le_refl _, by unfold maxLen; omega, fun i r hr => ?_⟩
  have hi : i < n := by have := (List.getElem?_eq_some_iff.1 hr).1; simpa using this
  have er : r = [] := by rw [List.getElem?_replicate, if_pos hi] at hr; simpa using hr.symm
  subst er
  refine ⟨w.heap.size, 0, none, 0, rfl, ?_, Sl.nil _⟩
  have e : (w.alloc (.cells (madeCells #[.slice none 0 0] n) 22)).heap[w.heap.size]? = some (.cells (madeCells #[.slice none 0 0] n) 22 (0, 0)) := heap_alloc_new w _
  unfold World.cell?
  rw [e]
  simp only [madeCells, Nat.zero_add]
  simp [hi, Nat.mod_one]

set_option maxHeartbeats 2000000 in
set_option maxRecDepth 100000 in
theorem many10_any (D : PBl) {w : World} {x : Int} (hx : -9223372036854775808 ≤ x ∧ x ≤ 9223372036854775807) :
    Calls Try.prog 6 #[.int .i64 x] w fun e w' => e = .returned (.bool true) ∧ Below w.heap.size w w' := by
  go_enter Try.func6, Try.ntmps6
  go_upto_region 1 with fail
  go_cut [0] from 6 to 10 (fun v wx => wx = w ∧ ∃ N : Nat, v = .int .i64 (N : Int) ∧ Hid (99999 ≤ N ∧ N ≤ 100001))
  case first =>
    obtain ⟨y, hy⟩ : ∃ y, y = x.tmod 3 := ⟨_, rfl⟩
    have hy1 : y < 3 := by rw [hy]; exact Int.tmod_lt_of_pos x (by decide)
    have hy2 : -3 < y := by
      have h1 := Int.tmod_lt_of_pos (-x) (show (0 : Int) < 3 by decide)
      rw [Int.neg_tmod] at h1
      omega
    have hy3 : -3 < y ∧ y < 3 := ⟨hy2, hy1⟩
    clear hy1 hy2
    go_wp2_with fail
    go_meet
    rw [← hy]
    exact ⟨rfl, (y % 3 + 99999).toNat, by congr 1; omega, by show 99999 ≤ (y % 3 + 99999).toNat; omega, by show (y % 3 + 99999).toNat ≤ 100001; omega⟩
  obtain ⟨hwc, N, rfl, HN⟩ := hcut
  obtain rfl := hwc.symm
  have hmk := run_make_row' (P := Try.prog) 29 22 (.slice none 0 0) 24 Try.underlying29 Try.info22 rfl .i64 .i64 N (by have := HN.out; omega) (by have := HN.out; omega)
  have b1 : Below w.heap.size w (w.alloc (.cells (madeCells #[.slice none 0 0] N) 22)) := (Below.refl _ _).alloc (Nat.le_refl _) _
  have hrb := rb_zeros w N (by have := HN.out; omega)
  have HB := hid9 b1
  clear b1 hwc hx
  by_cases q : 100000 < N
  · have hbd := D.many hrb q
    have q' : (100000 : Int) < (N : Int) := by omega
    clear hrb q
    go_wp2_with fail
    refine hbd.mono ?_
    rintro e w2 ⟨v2, rfl, ⟨a2, c2, rfl, s2⟩, b2⟩
    have c2' := HB.out.trans (b2.mono HB.out.size)
    simp only [List.length_nil]
    clear hbd hmk s2
    go_wp2_with fail
    refine (awake10_any D w2).mono ?_
    rintro e w3 ⟨rfl, b3⟩
    have c3 := c2'.trans (b3.mono c2'.size)
    go_wp2_with fail
    exact bodyPost_ret (v := .bool true) (by simp [results, Try.results6, go_sem]) rfl ⟨rfl, c3⟩
  · have hbd := D.build hrb (by omega)
    have q' : (N : Int) ≤ 100000 := by omega
    have hfl : (fil (List.replicate N ([] : List Int))).length = (10 * N + 7) / 8 := by rw [fil_len, List.length_replicate]; unfold fsz; have := HN.out; omega
    generalize fil (List.replicate N ([] : List Int)) = F at hbd hfl
    have hN5 : N ≤ 2 ^ 40 := by omega
    have hFe : ((F.length : Int) == (10 * (N : Int) + 7) / 8) = true := by simp; omega
    have hF62 : F.length ≤ 2 ^ 40 := by omega
    clear hrb q
    go_wp2_with fail
    refine hbd.mono ?_
    rintro e w2 ⟨v2, rfl, ⟨a2, c2, rfl, s2⟩, b2⟩
    have c2' := HB.out.trans (b2.mono HB.out.size)
    clear hbd hmk s2 hfl
    go_wp2_with fail
    refine (awake10_any D w2).mono ?_
    rintro e w3 ⟨rfl, b3⟩
    have c3 := c2'.trans (b3.mono c2'.size)
    go_wp2_with fail
    exact bodyPost_ret (v := .bool true) (by simp [results, Try.results6, go_sem]) rfl ⟨rfl, c3⟩
end Go.Proofs.Ytpmebgcknijnkaa
