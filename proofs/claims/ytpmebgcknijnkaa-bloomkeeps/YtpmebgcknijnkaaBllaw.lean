/- What the laws on filters lean on: what a program's own must keep; the simple ones. -/
import Derived.Test.YtpmebgcknijnkaaRblm3
import Derived.BigQuiet
namespace Go.Proofs.Ytpmebgcknijnkaa
open Go.RowKit
set_option linter.unusedVariables false
set_option linter.unusedSimpArgs false

/-- : what is asked of a program's filters. -/
structure PBl : Prop where
  hash : ∀ {w : World} {ao : Option Addr} {len cap : Nat} {xs : List Int}, Sl w ao len cap xs → Calls Try.prog 10 #[.slice ao len cap] w fun e w' => e = .returned (.int .u64 (hsh xs : Nat)) ∧ Below w.heap.size w w'
  probes : ∀ {w : World} {ao : Option Addr} {len cap : Nat} {xs : List Int} {m : Int}, Sl w ao len cap xs → (-9223372036854775808 ≤ m ∧ m ≤ 9223372036854775807) → Calls Try.prog 8 #[.slice ao len cap, .int .i64 m] w fun e w' => ∃ v, e = .returned v ∧ RSV numE w' v (prI xs m) ∧ Below w.heap.size w w'
  build : ∀ {w : World} {ao : Option Addr} {len cap : Nat} {keys : List (List Int)}, RB w ao len cap keys → len ≤ 100000 → Calls Try.prog 14 #[.slice ao len cap] w fun e w' => ∃ v, e = .returned (.tuple #[v, .int .i64 0]) ∧ SlV w' v (fil keys) ∧ Below w.heap.size w w'
  many : ∀ {w : World} {ao : Option Addr} {len cap : Nat} {keys : List (List Int)}, RB w ao len cap keys → 100000 < len → Calls Try.prog 14 #[.slice ao len cap] w fun e w' => ∃ v, e = .returned (.tuple #[v, .int .i64 13]) ∧ SlV w' v [] ∧ Below w.heap.size w w'
  has : ∀ {w : World} {fa ka : Option Addr} {fl fc kl kc : Nat} {f key : List Int}, Sl w fa fl fc f → Sl w ka kl kc key → Calls Try.prog 16 #[.slice fa fl fc, .slice ka kl kc] w fun e w' => e = .returned (.bool (has f key)) ∧ Below w.heap.size w w'

theorem awake10_any (D : PBl) (w : World) : Calls Try.prog 12 #[] w fun e w' => e = .returned (.bool true) ∧ Below w.heap.size w w' := by
  have h := D.hash (Sl.nil w)
  rw [show hsh [] = 14695981039346656037 from rfl] at h
  go_enter Try.func12, Try.ntmps12
  go_wp2_with (go_at_call 10; refine h.mono ?_; rintro e w1 ⟨rfl, b1⟩)
  exact bodyPost_ret (v := .bool true) (by simp [results, Try.results12, go_sem]) rfl ⟨rfl, b1⟩

set_option maxHeartbeats 1000000 in
set_option maxRecDepth 100000 in
theorem has10_any (D : PBl) {w : World} {fa ka : Option Addr} {fl fc kl kc : Nat} {f key : List Int} (h1 : Sl w fa fl fc f) (h2 : Sl w ka kl kc key) :
    Calls Try.prog 5 #[.slice fa fl fc, .slice ka kl kc] w fun e w' => e = .returned (.bool true) ∧ Below w.heap.size w w' := by
  have hh := D.has h1 h2
  have HR : Hid (∀ wx, Below w.heap.size w wx → Calls Try.prog 17 #[.slice fa fl fc, .slice ka kl kc] wx fun e w' => e = .returned (.bool (has f key)) ∧ Below wx.heap.size wx w') := fun wx hb => rhas_any (h1.later hb) (h2.later hb)
  have heq : (has f key == has f key) = true := by simp
  generalize has f key = T at hh HR heq
  clear h1 h2
  go_enter Try.func5, Try.ntmps5
  go_wp2_with fail
  refine hh.mono ?_
  rintro e w1 ⟨rfl, b1⟩
  go_wp2_with fail
  refine (HR.out w1 b1).mono ?_
  rintro e w2 ⟨rfl, b2⟩
  have c2 := b1.trans (b2.mono b1.size)
  clear hh HR
  go_wp2_with fail
  refine (awake10_any D w2).mono ?_
  rintro e w3 ⟨rfl, b3⟩
  have c3 := c2.trans (b3.mono c2.size)
  go_wp2_with fail
  exact bodyPost_ret (v := .bool true) (by simp [results, Try.results5, go_sem]) rfl ⟨rfl, c3⟩

set_option maxHeartbeats 2000000 in
set_option maxRecDepth 100000 in
theorem hashes_any (D : PBl) {w : World} {ao : Option Addr} {len cap : Nat} {xs : List Int} {m : Int} (h : Sl w ao len cap xs) (hm : -9223372036854775808 ≤ m ∧ m ≤ 9223372036854775807) :
    Calls Try.prog 3 #[.slice ao len cap, .int .i64 m] w fun e w' => e = .returned (.bool true) ∧ Below w.heap.size w w' := by
  have hp := D.probes h hm
  have HR : Hid (∀ wx, Below w.heap.size w wx → Calls Try.prog 9 #[.slice ao len cap, .int .i64 m] wx fun e w' => ∃ v, e = .returned v ∧ RowS numE wx.heap.size w' v (prI xs m) ∧ Below wx.heap.size wx w') := fun wx hb => rprobes_any (h.later hb) hm
  have HS : Hid (Sl w ao len cap xs) := h
  have hle : (prI xs m).length ≤ 6 := by
    unfold prI
    split
    · simp
    · unfold prbs
      split
      · simp
      · simp
  obtain ⟨P, hP⟩ : ∃ P, P = prI xs m := ⟨_, rfl⟩
  rw [← hP] at hp HR hle
  obtain ⟨n, hn⟩ : ∃ n, n = P.length := ⟨_, rfl⟩
  have HN : Hid (n = P.length ∧ n ≤ 6) := ⟨hn, by omega⟩
  have hn62 : n ≤ 2 ^ 61 := by omega
  clear h hP hle
  go_enter Try.func3, Try.ntmps3
  go_wp2_with fail
  refine hp.mono ?_
  rintro e w1 ⟨v1, rfl, ⟨a1, c1, rfl, rs1⟩, b1⟩
  rw [← hn] at rs1 ⊢
  have HP1 := hid9 (And.intro rs1 b1)
  clear rs1 b1 hp
  go_wp2_with fail
  refine (HR.out w1 HP1.out.2).mono ?_
  rintro e w2 ⟨v2, rfl, r2, b2⟩
  obtain ⟨a2, c2, hv2, rs2⟩ := r2.rs
  subst hv2
  rw [← hn] at rs2 ⊢
  have HP2 : Hid (RS numE w2 a1 n c1 P ∧ RS numE w2 a2 n c2 P ∧ Below w.heap.size w w2) := ⟨HP1.out.1.later b2, rs2, HP1.out.2.trans (b2.mono HP1.out.2.size)⟩
  have hne : ((n : Int) != (n : Int)) = false := by simp
  clear rs2 b2 r2 HR HP1 hn
  go_wp2_with fail
  go_loopg [7, 21] n (fun g _ i wr => ∃ j : Nat, j + g = n ∧ i = .int .i64 (j : Int) ∧ Hid (Below w2.heap.size w2 wr))
  case atStart => exact ⟨0, by omega, rfl, Below.refl _ _⟩
  case round =>
    obtain ⟨j, hj, rfl, HJ⟩ := hrel
    by_cases hjn : j < n
    · have hjn' : (j : Int) < (n : Int) := by omega
      have hjx : j < P.length := by have := HN.out; omega
      obtain ⟨b, off, rfl, d1⟩ := RS.num (HP2.out.1.later HJ.out) (List.getElem?_eq_getElem hjx)
      obtain ⟨b', off', rfl, d2⟩ := RS.num (HP2.out.2.1.later HJ.out) (List.getElem?_eq_getElem hjx)
      generalize P[j] = p at d1 d2
      have hpe : ((p : Int) != (p : Int)) = false := by simp
      have hj62 : j ≤ 2 ^ 61 := by omega
      obtain ⟨GJ, HGJ⟩ : ∃ g, Hid (g < gk ∧ j + 1 + g = n) := ⟨gk - 1, by omega, by omega⟩
      clear hj
      go_wp2_with fail
      go_quiet (fail)
      go_wp2_with fail
      go_roundg GJ
      case measure => exact HGJ.out.1
      case rel => exact ⟨j + 1, HGJ.out.2, by go_num, below_drewN HJ.out _⟩
    · have hjn' : (n : Int) ≤ (j : Int) := by omega
      have HB : Hid (Below w.heap.size w wr) := HP2.out.2.2.trans (HJ.out.mono HP2.out.2.2.size)
      have hh := D.hash (HS.out.later HB.out)
      have HH : Hid (∀ wx, Below w.heap.size w wx → Calls Try.prog 11 #[.slice ao len cap] wx fun e w' => e = .returned (.int .u64 (hsh xs : Nat)) ∧ w' = wx) := fun wx hb => rhash_any (HS.out.later hb)
      have heq : (((hsh xs : Nat) : Int) == ((hsh xs : Nat) : Int)) = true := by simp
      generalize hsh xs = H at hh HH heq
      clear hj hjn HJ hne
      go_wp2_with fail
      refine hh.mono ?_
      rintro e w3 ⟨rfl, b3⟩
      have c3 := HB.out.trans (b3.mono HB.out.size)
      clear hh
      go_wp2_with fail
      refine (HH.out w3 c3).mono ?_
      rintro e w4 ⟨rfl, hw⟩
      obtain rfl := hw.symm
      go_wp2_with fail
      refine (awake10_any D w3).mono ?_
      rintro e w5 ⟨rfl, b5⟩
      have c5 := c3.trans (b5.mono c3.size)
      go_wp2_with fail
      exact bodyPost_ret (v := .bool true) (by simp [results, Try.results3, go_sem]) rfl ⟨rfl, c5⟩
end Go.Proofs.Ytpmebgcknijnkaa
