/- What the document's own Take answers. -/
import Derived.Test.YtifgojkmdicdmaaTake
namespace Go.Proofs.Ytifgojkmdicdmaa
open Go.RowKit

theorem good' {X : Nat → Nat} {E : Nat} : good X E ↔ ¬ (0 < E ∧ X E = 0) ∧ (E < 9 ∨ E = 9 ∧ X E ≤ 1) := by
  unfold good
  constructor
  · rintro ⟨h1, h2 | ⟨rfl, h2⟩⟩
    · exact ⟨h1, .inl h2⟩
    · exact ⟨h1, .inr ⟨rfl, h2⟩⟩
  · rintro ⟨h1, h2 | ⟨rfl, h2⟩⟩
    · exact ⟨h1, .inl h2⟩
    · exact ⟨h1, .inr ⟨rfl, h2⟩⟩

set_option maxHeartbeats 2000000 in
set_option maxRecDepth 100000 in
theorem rtake_any (ao : Option Addr) (len cap E : Nat) (X : Nat → Nat) (w : World) (hb : Byt w ao len X) (hl : len ≤ cap) (hc : cap ≤ maxLen) (hE : IsEnd X len E) :
    Calls Try.prog 51 #[.slice ao len cap] w fun e w' => e = .returned (takeV X len E) ∧ w' = w := by
  have HB : Hid (Byt w ao len X) := hb
  have HE : Hid (IsEnd X len E) := hE
  unfold maxLen at hc
  clear hb hE
  go_enter Try.func51, Try.ntmps51
  go_wp2
  go_loopg [5] E (fun g i wr => ∃ (k : Nat), k + g = E ∧ i = .int .i64 (k : Int) ∧ wr = w)
  case atStart => exact ⟨0, by omega, rfl, rfl⟩
  case round =>
    obtain ⟨k, hk, rfl, hw⟩ := hrel
    obtain rfl := hw
    by_cases h : k < E
    · obtain ⟨hx, b, off, rfl, hcell⟩ := HB.out k (by have := HE.out.1; omega)
      have h' : (k : Int) < (len : Int) := by have := HE.out.1; omega
      have hs : (128 : Int) ≤ (X k : Int) := by have := HE.out.2.1 k (by omega); omega
      obtain ⟨GK, HG⟩ : ∃ g, Hid (g < gk ∧ k + 1 + g = E) := ⟨gk - 1, by omega, by omega⟩
      clear hk h
      go_wp2
      go_roundg GK
      case measure => exact HG.out.1
      case rel => exact ⟨k + 1, HG.out.2, by go_num, rfl⟩
    · obtain rfl : k = E := by omega
      clear h hk
      by_cases hEl : k < len
      · obtain ⟨hx, b, off, rfl, hcell⟩ := HB.out k hEl
        have hs : (X k : Int) < 128 := by have := HE.out.2.2 hEl; omega
        have h' : (k : Int) < (len : Int) := by omega
        have hne : ¬ (k : Int) = (len : Int) := by omega
        by_cases hg : good X k
        · have HGD : Hid (good X k) := hg
          have e : takeV X len k = .tuple #[.int .u64 (val X (k + 1) : Nat), .int .i64 ((k : Int) + 1), .int .i64 0] := by simp [takeV, hEl, hg]
          have HT : Hid (takeV X len k = .tuple #[.int .u64 (val X (k + 1) : Nat), .int .i64 ((k : Int) + 1), .int .i64 0]) := e
          have hg' := good'.1 hg
          clear hg e hx
          by_cases k9 : k = 9
          · obtain rfl := k9
            have a1 : (X 9 : Int) ≤ 1 := by omega
            have a2 : ((X 9 : Int) == 0) = false := by simp; omega
            clear hg'
            go_wp2
            go_loopg [6, 7] (10) (fun g n i wx => g ≤ 10 ∧ n = .int .u64 (tv X g (10 - g) : Nat) ∧ i = .int .i64 ((g : Int) - 1) ∧ wx = wr)
            case atStart => exact ⟨by omega, by simp [tv], by go_num, rfl⟩
            case round =>
              obtain ⟨hg1, rfl, rfl, hw⟩ := hrel
              obtain rfl := hw
              by_cases hg0 : gk = 0
              · obtain rfl := hg0
                clear HB HE
                go_wp2
                exact bodyPost_ret (v := .tuple #[.int .u64 (tv X 0 (10 - 0) : Nat), .int .i64 (10), .int .i64 0]) (by simp [results, Try.results51, go_sem]) rfl ⟨by rw [HT.out, val_eq_tv]; simp, rfl⟩
              · obtain ⟨j, rfl⟩ : ∃ j, gk = j + 1 := ⟨gk - 1, by omega⟩
                obtain ⟨hx', b', off', eb, hcj⟩ := HB.out j (by omega)
                simp only [Option.some.injEq, Addr.mk.injEq, and_true] at eb
                obtain ⟨rfl, rfl⟩ := eb
                have hj : (j : Int) < (len : Int) := by omega
                have ej : ((j + 1 : Nat) : Int) - 1 = (j : Int) := by omega
                have HJ : Hid (j + 1 ≤ 10) := hg1
                have hst := tv_step X j (10 - (j + 1)) hx' (Nat.lt_of_le_of_lt (tv_le X j _) (by rw [show j + (10 - (j + 1) + 1) = 10 by omega]; exact val_good HGD.out))
                rw [show 10 - (j + 1) + 1 = 10 - j by omega] at hst
                rw [ej]
                clear hg0 hcell ej hg1
                go_wp2
                go_roundg j
                case measure => omega
                case rel => exact ⟨by have := HJ.out; omega, by (rw [← hst]; try simp), by go_num, rfl⟩
          · have a2 : ¬ (k : Int) = 9 := by omega
            have a3 : (k : Int) ≤ 9 := by omega
            by_cases k0 : k = 0
            · obtain rfl := k0
              have hcell0 : wr.cell? ⟨b, off, none⟩ = some (Value.int .u8 (X 0 : Int)) := by simpa using hcell
              clear hg' k9
              go_wp2
              go_loopg [6, 7] (1) (fun g n i wx => g ≤ 1 ∧ n = .int .u64 (tv X g (1 - g) : Nat) ∧ i = .int .i64 ((g : Int) - 1) ∧ wx = wr)
              case atStart => exact ⟨by omega, by simp [tv], by go_num, rfl⟩
              case round =>
                obtain ⟨hg1, rfl, rfl, hw⟩ := hrel
                obtain rfl := hw
                by_cases hg0 : gk = 0
                · obtain rfl := hg0
                  clear HB HE
                  go_wp2
                  exact bodyPost_ret (v := .tuple #[.int .u64 (tv X 0 (1 - 0) : Nat), .int .i64 (1), .int .i64 0]) (by simp [results, Try.results51, go_sem]) rfl ⟨by rw [HT.out, val_eq_tv]; simp, rfl⟩
                · obtain ⟨j, rfl⟩ : ∃ j, gk = j + 1 := ⟨gk - 1, by omega⟩
                  obtain ⟨hx', b', off', eb, hcj⟩ := HB.out j (by omega)
                  simp only [Option.some.injEq, Addr.mk.injEq, and_true] at eb
                  obtain ⟨rfl, rfl⟩ := eb
                  have hj : (j : Int) < (len : Int) := by omega
                  have ej : ((j + 1 : Nat) : Int) - 1 = (j : Int) := by omega
                  have HJ : Hid (j + 1 ≤ 1) := hg1
                  have hst := tv_step X j (1 - (j + 1)) hx' (Nat.lt_of_le_of_lt (tv_le X j _) (by rw [show j + (1 - (j + 1) + 1) = 1 by omega]; exact val_good HGD.out))
                  rw [show 1 - (j + 1) + 1 = 1 - j by omega] at hst
                  rw [ej]
                  clear hg0 hcell hcell0 ej hg1
                  go_wp2
                  go_roundg j
                  case measure => omega
                  case rel => exact ⟨by have := HJ.out; omega, by (rw [← hst]; try simp), by go_num, rfl⟩
            · have a4 : (0 : Int) < (k : Int) := by omega
              have a5 : ((X k : Int) == 0) = false := by simp; omega
              clear hg' k0 k9
              go_wp2
              go_loopg [6, 7] (k + 1) (fun g n i wx => g ≤ k + 1 ∧ n = .int .u64 (tv X g (k + 1 - g) : Nat) ∧ i = .int .i64 ((g : Int) - 1) ∧ wx = wr)
              case atStart => exact ⟨by omega, by simp [tv], by go_num, rfl⟩
              case round =>
                obtain ⟨hg1, rfl, rfl, hw⟩ := hrel
                obtain rfl := hw
                by_cases hg0 : gk = 0
                · obtain rfl := hg0
                  clear HB HE
                  go_wp2
                  exact bodyPost_ret (v := .tuple #[.int .u64 (tv X 0 (k + 1 - 0) : Nat), .int .i64 ((k : Int) + 1), .int .i64 0]) (by simp [results, Try.results51, go_sem]) rfl ⟨by rw [HT.out, val_eq_tv]; simp, rfl⟩
                · obtain ⟨j, rfl⟩ : ∃ j, gk = j + 1 := ⟨gk - 1, by omega⟩
                  obtain ⟨hx', b', off', eb, hcj⟩ := HB.out j (by omega)
                  simp only [Option.some.injEq, Addr.mk.injEq, and_true] at eb
                  obtain ⟨rfl, rfl⟩ := eb
                  have hj : (j : Int) < (len : Int) := by omega
                  have ej : ((j + 1 : Nat) : Int) - 1 = (j : Int) := by omega
                  have HJ : Hid (j + 1 ≤ k + 1) := hg1
                  have hst := tv_step X j (k + 1 - (j + 1)) hx' (Nat.lt_of_le_of_lt (tv_le X j _) (by rw [show j + (k + 1 - (j + 1) + 1) = k + 1 by omega]; exact val_good HGD.out))
                  rw [show k + 1 - (j + 1) + 1 = k + 1 - j by omega] at hst
                  rw [ej]
                  clear hg0 hcell ej hg1
                  go_wp2
                  go_roundg j
                  case measure => omega
                  case rel => exact ⟨by have := HJ.out; omega, by (rw [← hst]; try simp), by go_num, rfl⟩
        · have e : takeV X len k = .tuple #[.int .u64 0, .int .i64 0, .int .i64 3] := by simp [takeV, hEl, hg]
          have HT : Hid (takeV X len k = .tuple #[.int .u64 0, .int .i64 0, .int .i64 3]) := e
          have hg' := hg
          rw [good'] at hg'
          clear hg e hx
          by_cases x0 : X k = 0
          · have a1 : (0 : Int) < (k : Int) := by omega
            have a2 : (X k : Int) = 0 := by omega
            clear hg' x0
            go_wp2
            exact bodyPost_ret (v := .tuple #[.int .u64 0, .int .i64 0, .int .i64 3]) (by simp [results, Try.results51, go_sem]) rfl ⟨by rw [HT.out], rfl⟩
          · have a2 : ((X k : Int) == 0) = false := by simp; omega
            by_cases k9 : k = 9
            · obtain rfl := k9
              have a3 : ¬ (X 9 : Int) ≤ 1 := by omega
              clear hg' x0
              go_wp2
              exact bodyPost_ret (v := .tuple #[.int .u64 0, .int .i64 0, .int .i64 3]) (by simp [results, Try.results51, go_sem]) rfl ⟨by rw [HT.out], rfl⟩
            · have a1 : (0 : Int) < (k : Int) := by omega
              have a3 : (9 : Int) < (k : Int) := by omega
              clear hg' k9 x0
              go_wp2
              exact bodyPost_ret (v := .tuple #[.int .u64 0, .int .i64 0, .int .i64 3]) (by simp [results, Try.results51, go_sem]) rfl ⟨by rw [HT.out], rfl⟩
      · obtain rfl : k = len := by have := HE.out.1; omega
        have HT : Hid (takeV X k k = .tuple #[.int .u64 0, .int .i64 0, .int .i64 5]) := by simp [takeV, Hid]
        clear hEl HB HE
        go_wp2
        exact bodyPost_ret (v := .tuple #[.int .u64 0, .int .i64 0, .int .i64 5]) (by simp [results, Try.results51, go_sem]) rfl ⟨by rw [HT.out], rfl⟩
end Go.Proofs.Ytifgojkmdicdmaa
