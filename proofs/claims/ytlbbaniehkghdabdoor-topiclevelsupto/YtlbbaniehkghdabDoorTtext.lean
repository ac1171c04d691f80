/- The program's Text. -/
import Derived.Test.YtlbbaniehkghdabDoorTch
import Derived.Test.YtlbbaniehkghdabDoorRtext
namespace Go.Proofs.YtlbbaniehkghdabDoor
open Go.RowKit
set_option linter.unusedVariables false
set_option linter.unusedSimpArgs false

theorem tszV_0 (x : Nat) (A1 Aa Ab Ac Ad A2 A3 : Bool) (h1 : 0 ≤ x) (h2 : x ≤ 0) : tszV x A1 Aa Ab Ac Ad A2 A3 = 0 := by
  have d0 : decide (1 ≤ x) = false := by simp; omega
  have d1 : decide (x ≤ 127) = true := by simp; omega
  have d2 : decide (194 ≤ x) = false := by simp; omega
  have d3 : decide (x ≤ 223) = true := by simp; omega
  have d4 : decide (x = 224) = false := by simp; omega
  have d5 : decide (x = 237) = false := by simp; omega
  have d6 : decide (225 ≤ x) = false := by simp; omega
  have d7 : decide (x ≤ 239) = true := by simp; omega
  have d8 : decide (x = 240) = false := by simp; omega
  have d9 : decide (241 ≤ x) = false := by simp; omega
  have d10 : decide (x ≤ 243) = true := by simp; omega
  have d11 : decide (x = 244) = false := by simp; omega
  simp only [tszV, d0, d1, d2, d3, d4, d5, d6, d7, d8, d9, d10, d11, Bool.true_and, Bool.false_and, Bool.and_true, Bool.and_false, Bool.not_true, Bool.not_false, if_true, if_false, Bool.false_eq_true, reduceIte]
theorem opn_0 (x : Nat) (h1 : 0 ≤ x) (h2 : x ≤ 0) : opn x = (0, 0, 0) := by
  unfold opn
  rw [if_pos (show (x = 0) by omega)]
theorem tszV_1 (x : Nat) (A1 Aa Ab Ac Ad A2 A3 : Bool) (h1 : 1 ≤ x) (h2 : x ≤ 127) : tszV x A1 Aa Ab Ac Ad A2 A3 = 1 := by
  have d0 : decide (1 ≤ x) = true := by simp; omega
  have d1 : decide (x ≤ 127) = true := by simp; omega
  have d2 : decide (194 ≤ x) = false := by simp; omega
  have d3 : decide (x ≤ 223) = true := by simp; omega
  have d4 : decide (x = 224) = false := by simp; omega
  have d5 : decide (x = 237) = false := by simp; omega
  have d6 : decide (225 ≤ x) = false := by simp; omega
  have d7 : decide (x ≤ 239) = true := by simp; omega
  have d8 : decide (x = 240) = false := by simp; omega
  have d9 : decide (241 ≤ x) = false := by simp; omega
  have d10 : decide (x ≤ 243) = true := by simp; omega
  have d11 : decide (x = 244) = false := by simp; omega
  simp only [tszV, d0, d1, d2, d3, d4, d5, d6, d7, d8, d9, d10, d11, Bool.true_and, Bool.false_and, Bool.and_true, Bool.and_false, Bool.not_true, Bool.not_false, if_true, if_false, Bool.false_eq_true, reduceIte]
theorem opn_1 (x : Nat) (h1 : 1 ≤ x) (h2 : x ≤ 127) : opn x = (1, 0, 0) := by
  unfold opn
  rw [if_neg (show ¬ (x = 0) by omega)]
  rw [if_pos (show (x < 128) by omega)]
theorem tszV_2 (x : Nat) (A1 Aa Ab Ac Ad A2 A3 : Bool) (h1 : 128 ≤ x) (h2 : x ≤ 193) : tszV x A1 Aa Ab Ac Ad A2 A3 = 0 := by
  have d0 : decide (1 ≤ x) = true := by simp; omega
  have d1 : decide (x ≤ 127) = false := by simp; omega
  have d2 : decide (194 ≤ x) = false := by simp; omega
  have d3 : decide (x ≤ 223) = true := by simp; omega
  have d4 : decide (x = 224) = false := by simp; omega
  have d5 : decide (x = 237) = false := by simp; omega
  have d6 : decide (225 ≤ x) = false := by simp; omega
  have d7 : decide (x ≤ 239) = true := by simp; omega
  have d8 : decide (x = 240) = false := by simp; omega
  have d9 : decide (241 ≤ x) = false := by simp; omega
  have d10 : decide (x ≤ 243) = true := by simp; omega
  have d11 : decide (x = 244) = false := by simp; omega
  simp only [tszV, d0, d1, d2, d3, d4, d5, d6, d7, d8, d9, d10, d11, Bool.true_and, Bool.false_and, Bool.and_true, Bool.and_false, Bool.not_true, Bool.not_false, if_true, if_false, Bool.false_eq_true, reduceIte]
theorem opn_2 (x : Nat) (h1 : 128 ≤ x) (h2 : x ≤ 193) : opn x = (0, 0, 0) := by
  unfold opn
  rw [if_neg (show ¬ (x = 0) by omega)]
  rw [if_neg (show ¬ (x < 128) by omega)]
  rw [if_pos (show (x < 194) by omega)]
theorem tszV_3 (x : Nat) (A1 Aa Ab Ac Ad A2 A3 : Bool) (h1 : 194 ≤ x) (h2 : x ≤ 223) : tszV x A1 Aa Ab Ac Ad A2 A3 = if A1 then 2 else 0 := by
  have d0 : decide (1 ≤ x) = true := by simp; omega
  have d1 : decide (x ≤ 127) = false := by simp; omega
  have d2 : decide (194 ≤ x) = true := by simp; omega
  have d3 : decide (x ≤ 223) = true := by simp; omega
  have d4 : decide (x = 224) = false := by simp; omega
  have d5 : decide (x = 237) = false := by simp; omega
  have d6 : decide (225 ≤ x) = false := by simp; omega
  have d7 : decide (x ≤ 239) = true := by simp; omega
  have d8 : decide (x = 240) = false := by simp; omega
  have d9 : decide (241 ≤ x) = false := by simp; omega
  have d10 : decide (x ≤ 243) = true := by simp; omega
  have d11 : decide (x = 244) = false := by simp; omega
  simp only [tszV, d0, d1, d2, d3, d4, d5, d6, d7, d8, d9, d10, d11, Bool.true_and, Bool.false_and, Bool.and_true, Bool.and_false, Bool.not_true, Bool.not_false, if_true, if_false, Bool.false_eq_true, reduceIte]
theorem opn_3 (x : Nat) (h1 : 194 ≤ x) (h2 : x ≤ 223) : opn x = (2, 128, 191) := by
  unfold opn
  rw [if_neg (show ¬ (x = 0) by omega)]
  rw [if_neg (show ¬ (x < 128) by omega)]
  rw [if_neg (show ¬ (x < 194) by omega)]
  rw [if_pos (show (x < 224) by omega)]
theorem tszV_4 (x : Nat) (A1 Aa Ab Ac Ad A2 A3 : Bool) (h1 : 224 ≤ x) (h2 : x ≤ 224) : tszV x A1 Aa Ab Ac Ad A2 A3 = if Aa && A2 then 3 else 0 := by
  have d0 : decide (1 ≤ x) = true := by simp; omega
  have d1 : decide (x ≤ 127) = false := by simp; omega
  have d2 : decide (194 ≤ x) = true := by simp; omega
  have d3 : decide (x ≤ 223) = false := by simp; omega
  have d4 : decide (x = 224) = true := by simp; omega
  have d5 : decide (x = 237) = false := by simp; omega
  have d6 : decide (225 ≤ x) = false := by simp; omega
  have d7 : decide (x ≤ 239) = true := by simp; omega
  have d8 : decide (x = 240) = false := by simp; omega
  have d9 : decide (241 ≤ x) = false := by simp; omega
  have d10 : decide (x ≤ 243) = true := by simp; omega
  have d11 : decide (x = 244) = false := by simp; omega
  simp only [tszV, d0, d1, d2, d3, d4, d5, d6, d7, d8, d9, d10, d11, Bool.true_and, Bool.false_and, Bool.and_true, Bool.and_false, Bool.not_true, Bool.not_false, if_true, if_false, Bool.false_eq_true, reduceIte]
theorem opn_4 (x : Nat) (h1 : 224 ≤ x) (h2 : x ≤ 224) : opn x = (3, 160, 191) := by
  unfold opn
  rw [if_neg (show ¬ (x = 0) by omega)]
  rw [if_neg (show ¬ (x < 128) by omega)]
  rw [if_neg (show ¬ (x < 194) by omega)]
  rw [if_neg (show ¬ (x < 224) by omega)]
  rw [if_pos (show (x = 224) by omega)]
theorem tszV_5 (x : Nat) (A1 Aa Ab Ac Ad A2 A3 : Bool) (h1 : 225 ≤ x) (h2 : x ≤ 236) : tszV x A1 Aa Ab Ac Ad A2 A3 = if A1 && A2 then 3 else 0 := by
  have d0 : decide (1 ≤ x) = true := by simp; omega
  have d1 : decide (x ≤ 127) = false := by simp; omega
  have d2 : decide (194 ≤ x) = true := by simp; omega
  have d3 : decide (x ≤ 223) = false := by simp; omega
  have d4 : decide (x = 224) = false := by simp; omega
  have d5 : decide (x = 237) = false := by simp; omega
  have d6 : decide (225 ≤ x) = true := by simp; omega
  have d7 : decide (x ≤ 239) = true := by simp; omega
  have d8 : decide (x = 240) = false := by simp; omega
  have d9 : decide (241 ≤ x) = false := by simp; omega
  have d10 : decide (x ≤ 243) = true := by simp; omega
  have d11 : decide (x = 244) = false := by simp; omega
  simp only [tszV, d0, d1, d2, d3, d4, d5, d6, d7, d8, d9, d10, d11, Bool.true_and, Bool.false_and, Bool.and_true, Bool.and_false, Bool.not_true, Bool.not_false, if_true, if_false, Bool.false_eq_true, reduceIte]
theorem opn_5 (x : Nat) (h1 : 225 ≤ x) (h2 : x ≤ 236) : opn x = (3, 128, 191) := by
  unfold opn
  rw [if_neg (show ¬ (x = 0) by omega)]
  rw [if_neg (show ¬ (x < 128) by omega)]
  rw [if_neg (show ¬ (x < 194) by omega)]
  rw [if_neg (show ¬ (x < 224) by omega)]
  rw [if_neg (show ¬ (x = 224) by omega)]
  rw [if_neg (show ¬ (x = 237) by omega)]
  rw [if_pos (show (x < 240) by omega)]
theorem tszV_6 (x : Nat) (A1 Aa Ab Ac Ad A2 A3 : Bool) (h1 : 237 ≤ x) (h2 : x ≤ 237) : tszV x A1 Aa Ab Ac Ad A2 A3 = if Ab && A2 then 3 else 0 := by
  have d0 : decide (1 ≤ x) = true := by simp; omega
  have d1 : decide (x ≤ 127) = false := by simp; omega
  have d2 : decide (194 ≤ x) = true := by simp; omega
  have d3 : decide (x ≤ 223) = false := by simp; omega
  have d4 : decide (x = 224) = false := by simp; omega
  have d5 : decide (x = 237) = true := by simp; omega
  have d6 : decide (225 ≤ x) = true := by simp; omega
  have d7 : decide (x ≤ 239) = true := by simp; omega
  have d8 : decide (x = 240) = false := by simp; omega
  have d9 : decide (241 ≤ x) = false := by simp; omega
  have d10 : decide (x ≤ 243) = true := by simp; omega
  have d11 : decide (x = 244) = false := by simp; omega
  simp only [tszV, d0, d1, d2, d3, d4, d5, d6, d7, d8, d9, d10, d11, Bool.true_and, Bool.false_and, Bool.and_true, Bool.and_false, Bool.not_true, Bool.not_false, if_true, if_false, Bool.false_eq_true, reduceIte]
theorem opn_6 (x : Nat) (h1 : 237 ≤ x) (h2 : x ≤ 237) : opn x = (3, 128, 159) := by
  unfold opn
  rw [if_neg (show ¬ (x = 0) by omega)]
  rw [if_neg (show ¬ (x < 128) by omega)]
  rw [if_neg (show ¬ (x < 194) by omega)]
  rw [if_neg (show ¬ (x < 224) by omega)]
  rw [if_neg (show ¬ (x = 224) by omega)]
  rw [if_pos (show (x = 237) by omega)]
theorem tszV_7 (x : Nat) (A1 Aa Ab Ac Ad A2 A3 : Bool) (h1 : 238 ≤ x) (h2 : x ≤ 239) : tszV x A1 Aa Ab Ac Ad A2 A3 = if A1 && A2 then 3 else 0 := by
  have d0 : decide (1 ≤ x) = true := by simp; omega
  have d1 : decide (x ≤ 127) = false := by simp; omega
  have d2 : decide (194 ≤ x) = true := by simp; omega
  have d3 : decide (x ≤ 223) = false := by simp; omega
  have d4 : decide (x = 224) = false := by simp; omega
  have d5 : decide (x = 237) = false := by simp; omega
  have d6 : decide (225 ≤ x) = true := by simp; omega
  have d7 : decide (x ≤ 239) = true := by simp; omega
  have d8 : decide (x = 240) = false := by simp; omega
  have d9 : decide (241 ≤ x) = false := by simp; omega
  have d10 : decide (x ≤ 243) = true := by simp; omega
  have d11 : decide (x = 244) = false := by simp; omega
  simp only [tszV, d0, d1, d2, d3, d4, d5, d6, d7, d8, d9, d10, d11, Bool.true_and, Bool.false_and, Bool.and_true, Bool.and_false, Bool.not_true, Bool.not_false, if_true, if_false, Bool.false_eq_true, reduceIte]
theorem opn_7 (x : Nat) (h1 : 238 ≤ x) (h2 : x ≤ 239) : opn x = (3, 128, 191) := by
  unfold opn
  rw [if_neg (show ¬ (x = 0) by omega)]
  rw [if_neg (show ¬ (x < 128) by omega)]
  rw [if_neg (show ¬ (x < 194) by omega)]
  rw [if_neg (show ¬ (x < 224) by omega)]
  rw [if_neg (show ¬ (x = 224) by omega)]
  rw [if_neg (show ¬ (x = 237) by omega)]
  rw [if_pos (show (x < 240) by omega)]
theorem tszV_8 (x : Nat) (A1 Aa Ab Ac Ad A2 A3 : Bool) (h1 : 240 ≤ x) (h2 : x ≤ 240) : tszV x A1 Aa Ab Ac Ad A2 A3 = if Ac && A2 && A3 then 4 else 0 := by
  have d0 : decide (1 ≤ x) = true := by simp; omega
  have d1 : decide (x ≤ 127) = false := by simp; omega
  have d2 : decide (194 ≤ x) = true := by simp; omega
  have d3 : decide (x ≤ 223) = false := by simp; omega
  have d4 : decide (x = 224) = false := by simp; omega
  have d5 : decide (x = 237) = false := by simp; omega
  have d6 : decide (225 ≤ x) = true := by simp; omega
  have d7 : decide (x ≤ 239) = false := by simp; omega
  have d8 : decide (x = 240) = true := by simp; omega
  have d9 : decide (241 ≤ x) = false := by simp; omega
  have d10 : decide (x ≤ 243) = true := by simp; omega
  have d11 : decide (x = 244) = false := by simp; omega
  simp only [tszV, d0, d1, d2, d3, d4, d5, d6, d7, d8, d9, d10, d11, Bool.true_and, Bool.false_and, Bool.and_true, Bool.and_false, Bool.not_true, Bool.not_false, if_true, if_false, Bool.false_eq_true, reduceIte]
theorem opn_8 (x : Nat) (h1 : 240 ≤ x) (h2 : x ≤ 240) : opn x = (4, 144, 191) := by
  unfold opn
  rw [if_neg (show ¬ (x = 0) by omega)]
  rw [if_neg (show ¬ (x < 128) by omega)]
  rw [if_neg (show ¬ (x < 194) by omega)]
  rw [if_neg (show ¬ (x < 224) by omega)]
  rw [if_neg (show ¬ (x = 224) by omega)]
  rw [if_neg (show ¬ (x = 237) by omega)]
  rw [if_neg (show ¬ (x < 240) by omega)]
  rw [if_pos (show (x = 240) by omega)]
theorem tszV_9 (x : Nat) (A1 Aa Ab Ac Ad A2 A3 : Bool) (h1 : 241 ≤ x) (h2 : x ≤ 243) : tszV x A1 Aa Ab Ac Ad A2 A3 = if A1 && A2 && A3 then 4 else 0 := by
  have d0 : decide (1 ≤ x) = true := by simp; omega
  have d1 : decide (x ≤ 127) = false := by simp; omega
  have d2 : decide (194 ≤ x) = true := by simp; omega
  have d3 : decide (x ≤ 223) = false := by simp; omega
  have d4 : decide (x = 224) = false := by simp; omega
  have d5 : decide (x = 237) = false := by simp; omega
  have d6 : decide (225 ≤ x) = true := by simp; omega
  have d7 : decide (x ≤ 239) = false := by simp; omega
  have d8 : decide (x = 240) = false := by simp; omega
  have d9 : decide (241 ≤ x) = true := by simp; omega
  have d10 : decide (x ≤ 243) = true := by simp; omega
  have d11 : decide (x = 244) = false := by simp; omega
  simp only [tszV, d0, d1, d2, d3, d4, d5, d6, d7, d8, d9, d10, d11, Bool.true_and, Bool.false_and, Bool.and_true, Bool.and_false, Bool.not_true, Bool.not_false, if_true, if_false, Bool.false_eq_true, reduceIte]
theorem opn_9 (x : Nat) (h1 : 241 ≤ x) (h2 : x ≤ 243) : opn x = (4, 128, 191) := by
  unfold opn
  rw [if_neg (show ¬ (x = 0) by omega)]
  rw [if_neg (show ¬ (x < 128) by omega)]
  rw [if_neg (show ¬ (x < 194) by omega)]
  rw [if_neg (show ¬ (x < 224) by omega)]
  rw [if_neg (show ¬ (x = 224) by omega)]
  rw [if_neg (show ¬ (x = 237) by omega)]
  rw [if_neg (show ¬ (x < 240) by omega)]
  rw [if_neg (show ¬ (x = 240) by omega)]
  rw [if_pos (show (x < 244) by omega)]
theorem tszV_10 (x : Nat) (A1 Aa Ab Ac Ad A2 A3 : Bool) (h1 : 244 ≤ x) (h2 : x ≤ 244) : tszV x A1 Aa Ab Ac Ad A2 A3 = if Ad && A2 && A3 then 4 else 0 := by
  have d0 : decide (1 ≤ x) = true := by simp; omega
  have d1 : decide (x ≤ 127) = false := by simp; omega
  have d2 : decide (194 ≤ x) = true := by simp; omega
  have d3 : decide (x ≤ 223) = false := by simp; omega
  have d4 : decide (x = 224) = false := by simp; omega
  have d5 : decide (x = 237) = false := by simp; omega
  have d6 : decide (225 ≤ x) = true := by simp; omega
  have d7 : decide (x ≤ 239) = false := by simp; omega
  have d8 : decide (x = 240) = false := by simp; omega
  have d9 : decide (241 ≤ x) = true := by simp; omega
  have d10 : decide (x ≤ 243) = false := by simp; omega
  have d11 : decide (x = 244) = true := by simp; omega
  simp only [tszV, d0, d1, d2, d3, d4, d5, d6, d7, d8, d9, d10, d11, Bool.true_and, Bool.false_and, Bool.and_true, Bool.and_false, Bool.not_true, Bool.not_false, if_true, if_false, Bool.false_eq_true, reduceIte]
theorem opn_10 (x : Nat) (h1 : 244 ≤ x) (h2 : x ≤ 244) : opn x = (4, 128, 143) := by
  unfold opn
  rw [if_neg (show ¬ (x = 0) by omega)]
  rw [if_neg (show ¬ (x < 128) by omega)]
  rw [if_neg (show ¬ (x < 194) by omega)]
  rw [if_neg (show ¬ (x < 224) by omega)]
  rw [if_neg (show ¬ (x = 224) by omega)]
  rw [if_neg (show ¬ (x = 237) by omega)]
  rw [if_neg (show ¬ (x < 240) by omega)]
  rw [if_neg (show ¬ (x = 240) by omega)]
  rw [if_neg (show ¬ (x < 244) by omega)]
  rw [if_pos (show (x = 244) by omega)]
theorem tszV_11 (x : Nat) (A1 Aa Ab Ac Ad A2 A3 : Bool) (h1 : 245 ≤ x) (h2 : x ≤ 255) : tszV x A1 Aa Ab Ac Ad A2 A3 = 0 := by
  have d0 : decide (1 ≤ x) = true := by simp; omega
  have d1 : decide (x ≤ 127) = false := by simp; omega
  have d2 : decide (194 ≤ x) = true := by simp; omega
  have d3 : decide (x ≤ 223) = false := by simp; omega
  have d4 : decide (x = 224) = false := by simp; omega
  have d5 : decide (x = 237) = false := by simp; omega
  have d6 : decide (225 ≤ x) = true := by simp; omega
  have d7 : decide (x ≤ 239) = false := by simp; omega
  have d8 : decide (x = 240) = false := by simp; omega
  have d9 : decide (241 ≤ x) = true := by simp; omega
  have d10 : decide (x ≤ 243) = false := by simp; omega
  have d11 : decide (x = 244) = false := by simp; omega
  simp only [tszV, d0, d1, d2, d3, d4, d5, d6, d7, d8, d9, d10, d11, Bool.true_and, Bool.false_and, Bool.and_true, Bool.and_false, Bool.not_true, Bool.not_false, if_true, if_false, Bool.false_eq_true, reduceIte]
theorem opn_11 (x : Nat) (h1 : 245 ≤ x) (h2 : x ≤ 255) : opn x = (0, 0, 0) := by
  unfold opn
  rw [if_neg (show ¬ (x = 0) by omega)]
  rw [if_neg (show ¬ (x < 128) by omega)]
  rw [if_neg (show ¬ (x < 194) by omega)]
  rw [if_neg (show ¬ (x < 224) by omega)]
  rw [if_neg (show ¬ (x = 224) by omega)]
  rw [if_neg (show ¬ (x = 237) by omega)]
  rw [if_neg (show ¬ (x < 240) by omega)]
  rw [if_neg (show ¬ (x = 240) by omega)]
  rw [if_neg (show ¬ (x < 244) by omega)]
  rw [if_neg (show ¬ (x = 244) by omega)]

theorem tsz_of (X : Nat → Nat) (len n lo hi : Nat) (hp : 0 < len) (hX : ∀ k, k < len → X k < 256) (ho : opn (X 0) = (n, lo, hi)) :
    tsz (ul X len) = if n ≤ len ∧ (1 < n → okk X lo hi 1) ∧ (2 < n → okk X lo hi 2) ∧ (3 < n → okk X lo hi 3) then n else 0 := by
  have A : ∀ i lo hi : Nat, lo < 256 → hi < 256 → atB (ul X len) i (UInt8.ofNat lo) (UInt8.ofNat hi) = (decide (i < len) && (decide (lo ≤ X i) && decide (X i ≤ hi))) := fun i lo hi h1 h2 => atB_ul (hX i) h1 h2
  have a1 : atB (ul X len) 1 128 191 = _ := A 1 128 191 (by decide) (by decide)
  have a2 : atB (ul X len) 1 160 191 = _ := A 1 160 191 (by decide) (by decide)
  have a3 : atB (ul X len) 1 128 159 = _ := A 1 128 159 (by decide) (by decide)
  have a4 : atB (ul X len) 1 144 191 = _ := A 1 144 191 (by decide) (by decide)
  have a5 : atB (ul X len) 1 128 143 = _ := A 1 128 143 (by decide) (by decide)
  have a6 : atB (ul X len) 2 128 191 = _ := A 2 128 191 (by decide) (by decide)
  have a7 : atB (ul X len) 3 128 191 = _ := A 3 128 191 (by decide) (by decide)
  have h0 := hX 0 hp
  have key : ∀ (n : Nat) (C : Bool) (p : Prop) [Decidable p], (C = true ↔ p) → (if C = true then n else 0) = if p then n else 0 := fun n C p _ h => by
    by_cases q : p
    · rw [if_pos q, if_pos (h.2 q)]
    · rw [if_neg q, if_neg (fun e => q (h.1 e))]
  rw [tsz_ul X len hp h0]
  by_cases c0 : X 0 ≤ 0
  · rw [opn_0 (X 0) (by omega) c0] at ho
    simp only [Prod.mk.injEq] at ho
    obtain ⟨rfl, rfl, rfl⟩ := ho
    rw [tszV_0 (X 0) _ _ _ _ _ _ _ (by omega) c0]
    simp
  by_cases c1 : X 0 ≤ 127
  · rw [opn_1 (X 0) (by omega) c1] at ho
    simp only [Prod.mk.injEq] at ho
    obtain ⟨rfl, rfl, rfl⟩ := ho
    rw [tszV_1 (X 0) _ _ _ _ _ _ _ (by omega) c1]
    rw [if_pos ⟨by omega, by omega, by omega, by omega⟩]
  by_cases c2 : X 0 ≤ 193
  · rw [opn_2 (X 0) (by omega) c2] at ho
    simp only [Prod.mk.injEq] at ho
    obtain ⟨rfl, rfl, rfl⟩ := ho
    rw [tszV_2 (X 0) _ _ _ _ _ _ _ (by omega) c2]
    simp
  by_cases c3 : X 0 ≤ 223
  · rw [opn_3 (X 0) (by omega) c3] at ho
    simp only [Prod.mk.injEq] at ho
    obtain ⟨rfl, rfl, rfl⟩ := ho
    rw [tszV_3 (X 0) _ _ _ _ _ _ _ (by omega) c3]
    refine key 2 _ _ ?_
    rw [a1]
    simp only [okk, Bool.and_eq_true, decide_eq_true_eq]
    clear a1 a2 a3 a4 a5 a6 a7 A key
    simp
    omega
  by_cases c4 : X 0 ≤ 224
  · rw [opn_4 (X 0) (by omega) c4] at ho
    simp only [Prod.mk.injEq] at ho
    obtain ⟨rfl, rfl, rfl⟩ := ho
    rw [tszV_4 (X 0) _ _ _ _ _ _ _ (by omega) c4]
    refine key 3 _ _ ?_
    rw [a2, a6]
    simp only [okk, Bool.and_eq_true, decide_eq_true_eq]
    clear a1 a2 a3 a4 a5 a6 a7 A key
    simp
    omega
  by_cases c5 : X 0 ≤ 236
  · rw [opn_5 (X 0) (by omega) c5] at ho
    simp only [Prod.mk.injEq] at ho
    obtain ⟨rfl, rfl, rfl⟩ := ho
    rw [tszV_5 (X 0) _ _ _ _ _ _ _ (by omega) c5]
    refine key 3 _ _ ?_
    rw [a1, a6]
    simp only [okk, Bool.and_eq_true, decide_eq_true_eq]
    clear a1 a2 a3 a4 a5 a6 a7 A key
    simp
    omega
  by_cases c6 : X 0 ≤ 237
  · rw [opn_6 (X 0) (by omega) c6] at ho
    simp only [Prod.mk.injEq] at ho
    obtain ⟨rfl, rfl, rfl⟩ := ho
    rw [tszV_6 (X 0) _ _ _ _ _ _ _ (by omega) c6]
    refine key 3 _ _ ?_
    rw [a3, a6]
    simp only [okk, Bool.and_eq_true, decide_eq_true_eq]
    clear a1 a2 a3 a4 a5 a6 a7 A key
    simp
    omega
  by_cases c7 : X 0 ≤ 239
  · rw [opn_7 (X 0) (by omega) c7] at ho
    simp only [Prod.mk.injEq] at ho
    obtain ⟨rfl, rfl, rfl⟩ := ho
    rw [tszV_7 (X 0) _ _ _ _ _ _ _ (by omega) c7]
    refine key 3 _ _ ?_
    rw [a1, a6]
    simp only [okk, Bool.and_eq_true, decide_eq_true_eq]
    clear a1 a2 a3 a4 a5 a6 a7 A key
    simp
    omega
  by_cases c8 : X 0 ≤ 240
  · rw [opn_8 (X 0) (by omega) c8] at ho
    simp only [Prod.mk.injEq] at ho
    obtain ⟨rfl, rfl, rfl⟩ := ho
    rw [tszV_8 (X 0) _ _ _ _ _ _ _ (by omega) c8]
    refine key 4 _ _ ?_
    rw [a4, a6, a7]
    simp only [okk, Bool.and_eq_true, decide_eq_true_eq]
    clear a1 a2 a3 a4 a5 a6 a7 A key
    simp
    omega
  by_cases c9 : X 0 ≤ 243
  · rw [opn_9 (X 0) (by omega) c9] at ho
    simp only [Prod.mk.injEq] at ho
    obtain ⟨rfl, rfl, rfl⟩ := ho
    rw [tszV_9 (X 0) _ _ _ _ _ _ _ (by omega) c9]
    refine key 4 _ _ ?_
    rw [a1, a6, a7]
    simp only [okk, Bool.and_eq_true, decide_eq_true_eq]
    clear a1 a2 a3 a4 a5 a6 a7 A key
    simp
    omega
  by_cases c10 : X 0 ≤ 244
  · rw [opn_10 (X 0) (by omega) c10] at ho
    simp only [Prod.mk.injEq] at ho
    obtain ⟨rfl, rfl, rfl⟩ := ho
    rw [tszV_10 (X 0) _ _ _ _ _ _ _ (by omega) c10]
    refine key 4 _ _ ?_
    rw [a5, a6, a7]
    simp only [okk, Bool.and_eq_true, decide_eq_true_eq]
    clear a1 a2 a3 a4 a5 a6 a7 A key
    simp
    omega
  by_cases c11 : X 0 ≤ 255
  · rw [opn_11 (X 0) (by omega) c11] at ho
    simp only [Prod.mk.injEq] at ho
    obtain ⟨rfl, rfl, rfl⟩ := ho
    rw [tszV_11 (X 0) _ _ _ _ _ _ _ (by omega) c11]
    simp
  omega

theorem char_any (ao : Option Addr) (len cap : Nat) (X : Nat → Nat) (w : World) (hb : Byt w ao len X) (hl : len ≤ cap) (hc : cap ≤ maxLen) (h0 : 0 < len) :
    Calls Tryd.prog 26 #[.slice ao len cap] w fun e w' => e = .returned (.int .i64 ((tsz (ul X len) : Nat) : Int)) ∧ w' = w := by
  obtain ⟨_, b, off, rfl, _⟩ := hb 0 h0
  obtain ⟨⟨n, lo, hi⟩, ho⟩ : ∃ o, opn (X 0) = o := ⟨_, rfl⟩
  have ht := tsz_of X len n lo hi h0 (fun k hk => (hb k hk).1) ho
  have h4 := (@opn_lt (X 0)).1
  rw [ho] at h4
  simp only at h4
  by_cases hn : n ≤ len
  · by_cases h1 : 1 < n ∧ ¬ okk X lo hi 1
    · rw [if_neg (fun h => h1.2 (h.2.1 h1.1))] at ht
      rw [ht]
      exact char_bad b off len cap X n lo hi w hb hl hc h0 ho hn 1 (by omega) h1.1 (fun k h2 h3 => by omega) h1.2
    · by_cases h2 : 2 < n ∧ ¬ okk X lo hi 2
      · rw [if_neg (fun h => h2.2 (h.2.2.1 h2.1))] at ht
        rw [ht]
        refine char_bad b off len cap X n lo hi w hb hl hc h0 ho hn 2 (by omega) h2.1 (fun k h3 h5 => ?_) h2.2
        obtain rfl : k = 1 := by omega
        exact Decidable.byContradiction fun q => h1 ⟨by omega, q⟩
      · by_cases h3 : 3 < n ∧ ¬ okk X lo hi 3
        · rw [if_neg (fun h => h3.2 (h.2.2.2 h3.1))] at ht
          rw [ht]
          refine char_bad b off len cap X n lo hi w hb hl hc h0 ho hn 3 (by omega) h3.1 (fun k h5 h6 => ?_) h3.2
          rcases (show k = 1 ∨ k = 2 by omega) with rfl | rfl
          · exact Decidable.byContradiction fun q => h1 ⟨by omega, q⟩
          · exact Decidable.byContradiction fun q => h2 ⟨by omega, q⟩
        · have k1 : 1 < n → okk X lo hi 1 := fun h => Decidable.byContradiction fun q => h1 ⟨h, q⟩
          have k2 : 2 < n → okk X lo hi 2 := fun h => Decidable.byContradiction fun q => h2 ⟨h, q⟩
          have k3 : 3 < n → okk X lo hi 3 := fun h => Decidable.byContradiction fun q => h3 ⟨h, q⟩
          rw [if_pos ⟨hn, k1, k2, k3⟩] at ht
          rw [ht]
          refine char_good b off len cap X n lo hi w hb hl hc h0 ho hn (fun k h5 h6 => ?_)
          rcases (show k = 1 ∨ k = 2 ∨ k = 3 by omega) with rfl | rfl | rfl
          · exact k1 h6
          · exact k2 h6
          · exact k3 h6
  · rw [if_neg (fun h => hn h.1)] at ht
    rw [ht]
    exact char_short b off len cap X n lo hi w hb hl hc h0 ho (by omega)

set_option maxHeartbeats 1000000 in
set_option maxRecDepth 100000 in
theorem ttext_any (ao : Option Addr) (len cap : Nat) (X : Nat → Nat) (w : World) (hb : Byt w ao len X) (hl : len ≤ cap) (hc : cap ≤ maxLen) :
    Calls Tryd.prog 21 #[.slice ao len cap] w fun e w' => e = .returned (.bool (text (ul X len))) ∧ w' = w := by
  obtain ⟨T, hT⟩ : ∃ T, T = text (ul X len) := ⟨_, rfl⟩
  rw [← hT]
  have H0 : Hid (Byt w ao len X ∧ len ≤ cap ∧ cap ≤ maxLen ∧ text (ul X len) = T) := ⟨hb, hl, hc, hT.symm⟩
  clear hb hl hc hT
  go_enter Tryd.func21, Tryd.ntmps21
  go_wp2_with fail
  go_loopg [0] len (fun g b wr => ∃ (ao2 : Option Addr) (len2 cap2 : Nat) (Y : Nat → Nat), len2 = g ∧ b = .slice ao2 len2 cap2 ∧ wr = w ∧ Hid (Byt w ao2 len2 Y ∧ len2 ≤ cap2 ∧ cap2 ≤ maxLen ∧ text (ul Y len2) = T))
  case atStart => exact ⟨ao, len, cap, X, rfl, rfl, rfl, H0.out⟩
  case round =>
    obtain ⟨ao2, len2, cap2, Y, hg, rfl, hw, HY⟩ := hrel
    obtain rfl := hw
    by_cases h : 0 < len2
    · have h' : (0 : Int) < (len2 : Int) := by omega
      obtain ⟨_, b, off, hao, _⟩ := HY.out.1 0 h
      subst hao
      have hs := char_any _ len2 cap2 Y wr HY.out.1 HY.out.2.1 HY.out.2.2.1 h
      have hne : ul Y len2 ≠ [] := fun e => by have := ul_length Y len2; rw [e] at this; simp at this; omega
      have ht := text_cons _ hne
      rw [HY.out.2.2.2] at ht
      have hle := tsz_le (ul Y len2)
      rw [ul_length] at hle
      obtain ⟨n, hn⟩ : ∃ n, n = tsz (ul Y len2) := ⟨_, rfl⟩
      rw [← hn] at hs ht hle
      by_cases hn0 : n = 0
      · subst hn0
        simp at ht
        subst ht
        clear hle hn hg h
        go_wp2_with (go_at_call 26; refine hs.mono ?_; rintro e wr ⟨rfl, rfl⟩)
        go_ret
        exact ⟨rfl, rfl⟩
      · have hn1 : (1 : Int) ≤ (n : Int) := by omega
        obtain ⟨r, rfl⟩ : ∃ r, len2 = n + r := ⟨len2 - n, by omega⟩
        obtain ⟨rc, rfl⟩ : ∃ rc, cap2 = n + rc := ⟨cap2 - n, by have := HY.out; omega⟩
        have hrr : (r : Int) ≤ (rc : Int) := by have := HY.out; omega
        obtain ⟨b4, off4, hif, hY4⟩ : ∃ b4 off4, (if rc = 0 then some (⟨b, off, none⟩ : Addr) else some ⟨b, off + n, none⟩) = some ⟨b4, off4, none⟩ ∧ Byt wr (some ⟨b4, off4, none⟩) r (fun k => Y (n + k)) := by
          by_cases q : rc = 0
          · exact ⟨b, off, by simp [q], fun k hk => absurd hk (by omega)⟩
          · exact ⟨b, off + n, by simp [q], HY.out.1.cut b off rfl (by omega)⟩
        rw [ul_drop] at ht
        have htt : text (ul (fun k => Y (n + k)) r) = T := by rw [ht]; simp [hn0]
        have h63 : n + r ≤ 2 ^ 63 - 1 := by have := HY.out; simp only [maxLen] at this; omega
        have hnr : (0 : Int) < (n : Int) + (r : Int) := by omega
        have hgk : r < gk ∧ True := ⟨by omega, trivial⟩
        have HG : Hid (r < gk) := hgk.1
        have H4 : Hid (Byt wr (some ⟨b4, off4, none⟩) r (fun k => Y (n + k)) ∧ r ≤ rc ∧ rc ≤ maxLen ∧ text (ul (fun k => Y (n + k)) r) = T) := ⟨hY4, by omega, by have := HY.out; omega, htt⟩
        have hn0' : ((n : Int) == 0) = false := by simp; omega
        clear hle hn hg h ht htt hgk hY4 hne h' HY
        go_wp2_with (go_at_call 26; refine hs.mono ?_; rintro e wr ⟨rfl, rfl⟩)
        go_roundg r
        case measure => exact HG.out
        case rel => exact ⟨some ⟨b4, off4, none⟩, r, rc, _, rfl, rfl, rfl, H4⟩
    · have h' : (len2 : Int) ≤ 0 := by omega
      have hl0 : len2 = 0 := by omega
      subst hl0
      have hTT : T = true := by have := HY.out.2.2.2; rw [← this]; rfl
      subst hTT
      clear h hg
      go_wp2_with fail
      go_ret
      exact ⟨rfl, rfl⟩
end Go.Proofs.YtlbbaniehkghdabDoor
