/- The document's own disk: what counts a call, what ends one. -/
import Derived.Test.YtligofmcmjblpaaGreatRep
namespace Go.Proofs.YtligofmcmjblpaaGreat
open Go.RowKit
set_option linter.unusedVariables false
set_option linter.unusedSimpArgs false

theorem Dk.set3 {w : World} {p : Nat} {room : Int} {lv wv : Value} {c : Cn} (h : Dk w p room lv wv c) (v : Int) : Dk (w.setCell ⟨p, 3, none⟩ (.int .i64 v)) p room lv wv { c with calls := v } := heap_set h 3 _
theorem Dk.set4 {w : World} {p : Nat} {room : Int} {lv wv : Value} {c : Cn} (h : Dk w p room lv wv c) (v : Int) : Dk (w.setCell ⟨p, 4, none⟩ (.int .i64 v)) p room lv wv { c with fuse := v } := heap_set h 4 _
theorem Dk.set5 {w : World} {p : Nat} {room : Int} {lv wv : Value} {c : Cn} (h : Dk w p room lv wv c) (v : Int) : Dk (w.setCell ⟨p, 5, none⟩ (.int .i64 v)) p room lv wv { c with wait := v } := heap_set h 5 _
theorem Dk.set6 {w : World} {p : Nat} {room : Int} {lv wv : Value} {c : Cn} (h : Dk w p room lv wv c) (v : Int) : Dk (w.setCell ⟨p, 6, none⟩ (.int .i64 v)) p room lv wv { c with fails := v } := heap_set h 6 _
theorem Dk.set7 {w : World} {p : Nat} {room : Int} {lv wv : Value} {c : Cn} (h : Dk w p room lv wv c) (v : Bool) : Dk (w.setCell ⟨p, 7, none⟩ (.bool v)) p room lv wv { c with off := v } := heap_set h 7 _
theorem Dk.set1 {w : World} {p : Nat} {room : Int} {lv wv : Value} {c : Cn} (h : Dk w p room lv wv c) (v : Value) : Dk (w.setCell ⟨p, 1, none⟩ v) p room v wv c := heap_set h 1 _
theorem Dk.set2 {w : World} {p : Nat} {room : Int} {lv wv : Value} {c : Cn} (h : Dk w p room lv wv c) (v : Value) : Dk (w.setCell ⟨p, 2, none⟩ v) p room lv v c := heap_set h 2 _

set_option maxHeartbeats 1000000 in
set_option maxRecDepth 100000 in
theorem rcall_any (p : Nat) (room : Int) (lv wv : Value) (c : Cn) (w : World) (h : Dk w p room lv wv c) (hc : c.Ok) :
    Calls Tryz.prog 68 #[ptr p] w fun e w' => e = .returned (.tuple #[.int .i64 c.ce, .bool c.cl]) ∧ Dk w' p room lv wv c.cc ∧ w.grownBy w' (some p) := by
  obtain ⟨calls, fuse, wait, fails, off⟩ := c
  obtain ⟨a1, a2, a3, a4, a5, a6, a7, a8⟩ := hc
  simp only at a1 a2 a3 a4 a5 a6 a7 a8
  have HD : Hid (Dk w p room lv wv ⟨calls, fuse, wait, fails, off⟩) := h
  have c3 := cell_of h 3
  have c4 := cell_of h 4
  have c5 := cell_of h 5
  have c6 := cell_of h 6
  have c7 := cell_of h 7
  have f3 := frozen_of h 3
  have f4 := frozen_of h 4
  have f5 := frozen_of h 5
  have f6 := frozen_of h 6
  have f7 := frozen_of h 7
  simp only [List.getElem?_toArray, List.getElem?_cons_succ, List.getElem?_cons_zero] at c3 c4 c5 c6 c7
  clear h
  unfold ptr
  cases off with
  | true =>
    go_enter Tryz.func68, Tryz.ntmps68
    go_wp2_with fail
    refine bodyPost_ret (v := .tuple #[.int .i64 10, .bool false]) (by simp [results, Tryz.results68, go_sem]) rfl ⟨rfl, HD.out.set3 _, grown_set _ _ _ _⟩
  | false =>
    have hf3 : fuse = 0 ∨ fuse = 1 ∨ 1 < fuse := by omega
    have hk3 : fails = 0 ∨ (0 < fails ∧ wait ≤ 1) ∨ (0 < fails ∧ 1 < wait) := by omega
    rcases hf3 with hf | hf | hf
    · rcases hk3 with hk | hk | hk
      · subst hf
        subst hk
        have q1 : Cn.ce ⟨calls, 0, wait, 0, false⟩ = 0 := by simp [Cn.ce, Cn.fl]
        have q2 : Cn.cl ⟨calls, 0, wait, 0, false⟩ = false := by simp [Cn.cl, Cn.fl]
        have q3 : Cn.cc ⟨calls, 0, wait, 0, false⟩ = ⟨calls + 1, 0, wait, 0, false⟩ := by simp [Cn.cc]
        rw [q1, q2, q3]
        clear q1 q2 q3
        go_enter Tryz.func68, Tryz.ntmps68
        go_wp2_with fail
        refine bodyPost_ret (v := .tuple #[.int .i64 0, .bool false]) (by simp [results, Tryz.results68, go_sem]) rfl ⟨rfl, (HD.out.set3 _), (grown_set _ _ _ _)⟩
      · subst hf
        obtain ⟨k1, k2⟩ := hk
        have q1 : Cn.ce ⟨calls, 0, wait, fails, false⟩ = 9 := by simp [Cn.ce, Cn.fl, k1, show ¬ 1 < wait by omega]
        have q2 : Cn.cl ⟨calls, 0, wait, fails, false⟩ = false := by simp [Cn.cl, Cn.fl, k1, show ¬ 1 < wait by omega]
        have q3 : Cn.cc ⟨calls, 0, wait, fails, false⟩ = ⟨calls + 1, 0, wait, fails - 1, false⟩ := by simp [Cn.cc, k1, show ¬ 1 < wait by omega]
        rw [q1, q2, q3]
        clear q1 q2 q3
        go_enter Tryz.func68, Tryz.ntmps68
        go_wp2_with fail
        refine bodyPost_ret (v := .tuple #[.int .i64 9, .bool false]) (by simp [results, Tryz.results68, go_sem]) rfl ⟨rfl, ((HD.out.set3 _).set6 _), (grown_trans (grown_set _ _ _ _) (grown_set _ _ _ _))⟩
      · subst hf
        obtain ⟨k1, k2⟩ := hk
        have q1 : Cn.ce ⟨calls, 0, wait, fails, false⟩ = 0 := by simp [Cn.ce, Cn.fl, k1, k2]
        have q2 : Cn.cl ⟨calls, 0, wait, fails, false⟩ = false := by simp [Cn.cl, Cn.fl, k1, k2]
        have q3 : Cn.cc ⟨calls, 0, wait, fails, false⟩ = ⟨calls + 1, 0, wait - 1, fails, false⟩ := by simp [Cn.cc, k1, k2]
        rw [q1, q2, q3]
        clear q1 q2 q3
        go_enter Tryz.func68, Tryz.ntmps68
        go_wp2_with fail
        refine bodyPost_ret (v := .tuple #[.int .i64 0, .bool false]) (by simp [results, Tryz.results68, go_sem]) rfl ⟨rfl, ((HD.out.set3 _).set5 _), (grown_trans (grown_set _ _ _ _) (grown_set _ _ _ _))⟩
    · rcases hk3 with hk | hk | hk
      · subst hf
        subst hk
        have q1 : Cn.ce ⟨calls, 1, wait, 0, false⟩ = 0 := by simp [Cn.ce, Cn.fl]
        have q2 : Cn.cl ⟨calls, 1, wait, 0, false⟩ = true := by simp [Cn.cl, Cn.fl]
        have q3 : Cn.cc ⟨calls, 1, wait, 0, false⟩ = ⟨calls + 1, 0, wait, 0, true⟩ := by simp [Cn.cc]
        rw [q1, q2, q3]
        clear q1 q2 q3
        go_enter Tryz.func68, Tryz.ntmps68
        go_wp2_with fail
        refine bodyPost_ret (v := .tuple #[.int .i64 0, .bool true]) (by simp [results, Tryz.results68, go_sem]) rfl ⟨rfl, (((HD.out.set3 _).set4 _).set7 _), (grown_trans (grown_trans (grown_set _ _ _ _) (grown_set _ _ _ _)) (grown_set _ _ _ _))⟩
      · subst hf
        obtain ⟨k1, k2⟩ := hk
        have q1 : Cn.ce ⟨calls, 1, wait, fails, false⟩ = 10 := by simp [Cn.ce, Cn.fl, k1, show ¬ 1 < wait by omega]
        have q2 : Cn.cl ⟨calls, 1, wait, fails, false⟩ = false := by simp [Cn.cl, Cn.fl, k1, show ¬ 1 < wait by omega]
        have q3 : Cn.cc ⟨calls, 1, wait, fails, false⟩ = ⟨calls + 1, 0, wait, fails - 1, true⟩ := by simp [Cn.cc, k1, show ¬ 1 < wait by omega]
        rw [q1, q2, q3]
        clear q1 q2 q3
        go_enter Tryz.func68, Tryz.ntmps68
        go_wp2_with fail
        refine bodyPost_ret (v := .tuple #[.int .i64 10, .bool false]) (by simp [results, Tryz.results68, go_sem]) rfl ⟨rfl, ((((HD.out.set3 _).set4 _).set6 _).set7 _), (grown_trans (grown_trans (grown_trans (grown_set _ _ _ _) (grown_set _ _ _ _)) (grown_set _ _ _ _)) (grown_set _ _ _ _))⟩
      · subst hf
        obtain ⟨k1, k2⟩ := hk
        have q1 : Cn.ce ⟨calls, 1, wait, fails, false⟩ = 0 := by simp [Cn.ce, Cn.fl, k1, k2]
        have q2 : Cn.cl ⟨calls, 1, wait, fails, false⟩ = true := by simp [Cn.cl, Cn.fl, k1, k2]
        have q3 : Cn.cc ⟨calls, 1, wait, fails, false⟩ = ⟨calls + 1, 0, wait - 1, fails, true⟩ := by simp [Cn.cc, k1, k2]
        rw [q1, q2, q3]
        clear q1 q2 q3
        go_enter Tryz.func68, Tryz.ntmps68
        go_wp2_with fail
        refine bodyPost_ret (v := .tuple #[.int .i64 0, .bool true]) (by simp [results, Tryz.results68, go_sem]) rfl ⟨rfl, ((((HD.out.set3 _).set4 _).set5 _).set7 _), (grown_trans (grown_trans (grown_trans (grown_set _ _ _ _) (grown_set _ _ _ _)) (grown_set _ _ _ _)) (grown_set _ _ _ _))⟩
    · rcases hk3 with hk | hk | hk
      · have e1 : (fuse == 1) = false := by simp; omega
        have e2 : (0 : Int) < fuse := by omega
        subst hk
        have q1 : Cn.ce ⟨calls, fuse, wait, 0, false⟩ = 0 := by simp [Cn.ce, Cn.fl, show ¬ fuse = 1 by omega, show (0 : Int) < fuse by omega]
        have q2 : Cn.cl ⟨calls, fuse, wait, 0, false⟩ = false := by simp [Cn.cl, Cn.fl, show ¬ fuse = 1 by omega, show (0 : Int) < fuse by omega]
        have q3 : Cn.cc ⟨calls, fuse, wait, 0, false⟩ = ⟨calls + 1, fuse - 1, wait, 0, false⟩ := by simp [Cn.cc, show ¬ fuse = 1 by omega, show (0 : Int) < fuse by omega]
        rw [q1, q2, q3]
        clear q1 q2 q3
        go_enter Tryz.func68, Tryz.ntmps68
        go_wp2_with fail
        refine bodyPost_ret (v := .tuple #[.int .i64 0, .bool false]) (by simp [results, Tryz.results68, go_sem]) rfl ⟨rfl, ((HD.out.set3 _).set4 _), (grown_trans (grown_set _ _ _ _) (grown_set _ _ _ _))⟩
      · have e1 : (fuse == 1) = false := by simp; omega
        have e2 : (0 : Int) < fuse := by omega
        obtain ⟨k1, k2⟩ := hk
        have q1 : Cn.ce ⟨calls, fuse, wait, fails, false⟩ = 9 := by simp [Cn.ce, Cn.fl, show ¬ fuse = 1 by omega, show (0 : Int) < fuse by omega, k1, show ¬ 1 < wait by omega]
        have q2 : Cn.cl ⟨calls, fuse, wait, fails, false⟩ = false := by simp [Cn.cl, Cn.fl, show ¬ fuse = 1 by omega, show (0 : Int) < fuse by omega, k1, show ¬ 1 < wait by omega]
        have q3 : Cn.cc ⟨calls, fuse, wait, fails, false⟩ = ⟨calls + 1, fuse - 1, wait, fails - 1, false⟩ := by simp [Cn.cc, show ¬ fuse = 1 by omega, show (0 : Int) < fuse by omega, k1, show ¬ 1 < wait by omega]
        rw [q1, q2, q3]
        clear q1 q2 q3
        go_enter Tryz.func68, Tryz.ntmps68
        go_wp2_with fail
        refine bodyPost_ret (v := .tuple #[.int .i64 9, .bool false]) (by simp [results, Tryz.results68, go_sem]) rfl ⟨rfl, (((HD.out.set3 _).set4 _).set6 _), (grown_trans (grown_trans (grown_set _ _ _ _) (grown_set _ _ _ _)) (grown_set _ _ _ _))⟩
      · have e1 : (fuse == 1) = false := by simp; omega
        have e2 : (0 : Int) < fuse := by omega
        obtain ⟨k1, k2⟩ := hk
        have q1 : Cn.ce ⟨calls, fuse, wait, fails, false⟩ = 0 := by simp [Cn.ce, Cn.fl, show ¬ fuse = 1 by omega, show (0 : Int) < fuse by omega, k1, k2]
        have q2 : Cn.cl ⟨calls, fuse, wait, fails, false⟩ = false := by simp [Cn.cl, Cn.fl, show ¬ fuse = 1 by omega, show (0 : Int) < fuse by omega, k1, k2]
        have q3 : Cn.cc ⟨calls, fuse, wait, fails, false⟩ = ⟨calls + 1, fuse - 1, wait - 1, fails, false⟩ := by simp [Cn.cc, show ¬ fuse = 1 by omega, show (0 : Int) < fuse by omega, k1, k2]
        rw [q1, q2, q3]
        clear q1 q2 q3
        go_enter Tryz.func68, Tryz.ntmps68
        go_wp2_with fail
        refine bodyPost_ret (v := .tuple #[.int .i64 0, .bool false]) (by simp [results, Tryz.results68, go_sem]) rfl ⟨rfl, (((HD.out.set3 _).set4 _).set5 _), (grown_trans (grown_trans (grown_set _ _ _ _) (grown_set _ _ _ _)) (grown_set _ _ _ _))⟩

theorem rend_any (e : Int) (l : Bool) (w : World) : Calls Tryz.prog 70 #[.int .i64 e, .bool l] w fun x w' => x = .returned (.int .i64 (endE e l)) ∧ w' = w := by
  cases l with
  | true =>
    go_enter Tryz.func70, Tryz.ntmps70
    go_wp2_with fail
    go_ret
    exact ⟨rfl, rfl⟩
  | false =>
    go_enter Tryz.func70, Tryz.ntmps70
    go_wp2_with fail
    go_ret
    exact ⟨rfl, rfl⟩
end Go.Proofs.YtligofmcmjblpaaGreat
