import Derived.Test.YtligofmcmjblpaaPk35
import Derived.Test.YtligofmcmjblpaaPk36
/- The landed disk: a disk that there isn't. -/
namespace Go.Proofs.Ytligofmcmjblpaa
open Go.RowKit
set_option linter.unusedVariables false
set_option linter.unusedSimpArgs false

theorem changing_nil (f : Nat) (cap : Array Value) (w : World) : Calls Try.prog 26 #[.pointer none, .func (.func f) #[] cap] w fun e w' => e = .returned (.int .i64 1) ∧ w' = w := by
  go_enter Try.func26, Try.ntmps26
  go_wp2_with fail
  go_ret
  exact ⟨rfl, rfl⟩
theorem makingSure_nil (f : Nat) (cap : Array Value) (w : World) : Calls Try.prog 48 #[.pointer none, .func (.func f) #[] cap] w fun e w' => e = .returned (.int .i64 1) ∧ Below w.heap.size w w' := by
  have k := fun f cap w => changing_nil f cap w
  go_enter Try.func48, Try.ntmps48
  go_wp2_with (go_at_call 26; refine (k _ _ _).mono ?_; rintro e w1 ⟨rfl, rfl⟩)
  go_ret
  refine ⟨rfl, ?_⟩
  repeat (first | exact Below.refl _ _ | refine Below.alloc ?_ (by simp) _)
theorem find_nil (s : ByteArray) (w : World) : Calls Try.prog 38 #[.pointer none, .string s] w fun e w' => e = .returned (.tuple #[.pointer none, .int .i64 1]) ∧ w' = w := by
  go_enter Try.func38, Try.ntmps38
  go_wp2_with fail
  go_ret2
  exact ⟨rfl, rfl⟩
theorem create_nil (s : ByteArray) (w : World) : Calls Try.prog 8 #[.pointer none, .string s] w fun e w' => e = .returned (.int .i64 1) ∧ Below w.heap.size w w' := by
  have k := fun f cap w => changing_nil f cap w
  go_enter Try.func8, Try.ntmps8
  go_wp2_with (go_at_call 26; refine (k _ _ _).mono ?_; rintro e w1 ⟨rfl, rfl⟩)
  go_ret
  refine ⟨rfl, ?_⟩
  repeat (first | exact Below.refl _ _ | refine Below.alloc ?_ (by simp) _)
theorem append_nil (s : ByteArray) (ao : Option Addr) (l c : Nat) (w : World) : Calls Try.prog 10 #[.pointer none, .string s, .slice ao l c] w fun e w' => e = .returned (.int .i64 1) ∧ Below w.heap.size w w' := by
  have k := fun f cap w => changing_nil f cap w
  go_enter Try.func10, Try.ntmps10
  go_wp2_with (go_at_call 26; refine (k _ _ _).mono ?_; rintro e w1 ⟨rfl, rfl⟩)
  go_ret
  refine ⟨rfl, ?_⟩
  repeat (first | exact Below.refl _ _ | refine Below.alloc ?_ (by simp; try omega) _)
theorem rename_nil (s t : ByteArray) (w : World) : Calls Try.prog 40 #[.pointer none, .string s, .string t] w fun e w' => e = .returned (.int .i64 1) ∧ Below w.heap.size w w' := by
  have k := fun f cap w => changing_nil f cap w
  go_enter Try.func40, Try.ntmps40
  go_wp2_with (go_at_call 26; refine (k _ _ _).mono ?_; rintro e w1 ⟨rfl, rfl⟩)
  go_ret
  refine ⟨rfl, ?_⟩
  repeat (first | exact Below.refl _ _ | refine Below.alloc ?_ (by simp; try omega) _)
theorem remove_nil (s : ByteArray) (w : World) : Calls Try.prog 41 #[.pointer none, .string s] w fun e w' => e = .returned (.int .i64 1) ∧ Below w.heap.size w w' := by
  have k := fun f cap w => changing_nil f cap w
  go_enter Try.func41, Try.ntmps41
  go_wp2_with (go_at_call 26; refine (k _ _ _).mono ?_; rintro e w1 ⟨rfl, rfl⟩)
  go_ret
  refine ⟨rfl, ?_⟩
  repeat (first | exact Below.refl _ _ | refine Below.alloc ?_ (by simp) _)
theorem sync_nil (s : ByteArray) (w : World) : Calls Try.prog 22 #[.pointer none, .string s] w fun e w' => e = .returned (.int .i64 1) ∧ Below w.heap.size w w' := by
  have k := fun f cap w => makingSure_nil f cap w
  obtain ⟨W, hW⟩ : ∃ W, W = (w.alloc (.cells #[.pointer none] 22)).alloc (.cells #[.string s] 9) := ⟨_, rfl⟩
  have HB : Hid (∀ w', Below ((w.alloc (.cells #[.pointer none] 22)).alloc (.cells #[.string s] 9)).heap.size ((w.alloc (.cells #[.pointer none] 22)).alloc (.cells #[.string s] 9)) w' → Below w.heap.size w w') := fun w' h => by
    have hb : Below w.heap.size w ((w.alloc (.cells #[.pointer none] 22)).alloc (.cells #[.string s] 9)) := ((Below.refl _ _).alloc (Nat.le_refl _) _).alloc (by simp) _
    exact hb.trans (h.mono hb.size)
  clear hW
  go_enter Try.func22, Try.ntmps22
  go_wp2_with (go_at_call 48; refine (k _ _ _).mono ?_; rintro e w1 ⟨rfl, hb⟩)
  go_ret
  exact ⟨rfl, HB.out _ hb⟩
theorem syncDir_nil (w : World) : Calls Try.prog 23 #[.pointer none] w fun e w' => e = .returned (.int .i64 1) ∧ Below w.heap.size w w' := by
  have k := fun f cap w => makingSure_nil f cap w
  have HB : Hid (∀ w', Below (w.alloc (.cells #[.pointer none] 22)).heap.size (w.alloc (.cells #[.pointer none] 22)) w' → Below w.heap.size w w') := fun w' h => by
    have hb : Below w.heap.size w (w.alloc (.cells #[.pointer none] 22)) := (Below.refl _ _).alloc (Nat.le_refl _) _
    exact hb.trans (h.mono hb.size)
  go_enter Try.func23, Try.ntmps23
  go_wp2_with (go_at_call 48; refine (k _ _ _).mono ?_; rintro e w1 ⟨rfl, hb⟩)
  go_ret
  exact ⟨rfl, HB.out _ hb⟩
theorem read_nil (s : ByteArray) (w : World) : Calls Try.prog 15 #[.pointer none, .string s] w fun e w' => ∃ ao c, e = .returned (.tuple #[.slice ao 0 c, .int .i64 1]) ∧ Below w.heap.size w w' := by
  have k := find_nil s w
  go_enter Try.func15, Try.ntmps15
  go_wp2_with (go_at_call 38; refine k.mono ?_; rintro e w1 ⟨rfl, rfl⟩)
  go_ret2
  exact ⟨_, _, rfl, Below.refl _ _⟩
theorem list_nil (w : World) : Calls Try.prog 17 #[.pointer none] w fun e w' => ∃ ao c, e = .returned (.slice ao 0 c) ∧ Below w.heap.size w w' := by
  go_enter Try.func17, Try.ntmps17
  go_wp2_with fail
  go_ret
  exact ⟨_, _, rfl, Below.refl _ _⟩
theorem used_nil (w : World) : Calls Try.prog 12 #[.pointer none] w fun e w' => e = .returned (.int .i64 0) ∧ Below w.heap.size w w' := by
  go_enter Try.func12, Try.ntmps12
  go_wp2_with fail
  go_ret
  exact ⟨rfl, Below.refl _ _⟩
theorem calls_nil (w : World) : Calls Try.prog 18 #[.pointer none] w fun e w' => e = .returned (.int .i64 0) ∧ Below w.heap.size w w' := by
  go_enter Try.func18, Try.ntmps18
  go_wp2_with fail
  go_ret
  exact ⟨rfl, Below.refl _ _⟩
theorem down_nil (w : World) : Calls Try.prog 19 #[.pointer none] w fun e w' => e = .returned (.bool false) ∧ Below w.heap.size w w' := by
  go_enter Try.func19, Try.ntmps19
  go_wp2_with fail
  go_ret
  exact ⟨rfl, Below.refl _ _⟩
theorem spoil_nil (s : ByteArray) (w : World) : Calls Try.prog 20 #[.pointer none, .string s, .int .i64 0, .int .u8 0] w fun e w' => e = .returned (.bool false) ∧ Below w.heap.size w w' := by
  have k := find_nil s w
  go_enter Try.func20, Try.ntmps20
  go_wp2_with (go_at_call 38; refine k.mono ?_; rintro e w1 ⟨rfl, rfl⟩)
  go_ret
  exact ⟨rfl, Below.refl _ _⟩
theorem copy_nil (w : World) : Calls Try.prog 21 #[.pointer none] w fun e w' => e = .returned (.pointer none) ∧ Below w.heap.size w w' := by
  go_enter Try.func21, Try.ntmps21
  go_wp2_with fail
  go_ret
  exact ⟨rfl, Below.refl _ _⟩
theorem theNil : PDN where
  create := create_nil
  append := append_nil
  sync := sync_nil
  rename := rename_nil
  remove := remove_nil
  syncDir := syncDir_nil
  read := read_nil
  list := list_nil
  used := used_nil
  calls := calls_nil
  down := down_nil
  spoil := spoil_nil
  copy := copy_nil
end Go.Proofs.Ytligofmcmjblpaa
