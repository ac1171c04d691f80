/- The program's look for signs: strings.ContainsAny at the two signs, whatever the text. -/
import Derived.Test.YtligofmcmjblpaaGreatRep
import Derived.Test.YtligofmcmjblpaaGreatShelf
import Derived.Lib.OthersKept
import Derived.Lib.DecodeN
import Derived.Laws.RangeAny
import Derived.Laws.Runes
namespace Go.Proofs.YtligofmcmjblpaaGreat
open Go.RowKit
set_option linter.unusedVariables false
set_option linter.unusedSimpArgs false

/-- The two signs. -/
def sig : ByteArray := ⟨#[47, 0]⟩


theorem drop_bytesL (s : ByteArray) (k : Nat) (h : k < s.size) : s.data.toList.drop k = s[k] :: s.data.toList.drop (k + 1) := by
  have h' : k < s.data.toList.length := by rw [Array.length_toList]; exact h
  rw [List.drop_eq_getElem_cons h']
  rfl
theorem len_data (s : ByteArray) : s.data.toList.length = s.size := Array.length_toList
/-- What stands for no character is not among the signs. -/
theorem n0_any (w : World) (ty : TypeId) : (Instr.next (.pointer (some ⟨w.heap.size, 0, none⟩)) true ty).run Tryz.prog (w.iter ⟨#[47, 0]⟩ 0) = .ok (.tuple #[.bool true, .int .i64 0, .int .i32 47]) (w.iter ⟨#[47, 0]⟩ 1) :=
  run_next_ascii (P := Tryz.prog) w ⟨#[47, 0]⟩ 0 ty (by decide) (by decide)
theorem n1_any (w : World) (ty : TypeId) : (Instr.next (.pointer (some ⟨w.heap.size, 0, none⟩)) true ty).run Tryz.prog (w.iter ⟨#[47, 0]⟩ 1) = .ok (.tuple #[.bool true, .int .i64 1, .int .i32 0]) (w.iter ⟨#[47, 0]⟩ 2) :=
  run_next_ascii (P := Tryz.prog) w ⟨#[47, 0]⟩ 1 ty (by decide) (by decide)
theorem n2_any (w : World) (ty : TypeId) : (Instr.next (.pointer (some ⟨w.heap.size, 0, none⟩)) true ty).run Tryz.prog (w.iter ⟨#[47, 0]⟩ 2) = .ok (.tuple #[.bool false]) (w.iter ⟨#[47, 0]⟩ 2) :=
  run_next_end (P := Tryz.prog) w ⟨#[47, 0]⟩ 2 ty (by decide)

set_option maxHeartbeats 1000000 in
set_option maxRecDepth 1000000 in
theorem irune_err (w : World) : Calls Tryz.prog 92 #[.string ⟨#[47, 0]⟩, .int .i32 65533] w fun e w' => e = .returned (.int .i64 (-1)) ∧ Below w.heap.size w w' := by
  go_enter Tryz.func92, Tryz.ntmps92
  go_wp2_with fail
  go_loopg [5, 6] 2 (fun g _ _ wx => ∃ k : Nat, k + g = 2 ∧ wx = w.iter ⟨#[47, 0]⟩ k)
  case atStart => exact ⟨0, rfl, rfl⟩
  case round =>
    obtain ⟨k, hk, rfl⟩ := hrel
    rcases (show (k = 0 ∧ gk = 2) ∨ (k = 1 ∧ gk = 1) ∨ (k = 2 ∧ gk = 0) by omega) with ⟨rfl, rfl⟩ | ⟨rfl, rfl⟩ | ⟨rfl, rfl⟩
    · have n0 := n0_any w
      go_wp2_with fail
      go_roundg 1
      case measure => omega
      case rel => exact ⟨1, rfl, rfl⟩
    · have n1 := n1_any w
      go_wp2_with fail
      go_roundg 0
      case measure => omega
      case rel => exact ⟨2, rfl, rfl⟩
    · have n2 := n2_any w
      go_wp2_with fail
      go_ret
      exact ⟨rfl, (Below.refl _ _).alloc (Nat.le_refl _) _⟩

theorem valid_of (r : Nat) (hv : Lib.validRune (r : Int) = true) : Utf8.valid (r : Int) = true := by
  rw [Go.validRune_eq]
  exact hv

set_option maxHeartbeats 1000000 in
set_option maxRecDepth 1000000 in
theorem irune_inv (r : Nat) (w : World) (h1 : 128 ≤ r) (h2 : r ≤ 2147483647) (h3 : r ≠ 65533) (hv : Lib.validRune (r : Int) = false) : Calls Tryz.prog 92 #[.string ⟨#[47, 0]⟩, .int .i32 (r : Int)] w fun e w' => e = .returned (.int .i64 (-1)) ∧ Below w.heap.size w w' := by
  have hV := Tryz.utf8_ValidRune (r : Int) w
  rw [hv] at hV
  have c1 : ¬ (r : Int) < 128 := by omega
  have c2 : ((r : Int) == 65533) = false := by simp; omega
  go_enter Tryz.func92, Tryz.ntmps92
  go_wp2_with (go_at_call 100; refine hV.mono ?_; rintro e w' ⟨rfl, hw⟩; obtain rfl := hw.symm)
  go_ret
  exact ⟨rfl, Below.refl _ _⟩

set_option maxHeartbeats 2000000 in
set_option maxRecDepth 1000000 in
theorem irune_val (r : Nat) (w : World) (h1 : 128 ≤ r) (h2 : r ≤ 2147483647) (h3 : r ≠ 65533) (hv : Lib.validRune (r : Int) = true) : Calls Tryz.prog 92 #[.string ⟨#[47, 0]⟩, .int .i32 (r : Int)] w fun e w' => e = .returned (.int .i64 (-1)) ∧ Below w.heap.size w w' := by
  have hV := Tryz.utf8_ValidRune (r : Int) w
  rw [hv] at hV
  have c1 : ¬ (r : Int) < 128 := by omega
  have c2 : ((r : Int) == 65533) = false := by simp; omega
  obtain ⟨e2, e4, e8⟩ := encode_facts (r : Int) (valid_of r hv) (by omega)
  have hcv : ∀ w, (convert 21 9 (.int .i32 (r : Int))).run Tryz.prog w = .ok (.string (Utf8.encode (r : Int))) w := fun w => run_convert_int_string w 21 9 .i32 (r : Int) (by rw [Tryz.underlying21]; rfl) Tryz.underlying9
  generalize Utf8.encode (r : Int) = E at e2 e4 e8 hcv
  by_cases q : E.size = 2
  · have q' : (E.size : Int) = 2 := by omega
    have h1e : 1 < E.size := by omega
    have e8' : 128 ≤ (E[1]'h1e).toNat := by
      have := e8 (by omega)
      simpa [q] using this
    have hidx : ∀ w, (Instr.index 9 (.string E) (.int .i64 1)).run Tryz.prog w = .ok (.int .u8 ((E[1]'h1e).toNat : Int)) w := fun w => by
      simp [go_sem, h1e]
      rw [dif_pos (show (1 : Int) < (E.size : Int) by omega)]
    have hidx2 : ∀ w, (Instr.index 9 (.string ⟨#[47, 0]⟩) (.int .i64 1)).run Tryz.prog w = .ok (.int .u8 0) w := fun w => by
      simp [go_sem]
      rfl
    obtain ⟨c, hc⟩ : ∃ c : Nat, c = (E[1]'h1e).toNat := ⟨_, rfl⟩
    rw [← hc] at e8'
    simp only [← hc] at hidx
    have hcb : ((0 : Int) != (c : Int)) = true := by simp; omega
    have hsl : ∀ w, (Instr.slice 9 (.string ⟨#[47, 0]⟩) (some (.int .i64 2)) none none).run Tryz.prog w = .ok (.string ⟨#[]⟩) w := fun w => by
      simp [go_sem]
      rfl
    have hib := fun w => Tryz.strings_IndexByte ⟨#[]⟩ (c : Int) w
    have hib' : ∀ w, Calls Tryz.prog 99 #[.string ⟨#[]⟩, .int .u8 (c : Int)] w fun e w' => e = .returned (.int .i64 (-1)) ∧ w' = w := hib
    have hwr : IntKind.i64.wrap 2 = 2 := by decide
    clear hib e8 hc
    go_enter Tryz.func92, Tryz.ntmps92
    go_wp2_with (go_at_call 100; refine hV.mono ?_; rintro e w' ⟨rfl, hw⟩; obtain rfl := hw.symm)
    refine wp_scope_jumps 1 (fun _ _ => False) (fun _ _ => 0) rfl ?_ (fun _ _ h => h.elim)
    go_wp2_with fail
    go_loopg [9] 0 (fun _ i wr => i = .int .i64 1 ∧ wr = w)
    case atStart => exact ⟨by simp [q'], rfl⟩
    case round =>
      obtain ⟨rfl, hw⟩ := hrel
      obtain rfl := hw
      go_wp2_with fail
      refine wp_scope_jumps 0 (fun _ _ => False) (fun _ _ => 0) rfl ?_ (fun _ _ h => h.elim)
      go_wp2_with fail
      go_quiet (fail)
      go_wp2_with fail
      have hb2 : Below wr.heap.size wr (wr.drewN nq) := below_drewN (Below.refl _ _) _
      generalize wr.drewN nq = w2 at hb2 ⊢
      go_quiet (first | (go_at_call 99; exact Calls.quiet_of_same (hib' _)))
      go_wp2_with fail
      refine (show bodyPost Tryz.prog Tryz.f92 (fun e w' => e = .returned (.int .i64 (-1)) ∧ Below wr.heap.size wr w') Exit.ret _ _ from ?_)
      refine bodyPost_ret (v := .int .i64 (-1)) (by simp [results, Tryz.results92, go_sem]) rfl ⟨rfl, below_drewN hb2 _⟩
  · have q' : (3 : Int) ≤ (E.size : Int) := by omega
    clear e8
    go_enter Tryz.func92, Tryz.ntmps92
    go_wp2_with (go_at_call 100; refine hV.mono ?_; rintro e w' ⟨rfl, hw⟩; obtain rfl := hw.symm)
    refine wp_scope_jumps 1 (fun _ _ => False) (fun _ _ => 0) rfl ?_ (fun _ _ h => h.elim)
    go_wp2_with fail
    go_loopg [9] 0 (fun _ i wr => (∃ m : Int, i = .int .i64 m ∧ 2 ≤ m) ∧ wr = w)
    case atStart => exact ⟨⟨_, rfl, by omega⟩, rfl⟩
    case round =>
      obtain ⟨⟨m, rfl, hm⟩, hw⟩ := hrel
      obtain rfl := hw
      have hm' : ¬ m < 2 := by omega
      go_wp2_with fail
      simp only [Exit.jump, Exit.inBlock, Exit.then]
      refine bodyPost_ret (v := .int .i64 (-1)) (by simp [results, Tryz.results92, go_sem]) rfl ⟨rfl, Below.refl _ _⟩
theorem irune_high (r : Nat) (w : World) (h1 : 128 ≤ r) (h2 : r ≤ 2147483647) : Calls Tryz.prog 92 #[.string ⟨#[47, 0]⟩, .int .i32 (r : Int)] w fun e w' => e = .returned (.int .i64 (-1)) ∧ Below w.heap.size w w' := by
  by_cases q : r = 65533
  · subst q
    exact irune_err w
  · cases hv : Lib.validRune (r : Int) with
    | false => exact irune_inv r w h1 h2 q hv
    | true => exact irune_val r w h1 h2 q hv
end Go.Proofs.YtligofmcmjblpaaGreat
