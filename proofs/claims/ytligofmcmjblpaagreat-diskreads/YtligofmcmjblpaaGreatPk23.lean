import Derived.Lib.OthersKept
import Derived.Lib.DecodeN
import Derived.Laws.RangeAny
import Derived.Laws.Runes
import Derived.Test.YtligofmcmjblpaaGreatPk02
import Derived.Test.YtligofmcmjblpaaGreatPk22
/- The program's look for signs: strings.ContainsAny at the two signs, whatever the text. -/
namespace Go.Proofs.YtligofmcmjblpaaGreat
open Go.RowKit
set_option linter.unusedVariables false
set_option linter.unusedSimpArgs false

/-- The two signs. -/
def sig : ByteArray := ⟨#[47, 0]⟩


theorem drop_bytesL (s : ByteArray) (k : Nat) (h : k < s.size) : s.data.toList.drop k = s[k] :: s.data.toList.drop (k + 1) := by
  have h' : k < s.data.toList.length := by rw [Array.length_toList]; exact h
  rw [List.drop_eq_getElem_cons h']
  rfl
theorem len_data (s : ByteArray) : s.data.toList.length = s.size := Array.length_toList
/-- What stands for no character is not among the signs. -/
theorem n0_any (w : World) (ty : TypeId) : (Instr.next (.pointer (some ⟨w.heap.size, 0, none⟩)) true ty).run Tryz.prog (w.iter ⟨#[47, 0]⟩ 0) = .ok (.tuple #[.bool true, .int .i64 0, .int .i32 47]) (w.iter ⟨#[47, 0]⟩ 1) :=
  run_next_ascii (P := Tryz.prog) w ⟨#[47, 0]⟩ 0 ty (by decide) (by decide)
theorem n1_any (w : World) (ty : TypeId) : (Instr.next (.pointer (some ⟨w.heap.size, 0, none⟩)) true ty).run Tryz.prog (w.iter ⟨#[47, 0]⟩ 1) = .ok (.tuple #[.bool true, .int .i64 1, .int .i32 0]) (w.iter ⟨#[47, 0]⟩ 2) :=
  run_next_ascii (P := Tryz.prog) w ⟨#[47, 0]⟩ 1 ty (by decide) (by decide)
theorem n2_any (w : World) (ty : TypeId) : (Instr.next (.pointer (some ⟨w.heap.size, 0, none⟩)) true ty).run Tryz.prog (w.iter ⟨#[47, 0]⟩ 2) = .ok (.tuple #[.bool false]) (w.iter ⟨#[47, 0]⟩ 2) :=
  run_next_end (P := Tryz.prog) w ⟨#[47, 0]⟩ 2 ty (by decide)

set_option maxHeartbeats 1000000 in
set_option maxRecDepth 1000000 in
theorem irune_err (w : World) : Calls Tryz.prog 92 #[.string ⟨#[47, 0]⟩, .int .i32 65533] w fun e w' => e = .returned (.int .i64 (-1)) ∧ Below w.heap.size w w' := by
  go_enter Tryz.func92, Tryz.ntmps92
  go_wp2_with fail
  go_loopg [5, 6] 2 (fun g _ _ wx => ∃ k : Nat, k + g = 2 ∧ wx = w.iter ⟨#[47, 0]⟩ k)
  case atStart => exact ⟨0, rfl, rfl⟩
  case round =>
    obtain ⟨k, hk, rfl⟩ := hrel
    rcases (show (k = 0 ∧ gk = 2) ∨ (k = 1 ∧ gk = 1) ∨ (k = 2 ∧ gk = 0) by omega) with ⟨rfl, rfl⟩ | ⟨rfl, rfl⟩ | ⟨rfl, rfl⟩
    · have n0 := n0_any w
      go_wp2_with fail
      go_roundg 1
      case measure => omega
      case rel => exact ⟨1, rfl, rfl⟩
    · have n1 := n1_any w
      go_wp2_with fail
      go_roundg 0
      case measure => omega
      case rel => exact ⟨2, rfl, rfl⟩
    · have n2 := n2_any w
      go_wp2_with fail
      go_ret
      exact ⟨rfl, (Below.refl _ _).alloc (Nat.le_refl _) _⟩

theorem valid_of (r : Nat) (hv : Lib.validRune (r : Int) = true) : Utf8.valid (r : Int) = true := by
  rw [Go.validRune_eq]
  exact hv

set_option maxHeartbeats 1000000 in
set_option maxRecDepth 1000000 in
theorem irune_inv (r : Nat) (w : World) (h1 : 128 ≤ r) (h2 : r ≤ 2147483647) (h3 : r ≠ 65533) (hv : Lib.validRune (r : Int) = false) : Calls Tryz.prog 92 #[.string ⟨#[47, 0]⟩, .int .i32 (r : Int)] w fun e w' => e = .returned (.int .i64 (-1)) ∧ Below w.heap.size w w' := by
  have hV := Tryz.utf8_ValidRune (r : Int) w
  rw [hv] at hV
  have c1 : ¬ (r : Int) < 128 := by omega
  have c2 : ((r : Int) == 65533) = false := by simp; omega
  go_enter Tryz.func92, Tryz.ntmps92
  go_wp2_with (go_at_call 100; refine hV.mono ?_; rintro e w' ⟨rfl, hw⟩; obtain rfl := hw.symm)
  go_ret
  exact ⟨rfl, Below.refl _ _⟩

set_option maxHeartbeats 2000000 in
set_option maxRecDepth 1000000 in
theorem irune_val (r : Nat) (w : World) (h1 : 128 ≤ r) (h2 : r ≤ 2147483647) (h3 : r ≠ 65533) (hv : Lib.validRune (r : Int) = true) : Calls Tryz.prog 92 #[.string ⟨#[47, 0]⟩, .int .i32 (r : Int)] w fun e w' => e = .returned (.int .i64 (-1)) ∧ Below w.heap.size w w' := by
  have hV := Tryz.utf8_ValidRune (r : Int) w
  rw [hv] at hV
  have c1 : ¬ (r : Int) < 128 := by omega
  have c2 : ((r : Int) == 65533) = false := by simp; omega
  obtain ⟨e2, e4, e8⟩ := encode_facts (r : Int) (valid_of r hv) (by omega)
  have hcv : ∀ w, (convert 21 9 (.int .i32 (r : Int))).run Tryz.prog w = .ok (.string (Utf8.encode (r : Int))) w := fun w => run_convert_int_string w 21 9 .i32 (r : Int) (by rw [Tryz.underlying21]; rfl) Tryz.underlying9
  generalize Utf8.encode (r : Int) = E at e2 e4 e8 hcv
  by_cases q : E.size = 2
  · have q' : (E.size : Int) = 2 := by omega
    have h1e : 1 < E.size := by omega
    have e8' : 128 ≤ (E[1]'h1e).toNat := by
      have := e8 (by omega)
      simpa [q] using this
    have hidx : ∀ w, (Instr.index 9 (.string E) (.int .i64 1)).run Tryz.prog w = .ok (.int .u8 ((E[1]'h1e).toNat : Int)) w := fun w => by
      simp [go_sem, h1e]
      rw [dif_pos (show (1 : Int) < (E.size : Int) by omega)]
    have hidx2 : ∀ w, (Instr.index 9 (.string ⟨#[47, 0]⟩) (.int .i64 1)).run Tryz.prog w = .ok (.int .u8 0) w := fun w => by
      simp [go_sem]
      rfl
    obtain ⟨c, hc⟩ : ∃ c : Nat, c = (E[1]'h1e).toNat := ⟨_, rfl⟩
    rw [← hc] at e8'
    simp only [← hc] at hidx
    have hcb : ((0 : Int) != (c : Int)) = true := by simp; omega
    have hsl : ∀ w, (Instr.slice 9 (.string ⟨#[47, 0]⟩) (some (.int .i64 2)) none none).run Tryz.prog w = .ok (.string ⟨#[]⟩) w := fun w => by
      simp [go_sem]
      rfl
    have hib := fun w => Tryz.strings_IndexByte ⟨#[]⟩ (c : Int) w
    have hib' : ∀ w, Calls Tryz.prog 99 #[.string ⟨#[]⟩, .int .u8 (c : Int)] w fun e w' => e = .returned (.int .i64 (-1)) ∧ w' = w := hib
    have hwr : IntKind.i64.wrap 2 = 2 := by decide
    clear hib e8 hc
    go_enter Tryz.func92, Tryz.ntmps92
    go_wp2_with (go_at_call 100; refine hV.mono ?_; rintro e w' ⟨rfl, hw⟩; obtain rfl := hw.symm)
    refine wp_scope_jumps 1 (fun _ _ => False) (fun _ _ => 0) rfl ?_ (fun _ _ h => h.elim)
    go_wp2_with fail
    go_loopg [9] 0 (fun _ i wr => i = .int .i64 1 ∧ wr = w)
    case atStart => exact ⟨by simp [q'], rfl⟩
    case round =>
      obtain ⟨rfl, hw⟩ := hrel
      obtain rfl := hw
      go_wp2_with fail
      refine wp_scope_jumps 0 (fun _ _ => False) (fun _ _ => 0) rfl ?_ (fun _ _ h => h.elim)
      go_wp2_with fail
      go_quiet (fail)
      go_wp2_with fail
      have hb2 : Below wr.heap.size wr (wr.drewN nq) := below_drewN (Below.refl _ _) _
      generalize wr.drewN nq = w2 at hb2 ⊢
      go_quiet (first | (go_at_call 99; exact Calls.quiet_of_same (hib' _)))
      go_wp2_with fail
      refine (show bodyPost Tryz.prog Tryz.f92 (fun e w' => e = .returned (.int .i64 (-1)) ∧ Below wr.heap.size wr w') Exit.ret _ _ from ?_)
      refine bodyPost_ret (v := .int .i64 (-1)) (by simp [results, Tryz.results92, go_sem]) rfl ⟨rfl, below_drewN hb2 _⟩
  · have q' : (3 : Int) ≤ (E.size : Int) := by omega
    clear e8
    go_enter Tryz.func92, Tryz.ntmps92
    go_wp2_with (go_at_call 100; refine hV.mono ?_; rintro e w' ⟨rfl, hw⟩; obtain rfl := hw.symm)
    refine wp_scope_jumps 1 (fun _ _ => False) (fun _ _ => 0) rfl ?_ (fun _ _ h => h.elim)
    go_wp2_with fail
    go_loopg [9] 0 (fun _ i wr => (∃ m : Int, i = .int .i64 m ∧ 2 ≤ m) ∧ wr = w)
    case atStart => exact ⟨⟨_, rfl, by omega⟩, rfl⟩
    case round =>
      obtain ⟨⟨m, rfl, hm⟩, hw⟩ := hrel
      obtain rfl := hw
      have hm' : ¬ m < 2 := by omega
      go_wp2_with fail
      simp only [Exit.jump, Exit.inBlock, Exit.then]
      refine bodyPost_ret (v := .int .i64 (-1)) (by simp [results, Tryz.results92, go_sem]) rfl ⟨rfl, Below.refl _ _⟩
theorem irune_high (r : Nat) (w : World) (h1 : 128 ≤ r) (h2 : r ≤ 2147483647) : Calls Tryz.prog 92 #[.string ⟨#[47, 0]⟩, .int .i32 (r : Int)] w fun e w' => e = .returned (.int .i64 (-1)) ∧ Below w.heap.size w w' := by
  by_cases q : r = 65533
  · subst q
    exact irune_err w
  · cases hv : Lib.validRune (r : Int) with
    | false => exact irune_inv r w h1 h2 q hv
    | true => exact irune_val r w h1 h2 q hv
end Go.Proofs.YtligofmcmjblpaaGreat

/- The program's look for signs: short texts, character by character; longer ones, byte by byte. -/
namespace Go.Proofs.YtligofmcmjblpaaGreat
open Go.RowKit
set_option linter.unusedVariables false
set_option linter.unusedSimpArgs false

theorem decodeN_high (n b0 b1 b2 b3 : Nat) (h : 128 ≤ b0) : (Lib.decodeN n b0 b1 b2 b3).2 = 1 ∨ ((Lib.decodeN n b0 b1 b2 b3).2 = 2 ∧ 1 < n ∧ 128 ≤ b1) ∨ ((Lib.decodeN n b0 b1 b2 b3).2 = 3 ∧ 2 < n ∧ 128 ≤ b1 ∧ 128 ≤ b2) ∨
    ((Lib.decodeN n b0 b1 b2 b3).2 = 4 ∧ 3 < n ∧ 128 ≤ b1 ∧ 128 ≤ b2 ∧ 128 ≤ b3) := by
  unfold Lib.decodeN
  rw [if_neg (by omega)]
  split
  · rename_i q
    split
    · exact .inr (.inl ⟨rfl, q.2.1, by omega⟩)
    · exact .inl rfl
  · split
    · rename_i q
      split
      · exact .inr (.inr (.inl ⟨rfl, q.2.2.1, by omega, by omega⟩))
      · exact .inl rfl
    · split
      · rename_i q
        split
        · exact .inr (.inr (.inr ⟨rfl, q.2.2.2.1, by omega, by omega, by omega⟩))
        · exact .inl rfl
      · exact .inl rfl
theorem get_bang (s : ByteArray) (i : Nat) (h : i < s.size) : s.get! i = s[i]'h := get_at s i h
/-- A character that is no single byte has no byte of ASCII. -/
theorem decode_wide (s : ByteArray) (pos : Nat) (h : pos < s.size) (ha : 128 ≤ (s[pos]'h).toNat) : pos + (Utf8.decode s pos).2 ≤ s.size ∧ ∀ j, j < (Utf8.decode s pos).2 → ∃ hj : pos + j < s.size, 128 ≤ (s[pos + j]'hj).toNat := by
  rw [Lib.decode_at s pos]
  have h0 : 128 ≤ (s.get! pos).toNat := by rw [get_bang s pos h]; exact ha
  rcases decodeN_high (s.size - pos) (s.get! pos).toNat (s.get! (pos + 1)).toNat (s.get! (pos + 2)).toNat (s.get! (pos + 3)).toNat h0 with e | ⟨e, q1, b1⟩ | ⟨e, q1, b1, b2⟩ | ⟨e, q1, b1, b2, b3⟩
  all_goals rw [e]
  · refine ⟨by omega, fun j hj => ?_⟩
    obtain rfl : j = 0 := by omega
    exact ⟨h, ha⟩
  · rw [get_bang s (pos + 1) (by omega)] at b1
    refine ⟨by omega, fun j hj => ?_⟩
    rcases (show j = 0 ∨ j = 1 by omega) with rfl | rfl
    · exact ⟨h, ha⟩
    · exact ⟨by omega, b1⟩
  · rw [get_bang s (pos + 1) (by omega)] at b1
    rw [get_bang s (pos + 2) (by omega)] at b2
    refine ⟨by omega, fun j hj => ?_⟩
    rcases (show j = 0 ∨ j = 1 ∨ j = 2 by omega) with rfl | rfl | rfl
    · exact ⟨h, ha⟩
    · exact ⟨by omega, b1⟩
    · exact ⟨by omega, b2⟩
  · rw [get_bang s (pos + 1) (by omega)] at b1
    rw [get_bang s (pos + 2) (by omega)] at b2
    rw [get_bang s (pos + 3) (by omega)] at b3
    refine ⟨by omega, fun j hj => ?_⟩
    rcases (show j = 0 ∨ j = 1 ∨ j = 2 ∨ j = 3 by omega) with rfl | rfl | rfl | rfl
    · exact ⟨h, ha⟩
    · exact ⟨by omega, b1⟩
    · exact ⟨by omega, b2⟩
    · exact ⟨by omega, b3⟩
theorem sgn_one (s : ByteArray) (pos : Nat) (h : pos < s.size) : badc (s.data.toList.drop pos) = ((s[pos] == 47 || s[pos] == 0) || badc (s.data.toList.drop (pos + 1))) := by
  rw [drop_bytesL s pos h]
  rfl
theorem sgn_skip (s : ByteArray) : ∀ m pos, (∀ j, j < m → ∃ hj : pos + j < s.size, 128 ≤ (s[pos + j]'hj).toNat) → badc (s.data.toList.drop pos) = badc (s.data.toList.drop (pos + m))
  | 0, pos, _ => rfl
  | m + 1, pos, hh => by
    obtain ⟨h0, b0⟩ := hh 0 (by omega)
    have h0' : pos < s.size := h0
    have b0' : 128 ≤ (s[pos]'h0').toNat := b0
    rw [sgn_one s pos h0']
    have e43 : ((s[pos]'h0') == 47) = false := by
      rw [beq_eq_false_iff_ne]
      intro e
      rw [e] at b0'
      simp at b0'
    have e35 : ((s[pos]'h0') == 0) = false := by
      rw [beq_eq_false_iff_ne]
      intro e
      rw [e] at b0'
      simp at b0'
    rw [e43, e35]
    have := sgn_skip s m (pos + 1) (fun j hj => by
      obtain ⟨h1, b1⟩ := hh (j + 1) (by omega)
      have e : pos + 1 + j = pos + (j + 1) := by omega
      refine ⟨by omega, ?_⟩
      simp only [e]
      exact b1)
    simp only [Bool.or_self, Bool.false_or]
    rw [this, show pos + 1 + m = pos + (m + 1) by omega]

theorem cont_sig (b : UInt8) : [(47 : UInt8), 0].contains b = (b == 47 || b == 0) := by
  rw [List.contains_cons, List.contains_cons, List.contains_nil, Bool.or_false]
theorem infoAscii : (Tryz.prog.info? 121).map (fun i => (i.zero, i.size)) = some (some (.agg (Array.replicate 256 (.bool false))), 256) := by kernel_rfl

theorem below_iter {w wx : World} (s : ByteArray) (pos : Nat) (hb : Below w.heap.size w wx) : Below w.heap.size w (wx.iterAt w.heap.size s pos) :=
  ⟨hb.os, hb.tape, hb.output, by simp only [World.iterAt, Array.size_setIfInBounds]; exact hb.size, fun k hk => by
    simp only [World.iterAt]
    rw [Array.getElem?_setIfInBounds_ne (by omega)]
    exact hb.block k hk⟩

/-- The place of the iterator, and what it holds. -/
def At (s : ByteArray) (w wx : World) (pos : Nat) (T : Bool) : Prop := wx.heap[w.heap.size]? = some (.stringIter s pos) ∧ Below w.heap.size w wx ∧ pos ≤ s.size ∧ badc (s.data.toList.drop pos) = T

set_option maxHeartbeats 2000000 in
set_option maxRecDepth 1000000 in
theorem iany_short (s : ByteArray) (w : World) (h8 : s.size ≤ 8) : Calls Tryz.prog 87 #[.string s, .string ⟨#[47, 0]⟩] w fun e w' => ∃ k : Int, e = .returned (.int .i64 k) ∧ decide (0 ≤ k) = badc s.data.toList ∧ Below w.heap.size w w' := by
  have hsh := fun w => Tryz.strings_shouldUseASCIISet (s.size : Int) w
  have h8z : decide ((8 : Int) < (s.size : Int)) = false := decide_eq_false (by omega)
  simp only [h8z] at hsh
  obtain ⟨T, hT⟩ : ∃ T, T = badc s.data.toList := ⟨_, rfl⟩
  rw [← hT]
  have H0 : Hid (At s w (w.iter s 0) 0 T) := ⟨World.iter_heap w s 0, (Below.refl _ _).alloc (Nat.le_refl _) _, Nat.zero_le _, by rw [hT]; rfl⟩
  clear hT h8z
  go_enter Tryz.func87, Tryz.ntmps87
  go_wp2_with (go_at_call 93; refine (hsh _).mono ?_; rintro e w' ⟨rfl, hw⟩; obtain rfl := hw.symm)
  go_loopg [9, 10] s.size (fun g _ _ wx => ∃ pos : Nat, pos + g = s.size ∧ Hid (At s w wx pos T))
  case atStart => exact ⟨0, by omega, H0⟩
  case round =>
    obtain ⟨pos, hg, HA⟩ := hrel
    obtain ⟨a1, a2, a3, a4⟩ := HA.out
    by_cases h : pos < s.size
    · have hnx := fun ty => Lib.run_next_any_at (P := Tryz.prog) wr w.heap.size s pos ty a1 h
      by_cases ha : (s[pos]'h).toNat < 128
      · rw [decode_ascii s pos h ha] at hnx
        have h1 := sgn_one s pos h
        obtain ⟨x, hx⟩ : ∃ x, x = s[pos]'h := ⟨_, rfl⟩
        rw [← hx] at h1 ha hnx
        have hir := fun w => Tryz.strings_IndexRune_ascii ⟨#[47, 0]⟩ (x.toNat : Int) w (by omega) (by omega)
        have hxx : ((x.toNat : Int)).toNat.toUInt8 = x := by simp
        rw [hxx] at hir
        have hib : decide (0 ≤ Lib.indexByte [47, 0] x) = (x == 47 || x == 0) := by
          rw [← Lib.contains_iff_indexByte, cont_sig]
        have hir' : ∀ w, Calls Tryz.prog 92 #[.string ⟨#[47, 0]⟩, .int .i32 (x.toNat : Int)] w fun e w' => e = .returned (.int .i64 (Lib.indexByte [47, 0] x)) ∧ w' = w := hir
        generalize Lib.indexByte [47, 0] x = k at hir' hib
        rw [a4, ← hib] at h1
        obtain ⟨wn, hwn⟩ : ∃ wn, wn = wr.iterAt w.heap.size s (pos + 1) := ⟨_, rfl⟩
        simp only [← hwn] at hnx
        have hbn : Below w.heap.size w wn := by rw [hwn]; exact below_iter s _ a2
        have hhn : wn.heap[w.heap.size]? = some (.stringIter s (pos + 1)) := by rw [hwn]; exact Lib.iterAt_heap wr _ s pos _ a1
        by_cases q : 0 ≤ k
        · have hTT : T = true := by rw [h1]; simp [q]
          subst hTT
          clear hir hib hg hwn h1 ha HA hx hxx a1 a2 a3 a4 hhn
          go_wp2_with (go_at_call 92; refine (hir' _).mono ?_; rintro e w' ⟨rfl, hw⟩; obtain rfl := hw.symm)
          go_ret
          exact ⟨_, rfl, by simp, hbn⟩
        · have HN : Hid (At s w wn (pos + 1) T) := ⟨hhn, hbn, by omega, by rw [h1]; simp [q]⟩
          obtain ⟨GK, HG⟩ : ∃ g, Hid (g < gk ∧ pos + 1 + g = s.size) := ⟨gk - 1, by omega, by omega⟩
          clear hir hib hg hwn h1 ha HA hx hxx a1 a2 a3 a4 hhn hbn
          go_wp2_with (go_at_call 92; refine (hir' _).mono ?_; rintro e w' ⟨rfl, hw⟩; obtain rfl := hw.symm)
          go_roundg GK
          case measure => exact HG.out.1
          case rel => exact ⟨pos + 1, HG.out.2, HN⟩
      · obtain ⟨hw1, hw2⟩ := decode_wide s pos h (by omega)
        obtain ⟨hr1, hm1⟩ := decode_high s pos h (by omega)
        have hr2 := decode_le s pos
        have hsk := sgn_skip s _ pos hw2
        obtain ⟨r, hr⟩ : ∃ r, r = (Utf8.decode s pos).1 := ⟨_, rfl⟩
        obtain ⟨m, hm⟩ : ∃ m, m = (Utf8.decode s pos).2 := ⟨_, rfl⟩
        rw [← hr] at hr1 hr2
        simp only [← hr, ← hm] at hnx
        rw [← hm] at hw1 hm1 hsk
        have hir := fun w => irune_high r w hr1 hr2
        obtain ⟨wn, hwn⟩ : ∃ wn, wn = wr.iterAt w.heap.size s (pos + m) := ⟨_, rfl⟩
        simp only [← hwn] at hnx
        have hbn : Below w.heap.size w wn := by rw [hwn]; exact below_iter s _ a2
        have hhn : wn.heap[w.heap.size]? = some (.stringIter s (pos + m)) := by rw [hwn]; exact Lib.iterAt_heap wr _ s pos _ a1
        have HN : Hid (∀ w2, Below wn.heap.size wn w2 → At s w w2 (pos + m) T) := fun w2 hb2 => ⟨by rw [hb2.block _ (Array.getElem?_eq_some_iff.1 hhn).1]; exact hhn, hbn.trans (hb2.mono hbn.size), hw1, by rw [← hsk]; exact a4⟩
        obtain ⟨GK, HG⟩ : ∃ g, Hid (g < gk ∧ pos + m + g = s.size) := ⟨s.size - (pos + m), by omega, by omega⟩
        clear hwn ha HA hr hm a1 a2 a3 a4 hhn hbn hw1 hw2 hm1 hsk hg
        go_wp2_with (go_at_call 92; refine (hir _).mono ?_; rintro e w' ⟨rfl, hb2⟩)
        go_roundg GK
        case measure => exact HG.out.1
        case rel => exact ⟨pos + m, HG.out.2, HN.out _ hb2⟩
    · have hnx := fun ty => Lib.run_next_end_at (P := Tryz.prog) wr w.heap.size s pos ty a1 h
      have hTT : T = false := by
        rw [← a4, List.drop_eq_nil_of_le (by rw [len_data]; omega)]
        rfl
      subst hTT
      clear HA a1 a3 a4 hg h
      go_wp2_with fail
      go_ret
      exact ⟨_, rfl, by simp, a2⟩

theorem sgn_any : ∀ l : List UInt8, decide (0 ≤ Lib.indexAny l [47, 0]) = badc l
  | [] => rfl
  | b :: l => by
    have ih := sgn_any l
    have hge := Lib.indexAny_ge [47, 0] l
    have hb := cont_sig b
    simp only [Lib.indexAny, hb]
    show _ = ((b == 47 || b == 0) || badc l)
    rw [← ih]
    cases (b == 47 || b == 0)
    · simp only [Bool.false_eq_true, if_false, Bool.false_or]
      by_cases q : Lib.indexAny l [47, 0] = -1
      · simp [q]
      · rw [if_neg (by simpa using q)]
        exact decide_eq_decide.2 (by omega)
    · simp
theorem iany_any (s : ByteArray) (w : World) (hs : s.size < 4294967281) : Calls Tryz.prog 87 #[.string s, .string ⟨#[47, 0]⟩] w fun e w' => ∃ k : Int, e = .returned (.int .i64 k) ∧ decide (0 ≤ k) = badc s.data.toList ∧ Below w.heap.size w w' := by
  by_cases h8 : s.size ≤ 8
  · exact iany_short s w h8
  · refine (Tryz.strings_IndexAny_long (zero_of_info infoAscii).1 s ⟨#[47, 0]⟩ w (by decide) (by omega) hs (by decide) (fun j b hb => ?_)).mono ?_
    · have hm : b ∈ [(47 : UInt8), 0] := List.mem_of_getElem? hb
      simp at hm
      rcases hm with rfl | rfl <;> decide
    · rintro e w' ⟨rfl, rfl⟩
      exact ⟨_, rfl, sgn_any _, ((Below.refl _ _).alloc (Nat.le_refl _) _).alloc (by simp) _⟩
theorem cany_any (s : ByteArray) (w : World) (hs : s.size < 4294967281) : Calls Tryz.prog 78 #[.string s, .string ⟨#[47, 0]⟩] w fun e w' => e = .returned (.bool (badc s.data.toList)) ∧ Below w.heap.size w w' := by
  have h := iany_any s w hs
  generalize badc s.data.toList = T at h ⊢
  go_enter Tryz.func78, Tryz.ntmps78
  go_wp2_with (go_at_call 87; refine h.mono ?_; rintro e w' ⟨k, rfl, hk, hb⟩)
  go_ret
  exact ⟨rfl, hb⟩
end Go.Proofs.YtligofmcmjblpaaGreat
