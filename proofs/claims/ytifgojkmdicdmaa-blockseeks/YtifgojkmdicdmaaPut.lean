/- What Len, appendSevens, fresh and Put make, and the document's own Put and Len. -/
import Derived.Test.YtifgojkmdicdmaaTake
namespace Go.Proofs.Ytifgojkmdicdmaa
open Go.RowKit

theorem grow_trans {w w1 w2 : World} {v v' : Value} (h : w.grownBy w1 v.ownBlock) (hm : Moved w v v') (h2 : w1.grownBy w2 v'.ownBlock) : w.grownBy w2 v.ownBlock := by
  refine ⟨h2.os.trans h.os, h2.tape.trans h.tape, h2.output.trans h.output, Nat.le_trans h.size h2.size, fun k hk hne => ?_⟩
  refine (h2.block k (Nat.lt_of_lt_of_le hk h.size) ?_).trans (h.block k hk hne)
  rcases hm with e | ⟨g, e, hg⟩
  · rw [e]; exact hne
  · rw [e]; intro e'; cases e'; omega
theorem Moved.refl (w : World) (v : Value) : Moved w v v := .inl rfl
theorem Moved.trans {w w1 : World} {v v' v'' : Value} (h : Moved w v v') (h2 : Moved w1 v' v'') (hs : w.heap.size ≤ w1.heap.size) : Moved w v v'' := by
  rcases h2 with e | ⟨g, e, hg⟩
  · rcases h with e1 | ⟨g, e1, hg⟩
    · exact .inl (e.trans e1)
    · exact .inr ⟨g, e.trans e1, hg⟩
  · exact .inr ⟨g, e, by omega⟩
theorem grow_refl (w : World) (r : Option Nat) : w.grownBy w r := ⟨rfl, rfl, rfl, Nat.le_refl _, fun _ _ _ => rfl⟩

theorem app_step {w wr w1 : World} {o : Obj} {v u v1 : Value} (hgr : w.grownBy wr v.ownBlock) (hmv : Moved w v u) (hg1 : (wr.alloc o).grownBy w1 u.ownBlock) (hm1 : Moved (wr.alloc o) u v1) :
    w.grownBy w1 v.ownBlock ∧ Moved w v v1 := by
  have h1 : wr.grownBy w1 u.ownBlock := grow_trans (World.grownBy_alloc wr o _) (Moved.refl _ _) hg1
  refine ⟨grow_trans hgr hmv h1, hmv.trans hm1 ?_⟩
  have := hgr.size
  simp
  omega

set_option maxHeartbeats 1000000 in
set_option maxRecDepth 100000 in
theorem sevs_any (B : Nat) (v : Value) (xs : List Int) (n : Nat) (w : World) (hrow : Row B w v xs) (hB : B ≤ w.heap.size) (hb : xs.length + (uv n).length ≤ 140737488355328) (hn : n < 18446744073709551616) :
    Calls Try.prog 62 #[v, .int .u64 (n : Int)] w fun e w' => ∃ v', e = .returned v' ∧ Row B w' v' (xs ++ uv n) ∧ w.grownBy w' v.ownBlock ∧ Moved w v v' := by
  have HR : Hid (Row B w v xs) := hrow
  have HB : Hid (B ≤ w.heap.size ∧ xs.length + (uv n).length ≤ 140737488355328 ∧ n < 18446744073709551616) := ⟨hB, hb, hn⟩
  clear hn hb hB hrow
  go_enter Try.func62, Try.ntmps62
  go_wp2
  go_loopg [0, 1] (uv n).length (fun g b x wr => ∃ (m : Nat) (ys : List Int), (uv m).length = g ∧ Row B wr b ys ∧ ys ++ uv m = xs ++ uv n ∧ m ≤ n ∧ x = .int .u64 (m : Int) ∧ w.grownBy wr v.ownBlock ∧ Moved w v b)
  case atStart => exact ⟨n, xs, rfl, HR.out, rfl, Nat.le_refl _, rfl, grow_refl _ _, Moved.refl _ _⟩
  case round =>
    obtain ⟨m, ys, hm, hrow, hys, hmn, rfl, hgr, hmv⟩ := hrel
    have HM : Hid ((uv m).length = gk ∧ Row B wr u0 ys ∧ ys ++ uv m = xs ++ uv n ∧ m ≤ n ∧ w.grownBy wr v.ownBlock ∧ Moved w v u0) := ⟨hm, hrow, hys, hmn, hgr, hmv⟩
    clear hm hrow hys hmn hgr hmv
    have m64 : m < 18446744073709551616 := by have := HM.out.2.2.2.1; have := HB.out; omega
    have hbase : Hid (B ≤ wr.heap.size + 1) := by show B ≤ wr.heap.size + 1; have := HM.out.2.2.2.2.1.size; have := HB.out; omega
    have hys : Hid (ys.length + 1 ≤ 140737488355328) := by
      show ys.length + 1 ≤ 140737488355328
      have h1 := congrArg List.length HM.out.2.2.1
      have := uv_pos m
      simp only [List.length_append] at h1
      have := HB.out
      omega
    by_cases h : m < 128
    · have h' : (m : Int) ≤ 127 := by omega
      have hw8 : IntKind.u8.wrap (m : Int) = (m : Int) := by rw [wrapU8_nat]; omega
      clear m64
      go_wp2_with (at_builtin; refine wpList_app rfl (.tmp 15) (.tmp 18) rfl B u0 ys rfl (HM.out.2.1.alloc _) (some ⟨wr.heap.size, 0, none⟩) 1 1 (fun _ => m) rfl (fun e => by cases e) (byt_one wr m (by omega)) hys.out (by simpa using hbase.out) ?_; intro v1 w1 hr1 hg1 hm1)
      have hst := app_step HM.out.2.2.2.2.1 HM.out.2.2.2.2.2 hg1 hm1
      refine bodyPost_ret (v := v1) (by simp [results, Try.results62, go_sem]) rfl ⟨v1, rfl, ?_, hst.1, hst.2⟩
      rw [← HM.out.2.2.1, uv_lt h]
      exact hr1
    · have h' : (127 : Int) < (m : Int) := by omega
      obtain ⟨c, HC⟩ : ∃ c : Nat, Hid (c = m % 128 + 128) := ⟨_, rfl⟩
      have hw8 : bits .or .u8 ((m : Int) % 256) 128 = (c : Int) := by rw [HC.out, ← IntKind.wrap_u8]; exact put_byte
      obtain ⟨GK, HG⟩ : ∃ g, Hid ((uv (m / 128)).length = g ∧ gk = g + 1) := ⟨_, rfl, by have := HM.out.1; rw [uv_ge (by omega)] at this; simp at this; omega⟩
      clear m64
      go_wp2_with (at_builtin; refine wpList_app rfl (.tmp 7) (.tmp 11) rfl B u0 ys rfl (HM.out.2.1.alloc _) (some ⟨wr.heap.size, 0, none⟩) 1 1 (fun _ => c) rfl (fun e => by cases e) (byt_one wr c (by have := HC.out; omega)) hys.out (by simpa using hbase.out) ?_; intro v1 w1 hr1 hg1 hm1)
      have hst := app_step HM.out.2.2.2.2.1 HM.out.2.2.2.2.2 hg1 hm1
      go_roundg GK
      case measure => have := HG.out; omega
      case rel =>
        refine ⟨m / 128, ys ++ bs (fun _ => c) 1, HG.out.1, hr1, ?_, by have := HM.out.2.2.2.1; omega, by go_num, hst.1, hst.2⟩
        rw [← HM.out.2.2.1, uv_ge (by omega : 128 ≤ m)]
        simp [bs, HC.out]

theorem rput_byte {m : Nat} (h : m < 18446744073709551616) : bits .or .u8 (IntKind.u8.wrap (bits .and .u64 (m : Int) 127)) 128 = ((m % 128 + 128 : Nat) : Int) := by
  rw [and127_64 h, wrapU8_nat, or128 (by omega)]
  congr 1
  omega

set_option maxHeartbeats 1000000 in
set_option maxRecDepth 100000 in
theorem rput_any (B : Nat) (v : Value) (xs : List Int) (n : Nat) (w : World) (hrow : Row B w v xs) (hB : B ≤ w.heap.size) (hb : xs.length + (uv n).length ≤ 140737488355328) (hn : n < 18446744073709551616) :
    Calls Try.prog 29 #[v, .int .u64 (n : Int)] w fun e w' => ∃ v', e = .returned v' ∧ Row B w' v' (xs ++ uv n) ∧ w.grownBy w' v.ownBlock ∧ Moved w v v' := by
  have HR : Hid (Row B w v xs) := hrow
  have HB : Hid (B ≤ w.heap.size ∧ xs.length + (uv n).length ≤ 140737488355328 ∧ n < 18446744073709551616) := ⟨hB, hb, hn⟩
  clear hn hb hB hrow
  go_enter Try.func29, Try.ntmps29
  go_wp2
  go_loopg [0, 1] (uv n).length (fun g b x wr => ∃ (m : Nat) (ys : List Int), (uv m).length = g ∧ Row B wr b ys ∧ ys ++ uv m = xs ++ uv n ∧ m ≤ n ∧ x = .int .u64 (m : Int) ∧ w.grownBy wr v.ownBlock ∧ Moved w v b)
  case atStart => exact ⟨n, xs, rfl, HR.out, rfl, Nat.le_refl _, rfl, grow_refl _ _, Moved.refl _ _⟩
  case round =>
    obtain ⟨m, ys, hm, hrow, hys, hmn, rfl, hgr, hmv⟩ := hrel
    have HM : Hid ((uv m).length = gk ∧ Row B wr u0 ys ∧ ys ++ uv m = xs ++ uv n ∧ m ≤ n ∧ w.grownBy wr v.ownBlock ∧ Moved w v u0) := ⟨hm, hrow, hys, hmn, hgr, hmv⟩
    clear hm hrow hys hmn hgr hmv
    have m64 : m < 18446744073709551616 := by have := HM.out.2.2.2.1; have := HB.out; omega
    have hbase : Hid (B ≤ wr.heap.size + 1) := by show B ≤ wr.heap.size + 1; have := HM.out.2.2.2.2.1.size; have := HB.out; omega
    have hys : Hid (ys.length + 1 ≤ 140737488355328) := by
      show ys.length + 1 ≤ 140737488355328
      have h1 := congrArg List.length HM.out.2.2.1
      have := uv_pos m
      simp only [List.length_append] at h1
      have := HB.out
      omega
    by_cases h : m < 128
    · have h' : (m : Int) < 128 := by omega
      have hw8 : IntKind.u8.wrap (m : Int) = (m : Int) := by rw [wrapU8_nat]; omega
      clear m64
      go_wp2_with (at_builtin; refine wpList_app rfl (.tmp 16) (.tmp 19) rfl B u0 ys rfl (HM.out.2.1.alloc _) (some ⟨wr.heap.size, 0, none⟩) 1 1 (fun _ => m) rfl (fun e => by cases e) (byt_one wr m (by omega)) hys.out (by simpa using hbase.out) ?_; intro v1 w1 hr1 hg1 hm1)
      have hst := app_step HM.out.2.2.2.2.1 HM.out.2.2.2.2.2 hg1 hm1
      refine bodyPost_ret (v := v1) (by simp [results, Try.results29, go_sem]) rfl ⟨v1, rfl, ?_, hst.1, hst.2⟩
      rw [← HM.out.2.2.1, uv_lt h]
      exact hr1
    · have h' : (128 : Int) ≤ (m : Int) := by omega
      obtain ⟨c, HC⟩ : ∃ c : Nat, Hid (c = m % 128 + 128) := ⟨_, rfl⟩
      obtain ⟨d, HD⟩ : ∃ d : Nat, Hid (d = m % 128) := ⟨_, rfl⟩
      have hwa : bits .and .u64 (m : Int) 127 = (d : Int) := by rw [HD.out]; exact and127_64 m64
      have hd : (d : Int) < 128 := by have := HD.out; omega
      have hwb : bits .or .u8 (d : Int) 128 = (c : Int) := by rw [HC.out, or128 (by omega)]; congr 1; have := HD.out; omega
      have hwc : (d : Int) % 256 = (d : Int) := by omega
      obtain ⟨GK, HG⟩ : ∃ g, Hid ((uv (m / 128)).length = g ∧ gk = g + 1) := ⟨_, rfl, by have := HM.out.1; rw [uv_ge (by omega)] at this; simp at this; omega⟩
      clear m64
      go_wp2_with (at_builtin; refine wpList_app rfl (.tmp 7) (.tmp 12) rfl B u0 ys rfl (HM.out.2.1.alloc _) (some ⟨wr.heap.size, 0, none⟩) 1 1 (fun _ => c) rfl (fun e => by cases e) (byt_one wr c (by have := HC.out; omega)) hys.out (by simpa using hbase.out) ?_; intro v1 w1 hr1 hg1 hm1)
      have hst := app_step HM.out.2.2.2.2.1 HM.out.2.2.2.2.2 hg1 hm1
      go_roundg GK
      case measure => have := HG.out; omega
      case rel =>
        refine ⟨m / 128, ys ++ bs (fun _ => c) 1, HG.out.1, hr1, ?_, by have := HM.out.2.2.2.1; omega, by go_num, hst.1, hst.2⟩
        rw [← HM.out.2.2.1, uv_ge (by omega : 128 ≤ m)]
        simp [bs, HC.out]

end Go.Proofs.Ytifgojkmdicdmaa
