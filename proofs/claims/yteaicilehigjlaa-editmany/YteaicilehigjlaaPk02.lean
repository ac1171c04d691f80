import Derived.Test.YteaicilehigjlaaPk01
/- What sevens and goodUvarint answer. -/
namespace Go.Proofs.Yteaicilehigjlaa
open Go.RowKit

set_option maxHeartbeats 1000000 in
theorem sevens_any (ao : Option Addr) (len cap : Nat) (X : Nat → Nat) (w : World) (hb : Byt w ao len X) (hl : len ≤ 10) (hv : val X len < 18446744073709551616) :
    Calls Try.prog 49 #[.slice ao len cap] w fun e w' => e = .returned (.int .u64 ((val X len : Nat) : Int)) ∧ w' = w := by
  have HB : Hid (Byt w ao len X) := hb
  have HV : Hid (val X len < 18446744073709551616) := hv
  clear hb hv
  go_enter Try.func49, Try.ntmps49
  go_wp2
  go_loopg [3, 8] len (fun g n i wr => ∃ (k : Nat), k + g = len ∧ n = .int .u64 ((val X k : Nat) : Int) ∧ i = .int .i64 (k : Int) ∧ wr = w)
  case atStart => exact ⟨0, by omega, rfl, rfl, rfl⟩
  case round =>
    obtain ⟨k, hk, rfl, rfl, rfl⟩ := hrel
    by_cases h : k < len
    · obtain ⟨hx, b, off, rfl, hc⟩ := HB.out k h
      have h' : (k : Int) < (len : Int) := by omega
      have hk10 : (k : Int) < 10 := by omega
      obtain ⟨GK, HG⟩ : ∃ g, Hid (g < gk ∧ k + 1 + g = len) := ⟨gk - 1, by omega, by omega⟩
      clear hk
      go_wp2
      go_roundg GK
      case measure => exact HG.out.1
      case rel => exact ⟨k + 1, HG.out.2, by rw [sev_step X k hx (Nat.lt_of_le_of_lt (val_mono X (by omega)) HV.out)], by go_num, rfl⟩
    · have h' : (len : Int) ≤ (k : Int) := by omega
      obtain rfl : k = len := by omega
      clear hk HB
      go_wp2
      go_ret
      exact ⟨rfl, rfl⟩

instance (X : Nat → Nat) (E : Nat) : Decidable (good X E) := by unfold good; infer_instance
theorem good_iff {X : Nat → Nat} {E : Nat} {b : Bool} (h : b = true ↔ good X E) : b = decide (good X E) := by
  cases b with
  | true => exact (decide_eq_true (h.1 rfl)).symm
  | false => exact (decide_eq_false fun g => by cases h.2 g).symm

set_option maxHeartbeats 1000000 in
theorem goodU_any (ao : Option Addr) (E cap : Nat) (X : Nat → Nat) (w : World) (hb : Byt w ao (E + 1) X) (hl : E + 1 ≤ maxLen) :
    Calls Try.prog 48 #[.slice ao (E + 1) cap] w fun e w' => e = .returned (.bool (decide (good X E))) ∧ w' = w := by
  obtain ⟨hx, b, off, rfl, hc⟩ := hb E (by omega)
  clear hb
  unfold maxLen at hl
  go_enter Try.func48, Try.ntmps48
  go_wp2
  all_goals
    go_ret
    refine ⟨congrArg (fun b => Ending.returned (.bool b)) (good_iff ?_), rfl⟩
    simp [good]
    first
      | omega
      | (obtain rfl : E = 9 := by omega
         omega)

end Go.Proofs.Yteaicilehigjlaa

/- What Take answers. -/
namespace Go.Proofs.Yteaicilehigjlaa
open Go.RowKit

set_option maxHeartbeats 1000000 in
set_option maxRecDepth 100000 in
theorem take_good (ao : Option Addr) (len cap E : Nat) (X : Nat → Nat) (w : World) (hb : Byt w ao len X) (hl : len ≤ cap) (hc : cap ≤ maxLen) (hE : IsEnd X len E) (hEl : E < len) (hg : good X E) :
    Calls Try.prog 42 #[.slice ao len cap] w fun e w' => e = .returned (.tuple #[.int .u64 (val X (E + 1) : Nat), .int .i64 ((E : Int) + 1), .int .i64 0]) ∧ w' = w := by
  have HB : Hid (Byt w ao len X) := hb
  have HE : Hid (IsEnd X len E) := hE
  have HM : Hid (cap ≤ maxLen) := hc
  unfold maxLen at hc
  clear hb hE
  go_enter Try.func42, Try.ntmps42
  go_wp2_with fail
  refine wp_scope_jumps 0 (fun a' w' => w' = w ∧ ∃ (u1 u2 u3 u4 u6 u7 u8 u9 u10 u11 u12 u13 u14 u15 u16 u17 u18 u19 u20 u21 u22 u23 u24 u25 u26 u27 u28 u29 : Value), a' = { tmps := #[Value.slice ao len cap, u1, u2, u3, u4, Value.int .i64 ((E : Int) + 1), u6, u7, u8, u9, u10, u11, u12, u13, u14, u15, u16, u17, u18, u19, u20, u21, u22, u23, u24, u25, u26, u27, u28, u29], defers := [] }) (fun _ _ => 0) rfl ?_ ?_
  · go_wp2
    go_loopg [10] E (fun g i wr => ∃ (k : Nat), k + g = E ∧ i = .int .i64 (k : Int) ∧ wr = w)
    case atStart => exact ⟨0, by omega, rfl, rfl⟩
    case round =>
      obtain ⟨k, hk, rfl, rfl⟩ := hrel
      obtain ⟨hx, b, off, rfl, hcell⟩ := HB.out k (by omega)
      have h' : (k : Int) < (len : Int) := by omega
      by_cases h : k = E
      · subst h
        have hs : (X k : Int) < 128 := by have := HE.out.2.2 hEl; omega
        clear hk
        go_wp2
        go_step3
        exact ⟨rfl, rfl, _, _, _, _, _, _, _, _, _, _, _, _, _, _, _, _, _, _, _, _, _, _, _, _, _, _, _, _, rfl⟩
      · have hs : (128 : Int) ≤ (X k : Int) := by have := HE.out.2.1 k (by omega); omega
        obtain ⟨GK, HG⟩ : ∃ g, Hid (g < gk ∧ k + 1 + g = E) := ⟨gk - 1, by omega, by omega⟩
        clear hk h
        go_wp2
        go_roundg GK
        case measure => exact HG.out.1
        case rel => exact ⟨k + 1, HG.out.2, by go_num, rfl⟩
  · rintro a' w' ⟨rfl, u1, u2, u3, u4, u6, u7, u8, u9, u10, u11, u12, u13, u14, u15, u16, u17, u18, u19, u20, u21, u22, u23, u24, u25, u26, u27, u28, u29, rfl⟩
    have hB' : Byt w' ao (E + 1) X := fun k hk => HB.out k (by omega)
    have hgd := goodU_any ao E cap X w' hB' (by have := HM.out; omega)
    have hsv := sevens_any ao (E + 1) cap X w' hB' (by have := hg.2; omega) (val_good hg)
    simp only [hg, decide_true] at hgd
    clear HB HE hB' hg
    go_wp2_with (first | (go_at_call 48; refine hgd.mono ?_; rintro e w' ⟨rfl, rfl⟩) | (go_at_call 49; refine hsv.mono ?_; rintro e w' ⟨rfl, rfl⟩))
    simp only [Exit.jump]
    refine bodyPost_ret (v := .tuple #[.int .u64 (val X (E + 1) : Nat), .int .i64 ((E : Int) + 1), .int .i64 0]) (by simp [results, Try.results42, go_sem]) rfl ⟨rfl, rfl⟩

set_option maxHeartbeats 1000000 in
set_option maxRecDepth 100000 in
theorem take_bad (ao : Option Addr) (len cap E : Nat) (X : Nat → Nat) (w : World) (hb : Byt w ao len X) (hl : len ≤ cap) (hc : cap ≤ maxLen) (hE : IsEnd X len E) (hEl : E < len) (hg : ¬ good X E) :
    Calls Try.prog 42 #[.slice ao len cap] w fun e w' => e = .returned (.tuple #[.int .u64 0, .int .i64 0, .int .i64 3]) ∧ w' = w := by
  have HB : Hid (Byt w ao len X) := hb
  have HE : Hid (IsEnd X len E) := hE
  have HM : Hid (cap ≤ maxLen) := hc
  unfold maxLen at hc
  clear hb hE
  go_enter Try.func42, Try.ntmps42
  go_wp2_with fail
  refine wp_scope_jumps 0 (fun a' w' => w' = w ∧ ∃ (u1 u2 u3 u4 u6 u7 u8 u9 u10 u11 u12 u13 u14 u15 u16 u17 u18 u19 u20 u21 u22 u23 u24 u25 u26 u27 u28 u29 : Value), a' = { tmps := #[Value.slice ao len cap, u1, u2, u3, u4, Value.int .i64 ((E : Int) + 1), u6, u7, u8, u9, u10, u11, u12, u13, u14, u15, u16, u17, u18, u19, u20, u21, u22, u23, u24, u25, u26, u27, u28, u29], defers := [] }) (fun _ _ => 0) rfl ?_ ?_
  · go_wp2
    go_loopg [10] E (fun g i wr => ∃ (k : Nat), k + g = E ∧ i = .int .i64 (k : Int) ∧ wr = w)
    case atStart => exact ⟨0, by omega, rfl, rfl⟩
    case round =>
      obtain ⟨k, hk, rfl, rfl⟩ := hrel
      obtain ⟨hx, b, off, rfl, hcell⟩ := HB.out k (by omega)
      have h' : (k : Int) < (len : Int) := by omega
      by_cases h : k = E
      · subst h
        have hs : (X k : Int) < 128 := by have := HE.out.2.2 hEl; omega
        clear hk
        go_wp2
        go_step3
        exact ⟨rfl, rfl, _, _, _, _, _, _, _, _, _, _, _, _, _, _, _, _, _, _, _, _, _, _, _, _, _, _, _, _, rfl⟩
      · have hs : (128 : Int) ≤ (X k : Int) := by have := HE.out.2.1 k (by omega); omega
        obtain ⟨GK, HG⟩ : ∃ g, Hid (g < gk ∧ k + 1 + g = E) := ⟨gk - 1, by omega, by omega⟩
        clear hk h
        go_wp2
        go_roundg GK
        case measure => exact HG.out.1
        case rel => exact ⟨k + 1, HG.out.2, by go_num, rfl⟩
  · rintro a' w' ⟨rfl, u1, u2, u3, u4, u6, u7, u8, u9, u10, u11, u12, u13, u14, u15, u16, u17, u18, u19, u20, u21, u22, u23, u24, u25, u26, u27, u28, u29, rfl⟩
    have hB' : Byt w' ao (E + 1) X := fun k hk => HB.out k (by omega)
    have hgd := goodU_any ao E cap X w' hB' (by have := HM.out; omega)
    simp only [hg, decide_false] at hgd
    clear HB HE hB' hg
    go_wp2_with (go_at_call 48; refine hgd.mono ?_; rintro e w' ⟨rfl, rfl⟩)
    simp only [Exit.jump]
    refine bodyPost_ret (v := .tuple #[.int .u64 0, .int .i64 0, .int .i64 3]) (by simp [results, Try.results42, go_sem]) rfl ⟨rfl, rfl⟩

set_option maxHeartbeats 1000000 in
set_option maxRecDepth 100000 in
theorem take_short (ao : Option Addr) (E cap : Nat) (X : Nat → Nat) (w : World) (hb : Byt w ao E X) (hl : E ≤ cap) (hc : cap ≤ maxLen) (hE : IsEnd X E E) :
    Calls Try.prog 42 #[.slice ao E cap] w fun e w' => e = .returned (.tuple #[.int .u64 0, .int .i64 0, .int .i64 5]) ∧ w' = w := by
  have HB : Hid (Byt w ao E X) := hb
  have HE : Hid (IsEnd X E E) := hE
  unfold maxLen at hc
  clear hb hE
  go_enter Try.func42, Try.ntmps42
  go_wp2
  refine wp_scope_jumps 0 (fun _ _ => False) (fun _ _ => 0) rfl ?_ (fun _ _ h => h.elim)
  go_wp2
  go_loopg [10] E (fun g i wr => ∃ (k : Nat), k + g = E ∧ i = .int .i64 (k : Int) ∧ wr = w)
  case atStart => exact ⟨0, by omega, rfl, rfl⟩
  case round =>
    obtain ⟨k, hk, rfl, rfl⟩ := hrel
    by_cases h : k < E
    · obtain ⟨hx, b, off, rfl, hcell⟩ := HB.out k h
      have h' : (k : Int) < (E : Int) := by omega
      have hs : (128 : Int) ≤ (X k : Int) := by have := HE.out.2.1 k (by omega); omega
      obtain ⟨GK, HG⟩ : ∃ g, Hid (g < gk ∧ k + 1 + g = E) := ⟨gk - 1, by omega, by omega⟩
      clear hk
      go_wp2
      go_roundg GK
      case measure => exact HG.out.1
      case rel => exact ⟨k + 1, HG.out.2, by go_num, rfl⟩
    · have h' : (E : Int) ≤ (k : Int) := by omega
      clear HB HE
      go_wp2
      simp only [Exit.jump]
      refine bodyPost_ret (v := .tuple #[.int .u64 0, .int .i64 0, .int .i64 5]) (by simp [results, Try.results42, go_sem]) rfl ⟨rfl, rfl⟩

/-- What Take answers, where the number ends at E. -/
def takeV (X : Nat → Nat) (len E : Nat) : Value :=
  if E < len then (if good X E then .tuple #[.int .u64 (val X (E + 1) : Nat), .int .i64 ((E : Int) + 1), .int .i64 0] else .tuple #[.int .u64 0, .int .i64 0, .int .i64 3]) else .tuple #[.int .u64 0, .int .i64 0, .int .i64 5]

theorem take_any (ao : Option Addr) (len cap E : Nat) (X : Nat → Nat) (w : World) (hb : Byt w ao len X) (hl : len ≤ cap) (hc : cap ≤ maxLen) (hE : IsEnd X len E) :
    Calls Try.prog 42 #[.slice ao len cap] w fun e w' => e = .returned (takeV X len E) ∧ w' = w := by
  unfold takeV
  by_cases h : E < len
  · by_cases g : good X E
    · simp only [h, g, if_true]; exact take_good ao len cap E X w hb hl hc hE h g
    · simp only [h, g, if_true, if_false]; exact take_bad ao len cap E X w hb hl hc hE h g
  · obtain rfl : E = len := by have := hE.1; omega
    simp only [h, if_false]; exact take_short ao E cap X w hb hl hc hE
end Go.Proofs.Yteaicilehigjlaa

/- What Len, appendSevens, fresh and Put make, and the document's own Put and Len. -/
namespace Go.Proofs.Yteaicilehigjlaa
open Go.RowKit

theorem grow_trans {w w1 w2 : World} {v v' : Value} (h : w.grownBy w1 v.ownBlock) (hm : Moved w v v') (h2 : w1.grownBy w2 v'.ownBlock) : w.grownBy w2 v.ownBlock := by
  refine ⟨h2.os.trans h.os, h2.tape.trans h.tape, h2.output.trans h.output, Nat.le_trans h.size h2.size, fun k hk hne => ?_⟩
  refine (h2.block k (Nat.lt_of_lt_of_le hk h.size) ?_).trans (h.block k hk hne)
  rcases hm with e | ⟨g, e, hg⟩
  · rw [e]; exact hne
  · rw [e]; intro e'; cases e'; omega
theorem Moved.refl (w : World) (v : Value) : Moved w v v := .inl rfl
theorem Moved.trans {w w1 : World} {v v' v'' : Value} (h : Moved w v v') (h2 : Moved w1 v' v'') (hs : w.heap.size ≤ w1.heap.size) : Moved w v v'' := by
  rcases h2 with e | ⟨g, e, hg⟩
  · rcases h with e1 | ⟨g, e1, hg⟩
    · exact .inl (e.trans e1)
    · exact .inr ⟨g, e.trans e1, hg⟩
  · exact .inr ⟨g, e, by omega⟩
theorem grow_refl (w : World) (r : Option Nat) : w.grownBy w r := ⟨rfl, rfl, rfl, Nat.le_refl _, fun _ _ _ => rfl⟩

theorem app_step {w wr w1 : World} {o : Obj} {v u v1 : Value} (hgr : w.grownBy wr v.ownBlock) (hmv : Moved w v u) (hg1 : (wr.alloc o).grownBy w1 u.ownBlock) (hm1 : Moved (wr.alloc o) u v1) :
    w.grownBy w1 v.ownBlock ∧ Moved w v v1 := by
  have h1 : wr.grownBy w1 u.ownBlock := grow_trans (World.grownBy_alloc wr o _) (Moved.refl _ _) hg1
  refine ⟨grow_trans hgr hmv h1, hmv.trans hm1 ?_⟩
  have := hgr.size
  simp
  omega

set_option maxHeartbeats 1000000 in
set_option maxRecDepth 100000 in
theorem sevs_any (B : Nat) (v : Value) (xs : List Int) (n : Nat) (w : World) (hrow : Row B w v xs) (hB : B ≤ w.heap.size) (hb : xs.length + (uv n).length ≤ 140737488355328) (hn : n < 18446744073709551616) :
    Calls Try.prog 46 #[v, .int .u64 (n : Int)] w fun e w' => ∃ v', e = .returned v' ∧ Row B w' v' (xs ++ uv n) ∧ w.grownBy w' v.ownBlock ∧ Moved w v v' := by
  have HR : Hid (Row B w v xs) := hrow
  have HB : Hid (B ≤ w.heap.size ∧ xs.length + (uv n).length ≤ 140737488355328 ∧ n < 18446744073709551616) := ⟨hB, hb, hn⟩
  clear hn hb hB hrow
  go_enter Try.func46, Try.ntmps46
  go_wp2
  go_loopg [0, 1] (uv n).length (fun g b x wr => ∃ (m : Nat) (ys : List Int), (uv m).length = g ∧ Row B wr b ys ∧ ys ++ uv m = xs ++ uv n ∧ m ≤ n ∧ x = .int .u64 (m : Int) ∧ w.grownBy wr v.ownBlock ∧ Moved w v b)
  case atStart => exact ⟨n, xs, rfl, HR.out, rfl, Nat.le_refl _, rfl, grow_refl _ _, Moved.refl _ _⟩
  case round =>
    obtain ⟨m, ys, hm, hrow, hys, hmn, rfl, hgr, hmv⟩ := hrel
    have HM : Hid ((uv m).length = gk ∧ Row B wr u0 ys ∧ ys ++ uv m = xs ++ uv n ∧ m ≤ n ∧ w.grownBy wr v.ownBlock ∧ Moved w v u0) := ⟨hm, hrow, hys, hmn, hgr, hmv⟩
    clear hm hrow hys hmn hgr hmv
    have m64 : m < 18446744073709551616 := by have := HM.out.2.2.2.1; have := HB.out; omega
    have hbase : Hid (B ≤ wr.heap.size + 1) := by show B ≤ wr.heap.size + 1; have := HM.out.2.2.2.2.1.size; have := HB.out; omega
    have hys : Hid (ys.length + 1 ≤ 140737488355328) := by
      show ys.length + 1 ≤ 140737488355328
      have h1 := congrArg List.length HM.out.2.2.1
      have := uv_pos m
      simp only [List.length_append] at h1
      have := HB.out
      omega
    by_cases h : m < 128
    · have h' : (m : Int) ≤ 127 := by omega
      have hw8 : IntKind.u8.wrap (m : Int) = (m : Int) := by rw [wrapU8_nat]; omega
      clear m64
      go_wp2_with (at_builtin; refine wpList_app rfl (.tmp 15) (.tmp 18) rfl B u0 ys rfl (HM.out.2.1.alloc _) (some ⟨wr.heap.size, 0, none⟩) 1 1 (fun _ => m) rfl (fun e => by cases e) (byt_one wr m (by omega)) hys.out (by simpa using hbase.out) ?_; intro v1 w1 hr1 hg1 hm1)
      have hst := app_step HM.out.2.2.2.2.1 HM.out.2.2.2.2.2 hg1 hm1
      refine bodyPost_ret (v := v1) (by simp [results, Try.results46, go_sem]) rfl ⟨v1, rfl, ?_, hst.1, hst.2⟩
      rw [← HM.out.2.2.1, uv_lt h]
      exact hr1
    · have h' : (127 : Int) < (m : Int) := by omega
      obtain ⟨c, HC⟩ : ∃ c : Nat, Hid (c = m % 128 + 128) := ⟨_, rfl⟩
      have hw8 : bits .or .u8 ((m : Int) % 256) 128 = (c : Int) := by rw [HC.out, ← IntKind.wrap_u8]; exact put_byte
      obtain ⟨GK, HG⟩ : ∃ g, Hid ((uv (m / 128)).length = g ∧ gk = g + 1) := ⟨_, rfl, by have := HM.out.1; rw [uv_ge (by omega)] at this; simp at this; omega⟩
      clear m64
      go_wp2_with (at_builtin; refine wpList_app rfl (.tmp 7) (.tmp 11) rfl B u0 ys rfl (HM.out.2.1.alloc _) (some ⟨wr.heap.size, 0, none⟩) 1 1 (fun _ => c) rfl (fun e => by cases e) (byt_one wr c (by have := HC.out; omega)) hys.out (by simpa using hbase.out) ?_; intro v1 w1 hr1 hg1 hm1)
      have hst := app_step HM.out.2.2.2.2.1 HM.out.2.2.2.2.2 hg1 hm1
      go_roundg GK
      case measure => have := HG.out; omega
      case rel =>
        refine ⟨m / 128, ys ++ bs (fun _ => c) 1, HG.out.1, hr1, ?_, by have := HM.out.2.2.2.1; omega, by go_num, hst.1, hst.2⟩
        rw [← HM.out.2.2.1, uv_ge (by omega : 128 ≤ m)]
        simp [bs, HC.out]

theorem rput_byte {m : Nat} (h : m < 18446744073709551616) : bits .or .u8 (IntKind.u8.wrap (bits .and .u64 (m : Int) 127)) 128 = ((m % 128 + 128 : Nat) : Int) := by
  rw [and127_64 h, wrapU8_nat, or128 (by omega)]
  congr 1
  omega

set_option maxHeartbeats 1000000 in
set_option maxRecDepth 100000 in
theorem rput_any (B : Nat) (v : Value) (xs : List Int) (n : Nat) (w : World) (hrow : Row B w v xs) (hB : B ≤ w.heap.size) (hb : xs.length + (uv n).length ≤ 140737488355328) (hn : n < 18446744073709551616) :
    Calls Try.prog 25 #[v, .int .u64 (n : Int)] w fun e w' => ∃ v', e = .returned v' ∧ Row B w' v' (xs ++ uv n) ∧ w.grownBy w' v.ownBlock ∧ Moved w v v' := by
  have HR : Hid (Row B w v xs) := hrow
  have HB : Hid (B ≤ w.heap.size ∧ xs.length + (uv n).length ≤ 140737488355328 ∧ n < 18446744073709551616) := ⟨hB, hb, hn⟩
  clear hn hb hB hrow
  go_enter Try.func25, Try.ntmps25
  go_wp2
  go_loopg [0, 1] (uv n).length (fun g b x wr => ∃ (m : Nat) (ys : List Int), (uv m).length = g ∧ Row B wr b ys ∧ ys ++ uv m = xs ++ uv n ∧ m ≤ n ∧ x = .int .u64 (m : Int) ∧ w.grownBy wr v.ownBlock ∧ Moved w v b)
  case atStart => exact ⟨n, xs, rfl, HR.out, rfl, Nat.le_refl _, rfl, grow_refl _ _, Moved.refl _ _⟩
  case round =>
    obtain ⟨m, ys, hm, hrow, hys, hmn, rfl, hgr, hmv⟩ := hrel
    have HM : Hid ((uv m).length = gk ∧ Row B wr u0 ys ∧ ys ++ uv m = xs ++ uv n ∧ m ≤ n ∧ w.grownBy wr v.ownBlock ∧ Moved w v u0) := ⟨hm, hrow, hys, hmn, hgr, hmv⟩
    clear hm hrow hys hmn hgr hmv
    have m64 : m < 18446744073709551616 := by have := HM.out.2.2.2.1; have := HB.out; omega
    have hbase : Hid (B ≤ wr.heap.size + 1) := by show B ≤ wr.heap.size + 1; have := HM.out.2.2.2.2.1.size; have := HB.out; omega
    have hys : Hid (ys.length + 1 ≤ 140737488355328) := by
      show ys.length + 1 ≤ 140737488355328
      have h1 := congrArg List.length HM.out.2.2.1
      have := uv_pos m
      simp only [List.length_append] at h1
      have := HB.out
      omega
    by_cases h : m < 128
    · have h' : (m : Int) < 128 := by omega
      have hw8 : IntKind.u8.wrap (m : Int) = (m : Int) := by rw [wrapU8_nat]; omega
      clear m64
      go_wp2_with (at_builtin; refine wpList_app rfl (.tmp 16) (.tmp 19) rfl B u0 ys rfl (HM.out.2.1.alloc _) (some ⟨wr.heap.size, 0, none⟩) 1 1 (fun _ => m) rfl (fun e => by cases e) (byt_one wr m (by omega)) hys.out (by simpa using hbase.out) ?_; intro v1 w1 hr1 hg1 hm1)
      have hst := app_step HM.out.2.2.2.2.1 HM.out.2.2.2.2.2 hg1 hm1
      refine bodyPost_ret (v := v1) (by simp [results, Try.results25, go_sem]) rfl ⟨v1, rfl, ?_, hst.1, hst.2⟩
      rw [← HM.out.2.2.1, uv_lt h]
      exact hr1
    · have h' : (128 : Int) ≤ (m : Int) := by omega
      obtain ⟨c, HC⟩ : ∃ c : Nat, Hid (c = m % 128 + 128) := ⟨_, rfl⟩
      obtain ⟨d, HD⟩ : ∃ d : Nat, Hid (d = m % 128) := ⟨_, rfl⟩
      have hwa : bits .and .u64 (m : Int) 127 = (d : Int) := by rw [HD.out]; exact and127_64 m64
      have hd : (d : Int) < 128 := by have := HD.out; omega
      have hwb : bits .or .u8 (d : Int) 128 = (c : Int) := by rw [HC.out, or128 (by omega)]; congr 1; have := HD.out; omega
      have hwc : (d : Int) % 256 = (d : Int) := by omega
      obtain ⟨GK, HG⟩ : ∃ g, Hid ((uv (m / 128)).length = g ∧ gk = g + 1) := ⟨_, rfl, by have := HM.out.1; rw [uv_ge (by omega)] at this; simp at this; omega⟩
      clear m64
      go_wp2_with (at_builtin; refine wpList_app rfl (.tmp 7) (.tmp 12) rfl B u0 ys rfl (HM.out.2.1.alloc _) (some ⟨wr.heap.size, 0, none⟩) 1 1 (fun _ => c) rfl (fun e => by cases e) (byt_one wr c (by have := HC.out; omega)) hys.out (by simpa using hbase.out) ?_; intro v1 w1 hr1 hg1 hm1)
      have hst := app_step HM.out.2.2.2.2.1 HM.out.2.2.2.2.2 hg1 hm1
      go_roundg GK
      case measure => have := HG.out; omega
      case rel =>
        refine ⟨m / 128, ys ++ bs (fun _ => c) 1, HG.out.1, hr1, ?_, by have := HM.out.2.2.2.1; omega, by go_num, hst.1, hst.2⟩
        rw [← HM.out.2.2.1, uv_ge (by omega : 128 ≤ m)]
        simp [bs, HC.out]

end Go.Proofs.Yteaicilehigjlaa
