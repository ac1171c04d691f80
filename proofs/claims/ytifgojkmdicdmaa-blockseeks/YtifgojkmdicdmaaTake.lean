/- What Take answers. -/
import Derived.Test.YtifgojkmdicdmaaSev
namespace Go.Proofs.Ytifgojkmdicdmaa
open Go.RowKit

set_option maxHeartbeats 1000000 in
set_option maxRecDepth 100000 in
theorem take_good (ao : Option Addr) (len cap E : Nat) (X : Nat → Nat) (w : World) (hb : Byt w ao len X) (hl : len ≤ cap) (hc : cap ≤ maxLen) (hE : IsEnd X len E) (hEl : E < len) (hg : good X E) :
    Calls Try.prog 64 #[.slice ao len cap] w fun e w' => e = .returned (.tuple #[.int .u64 (val X (E + 1) : Nat), .int .i64 ((E : Int) + 1), .int .i64 0]) ∧ w' = w := by
  have HB : Hid (Byt w ao len X) := hb
  have HE : Hid (IsEnd X len E) := hE
  have HM : Hid (cap ≤ maxLen) := hc
  unfold maxLen at hc
  clear hb hE
  go_enter Try.func64, Try.ntmps64
  go_wp2_with fail
  refine wp_scope_jumps 0 (fun a' w' => w' = w ∧ ∃ (u1 u2 u3 u4 u6 u7 u8 u9 u10 u11 u12 u13 u14 u15 u16 u17 u18 u19 u20 u21 u22 u23 u24 u25 u26 u27 u28 u29 : Value), a' = { tmps := #[Value.slice ao len cap, u1, u2, u3, u4, Value.int .i64 ((E : Int) + 1), u6, u7, u8, u9, u10, u11, u12, u13, u14, u15, u16, u17, u18, u19, u20, u21, u22, u23, u24, u25, u26, u27, u28, u29], defers := [] }) (fun _ _ => 0) rfl ?_ ?_
  · go_wp2
    go_loopg [10] E (fun g i wr => ∃ (k : Nat), k + g = E ∧ i = .int .i64 (k : Int) ∧ wr = w)
    case atStart => exact ⟨0, by omega, rfl, rfl⟩
    case round =>
      obtain ⟨k, hk, rfl, rfl⟩ := hrel
      obtain ⟨hx, b, off, rfl, hcell⟩ := HB.out k (by omega)
      have h' : (k : Int) < (len : Int) := by omega
      by_cases h : k = E
      · subst h
        have hs : (X k : Int) < 128 := by have := HE.out.2.2 hEl; omega
        clear hk
        go_wp2
        go_step3
        exact ⟨rfl, rfl, _, _, _, _, _, _, _, _, _, _, _, _, _, _, _, _, _, _, _, _, _, _, _, _, _, _, _, _, rfl⟩
      · have hs : (128 : Int) ≤ (X k : Int) := by have := HE.out.2.1 k (by omega); omega
        obtain ⟨GK, HG⟩ : ∃ g, Hid (g < gk ∧ k + 1 + g = E) := ⟨gk - 1, by omega, by omega⟩
        clear hk h
        go_wp2
        go_roundg GK
        case measure => exact HG.out.1
        case rel => exact ⟨k + 1, HG.out.2, by go_num, rfl⟩
  · rintro a' w' ⟨rfl, u1, u2, u3, u4, u6, u7, u8, u9, u10, u11, u12, u13, u14, u15, u16, u17, u18, u19, u20, u21, u22, u23, u24, u25, u26, u27, u28, u29, rfl⟩
    have hB' : Byt w' ao (E + 1) X := fun k hk => HB.out k (by omega)
    have hgd := goodU_any ao E cap X w' hB' (by have := HM.out; omega)
    have hsv := sevens_any ao (E + 1) cap X w' hB' (by have := hg.2; omega) (val_good hg)
    simp only [hg, decide_true] at hgd
    clear HB HE hB' hg
    go_wp2_with (first | (go_at_call 66; refine hgd.mono ?_; rintro e w' ⟨rfl, rfl⟩) | (go_at_call 67; refine hsv.mono ?_; rintro e w' ⟨rfl, rfl⟩))
    simp only [Exit.jump]
    refine bodyPost_ret (v := .tuple #[.int .u64 (val X (E + 1) : Nat), .int .i64 ((E : Int) + 1), .int .i64 0]) (by simp [results, Try.results64, go_sem]) rfl ⟨rfl, rfl⟩

set_option maxHeartbeats 1000000 in
set_option maxRecDepth 100000 in
theorem take_bad (ao : Option Addr) (len cap E : Nat) (X : Nat → Nat) (w : World) (hb : Byt w ao len X) (hl : len ≤ cap) (hc : cap ≤ maxLen) (hE : IsEnd X len E) (hEl : E < len) (hg : ¬ good X E) :
    Calls Try.prog 64 #[.slice ao len cap] w fun e w' => e = .returned (.tuple #[.int .u64 0, .int .i64 0, .int .i64 3]) ∧ w' = w := by
  have HB : Hid (Byt w ao len X) := hb
  have HE : Hid (IsEnd X len E) := hE
  have HM : Hid (cap ≤ maxLen) := hc
  unfold maxLen at hc
  clear hb hE
  go_enter Try.func64, Try.ntmps64
  go_wp2_with fail
  refine wp_scope_jumps 0 (fun a' w' => w' = w ∧ ∃ (u1 u2 u3 u4 u6 u7 u8 u9 u10 u11 u12 u13 u14 u15 u16 u17 u18 u19 u20 u21 u22 u23 u24 u25 u26 u27 u28 u29 : Value), a' = { tmps := #[Value.slice ao len cap, u1, u2, u3, u4, Value.int .i64 ((E : Int) + 1), u6, u7, u8, u9, u10, u11, u12, u13, u14, u15, u16, u17, u18, u19, u20, u21, u22, u23, u24, u25, u26, u27, u28, u29], defers := [] }) (fun _ _ => 0) rfl ?_ ?_
  · go_wp2
    go_loopg [10] E (fun g i wr => ∃ (k : Nat), k + g = E ∧ i = .int .i64 (k : Int) ∧ wr = w)
    case atStart => exact ⟨0, by omega, rfl, rfl⟩
    case round =>
      obtain ⟨k, hk, rfl, rfl⟩ := hrel
      obtain ⟨hx, b, off, rfl, hcell⟩ := HB.out k (by omega)
      have h' : (k : Int) < (len : Int) := by omega
      by_cases h : k = E
      · subst h
        have hs : (X k : Int) < 128 := by have := HE.out.2.2 hEl; omega
        clear hk
        go_wp2
        go_step3
        exact ⟨rfl, rfl, _, _, _, _, _, _, _, _, _, _, _, _, _, _, _, _, _, _, _, _, _, _, _, _, _, _, _, _, rfl⟩
      · have hs : (128 : Int) ≤ (X k : Int) := by have := HE.out.2.1 k (by omega); omega
        obtain ⟨GK, HG⟩ : ∃ g, Hid (g < gk ∧ k + 1 + g = E) := ⟨gk - 1, by omega, by omega⟩
        clear hk h
        go_wp2
        go_roundg GK
        case measure => exact HG.out.1
        case rel => exact ⟨k + 1, HG.out.2, by go_num, rfl⟩
  · rintro a' w' ⟨rfl, u1, u2, u3, u4, u6, u7, u8, u9, u10, u11, u12, u13, u14, u15, u16, u17, u18, u19, u20, u21, u22, u23, u24, u25, u26, u27, u28, u29, rfl⟩
    have hB' : Byt w' ao (E + 1) X := fun k hk => HB.out k (by omega)
    have hgd := goodU_any ao E cap X w' hB' (by have := HM.out; omega)
    simp only [hg, decide_false] at hgd
    clear HB HE hB' hg
    go_wp2_with (go_at_call 66; refine hgd.mono ?_; rintro e w' ⟨rfl, rfl⟩)
    simp only [Exit.jump]
    refine bodyPost_ret (v := .tuple #[.int .u64 0, .int .i64 0, .int .i64 3]) (by simp [results, Try.results64, go_sem]) rfl ⟨rfl, rfl⟩

set_option maxHeartbeats 1000000 in
set_option maxRecDepth 100000 in
theorem take_short (ao : Option Addr) (E cap : Nat) (X : Nat → Nat) (w : World) (hb : Byt w ao E X) (hl : E ≤ cap) (hc : cap ≤ maxLen) (hE : IsEnd X E E) :
    Calls Try.prog 64 #[.slice ao E cap] w fun e w' => e = .returned (.tuple #[.int .u64 0, .int .i64 0, .int .i64 5]) ∧ w' = w := by
  have HB : Hid (Byt w ao E X) := hb
  have HE : Hid (IsEnd X E E) := hE
  unfold maxLen at hc
  clear hb hE
  go_enter Try.func64, Try.ntmps64
  go_wp2
  refine wp_scope_jumps 0 (fun _ _ => False) (fun _ _ => 0) rfl ?_ (fun _ _ h => h.elim)
  go_wp2
  go_loopg [10] E (fun g i wr => ∃ (k : Nat), k + g = E ∧ i = .int .i64 (k : Int) ∧ wr = w)
  case atStart => exact ⟨0, by omega, rfl, rfl⟩
  case round =>
    obtain ⟨k, hk, rfl, rfl⟩ := hrel
    by_cases h : k < E
    · obtain ⟨hx, b, off, rfl, hcell⟩ := HB.out k h
      have h' : (k : Int) < (E : Int) := by omega
      have hs : (128 : Int) ≤ (X k : Int) := by have := HE.out.2.1 k (by omega); omega
      obtain ⟨GK, HG⟩ : ∃ g, Hid (g < gk ∧ k + 1 + g = E) := ⟨gk - 1, by omega, by omega⟩
      clear hk
      go_wp2
      go_roundg GK
      case measure => exact HG.out.1
      case rel => exact ⟨k + 1, HG.out.2, by go_num, rfl⟩
    · have h' : (E : Int) ≤ (k : Int) := by omega
      clear HB HE
      go_wp2
      simp only [Exit.jump]
      refine bodyPost_ret (v := .tuple #[.int .u64 0, .int .i64 0, .int .i64 5]) (by simp [results, Try.results64, go_sem]) rfl ⟨rfl, rfl⟩

/-- What Take answers, where the number ends at E. -/
def takeV (X : Nat → Nat) (len E : Nat) : Value :=
  if E < len then (if good X E then .tuple #[.int .u64 (val X (E + 1) : Nat), .int .i64 ((E : Int) + 1), .int .i64 0] else .tuple #[.int .u64 0, .int .i64 0, .int .i64 3]) else .tuple #[.int .u64 0, .int .i64 0, .int .i64 5]

theorem take_any (ao : Option Addr) (len cap E : Nat) (X : Nat → Nat) (w : World) (hb : Byt w ao len X) (hl : len ≤ cap) (hc : cap ≤ maxLen) (hE : IsEnd X len E) :
    Calls Try.prog 64 #[.slice ao len cap] w fun e w' => e = .returned (takeV X len E) ∧ w' = w := by
  unfold takeV
  by_cases h : E < len
  · by_cases g : good X E
    · simp only [h, g, if_true]; exact take_good ao len cap E X w hb hl hc hE h g
    · simp only [h, g, if_true, if_false]; exact take_bad ao len cap E X w hb hl hc hE h g
  · obtain rfl : E = len := by have := hE.1; omega
    simp only [h, if_false]; exact take_short ao E cap X w hb hl hc hE
end Go.Proofs.Ytifgojkmdicdmaa
