/- What TakeLength answers. -/
import Derived.Test.YtjjmgfinapahcabFresh
namespace Go.Proofs.Ytjjmgfinapahcab
open Go.RowKit

set_option maxHeartbeats 1000000 in
set_option maxRecDepth 100000 in
theorem tlen_goodA (ao : Option Addr) (len cap E : Nat) (X : Nat → Nat) (w : World) (hb : Byt w ao len X) (hl : len ≤ cap) (h4 : len ≤ 4) (hE : IsEnd X len E) (hEl : E < len) :
    Calls Try.prog 11 #[.slice ao len cap] w fun e w' => e = .returned (.tuple #[.int .i64 (val X (E + 1) : Nat), .int .i64 ((E : Int) + 1), .int .i64 0]) ∧ w' = w := by
  have HB : Hid (Byt w ao len X) := hb
  have HE : Hid (IsEnd X len E) := hE
  have q1 : (len : Int) ≤ 4 := by omega
  have q2 : (len : Int) ≤ (cap : Int) := by omega
  clear hb hE
  go_enter Try.func11, Try.ntmps11
  go_wp2_with fail
  refine wp_scope_jumps 0 (fun a' w' => w' = w ∧ ∃ (u1 u2 u3 u4 u6 u7 u8 u9 u10 u11 u12 u13 u14 u15 u16 u17 u18 u19 u20 u21 u22 u23 u24 u25 u26 u27 u28 u29 u30 u31 u32 : Value), a' = { tmps := #[Value.slice ao len cap, u1, u2, u3, u4, Value.int .i64 ((E : Int) + 1), u6, u7, u8, u9, u10, u11, u12, u13, u14, u15, u16, u17, u18, u19, u20, u21, u22, u23, u24, u25, u26, u27, u28, u29, u30, u31, u32], defers := [] }) (fun _ _ => 0) rfl ?_ ?_
  · go_wp2
    go_loopg [14] E (fun g i wr => ∃ (k : Nat), k + g = E ∧ i = .int .i64 (k : Int) ∧ wr = w)
    case atStart => exact ⟨0, by omega, rfl, rfl⟩
    case round =>
      obtain ⟨k, hk, rfl, rfl⟩ := hrel
      obtain ⟨hx, b, off, rfl, hcell⟩ := HB.out k (by omega)
      have h' : (k : Int) < (len : Int) := by omega
      by_cases h : k = E
      · subst h
        have hs : (X k : Int) < 128 := by have := HE.out.2.2 hEl; omega
        clear hk
        go_wp2
        go_step3
        exact ⟨rfl, rfl, _, _, _, _, _, _, _, _, _, _, _, _, _, _, _, _, _, _, _, _, _, _, _, _, _, _, _, _, _, _, _, rfl⟩
      · have hs : (128 : Int) ≤ (X k : Int) := by have := HE.out.2.1 k (by omega); omega
        obtain ⟨GK, HG⟩ : ∃ g, Hid (g < gk ∧ k + 1 + g = E) := ⟨gk - 1, by omega, by omega⟩
        clear hk h
        go_wp2
        go_roundg GK
        case measure => exact HG.out.1
        case rel => exact ⟨k + 1, HG.out.2, by go_num, rfl⟩
  · rintro a' w' ⟨rfl, u1, u2, u3, u4, u6, u7, u8, u9, u10, u11, u12, u13, u14, u15, u16, u17, u18, u19, u20, u21, u22, u23, u24, u25, u26, u27, u28, u29, u30, u31, u32, rfl⟩
    have hB' : Byt w' ao (E + 1) X := fun k hk => HB.out k (by omega)
    have hE4 : (E : Int) < 4 := by omega
    have hEc : (E : Int) + 1 ≤ (cap : Int) := by omega
    have hv : val X (E + 1) < 268435456 := by
      have h1 := val_lt X (E + 1)
      have h2 : 128 ^ (E + 1) ≤ 128 ^ 4 := Nat.pow_le_pow_right (by decide) (by omega)
      have h3 : (128 : Nat) ^ 4 = 268435456 := by decide
      omega
    have hsv := sevens_any ao (E + 1) cap X w' hB' (by omega) (by omega)
    have hwr : IntKind.i64.wrap ((val X (E + 1) : Nat) : Int) = ((val X (E + 1) : Nat) : Int) := by rw [IntKind.wrap_i64]; omega
    have hwr' : wrap64 ((val X (E + 1) : Nat) : Int) = ((val X (E + 1) : Nat) : Int) := by unfold wrap64; omega
    clear HB HE hB' hv
    go_wp2_with (go_at_call 15; refine hsv.mono ?_; rintro e w' ⟨rfl, rfl⟩)
    simp only [Exit.jump]
    exact bodyPost_ret (v := .tuple #[.int .i64 (val X (E + 1) : Nat), .int .i64 ((E : Int) + 1), .int .i64 0]) (by simp [results, Try.results11, go_sem]) rfl ⟨rfl, rfl⟩

set_option maxHeartbeats 1000000 in
set_option maxRecDepth 100000 in
theorem tlen_goodB (ao : Option Addr) (len cap E : Nat) (X : Nat → Nat) (w : World) (hb : Byt w ao len X) (hl : len ≤ cap) (h4 : 4 < len) (hE : IsEnd X 4 E) (hEl : E < 4) :
    Calls Try.prog 11 #[.slice ao len cap] w fun e w' => e = .returned (.tuple #[.int .i64 (val X (E + 1) : Nat), .int .i64 ((E : Int) + 1), .int .i64 0]) ∧ w' = w := by
  have HB : Hid (Byt w ao len X) := hb
  have HE : Hid (IsEnd X 4 E) := hE
  have q1 : (4 : Int) < (len : Int) := by omega
  have q2 : (4 : Int) ≤ (cap : Int) := by omega
  have q3 : max (4 : Int) 0 = 4 := rfl
  clear hb hE
  go_enter Try.func11, Try.ntmps11
  go_wp2_with fail
  refine wp_scope_jumps 0 (fun a' w' => w' = w ∧ ∃ (u1 u2 u3 u4 u6 u7 u8 u9 u10 u11 u12 u13 u14 u15 u16 u17 u18 u19 u20 u21 u22 u23 u24 u25 u26 u27 u28 u29 u30 u31 u32 : Value), a' = { tmps := #[Value.slice ao len cap, u1, u2, u3, u4, Value.int .i64 ((E : Int) + 1), u6, u7, u8, u9, u10, u11, u12, u13, u14, u15, u16, u17, u18, u19, u20, u21, u22, u23, u24, u25, u26, u27, u28, u29, u30, u31, u32], defers := [] }) (fun _ _ => 0) rfl ?_ ?_
  · go_wp2
    go_loopg [14] E (fun g i wr => ∃ (k : Nat), k + g = E ∧ i = .int .i64 (k : Int) ∧ wr = w)
    case atStart => exact ⟨0, by omega, rfl, rfl⟩
    case round =>
      obtain ⟨k, hk, rfl, rfl⟩ := hrel
      obtain ⟨hx, b, off, rfl, hcell⟩ := HB.out k (by omega)
      have h' : (k : Int) < (4 : Int) := by omega
      by_cases h : k = E
      · subst h
        have hs : (X k : Int) < 128 := by have := HE.out.2.2 hEl; omega
        clear hk
        go_wp2
        go_step3
        exact ⟨rfl, rfl, _, _, _, _, _, _, _, _, _, _, _, _, _, _, _, _, _, _, _, _, _, _, _, _, _, _, _, _, _, _, _, rfl⟩
      · have hs : (128 : Int) ≤ (X k : Int) := by have := HE.out.2.1 k (by omega); omega
        obtain ⟨GK, HG⟩ : ∃ g, Hid (g < gk ∧ k + 1 + g = E) := ⟨gk - 1, by omega, by omega⟩
        clear hk h
        go_wp2
        go_roundg GK
        case measure => exact HG.out.1
        case rel => exact ⟨k + 1, HG.out.2, by go_num, rfl⟩
  · rintro a' w' ⟨rfl, u1, u2, u3, u4, u6, u7, u8, u9, u10, u11, u12, u13, u14, u15, u16, u17, u18, u19, u20, u21, u22, u23, u24, u25, u26, u27, u28, u29, u30, u31, u32, rfl⟩
    have hB' : Byt w' ao (E + 1) X := fun k hk => HB.out k (by omega)
    have hE4 : (E : Int) < 4 := by omega
    have hEc : (E : Int) + 1 ≤ (cap : Int) := by omega
    have hv : val X (E + 1) < 268435456 := by
      have h1 := val_lt X (E + 1)
      have h2 : 128 ^ (E + 1) ≤ 128 ^ 4 := Nat.pow_le_pow_right (by decide) (by omega)
      have h3 : (128 : Nat) ^ 4 = 268435456 := by decide
      omega
    have hsv := sevens_any ao (E + 1) cap X w' hB' (by omega) (by omega)
    have hwr : IntKind.i64.wrap ((val X (E + 1) : Nat) : Int) = ((val X (E + 1) : Nat) : Int) := by rw [IntKind.wrap_i64]; omega
    have hwr' : wrap64 ((val X (E + 1) : Nat) : Int) = ((val X (E + 1) : Nat) : Int) := by unfold wrap64; omega
    clear HB HE hB' hv
    go_wp2_with (go_at_call 15; refine hsv.mono ?_; rintro e w' ⟨rfl, rfl⟩)
    simp only [Exit.jump]
    exact bodyPost_ret (v := .tuple #[.int .i64 (val X (E + 1) : Nat), .int .i64 ((E : Int) + 1), .int .i64 0]) (by simp [results, Try.results11, go_sem]) rfl ⟨rfl, rfl⟩

set_option maxHeartbeats 1000000 in
set_option maxRecDepth 100000 in
theorem tlen_short (ao : Option Addr) (len cap E : Nat) (X : Nat → Nat) (w : World) (hb : Byt w ao len X) (hl : len ≤ cap) (h4 : len < 4) (hE : IsEnd X len E) (hEl : E = len) :
    Calls Try.prog 11 #[.slice ao len cap] w fun e w' => e = .returned (.tuple #[.int .i64 0, .int .i64 0, .int .i64 5]) ∧ w' = w := by
  have HB : Hid (Byt w ao len X) := hb
  have HE : Hid (IsEnd X len E) := hE
  have HL : Hid (E = len) := hEl
  have q1 : (len : Int) < 4 := by omega
  have q2 : (len : Int) ≤ (cap : Int) := by omega
  clear hb hE
  go_enter Try.func11, Try.ntmps11
  clear hEl
  go_wp2
  refine wp_scope_jumps 0 (fun _ _ => False) (fun _ _ => 0) rfl ?_ (fun _ _ h => h.elim)
  go_wp2
  go_loopg [14] E (fun g i wr => ∃ (k : Nat), k + g = E ∧ i = .int .i64 (k : Int) ∧ wr = w)
  case atStart => exact ⟨0, by omega, rfl, rfl⟩
  case round =>
    obtain ⟨k, hk, rfl, rfl⟩ := hrel
    by_cases h : k < E
    · obtain ⟨hx, b, off, rfl, hcell⟩ := HB.out k (by have := HL.out; omega)
      have h' : (k : Int) < (len : Int) := by have := HL.out; omega
      have hs : (128 : Int) ≤ (X k : Int) := by have := HE.out.2.1 k (by omega); omega
      obtain ⟨GK, HG⟩ : ∃ g, Hid (g < gk ∧ k + 1 + g = E) := ⟨gk - 1, by omega, by omega⟩
      clear hk
      go_wp2
      go_roundg GK
      case measure => exact HG.out.1
      case rel => exact ⟨k + 1, HG.out.2, by go_num, rfl⟩
    · have h' : (len : Int) ≤ (k : Int) := by have := HL.out; omega
      clear HB HE
      go_wp2
      simp only [Exit.jump]
      exact bodyPost_ret (v := .tuple #[.int .i64 0, .int .i64 0, .int .i64 5]) (by simp [results, Try.results11, go_sem]) rfl ⟨rfl, rfl⟩

set_option maxHeartbeats 1000000 in
set_option maxRecDepth 100000 in
theorem tlen_formA (ao : Option Addr) (cap E : Nat) (X : Nat → Nat) (w : World) (hb : Byt w ao 4 X) (hl : 4 ≤ cap)  (hE : IsEnd X 4 E) (hEl : E = 4) :
    Calls Try.prog 11 #[.slice ao 4 cap] w fun e w' => e = .returned (.tuple #[.int .i64 0, .int .i64 0, .int .i64 3]) ∧ w' = w := by
  have HB : Hid (Byt w ao 4 X) := hb
  have HE : Hid (IsEnd X 4 E) := hE
  have HL : Hid (E = 4) := hEl
  have q2 : (4 : Int) ≤ (cap : Int) := by omega
  clear hb hE
  go_enter Try.func11, Try.ntmps11
  clear hEl
  go_wp2
  refine wp_scope_jumps 0 (fun _ _ => False) (fun _ _ => 0) rfl ?_ (fun _ _ h => h.elim)
  go_wp2
  go_loopg [14] E (fun g i wr => ∃ (k : Nat), k + g = E ∧ i = .int .i64 (k : Int) ∧ wr = w)
  case atStart => exact ⟨0, by omega, rfl, rfl⟩
  case round =>
    obtain ⟨k, hk, rfl, rfl⟩ := hrel
    by_cases h : k < E
    · obtain ⟨hx, b, off, rfl, hcell⟩ := HB.out k (by have := HL.out; omega)
      have h' : (k : Int) < (4 : Int) := by have := HL.out; omega
      have hs : (128 : Int) ≤ (X k : Int) := by have := HE.out.2.1 k (by omega); omega
      obtain ⟨GK, HG⟩ : ∃ g, Hid (g < gk ∧ k + 1 + g = E) := ⟨gk - 1, by omega, by omega⟩
      clear hk
      go_wp2
      go_roundg GK
      case measure => exact HG.out.1
      case rel => exact ⟨k + 1, HG.out.2, by go_num, rfl⟩
    · have h' : (4 : Int) ≤ (k : Int) := by have := HL.out; omega
      clear HB HE
      go_wp2
      simp only [Exit.jump]
      exact bodyPost_ret (v := .tuple #[.int .i64 0, .int .i64 0, .int .i64 3]) (by simp [results, Try.results11, go_sem]) rfl ⟨rfl, rfl⟩

set_option maxHeartbeats 1000000 in
set_option maxRecDepth 100000 in
theorem tlen_formB (ao : Option Addr) (len cap E : Nat) (X : Nat → Nat) (w : World) (hb : Byt w ao len X) (hl : len ≤ cap) (h4 : 4 < len) (hE : IsEnd X 4 E) (hEl : E = 4) :
    Calls Try.prog 11 #[.slice ao len cap] w fun e w' => e = .returned (.tuple #[.int .i64 0, .int .i64 0, .int .i64 3]) ∧ w' = w := by
  have HB : Hid (Byt w ao len X) := hb
  have HE : Hid (IsEnd X 4 E) := hE
  have HL : Hid (E = 4) := hEl
  have q1 : (4 : Int) < (len : Int) := by omega
  have q2 : (4 : Int) ≤ (cap : Int) := by omega
  have q3 : max (4 : Int) 0 = 4 := rfl
  clear hb hE
  go_enter Try.func11, Try.ntmps11
  clear hEl
  go_wp2
  refine wp_scope_jumps 0 (fun _ _ => False) (fun _ _ => 0) rfl ?_ (fun _ _ h => h.elim)
  go_wp2
  go_loopg [14] E (fun g i wr => ∃ (k : Nat), k + g = E ∧ i = .int .i64 (k : Int) ∧ wr = w)
  case atStart => exact ⟨0, by omega, rfl, rfl⟩
  case round =>
    obtain ⟨k, hk, rfl, rfl⟩ := hrel
    by_cases h : k < E
    · obtain ⟨hx, b, off, rfl, hcell⟩ := HB.out k (by have := HL.out; omega)
      have h' : (k : Int) < (4 : Int) := by have := HL.out; omega
      have hs : (128 : Int) ≤ (X k : Int) := by have := HE.out.2.1 k (by omega); omega
      obtain ⟨GK, HG⟩ : ∃ g, Hid (g < gk ∧ k + 1 + g = E) := ⟨gk - 1, by omega, by omega⟩
      clear hk
      go_wp2
      go_roundg GK
      case measure => exact HG.out.1
      case rel => exact ⟨k + 1, HG.out.2, by go_num, rfl⟩
    · have h' : (4 : Int) ≤ (k : Int) := by have := HL.out; omega
      clear HB HE
      go_wp2
      simp only [Exit.jump]
      exact bodyPost_ret (v := .tuple #[.int .i64 0, .int .i64 0, .int .i64 3]) (by simp [results, Try.results11, go_sem]) rfl ⟨rfl, rfl⟩

/-- What TakeLength answers, where the number ends at E of the first four. -/
def tlenV (X : Nat → Nat) (len E : Nat) : Value :=
  if E < min len 4 then .tuple #[.int .i64 (val X (E + 1) : Nat), .int .i64 ((E : Int) + 1), .int .i64 0] else if len < 4 then .tuple #[.int .i64 0, .int .i64 0, .int .i64 5] else .tuple #[.int .i64 0, .int .i64 0, .int .i64 3]

theorem tlen_any (ao : Option Addr) (len cap E : Nat) (X : Nat → Nat) (w : World) (hb : Byt w ao len X) (hl : len ≤ cap) (hE : IsEnd X (min len 4) E) :
    Calls Try.prog 11 #[.slice ao len cap] w fun e w' => e = .returned (tlenV X len E) ∧ w' = w := by
  unfold tlenV
  by_cases h : E < min len 4
  · simp only [h, if_true]
    by_cases g : len ≤ 4
    · rw [Nat.min_eq_left g] at hE h
      exact tlen_goodA ao len cap E X w hb hl g hE h
    · rw [Nat.min_eq_right (by omega)] at hE h
      exact tlen_goodB ao len cap E X w hb hl (by omega) hE h
  · simp only [h, if_false]
    by_cases g : len < 4
    · simp only [g, if_true]
      rw [Nat.min_eq_left (by omega)] at hE h
      exact tlen_short ao len cap E X w hb hl g hE (by have := hE.1; omega)
    · simp only [g, if_false]
      rw [Nat.min_eq_right (by omega)] at hE h
      by_cases e : len = 4
      · subst e
        exact tlen_formA ao cap E X w hb hl hE (by have := hE.1; omega)
      · exact tlen_formB ao len cap E X w hb hl (by omega) hE (by have := hE.1; omega)
end Go.Proofs.Ytjjmgfinapahcab
