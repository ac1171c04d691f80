/- The program's look at a character: how it opens, and how it goes on. -/
import Derived.Test.YtlbbaniehkghdabDoorRtx
namespace Go.Proofs.YtlbbaniehkghdabDoor
open Go.RowKit
set_option linter.unusedVariables false

/-- How many bytes a character has that begins with x, and the bounds of its second byte. -/
def opn (x : Nat) : Nat × Nat × Nat :=
  if x = 0 then (0, 0, 0) else if x < 128 then (1, 0, 0) else if x < 194 then (0, 0, 0) else if x < 224 then (2, 128, 191) else if x = 224 then (3, 160, 191) else if x = 237 then (3, 128, 159)
  else if x < 240 then (3, 128, 191) else if x = 240 then (4, 144, 191) else if x < 244 then (4, 128, 191) else if x = 244 then (4, 128, 143) else (0, 0, 0)
def opV (x : Nat) : Value := .tuple #[.int .i64 ((opn x).1 : Nat), .int .u8 ((opn x).2.1 : Nat), .int .u8 ((opn x).2.2 : Nat)]

set_option maxHeartbeats 1000000 in
set_option maxRecDepth 100000 in
theorem opened_any (x : Nat) (w : World) (hx : x < 256) : Calls Tryd.prog 32 #[.int .u8 (x : Int)] w fun e w' => e = .returned (opV x) ∧ w' = w := by
  by_cases h0 : x = 0
  · subst h0
    go_enter Tryd.func32, Tryd.ntmps32
    go_wp2
    exact bodyPost_ret (v := opV 0) (by simp [results, Tryd.results32, go_sem, opV, opn]) rfl ⟨rfl, rfl⟩
  have b0 : ((x : Int) == 0) = false := by simp; omega
  by_cases h1 : x < 128
  · have c1 : (x : Int) < 128 := by omega
    have e : opV x = .tuple #[.int .i64 1, .int .u8 0, .int .u8 0] := by simp [opV, opn, h0, h1]
    rw [e]
    go_enter Tryd.func32, Tryd.ntmps32
    go_wp2
    exact bodyPost_ret (v := .tuple #[.int .i64 1, .int .u8 0, .int .u8 0]) (by simp [results, Tryd.results32, go_sem]) rfl ⟨rfl, rfl⟩
  have c1 : (128 : Int) ≤ (x : Int) := by omega
  by_cases h2 : x < 194
  · have c2 : (x : Int) < 194 := by omega
    have e : opV x = .tuple #[.int .i64 0, .int .u8 0, .int .u8 0] := by simp [opV, opn, h0, h1, h2]
    rw [e]
    go_enter Tryd.func32, Tryd.ntmps32
    go_wp2
    exact bodyPost_ret (v := .tuple #[.int .i64 0, .int .u8 0, .int .u8 0]) (by simp [results, Tryd.results32, go_sem]) rfl ⟨rfl, rfl⟩
  have c2 : (194 : Int) ≤ (x : Int) := by omega
  by_cases h3 : x < 224
  · have c3 : (x : Int) < 224 := by omega
    have e : opV x = .tuple #[.int .i64 2, .int .u8 128, .int .u8 191] := by simp [opV, opn, h0, h1, h2, h3]
    rw [e]
    go_enter Tryd.func32, Tryd.ntmps32
    go_wp2
    exact bodyPost_ret (v := .tuple #[.int .i64 2, .int .u8 128, .int .u8 191]) (by simp [results, Tryd.results32, go_sem]) rfl ⟨rfl, rfl⟩
  have c3 : (224 : Int) ≤ (x : Int) := by omega
  by_cases h4 : x = 224
  · subst h4
    go_enter Tryd.func32, Tryd.ntmps32
    go_wp2
    exact bodyPost_ret (v := opV 224) (by simp [results, Tryd.results32, go_sem, opV, opn]) rfl ⟨rfl, rfl⟩
  have b4 : ((x : Int) == 224) = false := by simp; omega
  by_cases h5 : x = 237
  · subst h5
    go_enter Tryd.func32, Tryd.ntmps32
    go_wp2
    exact bodyPost_ret (v := opV 237) (by simp [results, Tryd.results32, go_sem, opV, opn]) rfl ⟨rfl, rfl⟩
  have b5 : ((x : Int) == 237) = false := by simp; omega
  by_cases h6 : x < 240
  · have c6 : (x : Int) < 240 := by omega
    have e : opV x = .tuple #[.int .i64 3, .int .u8 128, .int .u8 191] := by simp [opV, opn, h0, h1, h2, h3, h4, h5, h6]
    rw [e]
    go_enter Tryd.func32, Tryd.ntmps32
    go_wp2
    exact bodyPost_ret (v := .tuple #[.int .i64 3, .int .u8 128, .int .u8 191]) (by simp [results, Tryd.results32, go_sem]) rfl ⟨rfl, rfl⟩
  have c6 : (240 : Int) ≤ (x : Int) := by omega
  by_cases h7 : x = 240
  · subst h7
    go_enter Tryd.func32, Tryd.ntmps32
    go_wp2
    exact bodyPost_ret (v := opV 240) (by simp [results, Tryd.results32, go_sem, opV, opn]) rfl ⟨rfl, rfl⟩
  have b7 : ((x : Int) == 240) = false := by simp; omega
  by_cases h8 : x < 244
  · have c8 : (x : Int) < 244 := by omega
    have e : opV x = .tuple #[.int .i64 4, .int .u8 128, .int .u8 191] := by simp [opV, opn, h0, h1, h2, h3, h4, h5, h6, h7, h8]
    rw [e]
    go_enter Tryd.func32, Tryd.ntmps32
    go_wp2
    exact bodyPost_ret (v := .tuple #[.int .i64 4, .int .u8 128, .int .u8 191]) (by simp [results, Tryd.results32, go_sem]) rfl ⟨rfl, rfl⟩
  have c8 : (244 : Int) ≤ (x : Int) := by omega
  by_cases h9 : x = 244
  · subst h9
    go_enter Tryd.func32, Tryd.ntmps32
    go_wp2
    exact bodyPost_ret (v := opV 244) (by simp [results, Tryd.results32, go_sem, opV, opn]) rfl ⟨rfl, rfl⟩
  have b9 : ((x : Int) == 244) = false := by simp; omega
  have e : opV x = .tuple #[.int .i64 0, .int .u8 0, .int .u8 0] := by simp [opV, opn, h0, h1, h2, h3, h4, h5, h6, h7, h8, h9]
  rw [e]
  go_enter Tryd.func32, Tryd.ntmps32
  go_wp2
  exact bodyPost_ret (v := .tuple #[.int .i64 0, .int .u8 0, .int .u8 0]) (by simp [results, Tryd.results32, go_sem]) rfl ⟨rfl, rfl⟩

theorem opn_lt {x : Nat} : (opn x).1 ≤ 4 ∧ (opn x).2.1 < 256 ∧ (opn x).2.2 < 256 := by
  unfold opn
  repeat' split
  all_goals simp

/-- The byte at k goes on as it should. -/
abbrev okk (X : Nat → Nat) (lo hi k : Nat) : Prop := (if k = 1 then lo else 128) ≤ X k ∧ X k ≤ (if k = 1 then hi else 191)

set_option maxHeartbeats 2000000 in
set_option maxRecDepth 100000 in
theorem char_good (b off len cap : Nat) (X : Nat → Nat) (n lo hi : Nat) (w : World) (hb : Byt w (some ⟨b, off, none⟩) len X) (hl : len ≤ cap) (hc : cap ≤ maxLen) (h0 : 0 < len) (ho : opn (X 0) = (n, lo, hi)) (hn : n ≤ len) (hok : ∀ k, 1 ≤ k → k < n → okk X lo hi k) :
    Calls Tryd.prog 26 #[.slice (some ⟨b, off, none⟩) len cap] w fun e w' => e = .returned (.int .i64 (n : Int)) ∧ w' = w := by
  obtain ⟨hx0, b', off', e', hcell⟩ := hb 0 h0
  simp only [Option.some.injEq, Addr.mk.injEq, and_true] at e'
  obtain ⟨rfl, rfl⟩ := e'
  rw [Nat.add_zero] at hcell
  have hop := opened_any (X 0) w hx0
  have hlt := @opn_lt (X 0)
  rw [ho] at hlt
  unfold opV at hop
  rw [ho] at hop
  have h0' : (0 : Int) < (len : Int) := by omega
  have HB : Hid (Byt w (some ⟨b, off, none⟩) len X) := hb
  have HL : Hid (n ≤ 4 ∧ lo < 256 ∧ hi < 256) := hlt
  simp only at hop
  have hn' : (n : Int) ≤ (len : Int) := by omega
  have hd18 : decide (len < n) = false := by simp; omega
  have HK : Hid (∀ k, 1 ≤ k → k < n → okk X lo hi k) := hok
  clear hb hok hlt hl hc
  go_enter Tryd.func26, Tryd.ntmps26
  go_wp2_with (go_at_call 32; refine hop.mono ?_; rintro e w' ⟨rfl, hw⟩; obtain rfl := hw.symm)
  refine wp_scope_jumps 0 (fun _ _ => False) (fun _ _ => 0) rfl ?_ (fun _ _ h => h.elim)
  go_wp2_with (go_at_call 32; refine hop.mono ?_; rintro e w' ⟨rfl, hw⟩; obtain rfl := hw.symm)
  go_loopg [4, 5, 6] (max n 1 - 1) (fun g s4 s5 s6 wr => ∃ k lo2 hi2 : Nat, k + g = max n 1 ∧ s4 = .int .u8 (lo2 : Int) ∧ s5 = .int .u8 (hi2 : Int) ∧ s6 = .int .i64 (k : Int) ∧ wr = w ∧ Hid (1 ≤ k ∧ lo2 = (if k = 1 then lo else 128) ∧ hi2 = (if k = 1 then hi else 191)))
  case atStart => exact ⟨1, lo, hi, by omega, rfl, rfl, rfl, rfl, by omega, by simp, by simp⟩
  case round =>
    obtain ⟨k, lo2, hi2, hk, rfl, rfl, rfl, hw, HR⟩ := hrel
    obtain rfl := hw
    by_cases h : k < n
    · have h' : (k : Int) < (n : Int) := by omega
      obtain ⟨hx, b2, off2, e2, hcell2⟩ := HB.out k (by omega)
      simp only [Option.some.injEq, Addr.mk.injEq, and_true] at e2
      obtain ⟨rfl, rfl⟩ := e2
      have hkl : (k : Int) < (len : Int) := by omega
      have hq := HK.out k HR.out.1 h
      unfold okk at hq
      rw [← HR.out.2.1, ← HR.out.2.2] at hq
      have q1 : (lo2 : Int) ≤ (X k : Int) := by omega
      have q2 : (X k : Int) ≤ (hi2 : Int) := by omega
      have hk4 : k ≤ 2 ^ 62 := by have := HL.out; omega
      have HN : Hid (1 ≤ k + 1 ∧ 128 = (if k + 1 = 1 then lo else 128) ∧ 191 = (if k + 1 = 1 then hi else 191)) := ⟨by omega, by rw [if_neg (by have := HR.out.1; omega)], by rw [if_neg (by have := HR.out.1; omega)]⟩
      obtain ⟨GK, HG⟩ : ∃ g, Hid (g < gk ∧ k + 1 + g = max n 1) := ⟨gk - 1, by omega, by omega⟩
      clear hk h hq
      go_wp2
      go_roundg GK
      case measure => exact HG.out.1
      case rel => exact ⟨k + 1, 128, 191, HG.out.2, rfl, rfl, by go_num, rfl, HN⟩
    · have h' : (n : Int) ≤ (k : Int) := by omega
      clear hk h
      go_wp2
      simp only [Exit.jump]
      refine bodyPost_ret (v := .int .i64 (n : Int)) (by simp [results, Tryd.results26, go_sem]) rfl ⟨rfl, rfl⟩

set_option maxHeartbeats 2000000 in
set_option maxRecDepth 100000 in
theorem char_bad (b off len cap : Nat) (X : Nat → Nat) (n lo hi : Nat) (w : World) (hb : Byt w (some ⟨b, off, none⟩) len X) (hl : len ≤ cap) (hc : cap ≤ maxLen) (h0 : 0 < len) (ho : opn (X 0) = (n, lo, hi)) (hn : n ≤ len) (E : Nat) (hE1 : 1 ≤ E) (hE2 : E < n) (hok : ∀ k, 1 ≤ k → k < E → okk X lo hi k) (hno : ¬ okk X lo hi E) :
    Calls Tryd.prog 26 #[.slice (some ⟨b, off, none⟩) len cap] w fun e w' => e = .returned (.int .i64 0) ∧ w' = w := by
  obtain ⟨hx0, b', off', e', hcell⟩ := hb 0 h0
  simp only [Option.some.injEq, Addr.mk.injEq, and_true] at e'
  obtain ⟨rfl, rfl⟩ := e'
  rw [Nat.add_zero] at hcell
  have hop := opened_any (X 0) w hx0
  have hlt := @opn_lt (X 0)
  rw [ho] at hlt
  unfold opV at hop
  rw [ho] at hop
  have h0' : (0 : Int) < (len : Int) := by omega
  have HB : Hid (Byt w (some ⟨b, off, none⟩) len X) := hb
  have HL : Hid (n ≤ 4 ∧ lo < 256 ∧ hi < 256) := hlt
  simp only at hop
  have hn' : (n : Int) ≤ (len : Int) := by omega
  have hd18 : decide (len < n) = false := by simp; omega
  have HK : Hid ((∀ k, 1 ≤ k → k < E → okk X lo hi k) ∧ ¬ okk X lo hi E) := ⟨hok, hno⟩
  clear hb hok hlt hl hc hno
  go_enter Tryd.func26, Tryd.ntmps26
  go_wp2_with (go_at_call 32; refine hop.mono ?_; rintro e w' ⟨rfl, hw⟩; obtain rfl := hw.symm)
  refine wp_scope_jumps 0 (fun a' w' => w' = w ∧ ∃ (u1 u2 u3 u4 u5 u6 u7 u8 u9 u10 u11 u12 u13 u14 u15 u16 u17 u18 u19 u20 u21 u22 u23 u24 u25 u26 u27 u28 u29 u30 u31 u32 u33 u34 u35 u36 u37 u38 : Value), a' = { tmps := #[Value.slice (some ⟨b, off, none⟩) len cap, u1, u2, u3, u4, u5, u6, u7, u8, u9, u10, u11, u12, u13, u14, u15, u16, u17, u18, u19, u20, u21, u22, u23, u24, u25, u26, u27, u28, u29, u30, u31, u32, u33, u34, u35, u36, u37, u38], defers := [] }) (fun _ _ => 0) rfl ?_ ?_
  · go_wp2_with (go_at_call 32; refine hop.mono ?_; rintro e w' ⟨rfl, hw⟩; obtain rfl := hw.symm)
    go_loopg [4, 5, 6] (E - 1) (fun g s4 s5 s6 wr => ∃ k lo2 hi2 : Nat, k + g = E ∧ s4 = .int .u8 (lo2 : Int) ∧ s5 = .int .u8 (hi2 : Int) ∧ s6 = .int .i64 (k : Int) ∧ wr = w ∧ Hid (1 ≤ k ∧ lo2 = (if k = 1 then lo else 128) ∧ hi2 = (if k = 1 then hi else 191)))
    case atStart => exact ⟨1, lo, hi, by omega, rfl, rfl, rfl, rfl, by omega, by simp, by simp⟩
    case round =>
      obtain ⟨k, lo2, hi2, hk, rfl, rfl, rfl, hw, HR⟩ := hrel
      obtain rfl := hw
      have h' : (k : Int) < (n : Int) := by omega
      obtain ⟨hx, b2, off2, e2, hcell2⟩ := HB.out k (by omega)
      simp only [Option.some.injEq, Addr.mk.injEq, and_true] at e2
      obtain ⟨rfl, rfl⟩ := e2
      have hkl : (k : Int) < (len : Int) := by omega
      have hk4 : k ≤ 2 ^ 62 := by have := HL.out; omega
      by_cases h : k = E
      · subst h
        have hq := HK.out.2
        unfold okk at hq
        rw [← HR.out.2.1, ← HR.out.2.2] at hq
        clear hk
        by_cases q : lo2 ≤ X k
        · have q1 : (lo2 : Int) ≤ (X k : Int) := by omega
          have q2 : (hi2 : Int) < (X k : Int) := by omega
          clear hq q
          go_wp2
          try go_step3
          exact ⟨rfl, rfl, _, _, _, _, _, _, _, _, _, _, _, _, _, _, _, _, _, _, _, _, _, _, _, _, _, _, _, _, _, _, _, _, _, _, _, _, _, _, rfl⟩
        · have q1 : (X k : Int) < (lo2 : Int) := by omega
          clear hq q
          go_wp2
          try go_step3
          exact ⟨rfl, rfl, _, _, _, _, _, _, _, _, _, _, _, _, _, _, _, _, _, _, _, _, _, _, _, _, _, _, _, _, _, _, _, _, _, _, _, _, _, _, rfl⟩
      · have hq := HK.out.1 k HR.out.1 (by omega)
        unfold okk at hq
        rw [← HR.out.2.1, ← HR.out.2.2] at hq
        have q1 : (lo2 : Int) ≤ (X k : Int) := by omega
        have q2 : (X k : Int) ≤ (hi2 : Int) := by omega
        have HN : Hid (1 ≤ k + 1 ∧ 128 = (if k + 1 = 1 then lo else 128) ∧ 191 = (if k + 1 = 1 then hi else 191)) := ⟨by omega, by rw [if_neg (by have := HR.out.1; omega)], by rw [if_neg (by have := HR.out.1; omega)]⟩
        obtain ⟨GK, HG⟩ : ∃ g, Hid (g < gk ∧ k + 1 + g = E) := ⟨gk - 1, by omega, by omega⟩
        clear hk h hq
        go_wp2
        go_roundg GK
        case measure => exact HG.out.1
        case rel => exact ⟨k + 1, 128, 191, HG.out.2, rfl, rfl, by go_num, rfl, HN⟩
  · rintro a' w' ⟨rfl, u1, u2, u3, u4, u5, u6, u7, u8, u9, u10, u11, u12, u13, u14, u15, u16, u17, u18, u19, u20, u21, u22, u23, u24, u25, u26, u27, u28, u29, u30, u31, u32, u33, u34, u35, u36, u37, u38, rfl⟩
    go_wp2
    simp only [Exit.jump]
    exact bodyPost_ret (v := .int .i64 0) (by simp [results, Tryd.results26, go_sem]) rfl ⟨rfl, rfl⟩

set_option maxHeartbeats 2000000 in
set_option maxRecDepth 100000 in
theorem char_short (b off len cap : Nat) (X : Nat → Nat) (n lo hi : Nat) (w : World) (hb : Byt w (some ⟨b, off, none⟩) len X) (hl : len ≤ cap) (hc : cap ≤ maxLen) (h0 : 0 < len) (ho : opn (X 0) = (n, lo, hi)) (hn : len < n) :
    Calls Tryd.prog 26 #[.slice (some ⟨b, off, none⟩) len cap] w fun e w' => e = .returned (.int .i64 0) ∧ w' = w := by
  obtain ⟨hx0, b', off', e', hcell⟩ := hb 0 h0
  simp only [Option.some.injEq, Addr.mk.injEq, and_true] at e'
  obtain ⟨rfl, rfl⟩ := e'
  rw [Nat.add_zero] at hcell
  have hop := opened_any (X 0) w hx0
  have hlt := @opn_lt (X 0)
  rw [ho] at hlt
  unfold opV at hop
  rw [ho] at hop
  have h0' : (0 : Int) < (len : Int) := by omega
  have HB : Hid (Byt w (some ⟨b, off, none⟩) len X) := hb
  have HL : Hid (n ≤ 4 ∧ lo < 256 ∧ hi < 256) := hlt
  simp only at hop
  have hn' : (len : Int) < (n : Int) := by omega
  clear hb hlt hl hc
  go_enter Tryd.func26, Tryd.ntmps26
  go_wp2_with (go_at_call 32; refine hop.mono ?_; rintro e w' ⟨rfl, hw⟩; obtain rfl := hw.symm)
  refine wp_scope_jumps 0 (fun a' w' => w' = w ∧ ∃ (u1 u2 u3 u4 u5 u6 u7 u8 u9 u10 u11 u12 u13 u14 u15 u16 u17 u18 u19 u20 u21 u22 u23 u24 u25 u26 u27 u28 u29 u30 u31 u32 u33 u34 u35 u36 u37 u38 : Value), a' = { tmps := #[Value.slice (some ⟨b, off, none⟩) len cap, u1, u2, u3, u4, u5, u6, u7, u8, u9, u10, u11, u12, u13, u14, u15, u16, u17, u18, u19, u20, u21, u22, u23, u24, u25, u26, u27, u28, u29, u30, u31, u32, u33, u34, u35, u36, u37, u38], defers := [] }) (fun _ _ => 0) rfl ?_ ?_
  · go_wp2_with (go_at_call 32; refine hop.mono ?_; rintro e w' ⟨rfl, hw⟩; obtain rfl := hw.symm)
    try go_step3
    exact ⟨rfl, rfl, _, _, _, _, _, _, _, _, _, _, _, _, _, _, _, _, _, _, _, _, _, _, _, _, _, _, _, _, _, _, _, _, _, _, _, _, _, _, rfl⟩
  · rintro a' w' ⟨rfl, u1, u2, u3, u4, u5, u6, u7, u8, u9, u10, u11, u12, u13, u14, u15, u16, u17, u18, u19, u20, u21, u22, u23, u24, u25, u26, u27, u28, u29, u30, u31, u32, u33, u34, u35, u36, u37, u38, rfl⟩
    go_wp2
    simp only [Exit.jump]
    exact bodyPost_ret (v := .int .i64 0) (by simp [results, Tryd.results26, go_sem]) rfl ⟨rfl, rfl⟩
end Go.Proofs.YtlbbaniehkghdabDoor
