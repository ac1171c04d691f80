/- The document's own Text. -/
import Derived.Test.YtlbbaniehkghdaaDoorRsz
namespace Go.Proofs.YtlbbaniehkghdaaDoor
open Go.RowKit
set_option linter.unusedVariables false

theorem Byt.cut {w : World} {ao : Option Addr} {len l m : Nat} {X : Nat → Nat} (h : Byt w ao len X) (b off : Nat) (e : ao = some ⟨b, off, none⟩) (hl : l + m ≤ len) : Byt w (some ⟨b, off + l, none⟩) m (fun k => X (l + k)) := fun k hk => by
  obtain ⟨h1, b', off', e', hc⟩ := h (l + k) (by omega)
  rw [e] at e'
  simp only [Option.some.injEq, Addr.mk.injEq, and_true] at e'
  obtain ⟨rfl, rfl⟩ := e'
  exact ⟨h1, b, off + l, rfl, by rw [Nat.add_assoc]; exact hc⟩
theorem ul_drop (X : Nat → Nat) (n r : Nat) : (ul X (n + r)).drop n = ul (fun k => X (n + k)) r := by
  apply List.ext_getElem
  · simp [ul]
  · intro i h1 h2
    simp [ul]

set_option maxHeartbeats 1000000 in
set_option maxRecDepth 100000 in
theorem rtext_any (ao : Option Addr) (len cap : Nat) (X : Nat → Nat) (w : World) (hb : Byt w ao len X) (hl : len ≤ cap) (hc : cap ≤ maxLen) :
    Calls Tryd.prog 10 #[.slice ao len cap] w fun e w' => e = .returned (.bool (text (ul X len))) ∧ w' = w := by
  obtain ⟨T, hT⟩ : ∃ T, T = text (ul X len) := ⟨_, rfl⟩
  rw [← hT]
  have H0 : Hid (Byt w ao len X ∧ len ≤ cap ∧ cap ≤ maxLen ∧ text (ul X len) = T) := ⟨hb, hl, hc, hT.symm⟩
  clear hb hl hc hT
  go_enter Tryd.func10, Tryd.ntmps10
  go_wp2_with fail
  go_loopg [0] len (fun g b wr => ∃ (ao2 : Option Addr) (len2 cap2 : Nat) (Y : Nat → Nat), len2 = g ∧ b = .slice ao2 len2 cap2 ∧ wr = w ∧ Hid (Byt w ao2 len2 Y ∧ len2 ≤ cap2 ∧ cap2 ≤ maxLen ∧ text (ul Y len2) = T))
  case atStart => exact ⟨ao, len, cap, X, rfl, rfl, rfl, H0.out⟩
  case round =>
    obtain ⟨ao2, len2, cap2, Y, hg, rfl, hw, HY⟩ := hrel
    obtain rfl := hw
    by_cases h : 0 < len2
    · have h' : (0 : Int) < (len2 : Int) := by omega
      obtain ⟨_, b, off, hao, _⟩ := HY.out.1 0 h
      subst hao
      have hs := rsize_any _ len2 cap2 Y wr HY.out.1 (by have := HY.out; omega) h
      have hne : ul Y len2 ≠ [] := fun e => by have := ul_length Y len2; rw [e] at this; simp at this; omega
      have ht := text_cons _ hne
      rw [HY.out.2.2.2] at ht
      have hle := tsz_le (ul Y len2)
      rw [ul_length] at hle
      obtain ⟨n, hn⟩ : ∃ n, n = tsz (ul Y len2) := ⟨_, rfl⟩
      rw [← hn] at hs ht hle
      by_cases hn0 : n = 0
      · subst hn0
        simp at ht
        subst ht
        clear hle hn hg h
        go_wp2_with (go_at_call 26; refine hs.mono ?_; rintro e wr ⟨rfl, rfl⟩)
        go_ret
        exact ⟨rfl, rfl⟩
      · have hn1 : (1 : Int) ≤ (n : Int) := by omega
        obtain ⟨r, rfl⟩ : ∃ r, len2 = n + r := ⟨len2 - n, by omega⟩
        obtain ⟨rc, rfl⟩ : ∃ rc, cap2 = n + rc := ⟨cap2 - n, by have := HY.out; omega⟩
        have hrr : (r : Int) ≤ (rc : Int) := by have := HY.out; omega
        obtain ⟨b4, off4, hif, hY4⟩ : ∃ b4 off4, (if rc = 0 then some (⟨b, off, none⟩ : Addr) else some ⟨b, off + n, none⟩) = some ⟨b4, off4, none⟩ ∧ Byt wr (some ⟨b4, off4, none⟩) r (fun k => Y (n + k)) := by
          by_cases q : rc = 0
          · exact ⟨b, off, by simp [q], fun k hk => absurd hk (by omega)⟩
          · exact ⟨b, off + n, by simp [q], HY.out.1.cut b off rfl (by omega)⟩
        rw [ul_drop] at ht
        have htt : text (ul (fun k => Y (n + k)) r) = T := by rw [ht]; simp [hn0]
        have h63 : n + r ≤ 2 ^ 63 - 1 := by have := HY.out; simp only [maxLen] at this; omega
        have hnr : (0 : Int) < (n : Int) + (r : Int) := by omega
        have hgk : r < gk ∧ True := ⟨by omega, trivial⟩
        have HG : Hid (r < gk) := hgk.1
        have H4 : Hid (Byt wr (some ⟨b4, off4, none⟩) r (fun k => Y (n + k)) ∧ r ≤ rc ∧ rc ≤ maxLen ∧ text (ul (fun k => Y (n + k)) r) = T) := ⟨hY4, by omega, by have := HY.out; omega, htt⟩
        have hn0' : ((n : Int) == 0) = false := by simp; omega
        clear hle hn hg h ht htt hgk hY4 hne h' HY
        go_wp2_with (go_at_call 26; refine hs.mono ?_; rintro e wr ⟨rfl, rfl⟩)
        go_roundg r
        case measure => exact HG.out
        case rel => exact ⟨some ⟨b4, off4, none⟩, r, rc, _, rfl, rfl, rfl, H4⟩
    · have h' : (len2 : Int) ≤ 0 := by omega
      have hl0 : len2 = 0 := by omega
      subst hl0
      have hTT : T = true := by have := HY.out.2.2.2; rw [← this]; rfl
      subst hTT
      clear h hg
      go_wp2_with fail
      go_ret
      exact ⟨rfl, rfl⟩
end Go.Proofs.YtlbbaniehkghdaaDoor
