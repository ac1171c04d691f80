/- A disk is its calls: the walk. -/
import Derived.Test.YtligofmcmjblpaaGreatPplays
import Derived.Deep.RegionHeld
namespace Go.Proofs.YtligofmcmjblpaaGreat
open Go.RowKit
set_option linter.unusedVariables false
set_option linter.unusedSimpArgs false

theorem both_new {D : PD} {room : Int} {w w1 w2 : World} {q p : Nat} {F G A : Nat → Prop} {loc : Nat → Nat} {lv wv : Value} (hr : room ≤ 9223372036854775807) (r1 : D.R w1 q (DS.new room) F) (f1 : ∀ k, F k → w.heap.size ≤ k) (b1 : Below w.heap.size w w1) (r2 : RefAt w2 p (DS.new room) G A loc lv wv) (g2 : ∀ k, G k → w1.heap.size ≤ k) (b2 : Below w1.heap.size w1 w2) :
    Both D w.heap.size q p (DS.new room) w2 := by
  refine ⟨⟨F, G, A, loc, lv, wv, PD.later r1 b2, r2, f1, fun k hk => Nat.le_trans b1.size (g2 k hk), fun k hk hG => ?_⟩, Inv.new room hr⟩
  have h1 := D.lt r1 k hk
  have h2 := g2 k hG
  omega

set_option maxHeartbeats 4000000 in
set_option maxRecDepth 100000 in
theorem plays_any (D : PD) (room : Int) (so : Option Addr) (sl sc : Nat) (C : Nat → CV) (w : World) (hr : -9223372036854775808 ≤ room ∧ room ≤ 9223372036854775807) (hC : CallsR w so sl C) (hsl : sl ≤ 2 ^ 63 - 1) :
    Calls Tryz.prog 3 #[.int .i64 room, .slice so sl sc] w fun e w' => e = .returned (.bool true) ∧ Below w.heap.size w w' := by
  have HC := Hid.intro hC
  have HR := Hid.intro hr
  have k0 := D.new room w hr.1 hr.2
  have k1 := fun w1 => rnew_any room w1
  have HA : Hid (∀ w1, Calls Tryz.prog 11 #[] w1 fun e w' => e = .returned (.bool true) ∧ Below w1.heap.size w1 w') := fun w1 => awake_any D w1
  unfold ptr at *
  clear hC hr
  go_enter Tryz.func3, Tryz.ntmps3
  go_wp2_with (first | (go_at_call 6; refine k0.mono ?_; rintro e w1 ⟨q, F, rfl, r1, f1, b1⟩) | (go_at_call 7; refine (k1 _).mono ?_; rintro e w2 ⟨p, G, A, loc, lv, wv, rfl, r2, g2, b2⟩))
  have hB2 : Below w.heap.size w w2 := b1.trans (b2.mono b1.size)
  have HB := Hid.intro (both_new HR.out.2 r1 f1 b1 r2 g2 b2)
  clear k0 k1 r1 f1 r2 g2
  go_loopg [7] 100 (fun g i wr => ∃ (k : Nat) (σ : DS), k + g = 100 ∧ i = .int .i64 (k : Int) ∧ Below w.heap.size w wr ∧ Hid (Both D w.heap.size q p σ wr ∧ σ.c.calls ≤ k))
  case atStart => exact ⟨0, DS.new room, by omega, rfl, hB2, HB.out, by show (0 : Int) ≤ 0; decide⟩
  case round =>
    obtain ⟨k, σ, hk, rfl, hw, HT⟩ := hrel
    by_cases h1 : k < sl
    · have h1' : (k : Int) < (sl : Int) := by omega
      by_cases h2 : k < 100
      · have h2' : (k : Int) < 100 := by omega
        obtain ⟨hok, b, off, rfl, hce⟩ := HC.out k h1
        have Y0 := Hid.intro (hce.later hw)
        have HOK := Hid.intro hok
        have hcl : σ.c.calls < 1048576 := by have := HT.out.2; omega
        have kd := fun hd => both_do (HT.out.1.later (Below.refl _ _).drew) rfl hw.drew (C k) hok hd hcl
        have HCE := Hid.intro hce
        have hcc := doC_calls σ (C k)
        have HCC : Hid ((σ.doC (C k)).2.c.calls ≤ ((k + 1 : Nat) : Int)) := by have := HT.out.2; show _ ≤ _; omega
        obtain ⟨GK, HG⟩ : ∃ g, Hid (g < gk ∧ k + 1 + g = 100) := ⟨gk - 1, by omega, by omega⟩
        have HW := Hid.intro hw
        generalize σ.doC (C k) = S at kd HCC
        obtain ⟨E, σ'⟩ := S
        simp only at kd HCC
        have hz := cells8 Y0.out
        generalize C k = cv at kd Y0 HOK hz HCE
        obtain ⟨op, name, other, dao, dlen, dcap, dX, n, kk, pos, pao, plen, pcap, P⟩ := cv
        unfold CV.val CV.cells ptr at kd
        simp only at kd hz
        have hdl : dlen ≤ 2 ^ 63 - 1 := HOK.out.dl
        obtain ⟨z0, z1, z2, z3, z4, z5, z6, z7⟩ := hz
        clear hk hok hce hw hcl hcc
        by_cases h3 : dlen ≤ 5000
        · have h3' : decide ((5000 : Int) < (dlen : Int)) = false := decide_eq_false (by omega)
          have kd := kd (by omega)
          go_wp2_with fail
          go_region_held (fun w' => w'.cell? ⟨b, off + k * 8, none⟩ = some (.int .i64 op) ∧ w'.cell? ⟨b, off + k * 8 + 1, none⟩ = some (.string name) ∧ w'.cell? ⟨b, off + k * 8 + 2, none⟩ = some (.string other) ∧ w'.cell? ⟨b, off + k * 8 + 3, none⟩ = some (.slice dao dlen dcap) ∧ w'.cell? ⟨b, off + k * 8 + 4, none⟩ = some (.int .i64 n) ∧ w'.cell? ⟨b, off + k * 8 + 5, none⟩ = some (.int .i64 kk) ∧ w'.cell? ⟨b, off + k * 8 + 6, none⟩ = some (.int .i64 pos) ∧ w'.cell? ⟨b, off + k * 8 + 7, none⟩ = some (.slice pao plen pcap)) (first | exact ⟨z0, z1, z2, z3, z4, z5, z6, z7⟩ | exact cells8 Y3.out | exact cells8 Y2.out | exact cells8 Y1.out) (first | (go_at_call 8; refine kd.mono ?_; rintro e w3 ⟨rfl, B3, kd2⟩; have Y1 := Hid.intro (HCE.out.later B3)) | (go_at_call 9; refine kd2.mono ?_; rintro e w4 ⟨rfl, B4, BB⟩; have Y2 := Hid.intro (HCE.out.later B4); have kl := both_like BB; unfold ptr at kl) | (go_at_call 10; refine kl.mono ?_; rintro e w5 ⟨rfl, b5⟩; have B5 := B4.trans (b5.mono B4.size); have Y3 := Hid.intro (HCE.out.later B5)))
          go_wp2_with fail
          go_roundg GK
          case measure => exact HG.out.1
          case rel => exact ⟨k + 1, σ', HG.out.2, by go_num, B5, BB.later b5, HCC.out⟩
        · have h3' : decide ((5000 : Int) < (dlen : Int)) = true := decide_eq_true (by omega)
          have h3'' : (5000 : Int) < (dlen : Int) := by omega
          go_wp2_with fail
          go_quiet (fail)
          go_wp2_with (go_at_call 11; refine (HA.out _).mono ?_; rintro e w6 ⟨rfl, b6⟩)
          go_ret
          exact ⟨rfl, (below_drewN HW.out _).trans (b6.mono HW.out.size)⟩
      · have h2' : (100 : Int) ≤ (k : Int) := by omega
        go_wp2_with (go_at_call 11; refine (HA.out _).mono ?_; rintro e w6 ⟨rfl, b6⟩)
        go_ret
        exact ⟨rfl, hw.trans (b6.mono hw.size)⟩
    · have h1' : (sl : Int) ≤ (k : Int) := by omega
      go_wp2_with (go_at_call 11; refine (HA.out _).mono ?_; rintro e w6 ⟨rfl, b6⟩)
      go_ret
      exact ⟨rfl, hw.trans (b6.mono hw.size)⟩
end Go.Proofs.YtligofmcmjblpaaGreat
