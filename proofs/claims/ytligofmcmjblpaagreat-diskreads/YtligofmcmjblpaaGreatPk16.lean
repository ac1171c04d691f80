import Derived.Test.YtligofmcmjblpaaGreatPk15
/- Any place of any file. -/
namespace Go.Proofs.YtligofmcmjblpaaGreat
open Go.RowKit
set_option linter.unusedVariables false
set_option linter.unusedSimpArgs false

set_option maxHeartbeats 4000000 in
set_option maxRecDepth 100000 in
theorem reads_any (D : PD) (so : Option Addr) (sl sc : Nat) (C : Nat → CV) (s : ByteArray) (at_ nn : Int) (w : World) (hC : CallsR w so sl C) (hsl : sl ≤ 2 ^ 63 - 1) (ha : -9223372036854775808 ≤ at_ ∧ at_ ≤ 9223372036854775807) (hn : -9223372036854775808 ≤ nn ∧ nn ≤ 9223372036854775807) :
    Calls Tryz.prog 4 #[.slice so sl sc, .string s, .int .i64 at_, .int .i64 nn] w fun e w' => e = .returned (.bool true) ∧ Below w.heap.size w w' := by
  have HC := Hid.intro hC
  have HAN := Hid.intro (And.intro ha hn)
  have k0 := D.new 1048576 w (by decide) (by decide)
  have k1 := fun w1 => rnew_any 1048576 w1
  have HA : Hid (∀ w1, Calls Tryz.prog 11 #[] w1 fun e w' => e = .returned (.bool true) ∧ Below w1.heap.size w1 w') := fun w1 => awake_any D w1
  unfold ptr at *
  clear hC ha hn
  go_enter Tryz.func4, Tryz.ntmps4
  go_wp2_with (first | (go_at_call 6; refine k0.mono ?_; rintro e w1 ⟨q, F, rfl, r1, f1, b1⟩) | (go_at_call 7; refine (k1 _).mono ?_; rintro e w2 ⟨p, G, A, loc, lv, wv, rfl, r2, g2, b2⟩))
  have hB2 : Below w.heap.size w w2 := b1.trans (b2.mono b1.size)
  have HB := Hid.intro (both_new (by decide) r1 f1 b1 r2 g2 b2)
  clear k0 k1 r1 f1 r2 g2
  go_loopg [11] 40 (fun g i wr => ∃ (k : Nat) (σ : DS), k + g = 40 ∧ i = .int .i64 (k : Int) ∧ Below w.heap.size w wr ∧ Hid (Both D w.heap.size q p σ wr ∧ σ.c.calls ≤ k))
  case atStart => exact ⟨0, DS.new 1048576, by omega, rfl, hB2, HB.out, by show (0 : Int) ≤ 0; decide⟩
  case round =>
    obtain ⟨k, σ, hk, rfl, hw, HT⟩ := hrel
    by_cases h12 : k < sl ∧ k < 40
    · have h1' : (k : Int) < (sl : Int) := by omega
      have h2' : (k : Int) < 40 := by omega
      obtain ⟨hok, b, off, rfl, hce⟩ := HC.out k h12.1
      have Y0 := Hid.intro (hce.later hw)
      have HOK := Hid.intro hok
      have HCE := Hid.intro hce
      have hcl : σ.c.calls < 1048576 := by have := HT.out.2; omega
      have kd := fun hd => both_do HT.out.1 rfl hw (C k) hok hd hcl
      have hcc := doC_calls σ (C k)
      have HCC : Hid ((σ.doC (C k)).2.c.calls ≤ ((k + 1 : Nat) : Int)) := by have := HT.out.2; show _ ≤ _; omega
      obtain ⟨GK, HG⟩ : ∃ g, Hid (g < gk ∧ k + 1 + g = 40) := ⟨gk - 1, by omega, by omega⟩
      have HW := Hid.intro hw
      have HT0 : Hid (Both D w.heap.size q p σ wr ∧ σ.c.calls ≤ ((k + 1 : Nat) : Int)) := ⟨HT.out.1, by have := HT.out.2; omega⟩
      generalize σ.doC (C k) = S at kd HCC
      obtain ⟨E, σ'⟩ := S
      simp only at kd HCC
      have hz := cells8 Y0.out
      generalize C k = cv at kd Y0 HOK hz HCE
      obtain ⟨op, name, other, dao, dlen, dcap, dX, n, kk, pos, pao, plen, pcap, P⟩ := cv
      unfold CV.val CV.cells ptr at kd
      simp only at kd hz
      have hdl : dlen ≤ 2 ^ 63 - 1 := HOK.out.dl
      obtain ⟨z0, z1, z2, z3, z4, z5, z6, z7⟩ := hz
      clear hk hok hce hw hcl hcc h12
      by_cases h3 : dlen ≤ 5000
      · have h3' : (dlen : Int) ≤ 5000 := by omega
        have kd := kd (by omega)
        go_wp2_with (first | (go_at_call 8; refine kd.mono ?_; rintro e w3 ⟨rfl, B3, kd2⟩; obtain ⟨y0, y1, y2, y3, y4, y5, y6, y7⟩ := cells8 (HCE.out.later B3)) | (go_at_call 9; refine kd2.mono ?_; rintro e w4 ⟨rfl, B4, BB⟩))
        go_roundg GK
        case measure => exact HG.out.1
        case rel => exact ⟨k + 1, σ', HG.out.2, by go_num, B4, BB, HCC.out⟩
      · have h3' : (5000 : Int) < (dlen : Int) := by omega
        clear kd
        go_wp2_with fail
        go_roundg GK
        case measure => exact HG.out.1
        case rel => exact ⟨k + 1, σ, HG.out.2, by go_num, HW.out, HT0.out⟩
    · obtain ⟨F, G, A, loc, lv, wv, r1, r2, _⟩ := HT.out.1.ex
      have hi := HT.out.1.inv
      have HQ : Hid (∀ wx, Below wr.heap.size wr wx → D.R wx q σ F) := fun wx hb => PD.later r1 hb
      have HP : Hid (∀ wx, Below wr.heap.size wr wx → RefAt wx p σ G A loc lv wv) := fun wx hb => r2.later hb
      have kA := D.readAt s at_ nn r1 hi HAN.out.1 HAN.out.2
      have HM : Hid (∀ wx, Below wr.heap.size wr wx → _) := fun wx hb => rreadAt_any p σ G A loc lv wv s at_ nn wx (HP.out wx hb) hi HAN.out.1 HAN.out.2
      have HZ : Hid (∀ wx, Below wr.heap.size wr wx → _) := fun wx hb => D.size s (HQ.out wx hb) hi
      have HRD : Hid (∀ wx, Below wr.heap.size wr wx → _) := fun wx hb => rread_any p σ G A loc lv wv s wx (HP.out wx hb) hi
      have HO := Hid.intro (read_ok hi s)
      generalize σ.readAt s at_ nn = RA at kA HM
      generalize (σ.read s).1.getD [] = xs at HZ HRD HO
      generalize (σ.read s).2 = ER at HZ HRD
      have hx : k < sl → 40 ≤ k := by omega
      have HW := Hid.intro hw
      unfold ptr at *
      clear hk HT hi r1 r2 hw
      by_cases h1 : k < sl
      · have h1' : (k : Int) < (sl : Int) := by omega
        have h2' : (40 : Int) ≤ (k : Int) := by have := hx h1; omega
        clear hx h1
        go_wp2_with (first | (go_at_call 12; refine kA.mono ?_; rintro e w1 ⟨v1, rfl, s1, b1⟩; obtain ⟨o1, o2, o3, rfl, t1⟩ := s1.str; have B1 := Hid.intro b1) | (go_at_call 13; refine (HM.out _ B1.out).mono ?_; rintro e w2 ⟨p1, p2, p3, Y, rfl, q1, q2, q3, b2⟩; have B2 : Hid (Below wr.heap.size wr w2) := B1.out.trans (b2.mono B1.out.size)) | (go_at_call 14; refine (HZ.out _ B2.out).mono ?_; rintro e w3 ⟨rfl, b3⟩; have B3 : Hid (Below wr.heap.size wr w3) := B2.out.trans (b3.mono B2.out.size)) | (go_at_call 15; refine (HRD.out _ B3.out).mono ?_; rintro e w4 ⟨v4, rfl, r4, b4⟩; have B4 : Hid (Below wr.heap.size wr w4) := B3.out.trans (b4.mono B3.out.size); obtain ⟨c1, c2, rfl, _, _, _, _⟩ := r4.byt HO.out.1; have u1 := t1 _ ((b2.mono (Nat.le_refl _)).trans ((b3.mono b2.size).trans (b4.mono (Nat.le_trans b2.size b3.size)))); have u2 := run_str (cap := p3) (q2.later (b3.trans (b4.mono b3.size))) q1; rw [q3] at u2) | (go_at_call 11; refine (HA.out _).mono ?_; rintro e w6 ⟨rfl, b6⟩))
        go_ret
        have e4 : Below w.heap.size w w4 := HW.out.trans (B4.out.mono HW.out.size)
        exact ⟨rfl, e4.trans (b6.mono e4.size)⟩
      · have h1' : (sl : Int) ≤ (k : Int) := by omega
        clear hx h1
        go_wp2_with (first | (go_at_call 12; refine kA.mono ?_; rintro e w1 ⟨v1, rfl, s1, b1⟩; obtain ⟨o1, o2, o3, rfl, t1⟩ := s1.str; have B1 := Hid.intro b1) | (go_at_call 13; refine (HM.out _ B1.out).mono ?_; rintro e w2 ⟨p1, p2, p3, Y, rfl, q1, q2, q3, b2⟩; have B2 : Hid (Below wr.heap.size wr w2) := B1.out.trans (b2.mono B1.out.size)) | (go_at_call 14; refine (HZ.out _ B2.out).mono ?_; rintro e w3 ⟨rfl, b3⟩; have B3 : Hid (Below wr.heap.size wr w3) := B2.out.trans (b3.mono B2.out.size)) | (go_at_call 15; refine (HRD.out _ B3.out).mono ?_; rintro e w4 ⟨v4, rfl, r4, b4⟩; have B4 : Hid (Below wr.heap.size wr w4) := B3.out.trans (b4.mono B3.out.size); obtain ⟨c1, c2, rfl, _, _, _, _⟩ := r4.byt HO.out.1; have u1 := t1 _ ((b2.mono (Nat.le_refl _)).trans ((b3.mono b2.size).trans (b4.mono (Nat.le_trans b2.size b3.size)))); have u2 := run_str (cap := p3) (q2.later (b3.trans (b4.mono b3.size))) q1; rw [q3] at u2) | (go_at_call 11; refine (HA.out _).mono ?_; rintro e w6 ⟨rfl, b6⟩))
        go_ret
        have e4 : Below w.heap.size w w4 := HW.out.trans (B4.out.mono HW.out.size)
        exact ⟨rfl, e4.trans (b6.mono e4.size)⟩
end Go.Proofs.YtligofmcmjblpaaGreat
