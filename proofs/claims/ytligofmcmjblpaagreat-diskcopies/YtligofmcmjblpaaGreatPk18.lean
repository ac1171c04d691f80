import Derived.Test.YtligofmcmjblpaaGreatPk16
import Derived.Test.YtligofmcmjblpaaGreatPk17
/- A copy is the same, and keeps to itself. -/
namespace Go.Proofs.YtligofmcmjblpaaGreat
open Go.RowKit
set_option linter.unusedVariables false
set_option linter.unusedSimpArgs false

/-- A disk beside two others, that are in one state. -/
structure Three (D : PD) (B q q2 p : Nat) (σd σ : DS) (w : World) : Prop where
  ex : ∃ E F G A loc lv wv, D.R w q σd E ∧ D.R w q2 σ F ∧ RefAt w p σ G A loc lv wv ∧ (∀ k, E k → B ≤ k) ∧ (∀ k, F k → B ≤ k) ∧ (∀ k, G k → B ≤ k) ∧ (∀ k, F k → ¬ G k) ∧ (∀ k, E k → ¬ F k) ∧ ∀ k, E k → ¬ G k
  inv : Inv σ
  ind : Inv σd
theorem Three.both {D : PD} {B q q2 p : Nat} {σd σ : DS} {w : World} (h : Three D B q q2 p σd σ w) : Both D B q2 p σ w := by
  obtain ⟨E, F, G, A, loc, lv, wv, h1, h2, h3, h4, h5, h6, h7, _⟩ := h.ex
  exact ⟨⟨F, G, A, loc, lv, wv, h2, h3, h5, h6, h7⟩, h.inv⟩
theorem three_copy {D : PD} (DC : Cps D) {B q p : Nat} {σ : DS} {w : World} (h : Both D B q p σ w) {W : World} (hW : W.heap.size = B) (hb : Below B W w) :
    Calls Tryz.prog 16 #[ptr q] w fun e w' => ∃ q2, e = .returned (ptr q2) ∧ Below B W w' ∧ Three D B q q2 p σ σ w' := by
  obtain ⟨F, G, A, loc, lv, wv, h1, h2, h3, h4, h5⟩ := h.ex
  subst hW
  have hs := hb.size
  refine (DC.copy h1 h.inv).mono ?_
  rintro e w' ⟨q2, G2, rfl, r2, g2, b2⟩
  refine ⟨q2, rfl, hb.trans (b2.mono hs), ⟨⟨F, G2, G, A, loc, lv, wv, PD.later h1 b2, r2, h2.later b2, h3, fun k hk => Nat.le_trans hs (g2 k hk), h4, fun k hk hG => ?_, fun k hk hG => ?_, h5⟩, h.inv, h.inv⟩⟩
  · have e1 := g2 k hk
    have e2 := h2.lt k hG
    omega
  · have e1 := g2 k hG
    have e2 := D.lt h1 k hk
    omega
/-- A call of the one beside. -/
theorem three_do {D : PD} {B q q2 p : Nat} {σd σ : DS} {w : World} (h : Three D B q q2 p σd σ w) {W : World} (hW : W.heap.size = B) (hb : Below B W w) (c : CV) (hc : c.Ok W) (hd : c.dlen ≤ 2 ^ 47) (hl : σd.c.calls < 1048576) :
    Calls Tryz.prog 8 #[ptr q, c.val] w fun e w' => e = .returned (.int .i64 (σd.doC c).1) ∧ Below B W w' ∧ Three D B q q2 p (σd.doC c).2 σ w' := by
  obtain ⟨E, F, G, A, loc, lv, wv, h1, h2, h3, h4, h5, h6, h7, h8, h9⟩ := h.ex
  subst hW
  have hs := hb.size
  refine (do_any D q σd E c w h1 h.ind (hc.later hb) ⟨(CV.Off.of hc h4).d, (CV.Off.of hc h4).p⟩ hd).mono ?_
  rintro e w' ⟨rfl, E', r1, m1, s1⟩
  refine ⟨rfl, hb.trans (m1.below hs h4), ⟨⟨E', F, G, A, loc, lv, wv, r1, PD.kept h2 m1 fun k hk hE => h8 k hE hk, h3.kept m1 fun k hk hE => h9 k hE hk, fun k hk => ?_, h5, h6, h7, fun k hk hF => ?_, fun k hk hG => ?_⟩, h.inv, h.ind.doC hl c hc⟩⟩
  · rcases s1 k hk with x | x
    · exact h4 k x
    · omega
  · rcases s1 k hk with x | x
    · exact h8 k x hF
    · have := D.lt h2 k hF
      omega
  · rcases s1 k hk with x | x
    · exact h9 k x hG
    · have := h3.lt k hG
      omega

set_option maxHeartbeats 4000000 in
set_option maxRecDepth 100000 in
theorem copies_any (D : PD) (DC : Cps D) (so mo oo : Option Addr) (sl sc ml mc ol oc : Nat) (C M O : Nat → CV) (w : World) (hC : CallsR w so sl C) (hM : CallsR w mo ml M) (hO : CallsR w oo ol O) (hsl : sl ≤ 2 ^ 63 - 1) (hml : ml ≤ 2 ^ 63 - 1) (hol : ol ≤ 2 ^ 63 - 1) :
    Calls Tryz.prog 5 #[.slice so sl sc, .slice mo ml mc, .slice oo ol oc] w fun e w' => e = .returned (.bool true) ∧ Below w.heap.size w w' := by
  have HC := Hid.intro hC
  have HM := Hid.intro hM
  have HO := Hid.intro hO
  have k0 := D.new 1048576 w (by decide) (by decide)
  have k1 := fun w1 => rnew_any 1048576 w1
  have HA : Hid (∀ w1, Calls Tryz.prog 11 #[] w1 fun e w' => e = .returned (.bool true) ∧ Below w1.heap.size w1 w') := fun w1 => awake_any D w1
  unfold ptr at *
  clear hC hM hO
  go_enter Tryz.func5, Tryz.ntmps5
  go_upto_block 0 with (first | (go_at_call 6; refine k0.mono ?_; rintro e w1 ⟨q, F, rfl, r1, f1, b1⟩) | (go_at_call 7; refine (k1 _).mono ?_; rintro e w2 ⟨p, G, A, loc, lv, wv, rfl, r2, g2, b2⟩))
  have hB2 : Below w.heap.size w w2 := b1.trans (b2.mono b1.size)
  have HB := Hid.intro (both_new (by decide) r1 f1 b1 r2 g2 b2)
  clear k0 k1 r1 f1 r2 g2
  go_cut [9] from 15 to 43 (fun s9 wx => ∃ σ, Hid (Below w.heap.size w wx ∧ Both D w.heap.size q p σ wx ∧ σ.c.calls ≤ 30))
  case first =>
    go_wp2_with fail
    go_loopg [9] 30 (fun g i wr => ∃ (k : Nat) (σ : DS), k + g = 30 ∧ i = .int .i64 (k : Int) ∧ Below w.heap.size w wr ∧ Hid (Both D w.heap.size q p σ wr ∧ σ.c.calls ≤ k))
    case atStart => exact ⟨0, DS.new 1048576, by omega, rfl, hB2, HB.out, by show (0 : Int) ≤ 0; decide⟩
    case round =>
    obtain ⟨k, σ, hk, rfl, hw, HT⟩ := hrel
    by_cases h12 : k < sl ∧ k < 30
    · have h1' : (k : Int) < (sl : Int) := by omega
      have h2' : (k : Int) < 30 := by omega
      obtain ⟨hok, b, off, rfl, hce⟩ := HC.out k h12.1
      have Y0 := Hid.intro (hce.later hw)
      have HOK := Hid.intro hok
      have HCE := Hid.intro hce
      have hcl : σ.c.calls < 1048576 := by have := HT.out.2; omega
      have kd := fun hd => both_do HT.out.1 rfl hw (C k) hok hd hcl
      have hcc := doC_calls σ (C k)
      have HCC : Hid ((σ.doC (C k)).2.c.calls ≤ ((k + 1 : Nat) : Int)) := by have := HT.out.2; show _ ≤ _; omega
      obtain ⟨GK, HG⟩ : ∃ g, Hid (g < gk ∧ k + 1 + g = 30) := ⟨gk - 1, by omega, by omega⟩
      have HW := Hid.intro hw
      have HT0 : Hid (Both D w.heap.size q p σ wr ∧ σ.c.calls ≤ ((k + 1 : Nat) : Int)) := ⟨HT.out.1, by have := HT.out.2; omega⟩
      generalize σ.doC (C k) = S at kd HCC
      obtain ⟨E, σ'⟩ := S
      simp only at kd HCC
      have hz := cells8 Y0.out
      generalize C k = cv at kd Y0 HOK hz HCE
      obtain ⟨op, name, other, dao, dlen, dcap, dX, n, kk, pos, pao, plen, pcap, P⟩ := cv
      unfold CV.val CV.cells ptr at kd
      simp only at kd hz
      have hdl : dlen ≤ 2 ^ 63 - 1 := HOK.out.dl
      obtain ⟨z0, z1, z2, z3, z4, z5, z6, z7⟩ := hz
      clear hk hok hce hw hcl hcc h12
      by_cases h3 : dlen ≤ 5000
      · have h3' : (dlen : Int) ≤ 5000 := by omega
        have kd := kd (by omega)
        go_wp2_with (first | (go_at_call 8; refine kd.mono ?_; rintro e w3 ⟨rfl, B3, kd2⟩; obtain ⟨y0, y1, y2, y3, y4, y5, y6, y7⟩ := cells8 (HCE.out.later B3)) | (go_at_call 9; refine kd2.mono ?_; rintro e w4 ⟨rfl, B4, BB⟩))
        go_roundg GK
        case measure => exact HG.out.1
        case rel => exact ⟨k + 1, σ', HG.out.2, by go_num, B4, BB, HCC.out⟩
      · have h3' : (5000 : Int) < (dlen : Int) := by omega
        clear kd
        go_wp2_with fail
        go_roundg GK
        case measure => exact HG.out.1
        case rel => exact ⟨k + 1, σ, HG.out.2, by go_num, HW.out, HT0.out⟩
    · have hx : k < sl → 30 ≤ k := by omega
      have HTX : Hid (Below w.heap.size w wr ∧ Both D w.heap.size q p σ wr ∧ σ.c.calls ≤ 30) := ⟨hw, HT.out.1, by have := HT.out.2; omega⟩
      clear hk HT hw
      by_cases h1 : k < sl
      · have h1' : (k : Int) < (sl : Int) := by omega
        have h2' : (30 : Int) ≤ (k : Int) := by have := hx h1; omega
        clear hx h1 h12
        go_wp2_with fail
        go_meet
        exact ⟨σ, HTX⟩
      · have h1' : (sl : Int) ≤ (k : Int) := by omega
        clear hx h1 h12
        go_wp2_with fail
        go_meet
        exact ⟨σ, HTX⟩
  case rest =>
    obtain ⟨σ, HS⟩ := hcut
    have kc := three_copy DC HS.out.2.1 rfl HS.out.1
    unfold ptr at kc
    go_upto_block 2 with (go_at_call 16; refine kc.mono ?_; rintro e w3 ⟨q2, rfl, B3, T3⟩)
    have HB3 : Hid (Below w.heap.size w w3 ∧ Three D w.heap.size q q2 p σ σ w3 ∧ σ.c.calls ≤ 30) := ⟨B3, T3, HS.out.2.2⟩
    clear kc B3 T3 HS HB hB2
    go_cut [11] from 46 to 68 (fun s11 wx => ∃ σd, Hid (Below w.heap.size w wx ∧ Three D w.heap.size q q2 p σd σ wx ∧ σ.c.calls ≤ 30))
    case first =>
      go_wp2_with fail
      go_loopg [11] 20 (fun g i wr => ∃ (k : Nat) (σd : DS), k + g = 20 ∧ i = .int .i64 (k : Int) ∧ Below w.heap.size w wr ∧ Hid (Three D w.heap.size q q2 p σd σ wr ∧ σd.c.calls ≤ 30 + k ∧ σ.c.calls ≤ 30))
      case atStart => exact ⟨0, σ, by omega, rfl, HB3.out.1, HB3.out.2.1, by have := HB3.out.2.2; omega, HB3.out.2.2⟩
      case round =>
      obtain ⟨k, σd, hk, rfl, hw, HT⟩ := hrel
      by_cases h12 : k < ol ∧ k < 20
      · have h1' : (k : Int) < (ol : Int) := by omega
        have h2' : (k : Int) < 20 := by omega
        obtain ⟨hok, b, off, rfl, hce⟩ := HO.out k h12.1
        have Y0 := Hid.intro (hce.later hw)
        have HOK := Hid.intro hok
        have hcl : σd.c.calls < 1048576 := by have := HT.out.2.1; omega
        have kd := fun hd => three_do HT.out.1 rfl hw (O k) hok hd hcl
        have hcc := doC_calls σd (O k)
        have HCC : Hid ((σd.doC (O k)).2.c.calls ≤ 30 + ((k + 1 : Nat) : Int) ∧ σ.c.calls ≤ 30) := ⟨by have := HT.out.2.1; omega, HT.out.2.2⟩
        obtain ⟨GK, HG⟩ : ∃ g, Hid (g < gk ∧ k + 1 + g = 20) := ⟨gk - 1, by omega, by omega⟩
        have HW := Hid.intro hw
        have HT0 : Hid (Three D w.heap.size q q2 p σd σ wr ∧ σd.c.calls ≤ 30 + ((k + 1 : Nat) : Int) ∧ σ.c.calls ≤ 30) := ⟨HT.out.1, by have := HT.out.2.1; omega, HT.out.2.2⟩
        generalize σd.doC (O k) = S at kd HCC
        obtain ⟨E, σ'⟩ := S
        simp only at kd HCC
        have hz := cells8 Y0.out
        generalize O k = cv at kd Y0 HOK hz
        obtain ⟨op, name, other, dao, dlen, dcap, dX, n, kk, pos, pao, plen, pcap, P⟩ := cv
        unfold CV.val CV.cells ptr at kd
        simp only at kd hz
        have hdl : dlen ≤ 2 ^ 63 - 1 := HOK.out.dl
        obtain ⟨z0, z1, z2, z3, z4, z5, z6, z7⟩ := hz
        clear hk hok hce hw hcl hcc h12
        by_cases h3 : dlen ≤ 5000
        · have h3' : (dlen : Int) ≤ 5000 := by omega
          have kd := kd (by omega)
          go_wp2_with (go_at_call 8; refine kd.mono ?_; rintro e w4 ⟨rfl, B4, BB⟩)
          go_roundg GK
          case measure => exact HG.out.1
          case rel => exact ⟨k + 1, σ', HG.out.2, by go_num, B4, BB, HCC.out⟩
        · have h3' : (5000 : Int) < (dlen : Int) := by omega
          clear kd
          go_wp2_with fail
          go_roundg GK
          case measure => exact HG.out.1
          case rel => exact ⟨k + 1, σd, HG.out.2, by go_num, HW.out, HT0.out⟩
      · have hx : k < ol → 20 ≤ k := by omega
        have HTX : Hid (Below w.heap.size w wr ∧ Three D w.heap.size q q2 p σd σ wr ∧ σ.c.calls ≤ 30) := ⟨hw, HT.out.1, HT.out.2.2⟩
        clear hk HT hw
        by_cases h1 : k < ol
        · have h1' : (k : Int) < (ol : Int) := by omega
          have h2' : (20 : Int) ≤ (k : Int) := by have := hx h1; omega
          clear hx h1 h12
          go_wp2_with fail
          go_meet
          exact ⟨σd, HTX⟩
        · have h1' : (ol : Int) ≤ (k : Int) := by omega
          clear hx h1 h12
          go_wp2_with fail
          go_meet
          exact ⟨σd, HTX⟩
    case rest =>
      obtain ⟨σd, HS⟩ := hcut
      have HB4 : Hid (Below w.heap.size w wc ∧ Both D w.heap.size q2 p σ wc ∧ σ.c.calls ≤ 30) := ⟨HS.out.1, HS.out.2.1.both, HS.out.2.2⟩
      clear HS HB3
      go_wp2_with fail
      go_loopg [12] 20 (fun g i wr => ∃ (k : Nat) (σ : DS), k + g = 20 ∧ i = .int .i64 (k : Int) ∧ Below w.heap.size w wr ∧ Hid (Both D w.heap.size q2 p σ wr ∧ σ.c.calls ≤ 30 + k))
      case atStart => exact ⟨0, σ, by omega, rfl, HB4.out.1, HB4.out.2.1, by have := HB4.out.2.2; omega⟩
      case round =>
      obtain ⟨k, σ, hk, rfl, hw, HT⟩ := hrel
      by_cases h12 : k < ml ∧ k < 20
      · have h1' : (k : Int) < (ml : Int) := by omega
        have h2' : (k : Int) < 20 := by omega
        obtain ⟨hok, b, off, rfl, hce⟩ := HM.out k h12.1
        have Y0 := Hid.intro (hce.later hw)
        have HOK := Hid.intro hok
        have HCE := Hid.intro hce
        have hcl : σ.c.calls < 1048576 := by have := HT.out.2; omega
        have kd := fun hd => both_do (HT.out.1.later (Below.refl _ _).drew) rfl hw.drew (M k) hok hd hcl
        have hcc := doC_calls σ (M k)
        have HCC : Hid ((σ.doC (M k)).2.c.calls ≤ 30 + ((k + 1 : Nat) : Int)) := by have := HT.out.2; show _ ≤ _; omega
        obtain ⟨GK, HG⟩ : ∃ g, Hid (g < gk ∧ k + 1 + g = 20) := ⟨gk - 1, by omega, by omega⟩
        have HW := Hid.intro hw
        have HT0 : Hid (Both D w.heap.size q2 p σ wr ∧ σ.c.calls ≤ 30 + ((k + 1 : Nat) : Int)) := ⟨HT.out.1, by have := HT.out.2; omega⟩
        generalize σ.doC (M k) = S at kd HCC
        obtain ⟨E, σ'⟩ := S
        simp only at kd HCC
        have hz := cells8 Y0.out
        generalize M k = cv at kd Y0 HOK hz HCE
        obtain ⟨op, name, other, dao, dlen, dcap, dX, n, kk, pos, pao, plen, pcap, P⟩ := cv
        unfold CV.val CV.cells ptr at kd
        simp only at kd hz
        have hdl : dlen ≤ 2 ^ 63 - 1 := HOK.out.dl
        obtain ⟨z0, z1, z2, z3, z4, z5, z6, z7⟩ := hz
        clear hk hok hce hw hcl hcc h12
        by_cases h3 : dlen ≤ 5000
        · have h3' : decide ((dlen : Int) ≤ 5000) = true := decide_eq_true (by omega)
          have kd := kd (by omega)
          go_wp2_with fail
          go_region_held (fun w' => w'.cell? ⟨b, off + k * 8, none⟩ = some (.int .i64 op) ∧ w'.cell? ⟨b, off + k * 8 + 1, none⟩ = some (.string name) ∧ w'.cell? ⟨b, off + k * 8 + 2, none⟩ = some (.string other) ∧ w'.cell? ⟨b, off + k * 8 + 3, none⟩ = some (.slice dao dlen dcap) ∧ w'.cell? ⟨b, off + k * 8 + 4, none⟩ = some (.int .i64 n) ∧ w'.cell? ⟨b, off + k * 8 + 5, none⟩ = some (.int .i64 kk) ∧ w'.cell? ⟨b, off + k * 8 + 6, none⟩ = some (.int .i64 pos) ∧ w'.cell? ⟨b, off + k * 8 + 7, none⟩ = some (.slice pao plen pcap)) (first | exact ⟨z0, z1, z2, z3, z4, z5, z6, z7⟩ | exact cells8 Y2.out | exact cells8 Y1.out) (first | (go_at_call 8; refine kd.mono ?_; rintro e w3 ⟨rfl, B3, kd2⟩; have Y1 := Hid.intro (HCE.out.later B3)) | (go_at_call 9; refine kd2.mono ?_; rintro e w4 ⟨rfl, B4, BB⟩; have Y2 := Hid.intro (HCE.out.later B4)))
          go_wp2_with fail
          go_roundg GK
          case measure => exact HG.out.1
          case rel => exact ⟨k + 1, σ', HG.out.2, by go_num, B4, BB, HCC.out⟩
        · have h3' : decide ((dlen : Int) ≤ 5000) = false := decide_eq_false (by omega)
          clear kd
          go_wp2_with fail
          go_quiet (fail)
          go_wp2_with fail
          go_roundg GK
          case measure => exact HG.out.1
          case rel => exact ⟨k + 1, σ, HG.out.2, by go_num, below_drewN HW.out _, HT0.out.1.later (below_drewN (Below.refl _ _) _), HT0.out.2⟩
      · have hx : k < ml → 20 ≤ k := by omega
        have kl := both_like HT.out.1
        have HW := Hid.intro hw
        unfold ptr at kl
        clear hk HT hw
        by_cases h1 : k < ml
        · have h1' : (k : Int) < (ml : Int) := by omega
          have h2' : (20 : Int) ≤ (k : Int) := by have := hx h1; omega
          clear hx h1 h12
          go_wp2_with (first | (go_at_call 10; refine kl.mono ?_; rintro e w5 ⟨rfl, b5⟩) | (go_at_call 11; refine (HA.out _).mono ?_; rintro e w6 ⟨rfl, b6⟩))
          go_ret
          have e5 : Below w.heap.size w w5 := HW.out.trans (b5.mono HW.out.size)
          exact ⟨rfl, e5.trans (b6.mono e5.size)⟩
        · have h1' : (ml : Int) ≤ (k : Int) := by omega
          clear hx h1 h12
          go_wp2_with (first | (go_at_call 10; refine kl.mono ?_; rintro e w5 ⟨rfl, b5⟩) | (go_at_call 11; refine (HA.out _).mono ?_; rintro e w6 ⟨rfl, b6⟩))
          go_ret
          have e5 : Below w.heap.size w w5 := HW.out.trans (b5.mono HW.out.size)
          exact ⟨rfl, e5.trans (b6.mono e5.size)⟩
end Go.Proofs.YtligofmcmjblpaaGreat
