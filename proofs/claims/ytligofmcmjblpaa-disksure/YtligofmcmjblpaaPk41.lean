import Derived.Deep.RegionWith
import Derived.Test.YtligofmcmjblpaaPk40
/- What is made sure is there behind every crash: the walk. -/
namespace Go.Proofs.Ytligofmcmjblpaa
open Go.RowKit
set_option linter.unusedVariables false
set_option linter.unusedSimpArgs false

theorem read_fnd {σ : DS} {s : ByteArray} {i : Nat} (ho : σ.c.off = false) (hf : fnd σ.dir s = some i) : σ.read s = (some (σ.fl i).1, 0) := by
  unfold DS.read
  rw [ho, hf]
  rfl

set_option maxHeartbeats 4000000 in
set_option maxRecDepth 100000 in
theorem sure_any (D : PD) (DC : Cps D) (so po mo : Option Addr) (sl sc pl pc ml mc : Nat) (C : Nat → CV) (P M : Nat → Int) (w : World) (hC : CallsR w so sl C) (hP : Ints w po pl P) (hM : Ints w mo ml M) (hsl : sl ≤ 2 ^ 63 - 1) (hpl : pl ≤ pc ∧ pc ≤ 2 ^ 63 - 1) (hml : ml ≤ mc ∧ mc ≤ 2 ^ 63 - 1) :
    Calls Try.prog 5 #[.slice so sl sc, .slice po pl pc, .slice mo ml mc] w fun e w' => e = .returned (.bool true) ∧ Below w.heap.size w w' := by
  have HC := Hid.intro hC
  have HPM := Hid.intro (And.intro hP (And.intro hM (And.intro hpl hml)))
  have k0 := D.new 1048576 w (by decide) (by decide)
  have HA : Hid (∀ w1, Calls Try.prog 14 #[] w1 fun e w' => e = .returned (.bool true) ∧ Below w1.heap.size w1 w') := fun w1 => awake_any D w1
  unfold ptr at *
  clear hC hP hM
  go_enter Try.func5, Try.ntmps5
  go_upto_block 0 with (go_at_call 6; refine k0.mono ?_; rintro e w1 ⟨q, F, rfl, r1, f1, b1⟩)
  have HB : Hid (Disks D w.heap.size (fun _ => False) [(q, DS.new 1048576)] w1) := ⟨⟨fun _ => F, fun i p τ hi => by
    have : i = 0 := by have := (List.getElem?_eq_some_iff.1 hi).1; simp at this; exact this
    subst this
    simp at hi
    obtain ⟨rfl, rfl⟩ := hi
    exact ⟨r1, f1, fun k _ h => h⟩, fun i j hi hj hne => by simp at hi hj; omega⟩, fun k hk => hk.elim, fun i p τ hi => by
    have : i = 0 := by have := (List.getElem?_eq_some_iff.1 hi).1; simp at this; exact this
    subst this
    simp at hi
    obtain ⟨rfl, rfl⟩ := hi
    exact Inv.new 1048576 (by decide)⟩
  clear k0 r1 f1
  go_cut [8] from 21 to 59 (fun s8 wx => ∃ σ, Hid (Below w.heap.size w wx ∧ Disks D w.heap.size (fun _ => False) [(q, σ)] wx ∧ σ.c.calls ≤ 40 ∧ J 200000 σ))
  case first =>
    go_wp2_with fail
    go_loopg [8] 40 (fun g i wr => ∃ (k : Nat) (σ : DS), k + g = 40 ∧ i = .int .i64 (k : Int) ∧ Below w.heap.size w wr ∧ Hid (Disks D w.heap.size (fun _ => False) [(q, σ)] wr ∧ σ.c.calls ≤ k ∧ J (5000 * k) σ))
    case atStart => exact ⟨0, DS.new 1048576, by omega, rfl, b1, HB.out, by show (0 : Int) ≤ 0; decide, J.new _⟩
    case round =>
    obtain ⟨k, σ, hk, rfl, hw, HT⟩ := hrel
    by_cases h12 : k < sl ∧ k < 40
    · have h1' : (k : Int) < (sl : Int) := by omega
      have h2' : (k : Int) < 40 := by omega
      obtain ⟨hok, b, off, rfl, hce⟩ := HC.out k h12.1
      have Y0 := Hid.intro (hce.later hw)
      have HOK := Hid.intro hok
      have hcl : σ.c.calls < 1048576 := by have := HT.out.2.1; omega
      have kd := fun hd => HT.out.1.doC 0 rfl rfl hw (C k) hok hd hcl
      have hcc := doC_calls σ (C k)
      have hjj := fun h0 hd => HT.out.2.2.doC (C k) h0 hd
      have HCC : Hid ((σ.doC (C k)).2.c.calls ≤ ((k + 1 : Nat) : Int)) := by have := HT.out.2.1; show _ ≤ _; omega
      obtain ⟨GK, HG⟩ : ∃ g, Hid (g < gk ∧ k + 1 + g = 40) := ⟨gk - 1, by omega, by omega⟩
      have HW := Hid.intro hw
      have HT0 : Hid (Disks D w.heap.size (fun _ => False) [(q, σ)] wr ∧ σ.c.calls ≤ ((k + 1 : Nat) : Int) ∧ J (5000 * (k + 1)) σ) := ⟨HT.out.1, by have := HT.out.2.1; omega, HT.out.2.2.mono (by omega)⟩
      generalize σ.doC (C k) = S at kd HCC hjj
      obtain ⟨E, σ'⟩ := S
      simp only [List.set_cons_zero] at kd HCC hjj
      have hz := cells8 Y0.out
      generalize C k = cv at kd Y0 HOK hz hjj
      obtain ⟨op, name, other, dao, dlen, dcap, dX, n, kk, pos, pao, plen, pcap, P'⟩ := cv
      unfold CV.val CV.cells at kd
      simp only at kd hz hjj
      have hdl : dlen ≤ 2 ^ 63 - 1 := HOK.out.dl
      obtain ⟨z0, z1, z2, z3, z4, z5, z6, z7⟩ := hz
      clear hk hok hce hw hcl hcc h12 HT
      by_cases g1 : op ≤ 5
      · have e1 : decide (op ≤ 5) = true := decide_eq_true g1
        by_cases g2 : 0 ≤ op
        · have e2 : decide (0 ≤ op) = true := decide_eq_true g2
          by_cases g3 : dlen ≤ 5000
          · have e3 : decide ((dlen : Int) ≤ 5000) = true := decide_eq_true (by omega)
            have kd := kd (by omega)
            have HJ : Hid (J (5000 * (k + 1)) σ') := (hjj ⟨g2, g1⟩ g3).mono (by omega)
            clear hjj
            go_wp2_with (go_at_call 16; refine kd.mono ?_; rintro e w4 ⟨rfl, B4, BB, _⟩)
            go_roundg GK
            case measure => exact HG.out.1
            case rel => exact ⟨k + 1, σ', HG.out.2, by go_num, B4, BB, HCC.out, HJ.out⟩
          · have e3 : decide ((dlen : Int) ≤ 5000) = false := decide_eq_false (by omega)
            clear kd hjj
            go_wp2_with fail
            go_roundg GK
            case measure => exact HG.out.1
            case rel => exact ⟨k + 1, σ, HG.out.2, by go_num, HW.out, HT0.out⟩
        · have e2 : decide (0 ≤ op) = false := decide_eq_false g2
          clear kd hjj
          go_wp2_with fail
          go_roundg GK
          case measure => exact HG.out.1
          case rel => exact ⟨k + 1, σ, HG.out.2, by go_num, HW.out, HT0.out⟩
      · have e1 : decide (op ≤ 5) = false := decide_eq_false g1
        clear kd hjj
        go_wp2_with fail
        go_roundg GK
        case measure => exact HG.out.1
        case rel => exact ⟨k + 1, σ, HG.out.2, by go_num, HW.out, HT0.out⟩
    · have hx : k < sl → 40 ≤ k := by omega
      have HTX : Hid (Below w.heap.size w wr ∧ Disks D w.heap.size (fun _ => False) [(q, σ)] wr ∧ σ.c.calls ≤ 40 ∧ J 200000 σ) := ⟨hw, HT.out.1, by have := HT.out.2.1; omega, HT.out.2.2.mono (by omega)⟩
      clear hk HT hw
      by_cases h1 : k < sl
      · have h1' : (k : Int) < (sl : Int) := by omega
        have h2' : (40 : Int) ≤ (k : Int) := by have := hx h1; omega
        clear hx h1 h12
        go_wp2_with fail
        go_meet
        exact ⟨σ, HTX⟩
      · have h1' : (sl : Int) ≤ (k : Int) := by omega
        clear hx h1 h12
        go_wp2_with fail
        go_meet
        exact ⟨σ, HTX⟩
  case rest =>
    obtain ⟨σ, HS⟩ := hcut
    have kc := HS.out.2.1.copy DC 0 rfl rfl HS.out.1
    have hjs := HS.out.2.2.2
    have hin := HS.out.2.1.inv 0 _ _ rfl
    have hlist : σ.list = σ.dir.map (·.1) := by unfold DS.list; rw [hjs.qe.2.2.1]; rfl
    have HJ := Hid.intro (And.intro hjs (And.intro hlist (And.intro hin HS.out.2.2.1)))
    have hdn : σ.dir.length ≤ 40 := by have := hin.dl; have := HS.out.2.2.1; omega
    clear HB hjs hin hlist
    go_wp2_with (first | (go_at_call 21; refine kc.mono ?_; rintro e w2 ⟨q2, rfl, B2, T2⟩; simp only [List.cons_append, List.nil_append] at T2; have kl := T2.listN 0 rfl; rw [HJ.out.2.1] at kl) | (go_at_call 17; refine kl.mono ?_; rintro e w3 ⟨v3, rfl, s3, b3, n3⟩; obtain ⟨lo, lc, rfl, hce⟩ := s3; have HCE := Hid.intro hce; have HN3 := Hid.intro n3; have T3 := Hid.intro (T2.fence b3); have B3 : Below w.heap.size w w3 := B2.trans (b3.mono B2.size); clear hce n3))
    obtain ⟨X, hX⟩ : ∃ X : Nat → Prop, X = fun k => False ∨ (w2.heap.size ≤ k ∧ k < w3.heap.size) := ⟨_, rfl⟩
    rw [← hX] at T3
    have HXN : Hid (∀ b, w2.heap.size ≤ b → b < w3.heap.size → X b) := fun b h1 h2 => by rw [hX]; exact .inr ⟨h1, h2⟩
    obtain ⟨n, hnd⟩ : ∃ n, n = σ.dir.length := ⟨_, rfl⟩
    have HNN := Hid.intro hnd
    try simp only [List.length_map]
    rw [← hnd]
    have hn40 : n ≤ 40 := by omega
    clear hnd hX T2 kc kl HS
    go_loopg [65] n (fun g i wr => ∃ (k : Nat) (τ : DS), k + g = n ∧ i = .int .i64 (k : Int) ∧ Below w.heap.size w wr ∧ Hid (Disks D w.heap.size X [(q, τ), (q2, σ)] wr ∧ Sy σ k τ ∧ τ.c.calls ≤ 40 + k ∧ KeptX X w3 wr))
    case atStart => exact ⟨0, σ, by omega, rfl, B3, T3.out, ⟨HJ.out.1.c, rfl, fun _ => rfl, fun j e hj => by omega⟩, by have := HJ.out.2.2.2; omega, fun _ _ => rfl⟩
    case round =>
    obtain ⟨k, τ, hk, rfl, hw, HT⟩ := hrel
    by_cases h : k < n
    · have h' : (k : Int) < (n : Int) := by omega
      obtain ⟨e, he⟩ : ∃ e, σ.dir[k]? = some e := ⟨_, List.getElem?_eq_getElem (by rw [← HNN.out]; exact h)⟩
      obtain ⟨b, off, rfl, x1⟩ := HCE.out k e.1 (by rw [List.getElem?_map, he]; rfl)
      have y1 : wr.cell? ⟨b, off + k, none⟩ = some (.string e.1) := (World.cell?_of_block (w := w3) (HT.out.2.2.2 b (HXN.out b (HN3.out b rfl) (block_lt_of_cell x1)))).trans x1
      have ks := HT.out.1.sync 0 rfl rfl hw e.1 (by have := HT.out.2.2.1; omega)
      obtain ⟨hv, hst⟩ := HT.out.2.1.step HJ.out.1 he
      have hcc := sync_calls τ e.1
      have HCC : Hid ((τ.sync e.1).2.c.calls ≤ 40 + ((k + 1 : Nat) : Int)) := by have := HT.out.2.2.1; show _ ≤ _; omega
      have HKX := Hid.intro HT.out.2.2.2
      rw [hv] at ks
      generalize (τ.sync e.1).2 = τ' at ks hst HCC
      have HST := Hid.intro hst
      simp only [List.set_cons_zero] at ks
      obtain ⟨GK, HG⟩ : ∃ g, Hid (g < gk ∧ k + 1 + g = n) := ⟨gk - 1, by omega, by omega⟩
      clear hk hw HT hst hv hcc x1 he
      go_wp2_with (go_at_call 22; refine ks.mono ?_; rintro e' w4 ⟨rfl, B4, BB, K4⟩)
      go_roundg GK
      case measure => exact HG.out.1
      case rel => exact ⟨k + 1, τ', HG.out.2, by go_num, B4, BB, HST.out, HCC.out, fun j hj => (K4 j hj).trans (HKX.out j hj)⟩
    · have h' : (n : Int) ≤ (k : Int) := by omega
      have hkn : k = σ.dir.length := by have := HNN.out; omega
      have hsy := HT.out.2.1
      rw [hkn] at hsy
      obtain ⟨d1, d2, d3, d4⟩ := hsy.done
      have kd := HT.out.1.syncDir 0 rfl rfl hw (by have := HT.out.2.2.1; omega)
      rw [d1] at kd
      simp only [List.set_cons_zero] at kd
      generalize τ.syncDir.2 = υ at kd d2 d3 d4
      have hlu : υ.list = σ.dir.map (·.1) := by unfold DS.list; rw [d3, d4]; rfl
      obtain ⟨κ, hκ⟩ : ∃ κ, κ = υ.crash (is P pl) := ⟨_, rfl⟩
      have c1 := crash_list d2 d3 (is P pl)
      have c2 := crash_used d2 (is P pl)
      have c3 := crash_read d2 d3 (is P pl)
      rw [← hκ] at c1 c2 c3
      have hlen : υ.list.length ≤ 2 ^ 40 := by rw [hlu, List.length_map, ← HNN.out]; omega
      have HU := Hid.intro (And.intro c1 (And.intro c2 (And.intro hlu (And.intro hlen hκ))))
      have HRD : Hid (∀ (k : Nat) (e : Ent), σ.dir[k]? = some e → ∃ xs, υ.read e.1 = (some xs, 0) ∧ κ.read e.1 = (some xs, 0)) := fun k e he => by
        refine ⟨(υ.fl e.2).1, ?_, (c3 e.1).trans ?_⟩ <;> exact read_fnd d3 (by rw [d4]; exact fnd_at HJ.out.1.nd.names he)
      clear hk HT hw hkn hsy d1 d2 d3 d4 hlu c1 c2 c3 hκ hlen
      go_wp2_with (first | (go_at_call 23; refine kd.mono ?_; rintro e' w5 ⟨rfl, B5, T5, _⟩; have kc := T5.copy DC 0 rfl rfl B5) | (go_at_call 21; refine kc.mono ?_; rintro e' w6 ⟨q3, rfl, B6, T6⟩; simp only [List.cons_append, List.nil_append] at T6; have kr := T6.crash 2 rfl rfl B6 po pl pc P HPM.out.1 HPM.out.2.2.1) | (go_at_call 24; refine kr.mono ?_; rintro e' w7 ⟨rfl, B7, T7, _⟩; simp only [List.set_cons_zero, List.set_cons_succ] at T7; rw [← HU.out.2.2.2.2] at T7; have kl3 := T7.list 2 rfl; rw [HU.out.1] at kl3) | (go_at_call_of 17 (Value.pointer (some ⟨q3, 0, none⟩)); refine kl3.mono ?_; clear kl3; rintro e' w8 ⟨v8, rfl, s8, b8⟩; have T8 := T7.later b8; have B8 : Below w.heap.size w w8 := B7.trans (b8.mono B7.size); have kl4 := T8.list 0 rfl) | (go_at_call_of 17 (Value.pointer (some ⟨q, 0, none⟩)); refine kl4.mono ?_; clear kl4; rintro e' w9 ⟨v9, rfl, s9, b9⟩; have T9 := T8.later b9; have B9 : Below w.heap.size w w9 := B8.trans (b9.mono B8.size)) | (go_at_call 25; refine (same_any _ _ _ _ (s8.later b9) s9 HU.out.2.2.2.1).mono ?_; rintro e' w10 ⟨rfl, b10⟩; have T10 := T9.later b10; have B10 : Below w.heap.size w w10 := B9.trans (b10.mono B9.size); have ku3 := T10.used 2 rfl; rw [HU.out.2.1] at ku3) | (go_at_call_of 12 (Value.pointer (some ⟨q3, 0, none⟩)); refine ku3.mono ?_; clear ku3; rintro e' w11 ⟨rfl, b11⟩; have T11 := T10.later b11; have B11 : Below w.heap.size w w11 := B10.trans (b11.mono B10.size); have ku4 := T11.used 0 rfl) | (go_at_call_of 12 (Value.pointer (some ⟨q, 0, none⟩)); refine ku4.mono ?_; clear ku4; rintro e' w12 ⟨rfl, b12⟩; have T12 := T11.later b12; have B12 : Below w.heap.size w w12 := B11.trans (b12.mono B11.size); have kl5 := T12.list 0 rfl; rw [HU.out.2.2.1] at kl5) | (go_at_call_of 17 (Value.pointer (some ⟨q, 0, none⟩)); refine kl5.mono ?_; clear kl5; rintro e' w13 ⟨v13, rfl, s13, b13⟩; obtain ⟨lo', lc', rfl, hce'⟩ := s13; have HCE' := Hid.intro hce'; have T13 := Hid.intro (T12.later b13); have B13 : Hid (Below w.heap.size w w13) := B12.trans (b13.mono B12.size); clear hce'))
      obtain ⟨n', hnd'⟩ : ∃ n', n' = σ.dir.length := ⟨_, rfl⟩
      have HNN' := Hid.intro hnd'
      try simp only [List.length_map]
      rw [← hnd']
      have hn40' : n' ≤ 40 := by omega
      clear hnd' T5 T6 T7 T8 T9 T10 T11 T12 kd kc kr s8 s9
      go_loopg [98] n' (fun g i wr => ∃ (k : Nat), k + g = n' ∧ i = .int .i64 (k : Int) ∧ Hid (Below w13.heap.size w13 wr))
      case atStart => exact ⟨0, by omega, rfl, Below.refl _ _⟩
      case round =>
      obtain ⟨k, hk, rfl, hw⟩ := hrel
      have TR := T13.out.later hw.out
      have BR : Below w.heap.size w wr := B13.out.trans (hw.out.mono B13.out.size)
      by_cases h : k < n'
      · have h' : (k : Int) < (n' : Int) := by omega
        obtain ⟨e, he⟩ : ∃ e, σ.dir[k]? = some e := ⟨_, List.getElem?_eq_getElem (by rw [← HNN'.out]; exact h)⟩
        obtain ⟨b, off, rfl, x1⟩ := HCE'.out k e.1 (by rw [List.getElem?_map, he]; rfl)
        have y1 := cell_later hw.out x1
        obtain ⟨xs, r1, r2⟩ := HRD.out k e he
        have k1 := TR.read 0 rfl e.1
        rw [r1] at k1
        simp only [Option.getD_some] at k1
        have HK2 : Hid (∀ wx, Below wr.heap.size wr wx → Calls Try.prog 15 #[.pointer (some ⟨q3, 0, none⟩), .string e.1] wx fun e w' => ∃ v, e = .returned (.tuple #[v, .int .i64 0]) ∧ BytR w' v xs ∧ Below wx.heap.size wx w') := fun wx hb => by
          have k2 := (TR.later hb).read 2 rfl e.1
          rw [r2] at k2
          simp only [Option.getD_some] at k2
          exact k2
        obtain ⟨GK, HG⟩ : ∃ g, Hid (g < gk ∧ k + 1 + g = n') := ⟨gk - 1, by omega, by omega⟩
        clear hk x1 he r1 r2 TR
        go_wp2_with (first | (go_at_call_of 15 (Value.pointer (some ⟨q, 0, none⟩)); refine k1.mono ?_; clear k1; rintro e1 w14 ⟨v1, rfl, s1, b1'⟩; obtain ⟨o1, o2, o3, rfl, t1⟩ := s1.str) | (go_at_call_of 15 (Value.pointer (some ⟨q3, 0, none⟩)); refine (HK2.out _ b1').mono ?_; clear HK2; rintro e2 w15 ⟨v2, rfl, s2, b2'⟩; obtain ⟨p1, p2, p3, rfl, t2⟩ := s2.str; have u1 := t1 _ b2'; have u2 := t2 _ (Below.refl _ _); have B15 : Hid (Below wr.heap.size wr w15) := b1'.trans (b2'.mono b1'.size)))
        go_roundg GK
        case measure => exact HG.out.1
        case rel => exact ⟨k + 1, HG.out.2, by go_num, hw.out.trans (B15.out.mono hw.out.size)⟩
      · have h' : (n' : Int) ≤ (k : Int) := by omega
        have hin := HJ.out.2.2.1
        obtain ⟨ρ, hρ⟩ : ∃ ρ, ρ = σ.crash (is M ml) := ⟨_, rfl⟩
        have a1 : AllSure ρ := by rw [hρ]; exact crash_sure hin _
        have a2 : ρ.c.off = false := by rw [hρ]; rfl
        have a3 : ρ.used ≤ 200000 := by rw [hρ]; exact HJ.out.1.crash_used hin _
        have a4 := crash_list a1 a2 (is P pl)
        have a5 := crash_used a1 (is P pl)
        have hle : ((ρ.used : Nat) : Int) ≤ 1048576 := by omega
        have a6 : ρ.list.length ≤ 2 ^ 40 := by
          have := list_len (hin.crash (is M ml))
          rw [← hρ] at this
          exact Nat.le_trans this (by decide)
        have HQ := Hid.intro (And.intro a4 (And.intro a5 (And.intro a6 hρ)))
        have kr := TR.crash 1 rfl rfl BR mo ml mc M HPM.out.2.1 HPM.out.2.2.2
        clear hk a1 a2 a3 a4 a5 a6 hρ hin TR
        simp only [List.set_cons_zero, List.set_cons_succ] at kr
        rw [← HQ.out.2.2.2] at kr
        go_wp2_with (first | (go_at_call 24; refine kr.mono ?_; clear kr; rintro e' w14 ⟨rfl, B14, T14, _⟩; have kc := T14.copy DC 1 rfl rfl B14) | (go_at_call 21; refine kc.mono ?_; clear kc; rintro e' w15 ⟨q4, rfl, B15, T15⟩; simp only [List.cons_append, List.nil_append] at T15; have kr2 := T15.crash 1 rfl rfl B15 po pl pc P HPM.out.1 HPM.out.2.2.1; simp only [List.set_cons_zero, List.set_cons_succ] at kr2) | (go_at_call 24; refine kr2.mono ?_; clear kr2; rintro e' w16 ⟨rfl, B16, T16, _⟩; have kl := T16.list 3 rfl) | (go_at_call_of 17 (Value.pointer (some ⟨q4, 0, none⟩)); refine kl.mono ?_; clear kl; rintro e' w17 ⟨v17, rfl, s17, b17⟩; have T17 := T16.later b17; have B17 : Below w.heap.size w w17 := B16.trans (b17.mono B16.size); have kl2 := T17.list 1 rfl; rw [HQ.out.1] at kl2) | (go_at_call_of 17 (Value.pointer (some ⟨q2, 0, none⟩)); refine kl2.mono ?_; clear kl2; rintro e' w18 ⟨v18, rfl, s18, b18⟩; have T18 := T17.later b18; have B18 : Below w.heap.size w w18 := B17.trans (b18.mono B17.size)) | (go_at_call 25; refine (same_any _ _ _ _ (s17.later b18) s18 HQ.out.2.2.1).mono ?_; rintro e' w19 ⟨rfl, b19⟩; have T19 := T18.later b19; have B19 : Below w.heap.size w w19 := B18.trans (b19.mono B18.size); have ku := T19.used 3 rfl) | (go_at_call_of 12 (Value.pointer (some ⟨q4, 0, none⟩)); refine ku.mono ?_; clear ku; rintro e' w20 ⟨rfl, b20⟩; have T20 := T19.later b20; have B20 : Below w.heap.size w w20 := B19.trans (b20.mono B19.size); have ku2 := T20.used 1 rfl; rw [HQ.out.2.1] at ku2) | (go_at_call_of 12 (Value.pointer (some ⟨q2, 0, none⟩)); refine ku2.mono ?_; clear ku2; rintro e' w21 ⟨rfl, b21⟩; have T21 := T20.later b21; have B21 : Below w.heap.size w w21 := B20.trans (b21.mono B20.size); have ku3 := T21.used 1 rfl; rw [HQ.out.2.1] at ku3) | (go_at_call_of 12 (Value.pointer (some ⟨q2, 0, none⟩)); refine ku3.mono ?_; clear ku3; rintro e' w22 ⟨rfl, b22⟩; have B22 : Below w.heap.size w w22 := B21.trans (b22.mono B21.size)) | (go_at_call 14; refine (HA.out _).mono ?_; rintro e' w23 ⟨rfl, b23⟩))
        go_ret
        exact ⟨rfl, B22.trans (b23.mono B22.size)⟩
end Go.Proofs.Ytligofmcmjblpaa
