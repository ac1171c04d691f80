import Derived.Lib.SlBytesConst
import Derived.Deep.RegionHeld
import Derived.Test.YtligofmcmjblpaaGreatPk14
/- A disk that every program must know. -/
namespace Go.Proofs.YtligofmcmjblpaaGreat
open Go.RowKit
set_option linter.unusedVariables false

def sA : ByteArray := ⟨#[97]⟩
def aw0 : DS := DS.new 100
def aw1 : DS := (aw0.create sA).2
def aw2 : DS := (aw1.append sA [120, 121]).2
theorem aw_create : (aw0.create sA).1 = 0 := by decide +kernel
theorem aw_append : (aw1.append sA [120, 121]).1 = 0 := by decide +kernel
theorem aw_read : aw2.read sA = (some [120, 121], 0) := by decide +kernel
theorem aw_str : strOfNums [120, 121] = ⟨#[120, 121]⟩ := by rfl
theorem inv0 : Inv aw0 := Inv.new 100 (by decide)
theorem aw0_calls : aw0.c.calls = 0 := rfl
theorem aw1_calls : aw1.c.calls = 1 := by decide +kernel
theorem inv1 : Inv aw1 := inv0.create (by rw [aw0_calls]; decide) sA
theorem okb2 : Okb [120, 121] := fun x hx => by
  simp at hx
  rcases hx with rfl | rfl <;> decide
theorem inv2 : Inv aw2 := inv1.append (by rw [aw1_calls]; decide) sA _ okb2
def X2 (k : Nat) : Nat := if k = 0 then 120 else 121
theorem byt2 (w : World) (fz : Nat × Nat) : Byt (w.alloc (.cells #[.int .u8 120, .int .u8 121] 5 fz)) (some ⟨w.heap.size, 0, none⟩) 2 X2 := fun k hk => by
  have : k = 0 ∨ k = 1 := by omega
  rcases this with rfl | rfl
  · exact ⟨by decide, w.heap.size, 0, rfl, cell_of (heap_alloc_new w _) 0⟩
  · exact ⟨by decide, w.heap.size, 0, rfl, cell_of (heap_alloc_new w _) 1⟩

set_option maxHeartbeats 2000000 in
set_option maxRecDepth 100000 in
theorem awake_any (D : PD) (w : World) : Calls Tryz.prog 11 #[] w fun e w' => e = .returned (.bool true) ∧ Below w.heap.size w w' := by
  have k0 := D.new 100 w (by decide) (by decide)
  have HC : Hid (∀ {w1 q F}, D.R w1 q aw0 F → Calls Tryz.prog 17 #[.pointer (some ⟨q, 0, none⟩), .string ⟨#[97]⟩] w1 fun e w' => e = .returned (.int .i64 0) ∧ Nx D.R w1 q aw1 F w') := fun h => by
    have := D.create sA h inv0 (by decide)
    rw [aw_create] at this
    exact this
  have HA : Hid (∀ {w2 q F} (cp : Nat) (fz : Nat × Nat), D.R w2 q aw1 F → Calls Tryz.prog 18 #[.pointer (some ⟨q, 0, none⟩), .string ⟨#[97]⟩, .slice (some ⟨w2.heap.size, 0, none⟩) 2 cp] (w2.alloc (.cells #[.int .u8 120, .int .u8 121] 5 fz)) fun e w' => e = .returned (.int .i64 0) ∧ Nx D.R w2 q aw2 F w') := fun {w2 q F} cp fz h => by
    have hb : Below w2.heap.size w2 (w2.alloc (.cells #[.int .u8 120, .int .u8 121] 5 fz)) := (Below.refl _ _).alloc (Nat.le_refl _) _
    have := D.append sA (some ⟨w2.heap.size, 0, none⟩) 2 cp X2 (PD.later h hb) inv1 (byt2 w2 fz) (fun e => by cases e) (fun _ a e hF => by
      simp only [Option.some.injEq] at e
      subst e
      have := D.lt h _ hF
      simp at this) (by decide)
    rw [show bs X2 2 = [120, 121] from rfl, aw_append] at this
    exact this.mono fun e w' ⟨h1, h2⟩ => ⟨h1, Nx.start hb h2⟩
  have HR : Hid (∀ {w3 q F}, D.R w3 q aw2 F → Calls Tryz.prog 44 #[.pointer (some ⟨q, 0, none⟩), .string ⟨#[97]⟩] w3 fun e w' => ∃ v, e = .returned (.tuple #[v, .int .i64 0]) ∧ BytR w' v [120, 121] ∧ Below w3.heap.size w3 w') := fun h => by
    have := D.read sA h inv2
    rw [aw_read] at this
    exact this
  have kc := fun (w : World) (C : Array Value) (n c : Nat) => Lib.run_convert_bytes_const (P := Tryz.prog) w 27 5 C n c Tryz.underlying27 Tryz.underlying5
  unfold ptr at k0
  go_enter Tryz.func11, Tryz.ntmps11
  go_wp2_with (first | (go_at_call 6; refine k0.mono ?_; rintro e w1 ⟨q, F, rfl, r1, f1, b1⟩) | (go_at_call 17; refine (HC.out r1).mono ?_; rintro e w2 ⟨rfl, F2, r2, m2, s2⟩) | (go_at_call 18; refine (HA.out _ _ r2).mono ?_; rintro e w3 ⟨rfl, F3, r3, m3, s3⟩) | (go_at_call 44; refine (HR.out r3).mono ?_; rintro e w4 ⟨v4, rfl, x4, b4⟩; obtain ⟨o1, o2, o3, rfl, t4⟩ := x4.str; have u4 := t4 _ (Below.refl _ _); rw [aw_str] at u4))
  go_ret
  have B1 : Below w.heap.size w w1 := b1
  have B2 : Below w.heap.size w w2 := B1.trans (m2.below B1.size f1)
  have f2 : ∀ k, F2 k → w.heap.size ≤ k := fun k hk => by
    rcases s2 k hk with x | x
    · exact f1 k x
    · have := B1.size
      omega
  have B3 : Below w.heap.size w w3 := B2.trans (m3.below B2.size f2)
  exact ⟨rfl, B3.trans (b4.mono B3.size)⟩
end Go.Proofs.YtligofmcmjblpaaGreat

/- A disk is its calls: any calls. -/
namespace Go.Proofs.YtligofmcmjblpaaGreat
open Go.RowKit
set_option linter.unusedVariables false
set_option linter.unusedSimpArgs false

theorem create_calls (σ : DS) (s : ByteArray) : (σ.create s).2.c.calls = σ.c.calls + 1 := by
  have e : σ.cnt.c.calls = σ.c.calls + 1 := Cn.cc_calls _
  unfold DS.create
  split
  · exact e
  · split
    · exact e
    · split
      · exact e
      · exact e
theorem append_calls (σ : DS) (s : ByteArray) (b : List Int) : (σ.append s b).2.c.calls = σ.c.calls + 1 := by
  have e : σ.cnt.c.calls = σ.c.calls + 1 := Cn.cc_calls _
  unfold DS.append
  split
  · exact e
  · split
    · exact e
    · split
      · exact e
      · exact e
theorem sync_calls (σ : DS) (s : ByteArray) : (σ.sync s).2.c.calls = σ.c.calls + 1 := by
  have e : σ.cnt.c.calls = σ.c.calls + 1 := Cn.cc_calls _
  unfold DS.sync
  split
  · exact e
  · split
    · exact e
    · exact e
theorem rename_calls (σ : DS) (s t : ByteArray) : (σ.rename s t).2.c.calls = σ.c.calls + 1 := by
  have e : σ.cnt.c.calls = σ.c.calls + 1 := Cn.cc_calls _
  unfold DS.rename
  split
  · exact e
  · split
    · exact e
    · split
      · exact e
      · split
        · exact e
        · exact e
theorem remove_calls (σ : DS) (s : ByteArray) : (σ.remove s).2.c.calls = σ.c.calls + 1 := by
  have e : σ.cnt.c.calls = σ.c.calls + 1 := Cn.cc_calls _
  unfold DS.remove
  split
  · exact e
  · split
    · exact e
    · exact e
theorem syncDir_calls (σ : DS) : σ.syncDir.2.c.calls = σ.c.calls + 1 := by
  have e : σ.cnt.c.calls = σ.c.calls + 1 := Cn.cc_calls _
  unfold DS.syncDir
  split
  · exact e
  · exact e
theorem spoil_calls (σ : DS) (s : ByteArray) (a x : Int) : (σ.spoil s a x).2.c.calls = σ.c.calls := by
  unfold DS.spoil
  split
  · rfl
  · split
    · rfl
    · split <;> rfl
theorem doC_calls (σ : DS) (c : CV) : (σ.doC c).2.c.calls ≤ σ.c.calls + 1 := by
  unfold DS.doC
  split
  · rw [create_calls]; omega
  · split
    · rw [append_calls]; omega
    · split
      · rw [sync_calls]; omega
      · split
        · rw [rename_calls]; omega
        · split
          · rw [remove_calls]; omega
          · split
            · rw [syncDir_calls]; omega
            · split
              · show σ.c.calls ≤ _; omega
              · split
                · show σ.c.calls ≤ _; omega
                · split
                  · show σ.c.calls ≤ _; omega
                  · show (σ.spoil c.name c.pos (c.n % 256)).2.c.calls ≤ _
                    rw [spoil_calls]
                    omega

/-- A program's disk and the document's own, in one state, apart from one another, in memory from B on. -/
structure Both (D : PD) (B q p : Nat) (σ : DS) (w : World) : Prop where
  ex : ∃ F G A loc lv wv, D.R w q σ F ∧ RefAt w p σ G A loc lv wv ∧ (∀ k, F k → B ≤ k) ∧ (∀ k, G k → B ≤ k) ∧ ∀ k, F k → ¬ G k
  inv : Inv σ
theorem Both.later {D : PD} {B q p : Nat} {σ : DS} {w w' : World} (h : Both D B q p σ w) (hb : Below w.heap.size w w') : Both D B q p σ w' := by
  obtain ⟨F, G, A, loc, lv, wv, h1, h2, h3⟩ := h.ex
  exact ⟨⟨F, G, A, loc, lv, wv, PD.later h1 hb, h2.later hb, h3⟩, h.inv⟩
/-- The cells of a call. -/
def CellsAt (w : World) (b o : Nat) (c : CV) : Prop := ∀ (j : Nat) (v : Value), c.cells[j]? = some v → w.cell? ⟨b, o + j, none⟩ = some v
theorem CellsAt.later {w w' : World} {b o : Nat} {c : CV} (h : CellsAt w b o c) (hb : Below w.heap.size w w') : CellsAt w' b o c := fun j v hj => cell_later hb (h j v hj)
theorem cells8 {w : World} {b o : Nat} {c : CV} (h : CellsAt w b o c) : w.cell? ⟨b, o, none⟩ = some (.int .i64 c.op) ∧ w.cell? ⟨b, o + 1, none⟩ = some (.string c.name) ∧ w.cell? ⟨b, o + 2, none⟩ = some (.string c.other) ∧ w.cell? ⟨b, o + 3, none⟩ = some (.slice c.dao c.dlen c.dcap) ∧
    w.cell? ⟨b, o + 4, none⟩ = some (.int .i64 c.n) ∧ w.cell? ⟨b, o + 5, none⟩ = some (.int .i64 c.k) ∧ w.cell? ⟨b, o + 6, none⟩ = some (.int .i64 c.pos) ∧ w.cell? ⟨b, o + 7, none⟩ = some (.slice c.pao c.plen c.pcap) :=
  ⟨h 0 _ rfl, h 1 _ rfl, h 2 _ rfl, h 3 _ rfl, h 4 _ rfl, h 5 _ rfl, h 6 _ rfl, h 7 _ rfl⟩
/-- A slice of calls. -/
def CallsR (w : World) (so : Option Addr) (sl : Nat) (C : Nat → CV) : Prop := ∀ k, k < sl → (C k).Ok w ∧ ∃ b off, so = some ⟨b, off, none⟩ ∧ CellsAt w b (off + k * 8) (C k)
theorem _root_.Go.Proofs.Tryz.cells30 : Tryz.prog.cellsOf 30 = 8 := by kernel_rfl
/-- A call of the program's disk. -/
theorem both_do {D : PD} {B q p : Nat} {σ : DS} {w : World} (h : Both D B q p σ w) {W : World} (hW : W.heap.size = B) (hb : Below B W w) (c : CV) (hc : c.Ok W) (hd : c.dlen ≤ 2 ^ 47) (hl : σ.c.calls < 1048576) :
    Calls Tryz.prog 8 #[ptr q, c.val] w fun e w' => e = .returned (.int .i64 (σ.doC c).1) ∧ Below B W w' ∧
      Calls Tryz.prog 9 #[ptr p, c.val] w' fun e w'' => e = .returned (.int .i64 (σ.doC c).1) ∧ Below B W w'' ∧ Both D B q p (σ.doC c).2 w'' := by
  obtain ⟨F, G, A, loc, lv, wv, h1, h2, h3, h4, h5⟩ := h.ex
  subst hW
  have hs := hb.size
  have c1 := hc.later hb
  refine (do_any D q σ F c w h1 h.inv c1 ⟨(CV.Off.of hc h3).d, (CV.Off.of hc h3).p⟩ hd).mono ?_
  rintro e w' ⟨rfl, F', r1, m1, s1⟩
  have b1 : Below W.heap.size W w' := hb.trans (m1.below hs h3)
  have h2' := h2.kept m1 fun k hk hF => h5 k hF hk
  refine ⟨rfl, b1, (model_any p σ G A loc lv wv c w' h2' h.inv (hc.later b1) ⟨(CV.Off.of hc h4).d, (CV.Off.of hc h4).p⟩ hd).mono ?_⟩
  rintro e w'' ⟨rfl, G', A', loc', lv', wv', r2, m2, s2⟩
  have hFG : ∀ k, F' k → ¬ G k := fun k hk hG => by
    rcases s1 k hk with x | x
    · exact h5 k x hG
    · have := h2.lt k hG
      omega
  refine ⟨rfl, b1.trans (m2.below b1.size h4), ⟨⟨F', G', A', loc', lv', wv', PD.kept r1 m2 hFG, r2, fun k hk => ?_, fun k hk => ?_, fun k hk hG => ?_⟩, h.inv.doC hl c hc⟩⟩
  · rcases s1 k hk with x | x
    · exact h3 k x
    · omega
  · rcases s2 k hk with x | x
    · exact h4 k x
    · have := b1.size
      omega
  · rcases s2 k hG with x | x
    · exact hFG k hk x
    · have := D.lt r1 k hk
      omega
theorem both_like {D : PD} {B q p : Nat} {σ : DS} {w : World} (h : Both D B q p σ w) : Calls Tryz.prog 10 #[ptr q, ptr p] w fun e w' => e = .returned (.bool true) ∧ Below w.heap.size w w' := by
  obtain ⟨F, G, A, loc, lv, wv, h1, h2, _⟩ := h.ex
  exact like_any D q p σ F G A loc lv wv w h1 h2 h.inv
end Go.Proofs.YtligofmcmjblpaaGreat

/- A disk is its calls: the walk. -/
namespace Go.Proofs.YtligofmcmjblpaaGreat
open Go.RowKit
set_option linter.unusedVariables false
set_option linter.unusedSimpArgs false

theorem both_new {D : PD} {room : Int} {w w1 w2 : World} {q p : Nat} {F G A : Nat → Prop} {loc : Nat → Nat} {lv wv : Value} (hr : room ≤ 9223372036854775807) (r1 : D.R w1 q (DS.new room) F) (f1 : ∀ k, F k → w.heap.size ≤ k) (b1 : Below w.heap.size w w1) (r2 : RefAt w2 p (DS.new room) G A loc lv wv) (g2 : ∀ k, G k → w1.heap.size ≤ k) (b2 : Below w1.heap.size w1 w2) :
    Both D w.heap.size q p (DS.new room) w2 := by
  refine ⟨⟨F, G, A, loc, lv, wv, PD.later r1 b2, r2, f1, fun k hk => Nat.le_trans b1.size (g2 k hk), fun k hk hG => ?_⟩, Inv.new room hr⟩
  have h1 := D.lt r1 k hk
  have h2 := g2 k hG
  omega

set_option maxHeartbeats 4000000 in
set_option maxRecDepth 100000 in
theorem plays_any (D : PD) (room : Int) (so : Option Addr) (sl sc : Nat) (C : Nat → CV) (w : World) (hr : -9223372036854775808 ≤ room ∧ room ≤ 9223372036854775807) (hC : CallsR w so sl C) (hsl : sl ≤ 2 ^ 63 - 1) :
    Calls Tryz.prog 3 #[.int .i64 room, .slice so sl sc] w fun e w' => e = .returned (.bool true) ∧ Below w.heap.size w w' := by
  have HC := Hid.intro hC
  have HR := Hid.intro hr
  have k0 := D.new room w hr.1 hr.2
  have k1 := fun w1 => rnew_any room w1
  have HA : Hid (∀ w1, Calls Tryz.prog 11 #[] w1 fun e w' => e = .returned (.bool true) ∧ Below w1.heap.size w1 w') := fun w1 => awake_any D w1
  unfold ptr at *
  clear hC hr
  go_enter Tryz.func3, Tryz.ntmps3
  go_wp2_with (first | (go_at_call 6; refine k0.mono ?_; rintro e w1 ⟨q, F, rfl, r1, f1, b1⟩) | (go_at_call 7; refine (k1 _).mono ?_; rintro e w2 ⟨p, G, A, loc, lv, wv, rfl, r2, g2, b2⟩))
  have hB2 : Below w.heap.size w w2 := b1.trans (b2.mono b1.size)
  have HB := Hid.intro (both_new HR.out.2 r1 f1 b1 r2 g2 b2)
  clear k0 k1 r1 f1 r2 g2
  go_loopg [7] 100 (fun g i wr => ∃ (k : Nat) (σ : DS), k + g = 100 ∧ i = .int .i64 (k : Int) ∧ Below w.heap.size w wr ∧ Hid (Both D w.heap.size q p σ wr ∧ σ.c.calls ≤ k))
  case atStart => exact ⟨0, DS.new room, by omega, rfl, hB2, HB.out, by show (0 : Int) ≤ 0; decide⟩
  case round =>
    obtain ⟨k, σ, hk, rfl, hw, HT⟩ := hrel
    by_cases h1 : k < sl
    · have h1' : (k : Int) < (sl : Int) := by omega
      by_cases h2 : k < 100
      · have h2' : (k : Int) < 100 := by omega
        obtain ⟨hok, b, off, rfl, hce⟩ := HC.out k h1
        have Y0 := Hid.intro (hce.later hw)
        have HOK := Hid.intro hok
        have hcl : σ.c.calls < 1048576 := by have := HT.out.2; omega
        have kd := fun hd => both_do (HT.out.1.later (Below.refl _ _).drew) rfl hw.drew (C k) hok hd hcl
        have HCE := Hid.intro hce
        have hcc := doC_calls σ (C k)
        have HCC : Hid ((σ.doC (C k)).2.c.calls ≤ ((k + 1 : Nat) : Int)) := by have := HT.out.2; show _ ≤ _; omega
        obtain ⟨GK, HG⟩ : ∃ g, Hid (g < gk ∧ k + 1 + g = 100) := ⟨gk - 1, by omega, by omega⟩
        have HW := Hid.intro hw
        generalize σ.doC (C k) = S at kd HCC
        obtain ⟨E, σ'⟩ := S
        simp only at kd HCC
        have hz := cells8 Y0.out
        generalize C k = cv at kd Y0 HOK hz HCE
        obtain ⟨op, name, other, dao, dlen, dcap, dX, n, kk, pos, pao, plen, pcap, P⟩ := cv
        unfold CV.val CV.cells ptr at kd
        simp only at kd hz
        have hdl : dlen ≤ 2 ^ 63 - 1 := HOK.out.dl
        obtain ⟨z0, z1, z2, z3, z4, z5, z6, z7⟩ := hz
        clear hk hok hce hw hcl hcc
        by_cases h3 : dlen ≤ 5000
        · have h3' : decide ((5000 : Int) < (dlen : Int)) = false := decide_eq_false (by omega)
          have kd := kd (by omega)
          go_wp2_with fail
          go_region_held (fun w' => w'.cell? ⟨b, off + k * 8, none⟩ = some (.int .i64 op) ∧ w'.cell? ⟨b, off + k * 8 + 1, none⟩ = some (.string name) ∧ w'.cell? ⟨b, off + k * 8 + 2, none⟩ = some (.string other) ∧ w'.cell? ⟨b, off + k * 8 + 3, none⟩ = some (.slice dao dlen dcap) ∧ w'.cell? ⟨b, off + k * 8 + 4, none⟩ = some (.int .i64 n) ∧ w'.cell? ⟨b, off + k * 8 + 5, none⟩ = some (.int .i64 kk) ∧ w'.cell? ⟨b, off + k * 8 + 6, none⟩ = some (.int .i64 pos) ∧ w'.cell? ⟨b, off + k * 8 + 7, none⟩ = some (.slice pao plen pcap)) (first | exact ⟨z0, z1, z2, z3, z4, z5, z6, z7⟩ | exact cells8 Y3.out | exact cells8 Y2.out | exact cells8 Y1.out) (first | (go_at_call 8; refine kd.mono ?_; rintro e w3 ⟨rfl, B3, kd2⟩; have Y1 := Hid.intro (HCE.out.later B3)) | (go_at_call 9; refine kd2.mono ?_; rintro e w4 ⟨rfl, B4, BB⟩; have Y2 := Hid.intro (HCE.out.later B4); have kl := both_like BB; unfold ptr at kl) | (go_at_call 10; refine kl.mono ?_; rintro e w5 ⟨rfl, b5⟩; have B5 := B4.trans (b5.mono B4.size); have Y3 := Hid.intro (HCE.out.later B5)))
          go_wp2_with fail
          go_roundg GK
          case measure => exact HG.out.1
          case rel => exact ⟨k + 1, σ', HG.out.2, by go_num, B5, BB.later b5, HCC.out⟩
        · have h3' : decide ((5000 : Int) < (dlen : Int)) = true := decide_eq_true (by omega)
          have h3'' : (5000 : Int) < (dlen : Int) := by omega
          go_wp2_with fail
          go_quiet (fail)
          go_wp2_with (go_at_call 11; refine (HA.out _).mono ?_; rintro e w6 ⟨rfl, b6⟩)
          go_ret
          exact ⟨rfl, (below_drewN HW.out _).trans (b6.mono HW.out.size)⟩
      · have h2' : (100 : Int) ≤ (k : Int) := by omega
        go_wp2_with (go_at_call 11; refine (HA.out _).mono ?_; rintro e w6 ⟨rfl, b6⟩)
        go_ret
        exact ⟨rfl, hw.trans (b6.mono hw.size)⟩
    · have h1' : (sl : Int) ≤ (k : Int) := by omega
      go_wp2_with (go_at_call 11; refine (HA.out _).mono ?_; rintro e w6 ⟨rfl, b6⟩)
      go_ret
      exact ⟨rfl, hw.trans (b6.mono hw.size)⟩
end Go.Proofs.YtligofmcmjblpaaGreat
