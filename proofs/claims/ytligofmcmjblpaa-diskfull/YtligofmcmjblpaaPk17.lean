import Derived.Deep.OwnRows
import Derived.Test.YtligofmcmjblpaaPk16
/- A file that grows to its bound, a disk that is full. -/
namespace Go.Proofs.Ytligofmcmjblpaa
open Go.RowKit
set_option linter.unusedVariables false
set_option linter.unusedSimpArgs false

/-- Both disks, apart from the blocks X. -/
structure BothX (D : PD) (B : Nat) (X : Nat → Prop) (q p : Nat) (σ : DS) (w : World) : Prop where
  ex : ∃ F G A loc lv wv, D.R w q σ F ∧ RefAt w p σ G A loc lv wv ∧ (∀ k, F k → B ≤ k) ∧ (∀ k, G k → B ≤ k) ∧ (∀ k, F k → ¬ G k) ∧ (∀ k, F k → ¬ X k) ∧ ∀ k, G k → ¬ X k
  lt : ∀ k, X k → k < w.heap.size
  inv : Inv σ
theorem BothX.later {D : PD} {B q p : Nat} {X : Nat → Prop} {σ : DS} {w w' : World} (h : BothX D B X q p σ w) (hb : Below w.heap.size w w') : BothX D B X q p σ w' := by
  obtain ⟨F, G, A, loc, lv, wv, h1, h2, h3⟩ := h.ex
  exact ⟨⟨F, G, A, loc, lv, wv, PD.later h1 hb, h2.later hb, h3⟩, fun k hk => Nat.lt_of_lt_of_le (h.lt k hk) hb.size, h.inv⟩
theorem Both.x {D : PD} {B q p : Nat} {σ : DS} {w w' : World} (h : Both D B q p σ w) (hb : Below w.heap.size w w') : BothX D B (fun k => w.heap.size ≤ k ∧ k < w'.heap.size) q p σ w' := by
  obtain ⟨F, G, A, loc, lv, wv, h1, h2, h3, h4, h5⟩ := h.ex
  refine ⟨⟨F, G, A, loc, lv, wv, PD.later h1 hb, h2.later hb, h3, h4, h5, fun k hk hx => ?_, fun k hk hx => ?_⟩, fun k hk => hk.2, h.inv⟩
  · have := D.lt h1 k hk
    omega
  · have := h2.lt k hk
    omega
/-- All of X stands as it stood. -/
def SameX (X : Nat → Prop) (w w' : World) : Prop := ∀ k, X k → w'.heap[k]? = w.heap[k]?
theorem SameX.cell {X : Nat → Prop} {w w' : World} (h : SameX X w w') {a : Addr} {v : Value} (hc : w.cell? a = some v) (hx : X a.block) : w'.cell? a = some v := (World.cell?_of_block (w := w) (h a.block hx)).trans hc
theorem bx_next {D : PD} {B q p : Nat} {X : Nat → Prop} {σ σ' : DS} {w w' w'' : World} {F G A A' : Nat → Prop} {loc loc' : Nat → Nat} {lv wv lv' wv' : Value} {F' G' : Nat → Prop} (hw : B ≤ w.heap.size) (h1 : D.R w q σ F) (h2 : RefAt w p σ G A loc lv wv) (h3 : ∀ k, F k → B ≤ k) (h4 : ∀ k, G k → B ≤ k) (h5 : ∀ k, F k → ¬ G k) (h6 : ∀ k, F k → ¬ X k) (h7 : ∀ k, G k → ¬ X k) (hX : ∀ k, X k → k < w.heap.size) (hi : Inv σ')
    (r1 : D.R w' q σ' F') (m1 : Kept F w w') (s1 : ∀ k, F' k → F k ∨ w.heap.size ≤ k) (r2 : RefAt w'' p σ' G' A' loc' lv' wv') (m2 : Kept G w' w'') (s2 : ∀ k, G' k → G k ∨ w'.heap.size ≤ k) :
    BothX D B X q p σ' w'' ∧ SameX X w w'' := by
  have e1 := m1.size
  have e2 := m2.size
  have hFG : ∀ k, F' k → ¬ G k := fun k hk hG => by
    rcases s1 k hk with x | x
    · exact h5 k x hG
    · have := h2.lt k hG
      omega
  refine ⟨⟨⟨F', G', A', loc', lv', wv', PD.kept r1 m2 hFG, r2, fun k hk => ?_, fun k hk => ?_, fun k hk hG => ?_, fun k hk hx => ?_, fun k hk hx => ?_⟩, fun k hk => ?_, hi⟩, fun k hk => ?_⟩
  · rcases s1 k hk with x | x
    · exact h3 k x
    · omega
  · rcases s2 k hk with x | x
    · exact h4 k x
    · omega
  · rcases s2 k hG with x | x
    · exact hFG k hk x
    · have := D.lt r1 k hk
      omega
  · rcases s1 k hk with x | x
    · exact h6 k x hx
    · have := hX k hx
      omega
  · rcases s2 k hk with x | x
    · exact h7 k x hx
    · have := hX k hx
      omega
  · have := hX k hk
    omega
  · have hkl := hX k hk
    exact (m2.block k (by omega) (fun g => h7 k g hk)).trans (m1.block k hkl (fun f => h6 k f hk))
theorem bx_create {D : PD} {B q p : Nat} {X : Nat → Prop} {σ : DS} {w : World} (h : BothX D B X q p σ w) {W : World} (hW : W.heap.size = B) (hb : Below B W w) (s : ByteArray) (hs : s.size ≤ 2 ^ 63 - 1) (hl : σ.c.calls < 1048576) :
    Calls Try.prog 8 #[ptr q, .string s] w fun e w' => e = .returned (.int .i64 (σ.create s).1) ∧
      Calls Try.prog 9 #[ptr p, .string s] w' fun e w'' => e = .returned (.int .i64 (σ.create s).1) ∧ Below B W w'' ∧ BothX D B X q p (σ.create s).2 w'' ∧ SameX X w w'' := by
  obtain ⟨F, G, A, loc, lv, wv, h1, h2, h3, h4, h5, h6, h7⟩ := h.ex
  subst hW
  refine (D.create s h1 h.inv hs).mono ?_
  rintro e w' ⟨rfl, F', r1, m1, s1⟩
  refine ⟨rfl, (rcreate_any p σ G A loc lv wv s w' (h2.kept m1 fun k hk hF => h5 k hF hk) h.inv hs).mono ?_⟩
  rintro e w'' ⟨rfl, G', A', loc', lv', wv', r2, m2, s2⟩
  have b1 := hb.trans (m1.below hb.size h3)
  exact ⟨rfl, b1.trans (m2.below b1.size h4), bx_next hb.size h1 h2 h3 h4 h5 h6 h7 h.lt (h.inv.create hl s) r1 m1 s1 r2 m2 s2⟩
theorem bx_append {D : PD} {B q p : Nat} {X : Nat → Prop} {σ : DS} {w : World} (h : BothX D B X q p σ w) {W : World} (hW : W.heap.size = B) (hb : Below B W w) (s : ByteArray) (g len cap : Nat) (Y : Nat → Nat) (hy : Byt w (some ⟨g, 0, none⟩) len Y) (hg : X g) (hlen : len ≤ 2 ^ 47) (hl : σ.c.calls < 1048576) :
    Calls Try.prog 10 #[ptr q, .string s, .slice (some ⟨g, 0, none⟩) len cap] w fun e w' => e = .returned (.int .i64 (σ.append s (bs Y len)).1) ∧
      Calls Try.prog 11 #[ptr p, .string s, .slice (some ⟨g, 0, none⟩) len cap] w' fun e w'' => e = .returned (.int .i64 (σ.append s (bs Y len)).1) ∧ Below B W w'' ∧ BothX D B X q p (σ.append s (bs Y len)).2 w'' ∧ SameX X w w'' := by
  obtain ⟨F, G, A, loc, lv, wv, h1, h2, h3, h4, h5, h6, h7⟩ := h.ex
  subst hW
  have o1 : 0 < len → ∀ a, some (⟨g, 0, none⟩ : Addr) = some a → ¬ F a.block := fun _ a e hF => by simp only [Option.some.injEq] at e; subst e; exact h6 _ hF hg
  have o2 : 0 < len → ∀ a, some (⟨g, 0, none⟩ : Addr) = some a → ¬ G a.block := fun _ a e hF => by simp only [Option.some.injEq] at e; subst e; exact h7 _ hF hg
  refine (D.append s (some ⟨g, 0, none⟩) len cap Y h1 h.inv hy (fun e => by cases e) o1 hlen).mono ?_
  rintro e w' ⟨rfl, F', r1, m1, s1⟩
  refine ⟨rfl, (rappend_any p σ G A loc lv wv s (some ⟨g, 0, none⟩) len cap Y w' (h2.kept m1 fun k hk hF => h5 k hF hk) h.inv (hy.kept m1 o1) (fun e => by cases e) o2 hlen).mono ?_⟩
  rintro e w'' ⟨rfl, G', A', loc', lv', wv', r2, m2, s2⟩
  have b1 := hb.trans (m1.below hb.size h3)
  exact ⟨rfl, b1.trans (m2.below b1.size h4), bx_next hb.size h1 h2 h3 h4 h5 h6 h7 h.lt (h.inv.append hl s _ (okb_bs hy)) r1 m1 s1 r2 m2 s2⟩
theorem bx_used {D : PD} {B q p : Nat} {X : Nat → Prop} {σ : DS} {w : World} (h : BothX D B X q p σ w) :
    Calls Try.prog 12 #[ptr q] w fun e w' => e = .returned (.int .i64 (σ.used : Int)) ∧ Below w.heap.size w w' ∧ Calls Try.prog 13 #[ptr p] w' fun e w'' => e = .returned (.int .i64 (σ.used : Int)) ∧ Below w.heap.size w w'' := by
  obtain ⟨F, G, A, loc, lv, wv, h1, h2, _⟩ := h.ex
  refine (D.used h1 h.inv).mono ?_
  rintro e w' ⟨rfl, b1⟩
  refine ⟨rfl, b1, (rused_any p σ G A loc lv wv w' (h2.later b1) h.inv.dn h.inv.fls).mono ?_⟩
  rintro e w'' ⟨rfl, b2⟩
  exact ⟨rfl, b1.trans (b2.mono b1.size)⟩

set_option maxHeartbeats 4000000 in
set_option maxRecDepth 100000 in
theorem full_any (D : PD) (room size times : Int) (w : World) (hr : -9223372036854775808 ≤ room ∧ room ≤ 9223372036854775807) :
    Calls Try.prog 3 #[.int .i64 room, .int .i64 size, .int .i64 times] w fun e w' => e = .returned (.bool true) ∧ Below w.heap.size w w' := by
  have HR := Hid.intro hr
  have k0 := D.new room w hr.1 hr.2
  have k1 := fun w1 => rnew_any room w1
  have HA : Hid (∀ w1, Calls Try.prog 14 #[] w1 fun e w' => e = .returned (.bool true) ∧ Below w1.heap.size w1 w') := fun w1 => awake_any D w1
  have a1 : -2000000 < size.tmod 2000000 ∧ size.tmod 2000000 < 2000000 := ⟨by have := Int.lt_tmod_of_pos size (b := 2000000) (by decide); omega, Int.tmod_lt_of_pos size (by decide)⟩
  have a2 : -6 < times.tmod 6 ∧ times.tmod 6 < 6 := ⟨by have := Int.lt_tmod_of_pos times (b := 6) (by decide); omega, Int.tmod_lt_of_pos times (by decide)⟩
  generalize hs : size.tmod 2000000 = u at a1
  generalize ht : times.tmod 6 = v at a2
  obtain ⟨S, hS⟩ := Int.eq_ofNat_of_zero_le (show 0 ≤ (u + 2000000).tmod 2000000 from Int.tmod_nonneg _ (by omega))
  obtain ⟨T, hT⟩ := Int.eq_ofNat_of_zero_le (show 0 ≤ (v + 6).tmod 6 from Int.tmod_nonneg _ (by omega))
  have hSl : S < 2000000 := by have := Int.tmod_lt_of_pos (u + 2000000) (b := 2000000) (by decide); omega
  have hTl : T < 6 := by have := Int.tmod_lt_of_pos (v + 6) (b := 6) (by decide); omega
  have hmk := run_make_row' (P := Try.prog) 26 5 (.int .u8 0) 1 Try.underlying26 Try.info5 rfl .i64 .i64 S (by omega) (by omega)
  unfold ptr at *
  clear hr
  go_enter Try.func3, Try.ntmps3
  go_wp2_with (first | (go_at_call 6; refine k0.mono ?_; rintro e w1 ⟨q, F, rfl, r1, f1, b1⟩) | (go_at_call 7; refine (k1 _).mono ?_; rintro e w2 ⟨p, G, A, loc, lv, wv, rfl, r2, g2, b2⟩))
  obtain ⟨w3, hw3⟩ : ∃ w3, w3 = (w2.alloc (.cells (madeCells #[.int .u8 0] S) 5)).alloc (.cells #[.string ⟨#[97]⟩, .string ⟨#[98]⟩] 9) := ⟨_, rfl⟩
  have hb3 : Below w2.heap.size w2 w3 := by rw [hw3]; exact ((Below.refl _ _).alloc (Nat.le_refl _) _).alloc (by simp) _
  have hsz3 : w3.heap.size = w2.heap.size + 1 + 1 := by rw [hw3]; simp
  have hy3 : Byt w3 (some ⟨w2.heap.size, 0, none⟩) S (fun _ => 0) := fun j hj => ⟨by show 0 < 256; decide, w2.heap.size, 0, rfl, by
    have e1 : (w2.alloc (.cells (madeCells #[.int .u8 0] S) 5)).cell? ⟨w2.heap.size, j, none⟩ = some (.int .u8 0) := by
      rw [cell_of (heap_alloc_new w2 _) j, ← Array.getElem?_toList, toList_madeCells_one]
      simp [hj]
    rw [hw3, Nat.zero_add]
    exact cell_later ((Below.refl _ _).alloc (Nat.le_refl _) _) e1⟩
  have hn3 : ∀ k, k < 2 → ∃ s : ByteArray, s.size = 1 ∧ w3.cell? ⟨w2.heap.size + 1, k, none⟩ = some (.string s) := fun k hk => by
    have e0 : w3.heap[w2.heap.size + 1]? = some (.cells #[.string ⟨#[97]⟩, .string ⟨#[98]⟩] 9) := by
      have := heap_alloc_new (w2.alloc (.cells (madeCells #[.int .u8 0] S) 5)) (.cells #[.string ⟨#[97]⟩, .string ⟨#[98]⟩] 9)
      rw [show (w2.alloc (.cells (madeCells #[.int .u8 0] S) 5)).heap.size = w2.heap.size + 1 by simp] at this
      rw [hw3]
      exact this
    have : k = 0 ∨ k = 1 := by omega
    rcases this with rfl | rfl
    · exact ⟨_, rfl, cell_of e0 0⟩
    · exact ⟨_, rfl, cell_of e0 1⟩
  rw [← hw3]
  have hB2 : Below w.heap.size w w2 := b1.trans (b2.mono b1.size)
  have HB := Hid.intro ((both_new HR.out.2 r1 f1 b1 r2 g2 b2).x hb3)
  have hB3 : Below w.heap.size w w3 := hB2.trans (hb3.mono hB2.size)
  have HX := Hid.intro (And.intro hsz3 (And.intro hy3 hn3))
  clear k0 k1 r1 f1 r2 g2 hw3 hy3 hn3 hb3 hmk
  go_loopg [28] 2 (fun g i wr => ∃ (k : Nat) (σ : DS), k + g = 2 ∧ i = .int .i64 (k : Int) ∧ Below w.heap.size w wr ∧ Hid (BothX D w.heap.size (fun k => w2.heap.size ≤ k ∧ k < w3.heap.size) q p σ wr ∧ σ.c.calls ≤ 10 * k ∧ SameX (fun k => w2.heap.size ≤ k ∧ k < w3.heap.size) w3 wr))
  case atStart => exact ⟨0, DS.new room, by omega, rfl, hB3, HB.out, by show (0 : Int) ≤ 10 * 0; decide, fun _ _ => rfl⟩
  case round =>
    obtain ⟨k, σ, hk, rfl, hw, HT⟩ := hrel
    by_cases h : k < 2
    · have h' : (k : Int) < 2 := by omega
      obtain ⟨s, hs1, hcs⟩ := HX.out.2.2 k h
      have y1 := HT.out.2.2.cell hcs ⟨Nat.le_succ _, by have := HX.out.1; show w2.heap.size + 1 < w3.heap.size; omega⟩
      have kc := bx_create HT.out.1 rfl hw s (by rw [hs1]; decide) (by have := HT.out.2.1; omega)
      have hcc := create_calls σ s
      have HCC : Hid ((σ.create s).2.c.calls ≤ 10 * (k : Int) + 1) := by have := HT.out.2.1; show _ ≤ _; omega
      have HSX := Hid.intro HT.out.2.2
      generalize σ.create s = R at kc HCC
      obtain ⟨E, σ1⟩ := R
      simp only at kc HCC
      unfold ptr at kc
      obtain ⟨GK, HG⟩ : ∃ g, Hid (g < gk ∧ k + 1 + g = 2) := ⟨gk - 1, by omega, by omega⟩
      clear hk hw hcs HT hcc hs1
      go_wp2_with (first | (go_at_call 8; refine kc.mono ?_; rintro e w4 ⟨rfl, kc2⟩) | (go_at_call 9; refine kc2.mono ?_; rintro e w5 ⟨rfl, B5, X5, S5⟩))
      have HT5 : Hid (BothX D w.heap.size (fun k => w2.heap.size ≤ k ∧ k < w3.heap.size) q p σ1 w5 ∧ SameX (fun k => w2.heap.size ≤ k ∧ k < w3.heap.size) w3 w5) := ⟨X5, fun j hj => (S5 j hj).trans (HSX.out j hj)⟩
      clear kc kc2 X5 S5
      go_loopg [40] T (fun g j wr => ∃ (m : Nat) (σ : DS), m + g = T ∧ j = .int .i64 (m : Int) ∧ Below w.heap.size w wr ∧ Hid (BothX D w.heap.size (fun k => w2.heap.size ≤ k ∧ k < w3.heap.size) q p σ wr ∧ σ.c.calls ≤ 10 * (k : Int) + 1 + m ∧ SameX (fun k => w2.heap.size ≤ k ∧ k < w3.heap.size) w3 wr))
      case atStart => exact ⟨0, σ1, by omega, rfl, B5, HT5.out.1, by have := HCC.out; omega, HT5.out.2⟩
      case round =>
        obtain ⟨m, σ2, hm, rfl, hw, HT⟩ := hrel
        by_cases h2 : m < T
        · have h2' : (m : Int) < (T : Int) := by omega
          have hy : Byt wr (some ⟨w2.heap.size, 0, none⟩) S (fun _ => 0) := fun j hj => by
            obtain ⟨e1, b, off, e2, e3⟩ := HX.out.2.1 j hj
            simp only [Option.some.injEq, Addr.mk.injEq, and_true] at e2
            obtain ⟨rfl, rfl⟩ := e2
            exact ⟨e1, _, _, rfl, HT.out.2.2.cell e3 ⟨Nat.le_refl _, by have := HX.out.1; show w2.heap.size < w3.heap.size; omega⟩⟩
          have ka := bx_append HT.out.1 rfl hw s w2.heap.size S S (fun _ => 0) hy (by have := HX.out.1; omega) (by omega) (by have := HT.out.2.1; omega)
          have hcc := append_calls σ2 s (bs (fun _ => 0) S)
          have HCC2 : Hid ((σ2.append s (bs (fun _ => 0) S)).2.c.calls ≤ 10 * (k : Int) + 1 + ((m + 1 : Nat) : Int)) := by have := HT.out.2.1; show _ ≤ _; omega
          have HSX2 := Hid.intro HT.out.2.2
          generalize σ2.append s (bs (fun _ => 0) S) = R at ka HCC2
          obtain ⟨E2, σ3⟩ := R
          simp only at ka HCC2
          unfold ptr at ka
          obtain ⟨GK2, HG2⟩ : ∃ g, Hid (g < gk ∧ m + 1 + g = T) := ⟨gk - 1, by omega, by omega⟩
          clear hm hw HT hcc hy
          go_wp2_with (first | (go_at_call 10; refine ka.mono ?_; rintro e w6 ⟨rfl, ka2⟩) | (go_at_call 11; refine ka2.mono ?_; rintro e w7 ⟨rfl, B7, X7, S7⟩; have ku := bx_used X7; unfold ptr at ku) | (go_at_call 12; refine ku.mono ?_; rintro e w8 ⟨rfl, b8, ku2⟩) | (go_at_call 13; refine ku2.mono ?_; rintro e w9 ⟨rfl, b9⟩))
          go_roundg GK2
          case measure => exact HG2.out.1
          case rel => exact ⟨m + 1, σ3, HG2.out.2, by go_num, B7.trans (b9.mono B7.size), X7.later b9, HCC2.out, fun j hj => (b9.block j (X7.lt j hj)).trans ((S7 j hj).trans (HSX2.out j hj))⟩
        · have h2' : (T : Int) ≤ (m : Int) := by omega
          have HF : Hid (BothX D w.heap.size (fun k => w2.heap.size ≤ k ∧ k < w3.heap.size) q p σ2 wr ∧ σ2.c.calls ≤ 10 * ((k + 1 : Nat) : Int) ∧ SameX (fun k => w2.heap.size ≤ k ∧ k < w3.heap.size) w3 wr) := ⟨HT.out.1, by have := HT.out.2.1; omega, HT.out.2.2⟩
          have HW := Hid.intro hw
          clear hm hw HT
          go_wp2_with fail
          go_roundg GK
          case measure => exact HG.out.1
          case rel => exact ⟨k + 1, σ2, HG.out.2, by go_num, HW.out, HF.out⟩
    · have h' : (2 : Int) ≤ (k : Int) := by omega
      go_wp2_with (go_at_call 14; refine (HA.out _).mono ?_; rintro e w6 ⟨rfl, b6⟩)
      go_ret
      exact ⟨rfl, hw.trans (b6.mono hw.size)⟩
end Go.Proofs.Ytligofmcmjblpaa
