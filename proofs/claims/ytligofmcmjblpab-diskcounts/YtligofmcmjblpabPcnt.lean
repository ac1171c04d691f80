/- The power goes at the very call that was named; calls fail that were named. -/
import Derived.Test.YtligofmcmjblpabPawakeE
namespace Go.Proofs.Ytligofmcmjblpab
open Go.RowKit
set_option linter.unusedVariables false
set_option linter.unusedSimpArgs false

def sF : ByteArray := ⟨#[102]⟩
def sG : ByteArray := ⟨#[103]⟩
/-- The state behind i appends. -/
structure Cst (f a b : Int) (i : Nat) (σ : DS) : Prop where
  calls : σ.c.calls = (i : Int) + 1
  off : σ.c.off = decide (1 ≤ f ∧ f ≤ (i : Int))
  fuse : σ.c.off = false → σ.c.fuse = if 1 ≤ f then f - (i : Int) else 0
  none : σ.c.off = false → ¬ (1 ≤ a ∧ 1 ≤ b) → σ.c.fails = 0
  wait : σ.c.off = false → 1 ≤ a → 1 ≤ b → (i : Int) + 1 < a → σ.c.wait = a - (i : Int) ∧ σ.c.fails = b
  fail : σ.c.off = false → 1 ≤ a → 1 ≤ b → a ≤ (i : Int) + 1 → σ.c.wait = 1 ∧ σ.c.fails = max (a + b - 1 - (i : Int)) 0
  room : σ.room = 1048576
  dir : σ.dir = [(sF, 0)]
  was : σ.was = [[], [(sF, 0)]]
  len : (σ.fl 0).1.length ≤ i
def want (f a b : Int) (i : Nat) : Int := if 1 ≤ f ∧ f ≤ (i : Int) then 10 else if 1 ≤ a ∧ a ≤ (i : Int) ∧ (i : Int) < a + b then 9 else 0
theorem cst_cc {f a b : Int} {i : Nat} {c : Cn} (hf : 0 ≤ f) (hb : 0 ≤ b) (h1 : c.calls = (i : Int) + 1) (h2 : c.off = decide (1 ≤ f ∧ f ≤ (i : Int))) (h3 : c.off = false → c.fuse = if 1 ≤ f then f - (i : Int) else 0) (h4 : c.off = false → ¬ (1 ≤ a ∧ 1 ≤ b) → c.fails = 0)
    (h5 : c.off = false → 1 ≤ a → 1 ≤ b → (i : Int) + 1 < a → c.wait = a - (i : Int) ∧ c.fails = b) (h6 : c.off = false → 1 ≤ a → 1 ≤ b → a ≤ (i : Int) + 1 → c.wait = 1 ∧ c.fails = max (a + b - 1 - (i : Int)) 0) :
    (c.cc.calls = ((i + 1 : Nat) : Int) + 1 ∧ c.cc.off = decide (1 ≤ f ∧ f ≤ ((i + 1 : Nat) : Int)) ∧ (c.cc.off = false → c.cc.fuse = if 1 ≤ f then f - ((i + 1 : Nat) : Int) else 0) ∧ (c.cc.off = false → ¬ (1 ≤ a ∧ 1 ≤ b) → c.cc.fails = 0) ∧
    (c.cc.off = false → 1 ≤ a → 1 ≤ b → ((i + 1 : Nat) : Int) + 1 < a → c.cc.wait = a - ((i + 1 : Nat) : Int) ∧ c.cc.fails = b) ∧ (c.cc.off = false → 1 ≤ a → 1 ≤ b → a ≤ ((i + 1 : Nat) : Int) + 1 → c.cc.wait = 1 ∧ c.cc.fails = max (a + b - 1 - ((i + 1 : Nat) : Int)) 0)) ∧
    (if c.ce ≠ 0 then c.ce else endE 0 c.cl) = want f a b (i + 1) := by
  obtain ⟨calls, fuse, wait, fails, off⟩ := c
  simp only at h1 h2 h3 h4 h5 h6
  subst h1
  cases off with
  | true =>
    have hfi : 1 ≤ f ∧ f ≤ (i : Int) := by simpa using h2.symm
    refine ⟨⟨by simp [Cn.cc], ?_, fun e => by simp [Cn.cc] at e, fun e => by simp [Cn.cc] at e, fun e => by simp [Cn.cc] at e, fun e => by simp [Cn.cc] at e⟩, ?_⟩
    · simp [Cn.cc]
      omega
    · simp [Cn.ce, want]
      omega
  | false =>
    have hfi : ¬ (1 ≤ f ∧ f ≤ (i : Int)) := by simpa using h2.symm
    have h3 := h3 rfl
    have h4 := h4 rfl
    have h5 := h5 rfl
    have h6 := h6 rfl
    have hof : decide (fuse = 1) = decide (1 ≤ f ∧ f ≤ ((i + 1 : Nat) : Int)) := by
      rw [decide_eq_decide, h3]
      split <;> omega
    have hcc : Cn.cc ⟨(i : Int) + 1, fuse, wait, fails, false⟩ = ⟨(i : Int) + 1 + 1, if 0 < fuse then fuse - 1 else fuse, if 0 < fails ∧ 1 < wait then wait - 1 else wait, if 0 < fails ∧ ¬ 1 < wait then fails - 1 else fails, decide (fuse = 1)⟩ := rfl
    rw [hcc]
    refine ⟨⟨by simp, hof, fun e => ?_, fun e hn => ?_, fun e ha hb1 hi => ?_, fun e ha hb1 hi => ?_⟩, ?_⟩
    · simp only [decide_eq_false_iff_not] at e
      show (if 0 < fuse then fuse - 1 else fuse) = _
      rw [h3] at e ⊢
      by_cases q : 1 ≤ f
      · simp only [q, if_true] at e ⊢
        rw [if_pos (by omega)]
        omega
      · simp only [q, if_false] at e ⊢
        simp
    · show (if 0 < fails ∧ ¬ 1 < wait then fails - 1 else fails) = 0
      rw [h4 hn]
      simp
    · have hx := h5 ha hb1 (by omega)
      refine ⟨?_, ?_⟩
      · show (if 0 < fails ∧ 1 < wait then wait - 1 else wait) = _
        rw [if_pos (by omega)]
        omega
      · show (if 0 < fails ∧ ¬ 1 < wait then fails - 1 else fails) = b
        rw [if_neg (by omega)]
        exact hx.2
    · by_cases q : (i : Int) + 1 < a
      · have hx := h5 ha hb1 q
        refine ⟨?_, ?_⟩
        · show (if 0 < fails ∧ 1 < wait then wait - 1 else wait) = _
          rw [if_pos (by omega)]
          omega
        · show (if 0 < fails ∧ ¬ 1 < wait then fails - 1 else fails) = _
          rw [if_neg (by omega)]
          omega
      · have hx := h6 ha hb1 (by omega)
        refine ⟨?_, ?_⟩
        · show (if 0 < fails ∧ 1 < wait then wait - 1 else wait) = _
          rw [if_neg (by omega)]
          exact hx.1
        · show (if 0 < fails ∧ ¬ 1 < wait then fails - 1 else fails) = _
          split <;> omega
    · have hfl : Cn.fl ⟨(i : Int) + 1, fuse, wait, fails, false⟩ = decide (1 ≤ a ∧ a ≤ ((i + 1 : Nat) : Int) ∧ ((i + 1 : Nat) : Int) < a + b) := by
        unfold Cn.fl
        rw [Bool.eq_iff_iff]
        simp only [Bool.and_eq_true, decide_eq_true_eq, Bool.not_eq_true', decide_eq_false_iff_not]
        by_cases q : 1 ≤ a ∧ 1 ≤ b
        · by_cases q2 : (i : Int) + 1 < a
          · have := h5 q.1 q.2 q2
            omega
          · have := h6 q.1 q.2 (by omega)
            omega
        · have := h4 q
          omega
      have hfu : (fuse = 1) ↔ (1 ≤ f ∧ f ≤ ((i + 1 : Nat) : Int)) := by
        rw [h3]
        split <;> omega
      have hPi : (1 ≤ a ∧ a ≤ ((i + 1 : Nat) : Int) ∧ ((i + 1 : Nat) : Int) < a + b) ↔ decide (1 ≤ a ∧ a ≤ ((i + 1 : Nat) : Int) ∧ ((i + 1 : Nat) : Int) < a + b) = true := by simp
      generalize hP : decide (1 ≤ a ∧ a ≤ ((i + 1 : Nat) : Int) ∧ ((i + 1 : Nat) : Int) < a + b) = Bv at hfl hPi
      have hw : want f a b (i + 1) = if fuse = 1 then 10 else if Bv = true then 9 else 0 := by
        unfold want
        by_cases p1 : fuse = 1
        · rw [if_pos (hfu.1 p1), if_pos p1]
        · rw [if_neg (fun x => p1 (hfu.2 x)), if_neg p1]
          by_cases p3 : Bv = true
          · rw [if_pos (hPi.2 p3), if_pos p3]
          · rw [if_neg (fun x => p3 (hPi.1 x)), if_neg p3]
      rw [hw]
      unfold Cn.ce Cn.cl
      simp only [hfl]
      by_cases p1 : fuse = 1
      · cases Bv <;> simp [p1, endE]
      · cases Bv <;> simp [p1, endE]
theorem cst_step {f a b : Int} {i : Nat} {σ : DS} (hf : 0 ≤ f) (hb : 0 ≤ b) (hi : i ≤ 1000) (h : Cst f a b i σ) : (σ.append sF [120]).1 = want f a b (i + 1) ∧ Cst f a b (i + 1) (σ.append sF [120]).2 := by
  obtain ⟨⟨e1, e2, e3, e4, e5, e6⟩, e7⟩ := cst_cc hf hb h.calls h.off h.fuse h.none h.wait h.fail
  have hfn : fnd σ.dir sF = some 0 := by rw [h.dir]; decide +kernel
  have hus : σ.used = (σ.fl 0).1.length := by unfold DS.used; rw [h.dir]; simp [used]
  have hl := h.len
  unfold DS.append
  by_cases q : σ.c.ce ≠ 0
  · rw [if_pos q] at e7 ⊢
    exact ⟨e7, ⟨e1, e2, e3, e4, e5, e6, h.room, h.dir, h.was, Nat.le_succ_of_le h.len⟩⟩
  · rw [if_neg q] at e7 ⊢
    simp only [hfn]
    rw [if_neg (by rw [hus, h.room]; simp; omega)]
    refine ⟨e7, ⟨e1, e2, e3, e4, e5, e6, h.room, h.dir, h.was, ?_⟩⟩
    show ((upd σ.fl 0 ((σ.fl 0).1 ++ [120], (σ.fl 0).2)) 0).1.length ≤ i + 1
    simp [upd]
    exact hl
def cs0 : DS := ((DS.new 1048576).create sF).2
theorem cs0_ok : ((DS.new 1048576).create sF).1 = 0 := by decide +kernel
theorem cst_start (f a b : Int) (hf : 0 ≤ f) (ha : 0 ≤ a) (hb : 0 ≤ b) : Cst f a b 0 ((cs0.setFuse f).setFault a b) := by
  have hc : cs0.c = ⟨1, 0, 0, 0, false⟩ := by rfl
  refine ⟨?_, ?_, fun _ => ?_, fun _ hn => ?_, fun _ h1 h2 h3 => ?_, fun _ h1 h2 h3 => ?_, rfl, ?_, ?_, ?_⟩
  · show cs0.c.calls = _
    rw [hc]
    rfl
  · show cs0.c.off = _
    rw [hc]
    simp
    omega
  · show max 0 f = _
    split <;> omega
  · show (if a < 1 ∨ b < 1 then 0 else b) = 0
    rw [if_pos (by omega)]
  · show (if a < 1 ∨ b < 1 then 0 else a) = _ ∧ (if a < 1 ∨ b < 1 then 0 else b) = b
    rw [if_neg (by omega), if_neg (by omega)]
    exact ⟨by omega, rfl⟩
  · show (if a < 1 ∨ b < 1 then 0 else a) = 1 ∧ (if a < 1 ∨ b < 1 then 0 else b) = _
    rw [if_neg (by omega), if_neg (by omega)]
    omega
  · rfl
  · rfl
  · show ((cs0.fl 0).1).length ≤ 0
    exact Nat.le_refl 0
theorem cst_crash {f a b : Int} {i : Nat} {σ : DS} (h : Cst f a b i σ) : (σ.crash []).c.off = false ∧ ((σ.crash []).create sG).1 = 0 := by
  have hk : σ.kept [] = [] := by
    unfold DS.kept
    rw [h.was]
    rfl
  refine ⟨rfl, ?_⟩
  have hd : (σ.crash []).dir = [] := by
    unfold DS.crash
    rw [hk]
    rfl
  have hce : (σ.crash []).c.ce = 0 := rfl
  have hcl : (σ.crash []).c.cl = false := rfl
  unfold DS.create
  rw [hce, hcl, hd]
  have hm : mayN sG = true := by decide +kernel
  simp [hm, fnd, endE]

def X1 (k : Nat) : Nat := 120
theorem byt1 (w : World) (fz : Nat × Nat) : Byt (w.alloc (.cells #[.int .u8 120] 5 fz)) (some ⟨w.heap.size, 0, none⟩) 1 X1 := fun k hk => by
  obtain rfl : k = 0 := by omega
  exact ⟨by decide, w.heap.size, 0, rfl, cell_of (heap_alloc_new w _) 0⟩
theorem wrapU' (n : Int) : IntKind.u64.wrap n = n % 18446744073709551616 := by simp [IntKind.wrap_u64]
/-- A disk of the program's, in memory from B on. -/
structure One (D : PD) (B q : Nat) (σ : DS) (w : World) : Prop where
  ex : ∃ F, D.R w q σ F ∧ ∀ k, F k → B ≤ k
  inv : Inv σ
theorem One.later {D : PD} {B q : Nat} {σ : DS} {w w' : World} (h : One D B q σ w) (hb : Below w.heap.size w w') : One D B q σ w' := by
  obtain ⟨F, h1, h2⟩ := h.ex
  exact ⟨⟨F, PD.later h1 hb, h2⟩, h.inv⟩
theorem one_nx {D : PD} {B q : Nat} {σ' : DS} {w w' W : World} {F : Nat → Prop} (hW : W.heap.size = B) (hb : Below B W w) (h2 : ∀ k, F k → B ≤ k) (hi : Inv σ') (h : Nx D.R w q σ' F w') : Below B W w' ∧ One D B q σ' w' := by
  obtain ⟨F', a, b, c⟩ := h
  subst hW
  refine ⟨hb.trans (b.below hb.size h2), ⟨⟨F', a, fun k hk => ?_⟩, hi⟩⟩
  rcases c k hk with x | x
  · exact h2 k x
  · have := hb.size
    omega
theorem one_app1 {D : PD} {B q : Nat} {σ : DS} {w : World} (h : One D B q σ w) {W : World} (hW : W.heap.size = B) (hb : Below B W w) (cp : Nat) (fz : Nat × Nat) (hl : σ.c.calls < 1048576) :
    Calls Try.prog 8 #[.pointer (some ⟨q, 0, none⟩), .string ⟨#[102]⟩, .slice (some ⟨w.heap.size, 0, none⟩) 1 cp] (w.alloc (.cells #[.int .u8 120] 5 fz)) fun e w' => e = .returned (.int .i64 (σ.append sF [120]).1) ∧ Below B W w' ∧ One D B q (σ.append sF [120]).2 w' := by
  obtain ⟨F, h1, h2⟩ := h.ex
  have hb1 : Below w.heap.size w (w.alloc (.cells #[.int .u8 120] 5 fz)) := (Below.refl _ _).alloc (Nat.le_refl _) _
  have := D.append sF (some ⟨w.heap.size, 0, none⟩) 1 cp X1 (PD.later h1 hb1) h.inv (byt1 w fz) (fun e => by cases e) (fun _ a e hF => by
    simp only [Option.some.injEq] at e
    subst e
    have := D.lt h1 _ hF
    simp at this) (by decide)
  rw [show bs X1 1 = [120] from rfl] at this
  refine this.mono ?_
  rintro e w' ⟨rfl, n1⟩
  have hs : B ≤ w.heap.size := by rw [← hW]; exact hb.size
  exact ⟨rfl, one_nx hW (hb.trans (hb1.mono hs)) h2 (h.inv.append hl sF _ (fun x hx => by simp at hx; subst hx; decide)) n1⟩

theorem one_fuse {D : PD} {B q : Nat} {σ : DS} {w : World} (h : One D B q σ w) {W : World} (hW : W.heap.size = B) (hb : Below B W w) (n : Int) (h1 : -9223372036854775808 ≤ n) (h2 : n ≤ 9223372036854775807) :
    Calls Try.prog 16 #[.pointer (some ⟨q, 0, none⟩), .int .i64 n] w fun e w' => e = .returned (.tuple #[]) ∧ Below B W w' ∧ One D B q (σ.setFuse n) w' := by
  obtain ⟨F, r, f⟩ := h.ex
  exact (D.fuse n r h.inv h1 h2).mono fun e w' ⟨a, b⟩ => ⟨a, one_nx hW hb f (h.inv.setFuse n h2) b⟩
theorem one_fault {D : PD} {B q : Nat} {σ : DS} {w : World} {W : World} (h : One D B q σ w) (hW : W.heap.size = B) (hb : Below B W w) (m n : Int) (h1 : -9223372036854775808 ≤ m ∧ m ≤ 9223372036854775807) (h2 : -9223372036854775808 ≤ n ∧ n ≤ 9223372036854775807) :
    Calls Try.prog 19 #[.pointer (some ⟨q, 0, none⟩), .int .i64 m, .int .i64 n] w fun e w' => e = .returned (.tuple #[]) ∧ Below B W w' ∧ One D B q (σ.setFault m n) w' := by
  obtain ⟨F, r, f⟩ := h.ex
  exact (D.fault m n r h.inv h1 h2).mono fun e w' ⟨a, b⟩ => ⟨a, one_nx hW hb f (h.inv.setFault m n h1.2 h2.2) b⟩
theorem one_crash {D : PD} {B q : Nat} {σ : DS} {w : World} (h : One D B q σ w) {W : World} (hW : W.heap.size = B) (hb : Below B W w) :
    Calls Try.prog 18 #[.pointer (some ⟨q, 0, none⟩), .slice none 0 0] w fun e w' => e = .returned (.tuple #[]) ∧ Below B W w' ∧ One D B q (σ.crash []) w' := by
  obtain ⟨F, r, f⟩ := h.ex
  have := D.crash none 0 0 (fun _ => 0) r h.inv (fun k hk => by omega) (fun h => by omega) (by decide)
  exact this.mono fun e w' ⟨a, b⟩ => ⟨a, one_nx hW hb f (h.inv.crash _) b⟩

set_option maxHeartbeats 4000000 in
set_option maxRecDepth 100000 in
theorem counts_any (D : PD) (f a b n : Int) (w : World) (hf : -9223372036854775808 ≤ f ∧ f ≤ 9223372036854775807) (ha : -9223372036854775808 ≤ a ∧ a ≤ 9223372036854775807) (hb : -9223372036854775808 ≤ b ∧ b ≤ 9223372036854775807) (hn : -9223372036854775808 ≤ n ∧ n ≤ 9223372036854775807) :
    Calls Try.prog 5 #[.int .i64 f, .int .i64 a, .int .i64 b, .int .i64 n] w fun e w' => e = .returned (.bool true) ∧ Below w.heap.size w w' := by
  have HA : Hid (∀ w1, Calls Try.prog 12 #[] w1 fun e w' => e = .returned (.bool true) ∧ Below w1.heap.size w1 w') := fun w1 => awake_any D w1
  obtain ⟨F, hF⟩ := Int.eq_ofNat_of_zero_le (show 0 ≤ (IntKind.u64.wrap f).tmod 20 from Int.tmod_nonneg _ (by rw [wrapU']; omega))
  obtain ⟨A, hA⟩ := Int.eq_ofNat_of_zero_le (show 0 ≤ (IntKind.u64.wrap a).tmod 20 from Int.tmod_nonneg _ (by rw [wrapU']; omega))
  obtain ⟨C, hC⟩ := Int.eq_ofNat_of_zero_le (show 0 ≤ (IntKind.u64.wrap b).tmod 5 from Int.tmod_nonneg _ (by rw [wrapU']; omega))
  obtain ⟨M, hM⟩ := Int.eq_ofNat_of_zero_le (show 0 ≤ (IntKind.u64.wrap n).tmod 25 from Int.tmod_nonneg _ (by rw [wrapU']; omega))
  have lF : F < 20 := by have := Int.tmod_lt_of_pos (IntKind.u64.wrap f) (b := 20) (by decide); omega
  have lA : A < 20 := by have := Int.tmod_lt_of_pos (IntKind.u64.wrap a) (b := 20) (by decide); omega
  have lC : C < 5 := by have := Int.tmod_lt_of_pos (IntKind.u64.wrap b) (b := 5) (by decide); omega
  have lM : M < 25 := by have := Int.tmod_lt_of_pos (IntKind.u64.wrap n) (b := 25) (by decide); omega
  have k0 := D.new 1048576 w (by decide) (by decide)
  have HC : Hid (∀ {w1 q G}, D.R w1 q (DS.new 1048576) G → Calls Try.prog 7 #[.pointer (some ⟨q, 0, none⟩), .string ⟨#[102]⟩] w1 fun e w' => e = .returned (.int .i64 0) ∧ Nx D.R w1 q cs0 G w') := fun h => by
    have := D.create sF h (Inv.new _ (by decide)) (by decide)
    rw [cs0_ok] at this
    exact this
  unfold ptr at k0
  clear hf ha hb hn
  go_enter Try.func5, Try.ntmps5
  go_wp2_with (first | (go_at_call 6; refine k0.mono ?_; rintro e w1 ⟨q, G, rfl, r1, f1, b1⟩) | (go_at_call 7; refine (HC.out r1).mono ?_; rintro e w2 ⟨rfl, n2⟩))
  obtain ⟨B2, O2⟩ := one_nx (σ' := cs0) rfl b1 f1 ((Inv.new 1048576 (by decide)).create (by decide) sF) n2
  have kf := one_fuse O2 rfl B2 (F : Int) (by omega) (by omega)
  have HG0 : Hid (∀ {w3 σ}, One D w.heap.size q σ w3 → Below w.heap.size w w3 → _) := fun {w3 σ} h hb => one_fault (W := w) h rfl hb (A : Int) (C : Int) ⟨by omega, by omega⟩ ⟨by omega, by omega⟩
  clear k0 r1 n2 HC
  go_wp2_with (first | (go_at_call 16; refine kf.mono ?_; rintro e w3 ⟨rfl, B3, O3⟩) | (go_at_call 19; refine (HG0.out O3 B3).mono ?_; rintro e w4 ⟨rfl, B4, O4⟩))
  have HS : Hid (One D w.heap.size q ((cs0.setFuse (F : Int)).setFault (A : Int) (C : Int)) w4 ∧ Cst (F : Int) (A : Int) (C : Int) 0 ((cs0.setFuse (F : Int)).setFault (A : Int) (C : Int))) := ⟨O4, cst_start _ _ _ (by omega) (by omega) (by omega)⟩
  have kc := fun (w : World) (C : Array Value) (n c : Nat) => Lib.run_convert_bytes_const (P := Try.prog) w 27 5 C n c Try.underlying27 Try.underlying5
  have hAC : A + C ≤ 2 ^ 62 := by omega
  have wAC : IntKind.i64.wrap ((A : Int) + (C : Int)) = (A : Int) + (C : Int) := by rw [wrapEq]; unfold wrap64; omega
  have HBD : Hid (A < 20 ∧ C < 5 ∧ F < 20 ∧ M < 25) := ⟨lA, lC, lF, lM⟩
  clear kf HG0 O2 O3 O4 hF hA hC hM
  go_loopg [10] M (fun g i wr => ∃ (k : Nat) (σ : DS), k + g = M ∧ i = .int .i64 ((k : Int) + 1) ∧ Below w.heap.size w wr ∧ Hid (One D w.heap.size q σ wr ∧ Cst (F : Int) (A : Int) (C : Int) k σ))
  case atStart => exact ⟨0, _, by omega, rfl, B4, HS.out⟩
  case round =>
    obtain ⟨k, σ, hk, rfl, hw, HT⟩ := hrel
    by_cases h : k < M
    · have h' : (k : Int) + 1 ≤ (M : Int) := by omega
      have ka := fun cp fz => one_app1 HT.out.1 rfl hw cp fz (by rw [HT.out.2.calls]; omega)
      obtain ⟨hv, hst⟩ := cst_step (by omega) (by omega) (by omega) HT.out.2
      rw [hv] at ka
      have hcl := hst.calls
      have hof := hst.off
      generalize (σ.append sF [120]).2 = σ' at ka hst hcl hof
      have HST := Hid.intro hst
      have hk62 : k + 1 + 1 ≤ 2 ^ 62 := by omega
      obtain ⟨GK, HG⟩ : ∃ g, Hid (g < gk ∧ k + 1 + g = M) := ⟨gk - 1, by omega, by omega⟩
      clear hk hw hst hv HT
      have hA3 : (A : Int) < 1 ∨ (1 ≤ (A : Int) ∧ (k : Int) + 1 < (A : Int)) ∨ (1 ≤ (A : Int) ∧ (A : Int) ≤ (k : Int) + 1 ∧ (A : Int) + (C : Int) ≤ (k : Int) + 1) ∨ (1 ≤ (A : Int) ∧ (A : Int) ≤ (k : Int) + 1 ∧ (k : Int) + 1 < (A : Int) + (C : Int)) := by omega
      have hF3 : (F : Int) < 1 ∨ (1 ≤ (F : Int) ∧ (k : Int) + 1 < (F : Int)) ∨ (1 ≤ (F : Int) ∧ (F : Int) ≤ (k : Int) + 1) := by omega
      have kC : ∀ {wx}, One D w.heap.size q σ' wx → Calls Try.prog 20 #[.pointer (some ⟨q, 0, none⟩)] wx fun e w' => e = .returned (.int .i64 σ'.c.calls) ∧ Below wx.heap.size wx w' := fun h => by obtain ⟨G, r, _⟩ := h.ex; exact D.calls r h.inv
      have kD : ∀ {wx}, One D w.heap.size q σ' wx → Calls Try.prog 21 #[.pointer (some ⟨q, 0, none⟩)] wx fun e w' => e = .returned (.bool σ'.c.off) ∧ Below wx.heap.size wx w' := fun h => by obtain ⟨G, r, _⟩ := h.ex; exact D.down r h.inv
      rw [hcl] at kC
      rw [hof] at kD
      clear hcl hof
      rcases hF3 with hF | hF | hF
      · rcases hA3 with hA | hA | hA | hA
        · have hv : want (F : Int) (A : Int) (C : Int) (k + 1) = 0 := by unfold want; rw [if_neg (by omega), if_neg (by omega)]
          have hd : decide (1 ≤ (F : Int) ∧ (F : Int) ≤ ((k + 1 : Nat) : Int)) = false := decide_eq_false (by omega)
          rw [hv] at ka
          rw [hd] at kD
          have ya : decide ((1 : Int) ≤ (F : Int)) = false := decide_eq_false (by omega)
          have xa : decide ((1 : Int) ≤ (A : Int)) = false := decide_eq_false (by omega)
          clear hv hd hA hF
          go_wp2_with (first | (go_at_call 8; refine (ka _ _).mono ?_; rintro e w5 ⟨rfl, B5, O5⟩) | (go_at_call 20; refine (kC O5).mono ?_; rintro e w6 ⟨rfl, b6⟩) | (go_at_call 21; refine (kD (O5.later b6)).mono ?_; rintro e w7 ⟨rfl, b7⟩))
          go_roundg GK
          case measure => exact HG.out.1
          case rel => exact ⟨k + 1, σ', HG.out.2, by go_num, B5.trans ((b6.trans (b7.mono b6.size)).mono B5.size), (O5.later b6).later b7, HST.out⟩
        · have hv : want (F : Int) (A : Int) (C : Int) (k + 1) = 0 := by unfold want; rw [if_neg (by omega), if_neg (by omega)]
          have hd : decide (1 ≤ (F : Int) ∧ (F : Int) ≤ ((k + 1 : Nat) : Int)) = false := decide_eq_false (by omega)
          rw [hv] at ka
          rw [hd] at kD
          have ya : decide ((1 : Int) ≤ (F : Int)) = false := decide_eq_false (by omega)
          have xa : (1 : Int) ≤ (A : Int) := hA.1
          have xb : decide ((A : Int) ≤ (k : Int) + 1) = false := decide_eq_false (by omega)
          clear hv hd hA hF
          go_wp2_with (first | (go_at_call 8; refine (ka _ _).mono ?_; rintro e w5 ⟨rfl, B5, O5⟩) | (go_at_call 20; refine (kC O5).mono ?_; rintro e w6 ⟨rfl, b6⟩) | (go_at_call 21; refine (kD (O5.later b6)).mono ?_; rintro e w7 ⟨rfl, b7⟩))
          go_roundg GK
          case measure => exact HG.out.1
          case rel => exact ⟨k + 1, σ', HG.out.2, by go_num, B5.trans ((b6.trans (b7.mono b6.size)).mono B5.size), (O5.later b6).later b7, HST.out⟩
        · have hv : want (F : Int) (A : Int) (C : Int) (k + 1) = 0 := by unfold want; rw [if_neg (by omega), if_neg (by omega)]
          have hd : decide (1 ≤ (F : Int) ∧ (F : Int) ≤ ((k + 1 : Nat) : Int)) = false := decide_eq_false (by omega)
          rw [hv] at ka
          rw [hd] at kD
          have ya : decide ((1 : Int) ≤ (F : Int)) = false := decide_eq_false (by omega)
          have xa : (1 : Int) ≤ (A : Int) := hA.1
          have xb : (A : Int) ≤ (k : Int) + 1 := hA.2.1
          have xc : decide ((k : Int) + 1 < (A : Int) + (C : Int)) = false := decide_eq_false (by omega)
          clear hv hd hA hF
          go_wp2_with (first | (go_at_call 8; refine (ka _ _).mono ?_; rintro e w5 ⟨rfl, B5, O5⟩) | (go_at_call 20; refine (kC O5).mono ?_; rintro e w6 ⟨rfl, b6⟩) | (go_at_call 21; refine (kD (O5.later b6)).mono ?_; rintro e w7 ⟨rfl, b7⟩))
          go_roundg GK
          case measure => exact HG.out.1
          case rel => exact ⟨k + 1, σ', HG.out.2, by go_num, B5.trans ((b6.trans (b7.mono b6.size)).mono B5.size), (O5.later b6).later b7, HST.out⟩
        · have hv : want (F : Int) (A : Int) (C : Int) (k + 1) = 9 := by unfold want; rw [if_neg (by omega), if_pos (by omega)]
          have hd : decide (1 ≤ (F : Int) ∧ (F : Int) ≤ ((k + 1 : Nat) : Int)) = false := decide_eq_false (by omega)
          rw [hv] at ka
          rw [hd] at kD
          have ya : decide ((1 : Int) ≤ (F : Int)) = false := decide_eq_false (by omega)
          have xa : (1 : Int) ≤ (A : Int) := hA.1
          have xb : (A : Int) ≤ (k : Int) + 1 := hA.2.1
          have xc : (k : Int) + 1 < (A : Int) + (C : Int) := hA.2.2
          clear hv hd hA hF
          go_wp2_with (first | (go_at_call 8; refine (ka _ _).mono ?_; rintro e w5 ⟨rfl, B5, O5⟩) | (go_at_call 20; refine (kC O5).mono ?_; rintro e w6 ⟨rfl, b6⟩) | (go_at_call 21; refine (kD (O5.later b6)).mono ?_; rintro e w7 ⟨rfl, b7⟩))
          go_roundg GK
          case measure => exact HG.out.1
          case rel => exact ⟨k + 1, σ', HG.out.2, by go_num, B5.trans ((b6.trans (b7.mono b6.size)).mono B5.size), (O5.later b6).later b7, HST.out⟩
      · rcases hA3 with hA | hA | hA | hA
        · have hv : want (F : Int) (A : Int) (C : Int) (k + 1) = 0 := by unfold want; rw [if_neg (by omega), if_neg (by omega)]
          have hd : decide (1 ≤ (F : Int) ∧ (F : Int) ≤ ((k + 1 : Nat) : Int)) = false := decide_eq_false (by omega)
          rw [hv] at ka
          rw [hd] at kD
          have ya : (1 : Int) ≤ (F : Int) := hF.1
          have yb : decide ((F : Int) ≤ (k : Int) + 1) = false := decide_eq_false (by omega)
          have xa : decide ((1 : Int) ≤ (A : Int)) = false := decide_eq_false (by omega)
          clear hv hd hA hF
          go_wp2_with (first | (go_at_call 8; refine (ka _ _).mono ?_; rintro e w5 ⟨rfl, B5, O5⟩) | (go_at_call 20; refine (kC O5).mono ?_; rintro e w6 ⟨rfl, b6⟩) | (go_at_call 21; refine (kD (O5.later b6)).mono ?_; rintro e w7 ⟨rfl, b7⟩))
          go_roundg GK
          case measure => exact HG.out.1
          case rel => exact ⟨k + 1, σ', HG.out.2, by go_num, B5.trans ((b6.trans (b7.mono b6.size)).mono B5.size), (O5.later b6).later b7, HST.out⟩
        · have hv : want (F : Int) (A : Int) (C : Int) (k + 1) = 0 := by unfold want; rw [if_neg (by omega), if_neg (by omega)]
          have hd : decide (1 ≤ (F : Int) ∧ (F : Int) ≤ ((k + 1 : Nat) : Int)) = false := decide_eq_false (by omega)
          rw [hv] at ka
          rw [hd] at kD
          have ya : (1 : Int) ≤ (F : Int) := hF.1
          have yb : decide ((F : Int) ≤ (k : Int) + 1) = false := decide_eq_false (by omega)
          have xa : (1 : Int) ≤ (A : Int) := hA.1
          have xb : decide ((A : Int) ≤ (k : Int) + 1) = false := decide_eq_false (by omega)
          clear hv hd hA hF
          go_wp2_with (first | (go_at_call 8; refine (ka _ _).mono ?_; rintro e w5 ⟨rfl, B5, O5⟩) | (go_at_call 20; refine (kC O5).mono ?_; rintro e w6 ⟨rfl, b6⟩) | (go_at_call 21; refine (kD (O5.later b6)).mono ?_; rintro e w7 ⟨rfl, b7⟩))
          go_roundg GK
          case measure => exact HG.out.1
          case rel => exact ⟨k + 1, σ', HG.out.2, by go_num, B5.trans ((b6.trans (b7.mono b6.size)).mono B5.size), (O5.later b6).later b7, HST.out⟩
        · have hv : want (F : Int) (A : Int) (C : Int) (k + 1) = 0 := by unfold want; rw [if_neg (by omega), if_neg (by omega)]
          have hd : decide (1 ≤ (F : Int) ∧ (F : Int) ≤ ((k + 1 : Nat) : Int)) = false := decide_eq_false (by omega)
          rw [hv] at ka
          rw [hd] at kD
          have ya : (1 : Int) ≤ (F : Int) := hF.1
          have yb : decide ((F : Int) ≤ (k : Int) + 1) = false := decide_eq_false (by omega)
          have xa : (1 : Int) ≤ (A : Int) := hA.1
          have xb : (A : Int) ≤ (k : Int) + 1 := hA.2.1
          have xc : decide ((k : Int) + 1 < (A : Int) + (C : Int)) = false := decide_eq_false (by omega)
          clear hv hd hA hF
          go_wp2_with (first | (go_at_call 8; refine (ka _ _).mono ?_; rintro e w5 ⟨rfl, B5, O5⟩) | (go_at_call 20; refine (kC O5).mono ?_; rintro e w6 ⟨rfl, b6⟩) | (go_at_call 21; refine (kD (O5.later b6)).mono ?_; rintro e w7 ⟨rfl, b7⟩))
          go_roundg GK
          case measure => exact HG.out.1
          case rel => exact ⟨k + 1, σ', HG.out.2, by go_num, B5.trans ((b6.trans (b7.mono b6.size)).mono B5.size), (O5.later b6).later b7, HST.out⟩
        · have hv : want (F : Int) (A : Int) (C : Int) (k + 1) = 9 := by unfold want; rw [if_neg (by omega), if_pos (by omega)]
          have hd : decide (1 ≤ (F : Int) ∧ (F : Int) ≤ ((k + 1 : Nat) : Int)) = false := decide_eq_false (by omega)
          rw [hv] at ka
          rw [hd] at kD
          have ya : (1 : Int) ≤ (F : Int) := hF.1
          have yb : decide ((F : Int) ≤ (k : Int) + 1) = false := decide_eq_false (by omega)
          have xa : (1 : Int) ≤ (A : Int) := hA.1
          have xb : (A : Int) ≤ (k : Int) + 1 := hA.2.1
          have xc : (k : Int) + 1 < (A : Int) + (C : Int) := hA.2.2
          clear hv hd hA hF
          go_wp2_with (first | (go_at_call 8; refine (ka _ _).mono ?_; rintro e w5 ⟨rfl, B5, O5⟩) | (go_at_call 20; refine (kC O5).mono ?_; rintro e w6 ⟨rfl, b6⟩) | (go_at_call 21; refine (kD (O5.later b6)).mono ?_; rintro e w7 ⟨rfl, b7⟩))
          go_roundg GK
          case measure => exact HG.out.1
          case rel => exact ⟨k + 1, σ', HG.out.2, by go_num, B5.trans ((b6.trans (b7.mono b6.size)).mono B5.size), (O5.later b6).later b7, HST.out⟩
      · rcases hA3 with hA | hA | hA | hA
        · have hv : want (F : Int) (A : Int) (C : Int) (k + 1) = 10 := by unfold want; rw [if_pos (by omega)]
          have hd : decide (1 ≤ (F : Int) ∧ (F : Int) ≤ ((k + 1 : Nat) : Int)) = true := decide_eq_true (by omega)
          rw [hv] at ka
          rw [hd] at kD
          have ya : (1 : Int) ≤ (F : Int) := hF.1
          have yb : (F : Int) ≤ (k : Int) + 1 := hF.2
          have xa : decide ((1 : Int) ≤ (A : Int)) = false := decide_eq_false (by omega)
          clear hv hd hA hF
          go_wp2_with (first | (go_at_call 8; refine (ka _ _).mono ?_; rintro e w5 ⟨rfl, B5, O5⟩) | (go_at_call 20; refine (kC O5).mono ?_; rintro e w6 ⟨rfl, b6⟩) | (go_at_call 21; refine (kD (O5.later b6)).mono ?_; rintro e w7 ⟨rfl, b7⟩))
          go_roundg GK
          case measure => exact HG.out.1
          case rel => exact ⟨k + 1, σ', HG.out.2, by go_num, B5.trans ((b6.trans (b7.mono b6.size)).mono B5.size), (O5.later b6).later b7, HST.out⟩
        · have hv : want (F : Int) (A : Int) (C : Int) (k + 1) = 10 := by unfold want; rw [if_pos (by omega)]
          have hd : decide (1 ≤ (F : Int) ∧ (F : Int) ≤ ((k + 1 : Nat) : Int)) = true := decide_eq_true (by omega)
          rw [hv] at ka
          rw [hd] at kD
          have ya : (1 : Int) ≤ (F : Int) := hF.1
          have yb : (F : Int) ≤ (k : Int) + 1 := hF.2
          have xa : (1 : Int) ≤ (A : Int) := hA.1
          have xb : decide ((A : Int) ≤ (k : Int) + 1) = false := decide_eq_false (by omega)
          clear hv hd hA hF
          go_wp2_with (first | (go_at_call 8; refine (ka _ _).mono ?_; rintro e w5 ⟨rfl, B5, O5⟩) | (go_at_call 20; refine (kC O5).mono ?_; rintro e w6 ⟨rfl, b6⟩) | (go_at_call 21; refine (kD (O5.later b6)).mono ?_; rintro e w7 ⟨rfl, b7⟩))
          go_roundg GK
          case measure => exact HG.out.1
          case rel => exact ⟨k + 1, σ', HG.out.2, by go_num, B5.trans ((b6.trans (b7.mono b6.size)).mono B5.size), (O5.later b6).later b7, HST.out⟩
        · have hv : want (F : Int) (A : Int) (C : Int) (k + 1) = 10 := by unfold want; rw [if_pos (by omega)]
          have hd : decide (1 ≤ (F : Int) ∧ (F : Int) ≤ ((k + 1 : Nat) : Int)) = true := decide_eq_true (by omega)
          rw [hv] at ka
          rw [hd] at kD
          have ya : (1 : Int) ≤ (F : Int) := hF.1
          have yb : (F : Int) ≤ (k : Int) + 1 := hF.2
          have xa : (1 : Int) ≤ (A : Int) := hA.1
          have xb : (A : Int) ≤ (k : Int) + 1 := hA.2.1
          have xc : decide ((k : Int) + 1 < (A : Int) + (C : Int)) = false := decide_eq_false (by omega)
          clear hv hd hA hF
          go_wp2_with (first | (go_at_call 8; refine (ka _ _).mono ?_; rintro e w5 ⟨rfl, B5, O5⟩) | (go_at_call 20; refine (kC O5).mono ?_; rintro e w6 ⟨rfl, b6⟩) | (go_at_call 21; refine (kD (O5.later b6)).mono ?_; rintro e w7 ⟨rfl, b7⟩))
          go_roundg GK
          case measure => exact HG.out.1
          case rel => exact ⟨k + 1, σ', HG.out.2, by go_num, B5.trans ((b6.trans (b7.mono b6.size)).mono B5.size), (O5.later b6).later b7, HST.out⟩
        · have hv : want (F : Int) (A : Int) (C : Int) (k + 1) = 10 := by unfold want; rw [if_pos (by omega)]
          have hd : decide (1 ≤ (F : Int) ∧ (F : Int) ≤ ((k + 1 : Nat) : Int)) = true := decide_eq_true (by omega)
          rw [hv] at ka
          rw [hd] at kD
          have ya : (1 : Int) ≤ (F : Int) := hF.1
          have yb : (F : Int) ≤ (k : Int) + 1 := hF.2
          have xa : (1 : Int) ≤ (A : Int) := hA.1
          have xb : (A : Int) ≤ (k : Int) + 1 := hA.2.1
          have xc : (k : Int) + 1 < (A : Int) + (C : Int) := hA.2.2
          clear hv hd hA hF
          go_wp2_with (first | (go_at_call 8; refine (ka _ _).mono ?_; rintro e w5 ⟨rfl, B5, O5⟩) | (go_at_call 20; refine (kC O5).mono ?_; rintro e w6 ⟨rfl, b6⟩) | (go_at_call 21; refine (kD (O5.later b6)).mono ?_; rintro e w7 ⟨rfl, b7⟩))
          go_roundg GK
          case measure => exact HG.out.1
          case rel => exact ⟨k + 1, σ', HG.out.2, by go_num, B5.trans ((b6.trans (b7.mono b6.size)).mono B5.size), (O5.later b6).later b7, HST.out⟩
    · have h' : (M : Int) < (k : Int) + 1 := by omega
      have kr := one_crash HT.out.1 rfl hw
      obtain ⟨hof, hcr⟩ := cst_crash HT.out.2
      have hcl : (σ.crash []).c.calls < 1048576 := by show σ.c.calls < _; rw [HT.out.2.calls]; omega
      have kD : ∀ {wx}, One D w.heap.size q (σ.crash []) wx → Calls Try.prog 21 #[.pointer (some ⟨q, 0, none⟩)] wx fun e w' => e = .returned (.bool false) ∧ Below wx.heap.size wx w' := fun h => by obtain ⟨G, r, _⟩ := h.ex; have := D.down r h.inv; rw [hof] at this; exact this
      have kG : ∀ {wx}, One D w.heap.size q (σ.crash []) wx → Below w.heap.size w wx → Calls Try.prog 7 #[.pointer (some ⟨q, 0, none⟩), .string ⟨#[103]⟩] wx fun e w' => e = .returned (.int .i64 0) ∧ Below w.heap.size w w' := fun h hb => by
        obtain ⟨G, r, g⟩ := h.ex
        have := D.create sG r h.inv (by decide)
        rw [hcr] at this
        exact this.mono fun e w' ⟨h1, h2⟩ => ⟨h1, (one_nx rfl hb g (h.inv.create hcl sG) h2).1⟩
      clear hk HT hof hcr hw
      go_wp2_with (first | (go_at_call 18; refine kr.mono ?_; rintro e w5 ⟨rfl, B5, O5⟩) | (go_at_call 21; refine (kD O5).mono ?_; rintro e w6 ⟨rfl, b6⟩) | (go_at_call 7; refine (kG (O5.later b6) (B5.trans (b6.mono B5.size))).mono ?_; rintro e w7 ⟨rfl, B7⟩) | (go_at_call 12; refine (HA.out _).mono ?_; rintro e w8 ⟨rfl, b8⟩))
      go_ret
      exact ⟨rfl, B7.trans (b8.mono B7.size)⟩
end Go.Proofs.Ytligofmcmjblpab
