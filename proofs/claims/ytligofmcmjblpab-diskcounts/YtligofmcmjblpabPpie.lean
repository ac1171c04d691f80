/- What was appended in pieces is read as it is, from any place on. -/
import Derived.Test.YtligofmcmjblpabPcnt
import Derived.Deep.RegionHeld
import Derived.BigQuiet
namespace Go.Proofs.Ytligofmcmjblpab
open Go.RowKit
set_option linter.unusedVariables false
set_option linter.unusedSimpArgs false

/-- A slice of slices of bytes that is read. -/
def Rws (w : World) (ao : Option Addr) (len : Nat) (A : Nat → Option Addr) (LN C : Nat → Nat) (S : Nat → Nat → Nat) : Prop :=
  ∀ k, k < len → (∃ b off, ao = some ⟨b, off, none⟩ ∧ w.cell? ⟨b, off + k, none⟩ = some (.slice (A k) (LN k) (C k))) ∧ Byt w (A k) (LN k) (S k) ∧ (A k = none → LN k = 0 ∧ C k = 0)
structure Pst (i : Nat) (σ : DS) (xs : List Int) : Prop where
  c : σ.c = ⟨(i : Int) + 1, 0, 0, 0, false⟩
  room : σ.room = 1048576
  dir : σ.dir = [(sF, 0)]
  dat : (σ.fl 0).1 = xs
  len : xs.length ≤ 2000 * i
theorem pst_start : Pst 0 cs0 [] := ⟨rfl, rfl, rfl, rfl, Nat.le_refl 0⟩
theorem fnd_F : fnd [(sF, 0)] sF = some 0 := by decide +kernel
theorem pst_step {i : Nat} {σ : DS} {xs b : List Int} (h : Pst i σ xs) (hi : i < 30) (hb : b.length ≤ 2000) : (σ.append sF b).1 = 0 ∧ Pst (i + 1) (σ.append sF b).2 (xs ++ b) := by
  have hl := h.len
  have hus : σ.used = xs.length := by unfold DS.used; rw [h.dir]; simp [used, h.dat]
  have hce : σ.c.ce = 0 := by rw [h.c]; rfl
  have hcl : σ.c.cl = false := by rw [h.c]; rfl
  have hcc : σ.c.cc = ⟨(i : Int) + 1 + 1, 0, 0, 0, false⟩ := by rw [h.c]; rfl
  unfold DS.append
  rw [hce, hcl, h.dir, fnd_F]
  simp only [ne_eq, not_true_eq_false, if_false, h.dat, hus, h.room]
  rw [if_neg (by omega)]
  refine ⟨rfl, ⟨?_, h.room, h.dir, ?_, ?_⟩⟩
  · show σ.c.cc = _
    rw [hcc]
    rfl
  · show ((upd σ.fl 0 (xs ++ b, (σ.fl 0).2)) 0).1 = xs ++ b
    simp [upd]
  · simp only [List.length_append]
    omega
theorem pst_read {i : Nat} {σ : DS} {xs : List Int} (h : Pst i σ xs) : σ.read sF = (some xs, 0) ∧ σ.used = xs.length := by
  have hus : σ.used = xs.length := by unfold DS.used; rw [h.dir]; simp [used, h.dat]
  refine ⟨?_, hus⟩
  unfold DS.read
  rw [h.c, h.dir, fnd_F]
  simp [h.dat]
/-- The disk, and a row of the law's own beside it. -/
structure Bes (D : PD) (B q : Nat) (σ : DS) (v : Value) (xs : List Int) (w : World) : Prop where
  ex : ∃ F, D.R w q σ F ∧ (∀ k, F k → B ≤ k) ∧ ∀ k, F k → v.ownBlock ≠ some k
  inv : Inv σ
  row : Row B w v xs
  ok : Okb xs
theorem bes_app {D : PD} {B q : Nat} {σ : DS} {v : Value} {xs : List Int} {w W : World} (h : Bes D B q σ v xs w) (hW : W.heap.size = B) (hb : Below B W w) (ao : Option Addr) (len cap : Nat) (X : Nat → Nat) (hx : Byt W ao len X) (hn : ao = none → len = 0 ∧ cap = 0) (hl : len ≤ 2000) (hc : σ.c.calls < 1048576) :
    Calls Try.prog 8 #[.pointer (some ⟨q, 0, none⟩), .string ⟨#[102]⟩, .slice ao len cap] w fun e w' => e = .returned (.int .i64 (σ.append sF (bs X len)).1) ∧ Below B W w' ∧ Bes D B q (σ.append sF (bs X len)).2 v xs w' := by
  obtain ⟨F, r, f, g⟩ := h.ex
  subst hW
  have hs := hb.size
  have hF : 0 < len → ∀ a, ao = some a → ¬ F a.block := fun h0 a e hf => by
    obtain ⟨_, b, off, e', hcell⟩ := hx 0 h0
    rw [e] at e'
    simp only [Option.some.injEq] at e'
    subst e'
    have h1 := World.block_lt_of_cell? W _ hcell
    have h2 := f _ hf
    simp only at h1 h2
    omega
  refine (D.append sF ao len cap X r h.inv (hx.later hb) hn hF (by omega)).mono ?_
  rintro e w' ⟨rfl, F', r', m', s'⟩
  refine ⟨rfl, hb.trans (m'.below hs f), ⟨⟨F', r', fun k hk => ?_, fun k hk e => ?_⟩, h.inv.append hc _ _ (okb_bs hx), owns_same h.row fun k e => m'.block k (owns_ty h.row e).lt fun hf => g k hf e, h.ok⟩⟩
  · rcases s' k hk with x | x
    · exact f k x
    · omega
  · rcases s' k hk with x | x
    · exact g k x e
    · have := (World.ownsRow.lt h.row k e).2
      omega
/-- The law's own row grows. -/
theorem bes_grow {D : PD} {B q : Nat} {σ : DS} {v v' : Value} {xs ys : List Int} {w w' : World} (h : Bes D B q σ v xs w) (hr : Row B w' v' (xs ++ ys)) (hg : w.grownBy w' v.ownBlock) (hm : Moved w v v') (hy : Okb ys) : Bes D B q σ v' (xs ++ ys) w' := by
  obtain ⟨F, r, f, g⟩ := h.ex
  refine ⟨⟨F, D.same r fun k hk => hg.block k (D.lt r k hk) fun e => g k hk e.symm, f, fun k hk e => ?_⟩, h.inv, hr, h.ok.app hy⟩
  rcases hm with h1 | ⟨x, h1, h2⟩
  · exact g k hk (h1 ▸ e)
  · rw [h1] at e
    simp only [Option.some.injEq] at e
    subst e
    have := D.lt r _ hk
    omega
theorem Bes.later {D : PD} {B q : Nat} {σ : DS} {v : Value} {xs : List Int} {w w' : World} (h : Bes D B q σ v xs w) (hb : Below w.heap.size w w') : Bes D B q σ v xs w' := by
  obtain ⟨F, r, f, g⟩ := h.ex
  exact ⟨⟨F, PD.later r hb, f, g⟩, h.inv, owns_same h.row fun k e => hb.block k (owns_ty h.row e).lt, h.ok⟩
theorem Row.slice3 {B : Nat} {w : World} {v : Value} {xs : List Int} (h : Row B w v xs) : ∃ ao c, v = .slice ao xs.length c := by
  rcases h.2 with ⟨rfl, e⟩ | ⟨g, cap, cur, rfl, _⟩
  · exact ⟨none, 0, by rw [e]⟩
  · exact ⟨_, _, rfl⟩

set_option maxHeartbeats 4000000 in
set_option maxRecDepth 100000 in
theorem pieces_any (D : PD) (so : Option Addr) (sl sc : Nat) (A : Nat → Option Addr) (LN C : Nat → Nat) (S : Nat → Nat → Nat) (at_ nn : Int) (w : World) (hR : Rws w so sl A LN C S) (hsl : sl ≤ 2 ^ 63 - 1) (hLN : ∀ k, k < sl → LN k ≤ 2 ^ 63 - 1) (ha : -9223372036854775808 ≤ at_ ∧ at_ ≤ 9223372036854775807) (hn : -9223372036854775808 ≤ nn ∧ nn ≤ 9223372036854775807) :
    Calls Try.prog 3 #[.slice so sl sc, .int .i64 at_, .int .i64 nn] w fun e w' => e = .returned (.bool true) ∧ Below w.heap.size w w' := by
  have HA : Hid (∀ w1, Calls Try.prog 12 #[] w1 fun e w' => e = .returned (.bool true) ∧ Below w1.heap.size w1 w') := fun w1 => awake_any D w1
  have k0 := D.new 1048576 w (by decide) (by decide)
  have HC : Hid (∀ {w1 q G}, D.R w1 q (DS.new 1048576) G → Calls Try.prog 7 #[.pointer (some ⟨q, 0, none⟩), .string ⟨#[102]⟩] w1 fun e w' => e = .returned (.int .i64 0) ∧ Nx D.R w1 q cs0 G w') := fun h => by
    have := D.create sF h (Inv.new _ (by decide)) (by decide)
    rw [cs0_ok] at this
    exact this
  have HR := Hid.intro hR
  have HL := Hid.intro hLN
  have HAN := Hid.intro (And.intro ha hn)
  unfold ptr at k0
  clear hR hLN ha hn
  go_enter Try.func3, Try.ntmps3
  go_upto_block 0 with (first | (go_at_call 6; refine k0.mono ?_; rintro e w1 ⟨q, G, rfl, r1, f1, b1⟩) | (go_at_call 7; refine (HC.out r1).mono ?_; rintro e w2 ⟨rfl, n2⟩))
  obtain ⟨B2, O2⟩ := one_nx (σ' := cs0) rfl b1 f1 ((Inv.new 1048576 (by decide)).create (by decide) sF) n2
  have HS : Hid (Below w.heap.size w w2 ∧ Bes D w.heap.size q cs0 (.slice none 0 0) [] w2) := by
    obtain ⟨F, r, f⟩ := O2.ex
    exact ⟨B2, ⟨⟨F, r, f, fun k hk e => by cases e⟩, O2.inv, Row.nil _ _, fun x hx => by cases hx⟩⟩
  clear k0 HC r1 n2 O2 f1
  go_cut [8, 9, 10] from 23 to 42 (fun s8 s9 s10 wx => ∃ (σ : DS) (xs : List Int) (k : Nat), Hid (Below w.heap.size w wx ∧ Bes D w.heap.size q σ s8 xs wx ∧ Pst k σ xs ∧ k ≤ 30))
  case first =>
    go_wp2_with fail
    go_loopg [8, 23] sl (fun g v i wr => ∃ (k : Nat) (σ : DS) (xs : List Int), k + g = sl ∧ i = .int .i64 (k : Int) ∧ Below w.heap.size w wr ∧ Hid (Bes D w.heap.size q σ v xs wr ∧ Pst k σ xs ∧ k ≤ 30))
    case atStart => exact ⟨0, cs0, [], by omega, rfl, HS.out.1, HS.out.2, pst_start, by omega⟩
    case round =>
    obtain ⟨k, σ, xs, hk, rfl, hw, HT⟩ := hrel
    obtain ⟨ao, ac, rfl⟩ := Row.slice3 HT.out.1.row
    by_cases h : k < sl
    · have h' : (k : Int) < (sl : Int) := by omega
      obtain ⟨⟨b, off, rfl, hce⟩, hby, hnl⟩ := HR.out k h
      have y1 := cell_later hw hce
      have hll := HL.out k h
      by_cases h30 : k < 30
      · have d1 : decide ((30 : Int) ≤ (k : Int)) = false := decide_eq_false (by omega)
        by_cases h20 : LN k ≤ 2000
        · have d2 : decide ((2000 : Int) < (LN k : Int)) = false := decide_eq_false (by omega)
          have hcl : σ.c.calls < 1048576 := by rw [HT.out.2.1.c]; show (k : Int) + 1 < _; omega
          have ka := bes_app HT.out.1 rfl hw (A k) (LN k) (C k) (S k) hby hnl h20 hcl
          obtain ⟨hv, hst⟩ := pst_step (b := bs (S k) (LN k)) HT.out.2.1 h30 (by rw [bs_length]; exact h20)
          rw [hv] at ka
          generalize (σ.append sF (bs (S k) (LN k))).2 = σ' at ka hst
          have HST := Hid.intro hst
          have hxl := HT.out.2.1.len
          have HBY : Hid (Byt w (A k) (LN k) (S k) ∧ (A k = none → LN k = 0 ∧ C k = 0) ∧ xs.length + LN k ≤ 140737488355328 ∧ k < 30) := ⟨hby, hnl, by omega, h30⟩
          obtain ⟨GK, HG⟩ : ∃ g, Hid (g < gk ∧ k + 1 + g = sl) := ⟨gk - 1, by omega, by omega⟩
          have hws : w.heap.size ≤ wr.heap.size := hw.size
          clear hk hw hce hby hnl HT hst hv hcl hxl
          generalize A k = Ak at *
          generalize LN k = Lk at *
          generalize C k = Ck at *
          go_wp2_with (first | (go_at_call 8; refine ka.mono ?_; rintro e w3 ⟨rfl, B3, T3⟩) | (at_builtin; refine wpList_app rfl (.tmp 39) (.tmp 40) rfl w.heap.size _ xs rfl T3.row Ak Lk Ck (S k) rfl HBY.out.2.1 (HBY.out.1.later B3) HBY.out.2.2.1 B3.size ?_; intro v4 w4 r4 g4 m4))
          go_roundg GK
          case measure => exact HG.out.1
          case rel => exact ⟨k + 1, σ', xs ++ bs (S k) Lk, HG.out.2, by go_num, B3.trans (grown_below T3.row g4 B3.size), bes_grow T3 r4 g4 m4 (okb_bs HBY.out.1), HST.out, by have := HBY.out; omega⟩
        · have d2 : decide ((2000 : Int) < (LN k : Int)) = true := decide_eq_true (by omega)
          have HTX : Hid (Below w.heap.size w wr ∧ Bes D w.heap.size q σ (.slice ao xs.length ac) xs wr ∧ Pst k σ xs ∧ k ≤ 30) := ⟨hw, HT.out⟩
          clear hk hw HT hce hby hnl
          go_wp2_with fail
          go_meet
          exact ⟨σ, xs, k, HTX⟩
      · have d1 : decide ((30 : Int) ≤ (k : Int)) = true := decide_eq_true (by omega)
        have HTX : Hid (Below w.heap.size w wr ∧ Bes D w.heap.size q σ (.slice ao xs.length ac) xs wr ∧ Pst k σ xs ∧ k ≤ 30) := ⟨hw, HT.out⟩
        clear hk hw HT hce hby hnl
        go_wp2_with fail
        go_meet
        exact ⟨σ, xs, k, HTX⟩
    · have h' : (sl : Int) ≤ (k : Int) := by omega
      have HTX : Hid (Below w.heap.size w wr ∧ Bes D w.heap.size q σ (.slice ao xs.length ac) xs wr ∧ Pst k σ xs ∧ k ≤ 30) := ⟨hw, HT.out⟩
      clear hk hw HT
      go_wp2_with fail
      go_meet
      exact ⟨σ, xs, k, HTX⟩
  case rest =>
    obtain ⟨σ, xs, k, HT⟩ := hcut
    obtain ⟨ao, ac, rfl⟩ := Row.slice3 HT.out.2.1.row
    obtain ⟨hrd, hus⟩ := pst_read HT.out.2.2.1
    have hxl : xs.length ≤ 60000 := by have h1 := HT.out.2.2.1.len; have h2 := HT.out.2.2.2; omega
    obtain ⟨F, r, f, g⟩ := HT.out.2.1.ex
    have hi := HT.out.2.1.inv
    have kR := D.read sF r hi
    rw [hrd] at kR
    have kZ := fun wx (hb : Below wc.heap.size wc wx) => D.size sF (PD.later r hb) hi
    rw [hrd] at kZ
    have kU := fun wx (hb : Below wc.heap.size wc wx) => D.used (PD.later r hb) hi
    rw [hus] at kU
    have HRA : Hid (∀ wx, Below wc.heap.size wc wx → Calls Try.prog 13 #[.pointer (some ⟨q, 0, none⟩), .string ⟨#[102]⟩, .int .i64 at_, .int .i64 nn] wx fun e w' => ∃ v, e = .returned (.tuple #[v, .int .i64 (σ.readAt sF at_ nn).2]) ∧ BytR w' v (σ.readAt sF at_ nn).1 ∧ Below wx.heap.size wx w') := fun wx hb => D.readAt sF at_ nn (PD.later r hb) hi HAN.out.1 HAN.out.2
    have HRV : Hid (σ.readAt sF at_ nn = if at_ < 0 ∨ nn < 0 then ([], 1) else if (xs.length : Int) < at_ ∨ (xs.length : Int) - at_ < nn then ([], 5) else ((xs.drop at_.toNat).take nn.toNat, 0)) := by
      show _ = _
      unfold DS.readAt
      rw [hrd]
      rfl
    have hok := HT.out.2.1.ok
    obtain ⟨ao', ac', hv, hnl, hlc, hcm, hby⟩ := HT.out.2.1.row.byt hok
    simp only [Value.slice.injEq, true_and] at hv
    obtain ⟨rfl, rfl⟩ := hv
    have HSA : Hid (∀ wx, Below wc.heap.size wc wx → (convert 27 9 (.slice ao xs.length ac)).run Try.prog wx = .ok (.string (strOfNums xs)) wx) := fun wx hb => by
      have := run_str (cap := ac) (hby.later hb) hnl
      rw [bs_xof hok] at this
      exact this
    have HB := Hid.intro (And.intro hby (And.intro hok (And.intro hnl hlc)))
    have HW := Hid.intro HT.out.1
    obtain ⟨L, hL⟩ : ∃ L, L = xs.length := ⟨_, rfl⟩
    have HLL := Hid.intro hL
    have hl62 : L ≤ 60000 := by omega
    simp only [Option.getD_some] at kR kZ
    rw [← hL] at kZ kU HSA HB HRV hlc ⊢
    unfold ptr at *
    clear r f g hi hrd hus HT HS hok hby hnl hL hxl
    have hcm2 : ac ≤ 2 ^ 63 - 1 := by unfold maxLen at hcm; omega
    clear hcm
    by_cases q1 : at_ < 0
    · have d1 : decide (at_ < 0) = true := decide_eq_true q1
      go_wp2_with (first | (go_at_call 9; refine kR.mono ?_; rintro e w1 ⟨v1, rfl, s1, b1⟩; obtain ⟨o1, o2, o3, rfl, t1⟩ := s1.str; have B1 := Hid.intro b1) | (go_at_call 10; refine (kZ _ B1.out).mono ?_; rintro e w2 ⟨rfl, b2⟩; have B2 : Hid (Below wc.heap.size wc w2) := B1.out.trans (b2.mono B1.out.size); have u1 := t1 _ b2; have u2 := HSA.out _ B2.out) | (go_at_call 11; refine (kU _ B2.out).mono ?_; rintro e w3 ⟨rfl, b3⟩; have B3 : Hid (Below wc.heap.size wc w3) := B2.out.trans (b3.mono B2.out.size)) | (go_at_call 12; refine (HA.out _).mono ?_; rintro e w6 ⟨rfl, b6⟩))
      all_goals
        go_ret
        have e3 : Below w.heap.size w w3 := HW.out.trans (B3.out.mono HW.out.size)
        exact ⟨rfl, e3.trans (b6.mono e3.size)⟩
    have d1 : decide (at_ < 0) = false := decide_eq_false q1
    by_cases q2 : nn < 0
    · have d2 : decide (nn < 0) = true := decide_eq_true q2
      go_wp2_with (first | (go_at_call 9; refine kR.mono ?_; rintro e w1 ⟨v1, rfl, s1, b1⟩; obtain ⟨o1, o2, o3, rfl, t1⟩ := s1.str; have B1 := Hid.intro b1) | (go_at_call 10; refine (kZ _ B1.out).mono ?_; rintro e w2 ⟨rfl, b2⟩; have B2 : Hid (Below wc.heap.size wc w2) := B1.out.trans (b2.mono B1.out.size); have u1 := t1 _ b2; have u2 := HSA.out _ B2.out) | (go_at_call 11; refine (kU _ B2.out).mono ?_; rintro e w3 ⟨rfl, b3⟩; have B3 : Hid (Below wc.heap.size wc w3) := B2.out.trans (b3.mono B2.out.size)) | (go_at_call 12; refine (HA.out _).mono ?_; rintro e w6 ⟨rfl, b6⟩))
      all_goals
        go_ret
        have e3 : Below w.heap.size w w3 := HW.out.trans (B3.out.mono HW.out.size)
        exact ⟨rfl, e3.trans (b6.mono e3.size)⟩
    have d2 : decide (nn < 0) = false := decide_eq_false q2
    obtain ⟨a, rfl⟩ := Int.eq_ofNat_of_zero_le (show 0 ≤ at_ by omega)
    obtain ⟨m, rfl⟩ := Int.eq_ofNat_of_zero_le (show 0 ≤ nn by omega)
    by_cases q3 : (L : Int) < (a : Int)
    · have d3 : decide ((L : Int) < (a : Int)) = true := decide_eq_true q3
      clear q1 q2
      go_wp2_with (first | (go_at_call 9; refine kR.mono ?_; rintro e w1 ⟨v1, rfl, s1, b1⟩; obtain ⟨o1, o2, o3, rfl, t1⟩ := s1.str; have B1 := Hid.intro b1) | (go_at_call 10; refine (kZ _ B1.out).mono ?_; rintro e w2 ⟨rfl, b2⟩; have B2 : Hid (Below wc.heap.size wc w2) := B1.out.trans (b2.mono B1.out.size); have u1 := t1 _ b2; have u2 := HSA.out _ B2.out) | (go_at_call 11; refine (kU _ B2.out).mono ?_; rintro e w3 ⟨rfl, b3⟩; have B3 : Hid (Below wc.heap.size wc w3) := B2.out.trans (b3.mono B2.out.size)) | (go_at_call 12; refine (HA.out _).mono ?_; rintro e w6 ⟨rfl, b6⟩))
      all_goals
        go_ret
        have e3 : Below w.heap.size w w3 := HW.out.trans (B3.out.mono HW.out.size)
        exact ⟨rfl, e3.trans (b6.mono e3.size)⟩
    have d3 : decide ((L : Int) < (a : Int)) = false := decide_eq_false q3
    have e3 : IntKind.i64.wrap ((L : Int) - (a : Int)) = (L : Int) - (a : Int) := by rw [wrapEq]; unfold wrap64; omega
    by_cases q4 : (L : Int) - (a : Int) < (m : Int)
    · have d4 : decide ((L : Int) - (a : Int) < (m : Int)) = true := decide_eq_true q4
      clear q1 q2 q3
      go_wp2_with (first | (go_at_call 9; refine kR.mono ?_; rintro e w1 ⟨v1, rfl, s1, b1⟩; obtain ⟨o1, o2, o3, rfl, t1⟩ := s1.str; have B1 := Hid.intro b1) | (go_at_call 10; refine (kZ _ B1.out).mono ?_; rintro e w2 ⟨rfl, b2⟩; have B2 : Hid (Below wc.heap.size wc w2) := B1.out.trans (b2.mono B1.out.size); have u1 := t1 _ b2; have u2 := HSA.out _ B2.out) | (go_at_call 11; refine (kU _ B2.out).mono ?_; rintro e w3 ⟨rfl, b3⟩; have B3 : Hid (Below wc.heap.size wc w3) := B2.out.trans (b3.mono B2.out.size)) | (go_at_call 12; refine (HA.out _).mono ?_; rintro e w6 ⟨rfl, b6⟩))
      all_goals
        go_ret
        have e3 : Below w.heap.size w w3 := HW.out.trans (B3.out.mono HW.out.size)
        exact ⟨rfl, e3.trans (b6.mono e3.size)⟩
    have d4 : decide ((L : Int) - (a : Int) < (m : Int)) = false := decide_eq_false q4
    have hal : a + m ≤ L := by omega
    have hrv : σ.readAt sF (a : Int) (m : Int) = ((xs.drop a).take m, 0) := by
      rw [HRV.out, if_neg (by omega), if_neg (by omega)]
      rfl
    have kA := HRA.out
    rw [hrv] at kA
    have e5 : IntKind.i64.wrap ((a : Int) + (m : Int)) = (a : Int) + (m : Int) := by rw [wrapEq]; unfold wrap64; omega
    clear q1 q2 q3 q4 hrv HRA HRV
    by_cases q5 : ac = a
    · have hm0 : m = 0 := by have := HB.out.2.2.2; omega
      subst hm0
      subst q5
      obtain rfl : L = ac := by have := HB.out.2.2.2; omega
      have e7 : IntKind.i64.wrap (L : Int) = (L : Int) := by rw [wrapEq]; unfold wrap64; omega
      have e8 : ((L : Int) + ((0 : Nat) : Int)) = (L : Int) := by omega
      have HPV : Hid (∀ wx, Below wc.heap.size wc wx → (convert 27 9 (.slice ao 0 0)).run Try.prog wx = .ok (.string (strOfNums ((xs.drop L).take 0))) wx) := fun wx hb => run_str (X := fun _ => 0) (fun k hk => by omega) (fun _ => ⟨rfl, rfl⟩)
      go_wp2_with (first | (go_at_call 9; refine kR.mono ?_; rintro e w1 ⟨v1, rfl, s1, b1⟩; obtain ⟨o1, o2, o3, rfl, t1⟩ := s1.str; have B1 := Hid.intro b1) | (go_at_call 10; refine (kZ _ B1.out).mono ?_; rintro e w2 ⟨rfl, b2⟩; have B2 : Hid (Below wc.heap.size wc w2) := B1.out.trans (b2.mono B1.out.size); have u1 := t1 _ b2; have u2 := HSA.out _ B2.out) | (go_at_call 11; refine (kU _ B2.out).mono ?_; rintro e w3 ⟨rfl, b3⟩; have B3 : Hid (Below wc.heap.size wc w3) := B2.out.trans (b3.mono B2.out.size)) | (go_at_call 13; refine (kA _ B3.out).mono ?_; rintro e w4 ⟨v4, rfl, s4, b4⟩; obtain ⟨p1, p2, p3, rfl, t4⟩ := s4.str; have B4 : Hid (Below wc.heap.size wc w4) := B3.out.trans (b4.mono B3.out.size); have HT4 := Hid.intro t4; clear t4))
      go_region_held (fun w' => (convert 27 9 (.slice p1 p2 p3)).run Try.prog w' = .ok (.string (strOfNums ((xs.drop L).take 0))) w' ∧ (convert 27 9 (.slice ao 0 0)).run Try.prog w' = .ok (.string (strOfNums ((xs.drop L).take 0))) w') (first | exact ⟨HT4.out _ (Below.refl _ _).drew, HPV.out _ B4.out.drew⟩ | exact ⟨HT4.out _ ((Below.refl _ _).drew.trans b6), HPV.out _ (B4.out.trans (((Below.refl _ _).drew.trans b6).mono B4.out.size))⟩) (first | (go_at_call 12; refine (HA.out _).mono ?_; rintro e w6 ⟨rfl, b6⟩))
      go_wp2_with fail
      go_ret
      have e4 : Below w.heap.size w w4 := HW.out.trans (B4.out.mono HW.out.size)
      have e6 : Below w4.heap.size w4 w6 := (Below.refl _ _).drew.trans b6
      exact ⟨rfl, e4.trans (e6.mono e4.size)⟩
    · have HPV : Hid (∀ wx, Below wc.heap.size wc wx → (convert 27 9 (.slice (ao.map fun x => x.add a) m (ac - a))).run Try.prog wx = .ok (.string (strOfNums ((xs.drop a).take m))) wx) := fun wx hb => by
        have hby := HB.out.1.later hb
        have hax : a + m ≤ xs.length := by rw [← HLL.out]; exact hal
        cases hao : ao with
        | none => have := HB.out.2.2.1 hao; have := HB.out.2.2.2; omega
        | some ad =>
          by_cases hm : m = 0
          · subst hm
            rw [run_str (X := fun _ => 0) (fun k hk => by omega) (fun e => by cases e)]
            simp [bs]
          · obtain ⟨_, b, off, e, _⟩ := hby 0 (by omega)
            rw [hao] at e
            simp only [Option.some.injEq] at e
            subst e
            have e2 : Option.map (fun x : Addr => x.add a) (some ⟨b, off, none⟩) = some ⟨b, off + a, none⟩ := by simp [Addr.add_lit]
            rw [e2]
            rw [hao] at hby
            have hp := byt_piece hby a m hal rfl
            have hr := run_str (cap := ac - a) hp (fun e => by cases e)
            rw [bs_piece xs HB.out.2.1 a m hax] at hr
            exact hr
      have d5 : ¬ (ac = a) := q5
      go_wp2_with (first | (go_at_call 9; refine kR.mono ?_; rintro e w1 ⟨v1, rfl, s1, b1⟩; obtain ⟨o1, o2, o3, rfl, t1⟩ := s1.str; have B1 := Hid.intro b1) | (go_at_call 10; refine (kZ _ B1.out).mono ?_; rintro e w2 ⟨rfl, b2⟩; have B2 : Hid (Below wc.heap.size wc w2) := B1.out.trans (b2.mono B1.out.size); have u1 := t1 _ b2; have u2 := HSA.out _ B2.out) | (go_at_call 11; refine (kU _ B2.out).mono ?_; rintro e w3 ⟨rfl, b3⟩; have B3 : Hid (Below wc.heap.size wc w3) := B2.out.trans (b3.mono B2.out.size)) | (go_at_call 13; refine (kA _ B3.out).mono ?_; rintro e w4 ⟨v4, rfl, s4, b4⟩; obtain ⟨p1, p2, p3, rfl, t4⟩ := s4.str; have B4 : Hid (Below wc.heap.size wc w4) := B3.out.trans (b4.mono B3.out.size); have HT4 := Hid.intro t4; clear t4))
      go_region_held (fun w' => (convert 27 9 (.slice p1 p2 p3)).run Try.prog w' = .ok (.string (strOfNums ((xs.drop a).take m))) w' ∧ (convert 27 9 (.slice (ao.map fun x => x.add a) m (ac - a))).run Try.prog w' = .ok (.string (strOfNums ((xs.drop a).take m))) w') (first | exact ⟨HT4.out _ (Below.refl _ _).drew, HPV.out _ B4.out.drew⟩ | exact ⟨HT4.out _ ((Below.refl _ _).drew.trans b6), HPV.out _ (B4.out.trans (((Below.refl _ _).drew.trans b6).mono B4.out.size))⟩) (first | (go_at_call 12; refine (HA.out _).mono ?_; rintro e w6 ⟨rfl, b6⟩))
      go_wp2_with fail
      go_ret
      have e4 : Below w.heap.size w w4 := HW.out.trans (B4.out.mono HW.out.size)
      have e6 : Below w4.heap.size w4 w6 := (Below.refl _ _).drew.trans b6
      exact ⟨rfl, e4.trans (e6.mono e4.size)⟩
end Go.Proofs.Ytligofmcmjblpab
