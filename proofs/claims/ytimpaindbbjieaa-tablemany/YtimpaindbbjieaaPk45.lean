import Derived.Deep.RegionHeldLaw
import Derived.Laws.BitsAllLaws
import Derived.WalkKit
import Derived.RegionTactic
import Derived.Test.YtimpaindbbjieaaPk10
import Derived.Test.YtimpaindbbjieaaPk17
import Derived.Test.YtimpaindbbjieaaPk27
/- The laws on tables: the law's own sorted row. -/
namespace Go.Proofs.Ytimpaindbbjieaa
open Go.RowKit
set_option linter.unusedVariables false
set_option linter.unusedSimpArgs false

/-- Entries in order that may be, at most so many. -/
def SrT (w : World) (n : Nat) (wx : World) (v : Value) (L : List EntV) : Prop :=
  RowF entE w.heap.size (fun b => b < w.heap.size) wx v L ∧ ordE L ∧ (∀ e ∈ L, mayE e = true) ∧ L.length ≤ n ∧ Below w.heap.size w wx
theorem SrT.later {w : World} {n : Nat} {wx wy : World} {v : Value} {L : List EntV} (h : SrT w n wx v L) (hb : Below wx.heap.size wx wy) : SrT w n wy v L :=
  ⟨h.1.later hb, h.2.1, h.2.2.1, h.2.2.2.1, h.2.2.2.2.trans (hb.mono h.2.2.2.2.size)⟩

set_option maxHeartbeats 2000000 in
set_option maxRecDepth 100000 in
theorem sorted12_any {w : World} {ao : Option Addr} {len cap : Nat} {l : List EntV} (h : RS entE w ao len cap l) :
    Calls Try.prog 11 #[.slice ao len cap] w fun r w' => ∃ v, r = .returned v ∧ ∃ L, SrT w 60 w' v L := by
  have HS : Hid (RSG entE (fun b => b < w.heap.size) w ao len cap l) := RSG.any h
  have hln : l.length = len := h.len.1
  have hl63 : len ≤ 2 ^ 63 - 1 := by have := h.len.2; unfold maxLen at this; omega
  have H0 : Hid (SrT w 60 w (.slice none 0 0) [] ∧ ([] : List EntV).length ≤ 0) := ⟨⟨RowF.nil _ _ _, ord_nil, (fun e he => by cases he), Nat.zero_le _, Below.refl _ _⟩, Nat.le_refl _⟩
  clear h
  go_enter Try.func11, Try.ntmps11
  go_wp2_with fail
  go_loopg [3, 4, 5, 8] len (fun g v _ _ i wr => ∃ (k : Nat) (L : List EntV), k + g = len ∧ i = .int .i64 (k : Int) ∧ Hid (SrT w 60 wr v L ∧ L.length ≤ k))
  case atStart => exact ⟨0, [], by omega, rfl, H0⟩
  case round =>
    obtain ⟨k, L, hk, rfl, HK⟩ := hrel
    by_cases hkl : k < len
    · have hkl' : (k : Int) < (len : Int) := by omega
      have hkx : k < l.length := by omega
      obtain ⟨row1, o1, m1, n1, bel⟩ := HK.out.1
      obtain ⟨b, off, ka, kc, va, vc, rfl, e0, e1, e2, e3, e4, hem, sk, heg⟩ := RSG.ent HS.out (List.getElem?_eq_getElem hkx)
      have d0 := cell_later bel e0
      have d1 := cell_later bel e1
      have d2 := cell_later bel e2
      have d3 := cell_later bel e3
      have d4 := cell_later bel e4
      clear e0 e1 e2 e3 e4
      generalize l[k] = o at d0 d1 d2 d3 d4 hem sk heg
      obtain ⟨ra, rc, hv6, hrsg⟩ := row1.rsg
      subst hv6
      have hk63 : k ≤ 2 ^ 63 - 2 := by omega
      obtain ⟨GK, HG⟩ : ∃ g, Hid (g < gk ∧ k + 1 + g = len) := ⟨gk - 1, by omega, by omega⟩
      obtain ⟨W1, hW1⟩ : ∃ W1, W1 = wr.alloc (.cells #[.slice ka o.key.length kc, .int .i64 o.seq, .bool o.gone, .int .i64 o.till, .slice va o.val.length vc] 34) := ⟨_, rfl⟩
      have b1 : Below wr.heap.size wr W1 := by rw [hW1]; exact (Below.refl _ _).alloc (Nat.le_refl _) _
      have hbx : ∀ wx, Below W1.heap.size W1 wx → _ := fun wx hb => box_cells wr (.slice ka o.key.length kc) (.int .i64 o.seq) (.bool o.gone) (.int .i64 o.till) (.slice va o.val.length vc) 34 (wx := wx) (by rw [← hW1]; exact hb)
      have HBX := hid hbx
      have HBr : Hid (∀ wx, Below W1.heap.size W1 wx → Below wr.heap.size wr wx) := fun wx hb => b1.trans (hb.mono b1.size)
      have HRW : Hid (∀ wx, Below wr.heap.size wr wx → Below w.heap.size w wx) := fun wx hb => bel.trans (hb.mono bel.size)
      have HM1 : Hid (∀ wx, Calls Try.prog 35 #[entA ka kc va vc o] wx fun r w' => r = .returned (.bool (mayE o)) ∧ Below wx.heap.size wx w') := fun wx => rmayE_any
      have HPUT : Hid (∀ wx, Below wr.heap.size wr wx → Calls Try.prog 43 #[.slice ra L.length rc, entA ka kc va vc o] wx fun r w' => Below wx.heap.size wx w' ∧ ((hasE L o = true ∧ r = .returned (.tuple #[.slice ra L.length rc, .bool false])) ∨ (hasE L o = false ∧ ∃ v, r = .returned (.tuple #[v, .bool true]) ∧ RowF entE wx.heap.size (fun b => b < w.heap.size) w' v (putE L o)))) := fun wx hb => rputE_any (hrsg.later hb) (El.later (E := entE) hem (HRW.out _ hb)) (fun b hb' => Nat.lt_of_lt_of_le hb' (HRW.out _ hb).size) heg (by omega) o1
      have HFS : Hid (∀ wx, Below wr.heap.size wr wx → SrT w 60 wx (.slice ra L.length rc) L) := fun wx hb => HK.out.1.later hb
      have HPP : Hid (mayE o = true → hasE L o = false → k < 60 → ∀ wx v, Below wr.heap.size wr wx → RowF entE w.heap.size (fun b => b < w.heap.size) wx v (putE L o) → SrT w 60 wx v (putE L o) ∧ (putE L o).length ≤ k + 1) := fun q1 q2 q3 wx v hb hr => by
        have ea := addE_put q1 q2
        have ho := addE_ord o1 o
        rw [ea] at ho
        have hlen : (putE L o).length = L.length + 1 := putE_len L o
        refine ⟨⟨hr, ho, fun e he => ?_, by have := HK.out.2; omega, HRW.out _ hb⟩, by have := HK.out.2; omega⟩
        rcases List.mem_cons.1 ((putE_perm L o).mem_iff.1 he) with q | q
        · rw [q]; exact q1
        · exact m1 e q
      have HKL : Hid (L.length ≤ k) := HK.out.2
      have HW1 := hid hW1
      unfold entA at HM1 HPUT
      clear row1 o1 m1 n1 hrsg hem sk heg hbx hW1 hk HK bel b1
      go_upto_region 5 with fail
      rw [← HW1.out]
      clear d0 d1 d2 d3 d4
      obtain ⟨y0, y1, y2, y3, y4⟩ := HBX.out _ (Below.refl _ _)
      by_cases q6 : k < 60
      · have q6' : (k : Int) < 60 := by omega
        go_wp2_with fail
        refine (HM1.out _).mono ?_
        rintro e w2 ⟨rfl, b2⟩
        clear y0 y1 y2 y3 y4
        cases hmy : mayE o with
        | false =>
          have B2 := hid (HBr.out _ b2)
          go_wp2_with fail
          go_roundg GK
          case measure => exact HG.out.1
          case rel => exact ⟨k + 1, L, HG.out.2, by go_num, HFS.out _ B2.out, by have := HKL.out; omega⟩
        | true =>
          obtain ⟨x0, x1, x2, x3, x4⟩ := HBX.out _ b2
          have B2 := hid (HBr.out _ b2)
          have HQ6 := hid q6
          have HMY := hid hmy
          clear q6 hmy
          go_wp2_with fail
          refine (HPUT.out _ B2.out).mono ?_
          rintro e w3 ⟨b3, ⟨hh, rfl⟩ | ⟨hh, v3, rfl, r3⟩⟩
          · have B3 := hid (B2.out.trans (b3.mono B2.out.size))
            go_wp2_with fail
            go_roundg GK
            case measure => exact HG.out.1
            case rel => exact ⟨k + 1, L, HG.out.2, by go_num, HFS.out _ B3.out, by have := HKL.out; omega⟩
          · have B3 := hid (B2.out.trans (b3.mono B2.out.size))
            have HN := hid (HPP.out HMY.out hh HQ6.out w3 v3 B3.out (r3.base (HRW.out _ B2.out).size))
            clear r3
            go_wp2_with fail
            go_roundg GK
            case measure => exact HG.out.1
            case rel => exact ⟨k + 1, putE L o, HG.out.2, by go_num, HN.out⟩
      · have q6' : ¬ ((k : Int) < 60) := by omega
        have B2 := hid (HBr.out _ (Below.refl _ W1))
        clear q6
        go_wp2_with fail
        go_roundg GK
        case measure => exact HG.out.1
        case rel => exact ⟨k + 1, L, HG.out.2, by go_num, HFS.out _ B2.out, by have := HKL.out; omega⟩
    · have hkl' : ¬ ((k : Int) < (len : Int)) := by omega
      have HF := hid HK.out.1
      clear hk hkl HK
      go_wp2_with fail
      exact bodyPost_ret (v := u3) (by simp [results, Try.results11, go_sem]) rfl ⟨u3, rfl, L, HF.out⟩
end Go.Proofs.Ytimpaindbbjieaa

/- The laws on tables: TableBack. -/
namespace Go.Proofs.Ytimpaindbbjieaa
open Go.RowKit
set_option linter.unusedVariables false
set_option linter.unusedSimpArgs false

theorem Row.shapeT {B : Nat} {w : World} {v : Value} {xs : List Int} (h : Row B w v xs) (hp : 0 < xs.length) : ∃ g cap, v = .slice (some ⟨g, 0, none⟩) xs.length cap ∧ xs.length ≤ cap := by
  rcases h.2 with ⟨_, h0⟩ | ⟨g, cap, cur, h1, _, _, h2, _⟩
  · omega
  · exact ⟨g, cap, h1, h2⟩
theorem Row.atT {B : Nat} {w : World} {g cap : Nat} {xs : List Int} (h : Row B w (.slice (some ⟨g, 0, none⟩) xs.length cap) xs) (j : Nat) (hj : j < xs.length) : w.cell? ⟨g, j, none⟩ = some (.int .u8 xs[j]) ∧ w.frozen? ⟨g, j, none⟩ = false := by
  refine ⟨?_, World.ownsRow.frozenAt h j⟩
  rw [World.ownsRow.cellAt h j (by omega)]
  simp [hj]
theorem Row.setT {B : Nat} {w : World} {g cap : Nat} {xs : List Int} (h : Row B w (.slice (some ⟨g, 0, none⟩) xs.length cap) xs) (j : Nat) (u : Nat) : Row B (w.setCell ⟨g, j, none⟩ (.int .u8 (u : Int))) (.slice (some ⟨g, 0, none⟩) xs.length cap) (xs.set j (u : Int)) ∧ w.grownBy (w.setCell ⟨g, j, none⟩ (.int .u8 (u : Int))) (some g) := by
  obtain ⟨h1, h2⟩ := World.ownsRow.stored h j (.int .u8 (u : Int))
  refine ⟨?_, h2⟩
  unfold Row
  rw [List.map_set, List.length_set]
  exact h1
theorem okb_setT {xs : List Int} {p u : Nat} (h : Okb xs) (hu : u < 256) : Okb (xs.set p (u : Int)) := fun x hx => by
  rcases List.mem_or_eq_of_mem_set hx with q | q
  · exact h x q
  · omega
theorem run_uptoT (kh : IntKind) (ao : Option Addr) (len cap j : Nat) (h2 : j ≤ cap) : ∀ w, (Instr.slice 25 (.slice ao len cap) none (some (.int kh (j : Int))) none).run Try.prog w = .ok (.slice (cutA ao cap 0) j cap) w := fun w => by
  rw [run_slice_h (P := Try.prog) (w := w) 25 ao len cap under25 kh (j : Int) (by omega) (by omega), elem25, Try.sizeOf5]
  simp only [Result.andThen, Int.toNat_natCast]
  rw [sliced_cut _ _ _ _ (by omega)]
  simp
theorem Sl.uptoT {w : World} {ao : Option Addr} {len cap : Nat} {xs : List Int} (h : Sl w ao len cap xs) (j : Nat) (h2 : j ≤ len) : Sl w (cutA ao cap 0) j cap (xs.take j) := by
  have := h.cut 0 j (Nat.zero_le _) h2
  simpa using this
theorem remT (n : Int) (L : Nat) (hL : 0 < L) (h2 : L ≤ 4194304) : ∃ (T : Int) (N : Nat), n.tmod (L : Int) = T ∧ (T + (L : Int)).tmod (L : Int) = (N : Int) ∧ N < L ∧ wrap64 (T + (L : Int)) = T + (L : Int) := by
  have a1 : -(L : Int) < n.tmod (L : Int) ∧ n.tmod (L : Int) < (L : Int) := ⟨Int.lt_tmod_of_pos n (by omega), Int.tmod_lt_of_pos n (by omega)⟩
  obtain ⟨T, hT⟩ : ∃ T, n.tmod (L : Int) = T := ⟨_, rfl⟩
  rw [hT] at a1
  obtain ⟨p, hp⟩ := Int.eq_ofNat_of_zero_le (show 0 ≤ (T + (L : Int)).tmod (L : Int) from Int.tmod_nonneg _ (by omega))
  exact ⟨T, p, hT, hp, by have := Int.tmod_lt_of_pos (T + (L : Int)) (b := (L : Int)) (by omega); omega, by unfold wrap64; omega⟩
theorem may_lgT {L : List EntV} (h : ∀ e ∈ L, mayE e = true) : ∀ e ∈ L, e.key.length ≤ 3000 ∧ e.val.length ≤ 3000 := fun e he => by
  have := mayE_ok (h e he)
  omega
theorem opT_len {tk : List Int → Nat × List EntV} {b : List Int} (h : (opT tk b).1 = 0) : 32 ≤ b.length := by
  by_cases q : b.length < 32
  · unfold opT at h
    rw [if_pos q] at h
    cases h
  · omega
theorem xor_ne {y z : Nat} (h : z ≠ 0) : y ^^^ z ≠ y := fun e => h (by
  have : y ^^^ (y ^^^ z) = y ^^^ y := by rw [e]
  rw [← Nat.xor_assoc, Nat.xor_self, Nat.zero_xor] at this
  exact this)
theorem rs_okT {w : World} {ao : Option Addr} {len cap : Nat} {l : List EntV} (h : RS entE w ao len cap l) : ∀ e ∈ l, OkE e := fun e he => by
  obtain ⟨i, hi, rfl⟩ := List.getElem_of_mem he
  obtain ⟨b, off, ka, kc, va, vc, _, _, _, _, _, _, sk, sv, _, _⟩ := RS.ent h (List.getElem?_eq_getElem hi)
  exact ⟨sk.2.1, sv.2.1⟩
/-- One byte of a table as another one, or not. -/
theorem opT_xor {l : List EntV} (h : tblE l = 0) (ho : ∀ e ∈ l, OkE e) {i y z u : Nat} (hu : u = y ^^^ z) (hy : y < 256) (hz : z < 256) (hi : i < (tblB l).length) (hb : (tblB l)[i] = (y : Int)) : (opT tkD ((tblB l).set i (u : Int))).1 = 0 ↔ z = 0 := by
  constructor
  · intro h0
    by_cases q : z = 0
    · exact q
    · have hu8 : u < 256 := by rw [hu]; exact Nat.xor_lt_two_pow (n := 8) hy hz
      have hne : (tblB l)[i] ≠ (u : Int) := by
        rw [hb, hu]
        intro e
        exact xor_ne (y := y) q (by omega)
      exact absurd h0 (opT_one h ho ⟨by omega, by omega⟩ hi hne)
  · intro q
    have : (tblB l).set i (u : Int) = tblB l := by
      rw [hu, q, Nat.xor_zero, ← hb]
      exact List.set_getElem_self hi
    rw [this, opT_of_tbl h ho]

end Go.Proofs.Ytimpaindbbjieaa

/- A region that draws its order, by an invariant: what holds of the operations that have come up, whatever their order, is enough. -/
namespace Go.Proofs.Ytimpaindbbjieaa

theorem mem_ready {md : Region.Mode} {ops : Array Oper} {listed : Array Bool} {i : Nat} :
    i ∈ Region.ready md ops listed ↔ i < ops.size ∧ listed.getD i true = false ∧ ∃ o, ops[i]? = some o ∧ ∀ e ∈ o.after, Region.binds md e = true → listed.getD e.on false = true := by
  unfold Region.ready
  rw [List.mem_filter, List.mem_range]
  constructor
  · rintro ⟨h1, h2⟩
    cases ho : ops[i]? with
    | none => simp [ho] at h2
    | some o =>
      simp only [ho, Option.map_some, Option.getD_some, Bool.and_eq_true, Bool.not_eq_true', Array.all_eq_true_iff_forall_mem, Bool.or_eq_true] at h2
      refine ⟨h1, h2.1, o, rfl, fun e he hb => ?_⟩
      rcases h2.2 e he with h | h
      · rw [hb] at h; cases h
      · exact h
  · rintro ⟨h1, h2, o, ho, h3⟩
    refine ⟨h1, ?_⟩
    simp only [ho, Option.map_some, Option.getD_some, Bool.and_eq_true, Bool.not_eq_true', Array.all_eq_true_iff_forall_mem, Bool.or_eq_true]
    refine ⟨h2, fun e he => ?_⟩
    cases hb : Region.binds md e with
    | false => exact Or.inl rfl
    | true => exact Or.inr (h3 e he hb)

/-- How many of the first n have not come up. -/
def left (listed : Array Bool) : Nat → Nat
  | 0 => 0
  | n + 1 => left listed n + (if listed.getD n true then 0 else 1)

theorem left_set (listed : Array Bool) (i : Nat) (hi : listed.getD i true = false) : ∀ n, left (listed.setIfInBounds i true) n = left listed n - (if i < n then 1 else 0) ∧ (i < n → 0 < left listed n) := by
  have hlt : i < listed.size := by
    rcases Nat.lt_or_ge i listed.size with h | h
    · exact h
    · simp [h] at hi
  intro n
  induction n with
  | zero => simp [left]
  | succ n ih =>
    by_cases hn : n = i
    · subst hn
      have e1 : (listed.setIfInBounds n true).getD n true = true := by simp [hlt]
      simp only [left, e1, hi]
      have := ih.1
      simp at this
      simp
      omega
    · have e1 : (listed.setIfInBounds i true).getD n true = listed.getD n true := by
        simp [Ne.symm hn]
      simp only [left, e1]
      have h1 := ih.1
      have h2 := ih.2
      by_cases hin : i < n
      · simp only [hin, if_true, show i < n + 1 by omega] at *
        have := h2 trivial
        omega
      · simp only [hin, if_false] at h1
        refine ⟨?_, fun h => absurd h (by omega)⟩
        rw [if_neg (show ¬ i < n + 1 by omega)]
        omega

theorem left_zero (listed : Array Bool) : ∀ n, left listed n = 0 → ∀ i, i < n → listed.getD i true = true := by
  intro n
  induction n with
  | zero => intro _ i hi; omega
  | succ n ih =>
    intro h i hi
    simp only [left] at h
    rcases Nat.lt_or_ge i n with g | g
    · exact ih (by omega) i g
    · have : i = n := by omega
      subst this
      cases hl : listed.getD i true with
      | true => rfl
      | false => simp [hl] at h

theorem wp_region_inv {P : Program} {id : Nat} {Q : Exit → Act → World → Prop} {A : Act} {w : World} {ops : Array Oper} (hm : P.follows .mixedOrders = true)
    (hlow : ∀ (i : Nat) o, ops[i]? = some o → ∀ e ∈ o.after, Region.binds .any e = true → e.on < i)
    (Inv0 : Act → (Nat → Bool) → Act → World → Prop) (h0 : Inv0 A (fun _ => false) A w.drew)
    (hstep : ∀ (L : Nat → Bool) (a : Act) (w : World) (i : Nat) (o : Oper), Inv0 A L a w → ops[i]? = some o → L i = false → (∀ e ∈ o.after, Region.binds .any e = true → L e.on = true) →
      ∀ K : Act → World → Prop, (∀ a w, Inv0 A (fun j => if j = i then true else L j) a w → K a w) → if Region.wanted o (yielded ops a.tmps) = true then o.wp P a w K Q else K (a.put o.dst undef) w)
    (hend : ∀ (L : Nat → Bool) (a : Act) (w : World), Inv0 A L a w → (∀ i, i < ops.size → L i = true) → Q .normal a w) :
    (Code.region id ops true).wp P Q A w := by
  obtain ⟨Inv, hInv⟩ : ∃ Inv, Inv = Inv0 A := ⟨_, rfl⟩
  rw [← hInv] at h0 hstep hend
  clear hInv
  refine wp_region_any hm ?_
  have all : ∀ (listed : Array Bool), listed.size = ops.size → Region.ready .any ops listed = [] → ∀ i, i < ops.size → listed.getD i true = true := by
    intro listed hsz hr i
    induction i using Nat.strongRecOn with
    | _ i ih =>
      intro hi
      cases hl : listed.getD i true with
      | true => rfl
      | false =>
        have ho : ops[i]? = some ops[i] := Array.getElem?_eq_getElem hi
        have : i ∈ Region.ready .any ops listed := mem_ready.2 ⟨hi, hl, ops[i], ho, fun e he hb => by
          have hlt := hlow i _ ho e he hb
          have := ih e.on hlt (by omega)
          have hs : e.on < listed.size := by omega
          simpa [hs] using this⟩
        rw [hr] at this
        cases this
  have eqd : ∀ (listed : Array Bool) (j : Nat), j < listed.size → listed.getD j true = listed.getD j false := fun listed j hj => by simp [hj]
  have key : ∀ (fuel : Nat) (listed : Array Bool) (a : Act) (w : World), listed.size = ops.size → left listed ops.size ≤ fuel → Inv (fun j => listed.getD j false) a w → wpAny P .any ops Q fuel listed a w := by
    intro fuel
    induction fuel with
    | zero =>
      intro listed a w hsz hf hI
      have hz := left_zero listed ops.size (by omega)
      refine ⟨?_, hend _ a w hI fun i hi => by rw [← eqd listed i (by omega)]; exact hz i hi⟩
      cases hr : Region.ready .any ops listed with
      | nil => rfl
      | cons i rest =>
        have : i ∈ Region.ready .any ops listed := by rw [hr]; simp
        obtain ⟨h1, h2, _⟩ := mem_ready.1 this
        rw [hz i h1] at h2
        cases h2
    | succ fuel ih =>
      intro listed a w hsz hf hI
      refine ⟨fun hr => hend _ a w hI fun i hi => by rw [← eqd listed i (by omega)]; exact all listed hsz hr i hi, fun i hi => ?_⟩
      obtain ⟨h1, h2, o, ho, h3⟩ := mem_ready.1 hi
      have hs : i < listed.size := by omega
      refine wpOp_step ho fun K hK => hstep _ a w i o hI ho (by rw [← eqd listed i hs]; exact h2) h3 K fun a' w' hI' => hK a' w' ?_
      refine ih _ a' w' (by simpa using hsz) ?_ ?_
      · have hls := left_set listed i h2 ops.size
        have e := hls.1
        have p := hls.2 h1
        simp only [h1, if_true] at e
        omega
      · have : (fun j => (listed.setIfInBounds i true).getD j false) = fun j => if j = i then true else listed.getD j false := by
          funext j
          by_cases hj : j = i
          · subst hj; simp [hs]
          · simp [Ne.symm hj, hj]
        rw [this]; exact hI'
  refine key ops.size _ A _ (by simp) ?_ ?_
  · have : ∀ n, left (Array.replicate ops.size false) n ≤ n := by
      intro n
      induction n with
      | zero => simp [left]
      | succ n ih => simp only [left]; split <;> omega
    exact this ops.size
  · have : (fun j => (Array.replicate ops.size false).getD j false) = fun _ => false := by
      funext j
      simp only [Array.getD_eq_getD_getElem?, Array.getElem?_replicate]
      split <;> rfl
    rw [this]; exact h0
end Go.Proofs.Ytimpaindbbjieaa
