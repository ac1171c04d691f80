/- The law that sums tell. -/
import Derived.Test.YtidkibefjcjkfaaTellsA
import Derived.RegionTactic
namespace Go.Proofs.Ytidkibefjcjkfaa
open Go.RowKit
set_option linter.unusedVariables false

theorem row_empty (w : World) : Row w.heap.size (w.alloc (.cells #[] 5)) (.slice (some ⟨w.heap.size, 0, none⟩) 0 0) [] :=
  World.ownsRow_made w #[] 0 (Nat.le_refl _) (Nat.zero_le _) rfl
/-- A copy: 'append([]byte{}, b...)'. -/
theorem wpList_copy {W : World} {ops : Array Oper} {rest : List Oper} {o : Oper} {a : Act} {Q : Exit → Act → World → Prop} {s x : Operand} {ao : Option Addr} {len cap : Nat} {X : Nat → Nat} (hgd : o.guard = none)
    (ho : o.op = .call { callee := .builtin .append, args := #[s, x], argTypes := #[23, 23] }) (hs : a.eval s = .slice (some ⟨W.heap.size, 0, none⟩) 0 0) (hx : a.eval x = .slice ao len cap)
    (H : Hid (Byt W ao len X ∧ (ao = none → len = 0 ∧ cap = 0) ∧ len ≤ 140737488351232))
    (h : ∀ v' w', Row W.heap.size w' v' (bs X len) → Below W.heap.size W w' → wpList Try.prog ops Q rest (a.put o.dst v') w') : wpList Try.prog ops Q (o :: rest) a (W.alloc (.cells #[] 5)) := by
  obtain ⟨h1, h2, h3⟩ := H.out
  have hB : Below W.heap.size W (W.alloc (.cells #[] 5)) := (Below.refl _ _).alloc (Nat.le_refl _) _
  refine wpList_app hgd s x ho W.heap.size _ [] hs (row_empty W) ao len cap X hx h2 (h1.later hB) (by simp; omega) hB.size fun v' w' q1 q2 q3 => h v' w' ?_ ?_
  · rw [List.nil_append] at q1
    exact q1
  · exact hB.trans (grown_below (row_empty W) q2 hB.size)
theorem Row.shape {B : Nat} {w : World} {v : Value} {xs : List Int} (h : Row B w v xs) (hp : 0 < xs.length) : ∃ g cap, v = .slice (some ⟨g, 0, none⟩) xs.length cap ∧ xs.length ≤ cap := by
  rcases h.2 with ⟨_, h0⟩ | ⟨g, cap, cur, h1, _, _, h2, _⟩
  · omega
  · exact ⟨g, cap, h1, h2⟩
/-- One byte of a row of one's own: read, and written. -/
theorem Row.at {B : Nat} {w : World} {g n cap : Nat} {Y : Nat → Nat} (h : Row B w (.slice (some ⟨g, 0, none⟩) n cap) (bs Y n)) (j : Nat) (hj : j < n) : w.cell? ⟨g, j, none⟩ = some (.int .u8 (Y j : Int)) ∧ w.frozen? ⟨g, j, none⟩ = false := by
  have h' : w.ownsRow B 5 1 (.slice (some ⟨g, 0, none⟩) n cap) n ((bs Y n).map (Value.int .u8)) := by have := h; unfold Row at this; rw [bs_length] at this; exact this
  refine ⟨?_, h'.frozenAt j⟩
  rw [h'.cellAt j (by omega)]
  simp [bs, hj]
theorem Row.set {B : Nat} {w : World} {g n cap : Nat} {Y : Nat → Nat} (h : Row B w (.slice (some ⟨g, 0, none⟩) n cap) (bs Y n)) (j : Nat) (u : Nat) : Row B (w.setCell ⟨g, j, none⟩ (.int .u8 (u : Int))) (.slice (some ⟨g, 0, none⟩) n cap) ((bs Y n).set j (u : Int)) ∧ w.grownBy (w.setCell ⟨g, j, none⟩ (.int .u8 (u : Int))) (some g) := by
  have h' : w.ownsRow B 5 1 (.slice (some ⟨g, 0, none⟩) n cap) n ((bs Y n).map (Value.int .u8)) := by have := h; unfold Row at this; rw [bs_length] at this; exact this
  obtain ⟨h1, h2⟩ := h'.stored j (.int .u8 (u : Int))
  refine ⟨?_, h2⟩
  unfold Row
  rw [List.map_set, List.length_set, bs_length]
  exact h1
def allz (z : Nat → Nat) : Nat → Bool
  | 0 => true
  | i + 1 => allz z i && ((z i : Int) == 0)
theorem allz_iff (z : Nat → Nat) : ∀ i, allz z i = true ↔ ∀ j, j < i → z j = 0
  | 0 => by simp [allz]
  | i + 1 => by
    simp only [allz, Bool.and_eq_true, allz_iff z i, beq_iff_eq]
    constructor
    · rintro ⟨h1, h2⟩ j hj
      rcases Nat.lt_or_ge j i with q | q
      · exact h1 j q
      · obtain rfl : j = i := by omega
        omega
    · intro h
      exact ⟨fun j hj => h j (by omega), by have := h i (by omega); omega⟩

set_option maxHeartbeats 1000000 in
set_option maxRecDepth 100000 in
theorem tells_any (ao : Option Addr) (len cap : Nat) (X : Nat → Nat) (at0 : Int) (z : Nat → Nat) (W : World) (hb : Byt W ao len X) (hnil : ao = none → len = 0 ∧ cap = 0) (hl : len ≤ cap) (hc : cap ≤ maxLen) (h47 : len ≤ 140737488351232) (hz : ∀ j, j < 4 → z j < 256) :
    Calls Try.prog 6 #[.slice ao len cap, .int .i64 at0, .agg #[.int .u8 (z 0 : Int), .int .u8 (z 1 : Int), .int .u8 (z 2 : Int), .int .u8 (z 3 : Int)]] W fun e w' => e = .returned (.bool true) ∧ Below W.heap.size W w' := by
  have heq : ∀ w, (Op.equalIn 10000 32 (.agg #[.int .u8 (z 0 : Int), .int .u8 (z 1 : Int), .int .u8 (z 2 : Int), .int .u8 (z 3 : Int)]) (.agg #[.int .u8 0, .int .u8 0, .int .u8 0, .int .u8 0])).run Try.prog w = .ok ((z 0 : Int) == 0 && (z 1 : Int) == 0 && (z 2 : Int) == 0 && (z 3 : Int) == 0) w := fun w => eq_x4 z (fun _ => 0) w
  have fin : ∀ o w2, Below (W.alloc o).heap.size (W.alloc o) w2 → Below W.heap.size W w2 := fun o w2 h => ((Below.refl W.heap.size W).alloc (Nat.le_refl _) o).trans (h.mono (by simp))
  by_cases h0 : len = 0
  · subst h0
    clear hb hnil hl hc h47 hz heq
    go_enter Try.func6, Try.ntmps6
    go_wp2_with (go_at_call 12; refine (awake_any _).mono ?_; rintro e w5 ⟨rfl, hb5⟩)
    go_ret
    exact ⟨rfl, fin _ _ hb5⟩
  have h0' : ¬ (len : Int) = 0 := by omega
  have h0b : ((len : Int) == 0) = false := by simp; omega
  obtain ⟨bb, hbb⟩ : ∃ bb : Bool, bb = ((z 0 : Int) == 0 && (z 1 : Int) == 0 && (z 2 : Int) == 0 && (z 3 : Int) == 0) := ⟨_, rfl⟩
  rw [← hbb] at heq
  cases bb with
  | true =>
    clear hb hnil hl hc h47 hz hbb h0
    go_enter Try.func6, Try.ntmps6
    go_wp2_with (go_at_call 12; refine (awake_any _).mono ?_; rintro e w5 ⟨rfl, hb5⟩)
    go_ret
    exact ⟨rfl, fin _ _ hb5⟩
  | false =>
    clear hbb
    have hl63 : len ≤ 2 ^ 62 := by omega
    obtain ⟨p, hp, hpl⟩ : ∃ p : Nat, ((at0.tmod (len : Int)) + (len : Int)).tmod (len : Int) = (p : Int) ∧ p < len := by
      have h1 := Int.tmod_lt_of_pos at0 (show (0 : Int) < len by omega)
      have h2 := Int.lt_tmod_of_pos at0 (show (0 : Int) < len by omega)
      have h3 : 0 ≤ (at0.tmod (len : Int)) + (len : Int) := by omega
      refine ⟨(((at0.tmod (len : Int)) + (len : Int)).tmod (len : Int)).toNat, ?_, ?_⟩
      · have := Int.tmod_nonneg (len : Int) h3
        omega
      · have h4 := Int.tmod_lt_of_pos ((at0.tmod (len : Int)) + (len : Int)) (show (0 : Int) < len by omega)
        have := Int.tmod_nonneg (len : Int) h3
        omega
    have hw1 : wrap64 ((at0.tmod (len : Int)) + (len : Int)) = (at0.tmod (len : Int)) + (len : Int) := by
      have h1 := Int.tmod_lt_of_pos at0 (show (0 : Int) < len by omega)
      have h2 := Int.lt_tmod_of_pos at0 (show (0 : Int) < len by omega)
      unfold wrap64
      omega
    have HA : Hid (Byt W ao len X ∧ (ao = none → len = 0 ∧ cap = 0) ∧ len ≤ cap ∧ cap ≤ maxLen ∧ len ≤ 140737488351232 ∧ (∀ j, j < 4 → z j < 256)) := ⟨hb, hnil, hl, hc, h47, hz⟩
    clear hb hnil hl hc h47 hz
    go_enter Try.func6, Try.ntmps6
    go_upto_region 4 with fail
    have hW1 : ∃ W1, W1 = W.alloc (.cells #[.int .u8 (z 0 : Int), .int .u8 (z 1 : Int), .int .u8 (z 2 : Int), .int .u8 (z 3 : Int)] 32) := ⟨_, rfl⟩
    obtain ⟨W1, hW1⟩ := hW1
    have hBW : Below W.heap.size W W1 := by rw [hW1]; exact (Below.refl _ _).alloc (Nat.le_refl _) _
    have hbox : ∀ j, j < 4 → W1.cell? ⟨W.heap.size, j, none⟩ = some (.int .u8 (z j : Int)) := fun j hj => by
      rw [hW1, cell_of_row _ W.heap.size _ _ 32 (0, 0) (heap_alloc_new W _)]
      exact x4_get z j hj
    rw [← hW1]
    have H1 : Hid (Byt W1 ao len X ∧ (ao = none → len = 0 ∧ cap = 0) ∧ len ≤ 140737488351232) := ⟨HA.out.1.later hBW, HA.out.2.1, HA.out.2.2.2.2.1⟩
    have HB : Hid (Below W.heap.size W W1 ∧ ∀ j, j < 4 → W1.cell? ⟨W.heap.size, j, none⟩ = some (.int .u8 (z j : Int))) := ⟨hBW, hbox⟩
    clear hW1 hBW hbox heq hp hw1
    go_upto_region 5 with (at_builtin; refine wpList_copy (W := W1) (s := .tmp 29) (x := .tmp 30) rfl rfl rfl rfl H1 ?_; intro v2 w2 hr2 hb2)
    obtain ⟨g, cap2, hv2, hcap2⟩ := hr2.shape (by rw [bs_length]; omega)
    rw [bs_length] at hv2 hcap2
    subst hv2
    have hc2 : (len : Int) ≤ (cap2 : Int) := by omega
    obtain ⟨m, hm4, hmp, hmm⟩ : ∃ m, m ≤ 4 ∧ p + m ≤ len ∧ (m = 4 ∨ p + m = len) := by
      by_cases q : p + 4 ≤ len
      · exact ⟨4, by omega, q, .inl rfl⟩
      · exact ⟨len - p, by omega, by omega, .inr (by omega)⟩
    have HM : Hid (m ≤ 4 ∧ p + m ≤ len ∧ (m = 4 ∨ p + m = len) ∧ p < len) := ⟨hm4, hmp, hmm, hpl⟩
    have HR2 : Hid (Row W1.heap.size w2 (.slice (some ⟨g, 0, none⟩) len cap2) (bs X len) ∧ Below W1.heap.size W1 w2) := ⟨hr2, hb2⟩
    clear hr2 hb2 hm4 hmp hmm hcap2
    have hgl : W.heap.size < g := by
      have h1 := (World.ownsRow.lt HR2.out.1 g rfl).1
      have h2 := HB.out.2 0 (by decide)
      have h3 : W.heap.size < W1.heap.size := by
        rcases Nat.lt_or_ge W.heap.size W1.heap.size with q | q
        · exact q
        · simp [World.cell?, q] at h2
      omega
    go_wp2_with fail
    go_loopg [8, 9] m (fun g2 s i wr => ∃ k : Nat, k + g2 = m ∧ i = .int .i64 (k : Int) ∧ s = .bool (allz z k) ∧ Hid (Row W1.heap.size wr (.slice (some ⟨g, 0, none⟩) len cap2) (bs (chg X z p k) len) ∧ Below W1.heap.size W1 wr))
    case atStart => exact ⟨0, by omega, rfl, rfl, by rw [chg_zero]; exact HR2.out⟩
    case round =>
      obtain ⟨k, hk, rfl, rfl, HR⟩ := hrel
      by_cases h : k < m
      · have hk4 : (k : Int) < 4 := by have := HM.out; omega
        have hpk : (p : Int) + (k : Int) < (len : Int) := by have := HM.out; omega
        obtain ⟨GK, HG⟩ : ∃ g, Hid (g < gk ∧ k + 1 + g = m) := ⟨gk - 1, by omega, by omega⟩
        obtain ⟨hcell, hfz⟩ := HR.out.1.at (p + k) (by omega)
        rw [chg_at] at hcell
        have hbx := cell_later HR.out.2 (HB.out.2 k (by omega))
        obtain ⟨c, hc⟩ : ∃ c, c = X (p + k) := ⟨_, rfl⟩
        obtain ⟨zk, hzk⟩ : ∃ c, c = z k := ⟨_, rfl⟩
        rw [← hc] at hcell
        rw [← hzk] at hbx
        obtain ⟨y, hy⟩ : ∃ y, y = c ^^^ zk := ⟨_, rfl⟩
        have hxor : bits .xor .u8 (c : Int) (zk : Int) = (y : Int) := by rw [hy]; exact u8_xor_nat c zk (by rw [hc]; exact (HA.out.1 _ (by omega)).1) (by rw [hzk]; exact HA.out.2.2.2.2.2 k (by omega))
        have hp62 : p + k ≤ 2 ^ 62 := by omega
        obtain ⟨hset, hgrow⟩ := HR.out.1.set (p + k) y
        have HN : Hid (Row W1.heap.size (wr.setCell ⟨g, p + k, none⟩ (.int .u8 (y : Int))) (.slice (some ⟨g, 0, none⟩) len cap2) (bs (chg X z p (k + 1)) len) ∧ Below W1.heap.size W1 (wr.setCell ⟨g, p + k, none⟩ (.int .u8 (y : Int)))) := by
          refine ⟨?_, HR.out.2.trans (grown_below HR.out.1 hgrow HR.out.2.size)⟩
          rw [chg_succ _ _ _ _ _ (by have := HM.out; omega), ← hc, ← hzk, ← hy]
          exact hset
        have HZ : Hid (zk = z k) := hzk
        clear hset hgrow hk h hc hzk hy
        cases hsb : allz z k with
        | true =>
          go_wp2_with fail
          go_region
          have hbx2 := cell_later HN.out.2 (HB.out.2 k (by omega))
          rw [← HZ.out] at hbx2
          generalize wr.setCell ⟨g, p + k, none⟩ (.int .u8 (y : Int)) = w7 at HN hbx2 ⊢
          clear hbx hcell hfz hxor
          go_wp2_with fail
          go_roundg GK
          case measure => exact HG.out.1
          case rel =>
            refine ⟨k + 1, HG.out.2, by go_num, ?_, World.ownsRow.drew HN.out.1, HN.out.2.drew⟩
            simp only [allz, hsb, Bool.true_and, HZ.out]
        | false =>
          go_wp2_with fail
          go_region
          generalize wr.setCell ⟨g, p + k, none⟩ (.int .u8 (y : Int)) = w7 at HN ⊢
          clear hbx hcell hfz hxor
          go_wp2_with fail
          go_roundg GK
          case measure => exact HG.out.1
          case rel =>
            refine ⟨k + 1, HG.out.2, by go_num, ?_, World.ownsRow.drew HN.out.1, HN.out.2.drew⟩
            simp only [allz, hsb, Bool.false_and]
      · have hkm : k = m := by omega
        subst hkm
        have hy8 : ∀ j, j < len → chg X z p k j < 256 := chg_lt (fun j hj => (HA.out.1 j hj).1) (fun j hj => HA.out.2.2.2.2.2 j (by have := HM.out; omega))
        have hok : Okb (bs (chg X z p k) len) := by
          rw [bs_ints]
          exact okb_ints fun x hx => by obtain ⟨j, hj, rfl⟩ := bl_mem hx; exact hy8 j hj
        obtain ⟨ao3, cap3, hv3, _, q2, q3, q4⟩ := HR.out.1.byt hok
        rw [bs_length] at hv3 q2 q4
        cases hv3
        have hs1 := sum_any _ len cap2 _ wr q4 (by omega)
        have hbl : bl (xof (bs (chg X z p k) len)) len = bl (chg X z p k) len := by
          have := bl_xof (bl (chg X z p k) len)
          rw [bl_length, ← bs_ints] at this
          exact this
        rw [hbl] at hs1
        have hBW : Below W.heap.size W wr := HB.out.1.trans (HR.out.2.mono HB.out.1.size)
        have hs2 := sum_any ao len cap X wr (HA.out.1.later hBW) (by have := HA.out; omega)
        have htl := tells X z p k len (by have := HM.out; omega) (by have := HM.out; omega) (fun j hj => (HA.out.1 j hj).1) (fun j hj => HA.out.2.2.2.2.2 j (by have := HM.out; omega))
        rw [← allz_iff] at htl
        generalize more 0 (bl (chg X z p k) len) = a at hs1 htl
        generalize more 0 (bl X len) = b at hs2 htl
        have hend : (allz z k = true ∧ a = b) ∨ (allz z k = false ∧ (((a : Int) == (b : Int)) = false)) := by
          cases hsb : allz z k with
          | true => exact .inl ⟨rfl, htl.2 hsb⟩
          | false =>
            have : ¬ a = b := fun e => by rw [htl.1 e] at hsb; cases hsb
            refine .inr ⟨rfl, ?_⟩
            simp
            omega
        have hstop : (k : Int) < 4 ∧ (p : Int) + (k : Int) = (len : Int) ∨ (k : Int) = 4 := by have := HM.out; omega
        have HBW : Hid (Below W.heap.size W wr) := hBW
        have hp62 : p + k ≤ 2 ^ 62 := by have := HM.out; omega
        clear hk h hy8 hok q2 q3 q4 hbl hBW htl
        rcases hstop with ⟨t1, t2⟩ | t1 <;> rcases hend with ⟨e1, e2⟩ | ⟨e1, e2⟩
        · subst e2
          rw [e1]
          go_wp2_with (first | (go_at_call 8; first | (refine hs1.mono ?_; rintro e wr ⟨rfl, rfl⟩) | (refine hs2.mono ?_; rintro e wr ⟨rfl, rfl⟩)) | (go_at_call 12; refine (awake_any _).mono ?_; rintro e w5 ⟨rfl, hb5⟩))
          go_ret
          exact ⟨rfl, HBW.out.trans (hb5.mono HBW.out.size)⟩
        · skip
          rw [e1]
          go_wp2_with (first | (go_at_call 8; first | (refine hs1.mono ?_; rintro e wr ⟨rfl, rfl⟩) | (refine hs2.mono ?_; rintro e wr ⟨rfl, rfl⟩)) | (go_at_call 12; refine (awake_any _).mono ?_; rintro e w5 ⟨rfl, hb5⟩))
          go_ret
          exact ⟨rfl, HBW.out.trans (hb5.mono HBW.out.size)⟩
        · subst e2
          rw [e1]
          go_wp2_with (first | (go_at_call 8; first | (refine hs1.mono ?_; rintro e wr ⟨rfl, rfl⟩) | (refine hs2.mono ?_; rintro e wr ⟨rfl, rfl⟩)) | (go_at_call 12; refine (awake_any _).mono ?_; rintro e w5 ⟨rfl, hb5⟩))
          go_ret
          exact ⟨rfl, HBW.out.trans (hb5.mono HBW.out.size)⟩
        · skip
          rw [e1]
          go_wp2_with (first | (go_at_call 8; first | (refine hs1.mono ?_; rintro e wr ⟨rfl, rfl⟩) | (refine hs2.mono ?_; rintro e wr ⟨rfl, rfl⟩)) | (go_at_call 12; refine (awake_any _).mono ?_; rintro e w5 ⟨rfl, hb5⟩))
          go_ret
          exact ⟨rfl, HBW.out.trans (hb5.mono HBW.out.size)⟩
end Go.Proofs.Ytidkibefjcjkfaa
