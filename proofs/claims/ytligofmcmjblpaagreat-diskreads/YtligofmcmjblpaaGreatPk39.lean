import Derived.Test.YtligofmcmjblpaaGreatPk31
/- The landed disk: picks, one by one; a file is cut. -/
namespace Go.Proofs.YtligofmcmjblpaaGreat
open Go.RowKit Go.Maps
set_option linter.unusedVariables false
set_option linter.unusedSimpArgs false

/-- The next pick, 0 to n. -/
def pk (ps : List Int) (n : Nat) : Nat :=
  match ps with
  | [] => 0
  | x :: _ => (if x < 0 then (x % 4611686018427387904).toNat else x.toNat) % (n + 1)
theorem pick_pk (ps : List Int) (k n : Nat) : pick ps k n = pk (ps.drop k) n := by
  unfold pick pk
  cases h : ps[k]? with
  | none => rw [List.drop_eq_nil_of_le (by rw [List.getElem?_eq_none_iff] at h; exact h)]
  | some x =>
    have hk := (List.getElem?_eq_some_iff.1 h)
    obtain ⟨h1, h2⟩ := hk
    rw [List.drop_eq_getElem_cons h1, h2]
theorem pk_le (ps : List Int) (n : Nat) : pk ps n ≤ n := by
  unfold pk
  split
  · exact Nat.zero_le _
  · exact Nat.le_of_lt_succ (Nat.mod_lt _ (Nat.succ_pos n))
theorem and62L (n : Int) : bits .and .i64 n 4611686018427387903 = n % 4611686018427387904 := by
  have h62 : (BitVec.ofInt 64 4611686018427387903).toNat = 2 ^ 62 - 1 := by decide
  have key : (BitVec.ofInt 64 n &&& BitVec.ofInt 64 4611686018427387903).toNat = (n % ((2 ^ 64 : Nat) : Int)).toNat % 2 ^ 62 := by
    rw [BitVec.toNat_and, BitVec.toNat_ofInt, h62, Nat.and_two_pow_sub_one_eq_mod]
  show IntKind.i64.wrap ((BitVec.ofInt 64 n &&& BitVec.ofInt 64 4611686018427387903).toNat : Nat) = n % 4611686018427387904
  rw [key, IntKind.wrap_i64]
  omega
/-- Picks that came in, and lie outside the disk. -/
def PickA (w0 : World) (F : Nat → Prop) (ao : Option Addr) (c : Nat) (ps : List Int) : Prop :=
  ps.length ≤ c ∧ c ≤ 2 ^ 63 - 1 ∧ ∀ (k : Nat) (x : Int), ps[k]? = some x → (-9223372036854775808 ≤ x ∧ x ≤ 9223372036854775807) ∧ ∃ b off, ao = some ⟨b, off, none⟩ ∧ ¬ F b ∧ w0.cell? ⟨b, off + k, none⟩ = some (.int .i64 x)
/-- What is left of them lies in a box. -/
def PickB (w0 : World) (F : Nat → Prop) (w : World) (pb : Nat) (ps : List Int) : Prop := ∃ ao c, PickA w0 F ao c ps ∧ w.heap[pb]? = some (.cells #[.slice ao ps.length c] 28 (0, 0))
theorem PickB.same {w0 w w' : World} {F : Nat → Prop} {pb : Nat} {ps : List Int} (h : PickB w0 F w pb ps) (hs : w'.heap[pb]? = w.heap[pb]?) : PickB w0 F w' pb ps := by
  obtain ⟨ao, c, h1, h2⟩ := h
  exact ⟨ao, c, h1, hs.trans h2⟩

set_option maxHeartbeats 1000000 in
set_option maxRecDepth 100000 in
theorem picker1_any (w0 : World) (F : Nat → Prop) (pb : Nat) (ps : List Int) (most : Nat) (w : World) (hk : Kept F w0 w) (h : PickB w0 F w pb ps) (hm : most ≤ 2 ^ 40) :
    Calls Tryz.prog 83 #[.int .i64 (most : Int), .pointer (some ⟨pb, 0, none⟩)] w fun e w' => e = .returned (.int .i64 (pk ps most : Int)) ∧ PickB w0 F w' pb ps.tail ∧ w.grownBy w' (some pb) := by
  obtain ⟨ao, c, ⟨hl, hc, hps⟩, hb⟩ := h
  have c0 : w.cell? ⟨pb, 0, none⟩ = some (.slice ao ps.length c) := cell_of hb 0
  have f0 := frozen_of hb 0
  cases ps with
  | nil =>
    have HP : Hid (PickB w0 F w pb []) := ⟨ao, c, ⟨hl, hc, hps⟩, hb⟩
    clear hps hb
    go_enter Tryz.func83, Tryz.ntmps83
    go_wp2_with fail
    go_ret
    exact ⟨rfl, HP.out, ⟨rfl, rfl, rfl, Nat.le_refl _, fun _ _ _ => rfl⟩⟩
  | cons x r =>
    obtain ⟨hx, b, off, rfl, hnF, hcx⟩ := hps 0 x rfl
    have cx : w.cell? ⟨b, off, none⟩ = some (.int .i64 x) := by have := kept_cell hk hcx hnF; simpa using this
    have hlen : (x :: r).length = r.length + 1 := rfl
    rw [hlen] at c0 hl hb
    have HN : Hid (∀ ad c', (1 < c → ad = (⟨b, off + 1, none⟩ : Addr)) → c' = c - 1 → PickB w0 F (w.setCell ⟨pb, 0, none⟩ (.slice (some ad) r.length c')) pb r) := fun ad c' had hc' => by
      subst hc'
      refine ⟨some ad, c - 1, ⟨by omega, by omega, fun k y hy => ?_⟩, heap_set hb 0 _⟩
      have hk1 := (List.getElem?_eq_some_iff.1 hy).1
      obtain ⟨z1, b', off', z2, z3, z4⟩ := hps (k + 1) y hy
      simp only [Option.some.injEq, Addr.mk.injEq] at z2
      obtain ⟨rfl, rfl, _⟩ := z2
      refine ⟨z1, b, off + 1, by rw [had (by omega)], z3, ?_⟩
      rw [show off + 1 + k = off + (k + 1) by omega]
      exact z4
    have hg : ∀ v, w.grownBy (w.setCell ⟨pb, 0, none⟩ v) (some pb) := fun v => grown_set _ _ _ _
    have e0 : ¬ ((most : Int) + 1 = 0) := by omega
    have hcI : c ≤ 9223372036854775807 := by omega
    simp only [List.tail_cons]
    unfold pk
    clear hps hb hcx hlen
    by_cases q : x < 0
    · have hand := and62L x
      obtain ⟨m, hm'⟩ := Int.eq_ofNat_of_zero_le (show 0 ≤ x % 4611686018427387904 by omega)
      have hm2 : m < 4611686018427387904 := by omega
      simp only [if_pos q]
      rw [hm']
      rw [hm'] at hand
      have e3 : (((m : Int).toNat % (most + 1) : Nat) : Int) = (m : Int) % ((most : Int) + 1) := by simp
      have e4 : (m : Int) % ((most : Int) + 1) < (most : Int) + 1 := Int.emod_lt_of_pos _ (by omega)
      have e5 : 0 ≤ (m : Int) % ((most : Int) + 1) := Int.emod_nonneg _ (by omega)
      have et : (m : Int).tmod ((most : Int) + 1) = (m : Int) % ((most : Int) + 1) := Int.tmod_eq_emod_of_nonneg (by omega)
      rw [e3]
      generalize hz : (m : Int) % ((most : Int) + 1) = z at e4 e5 et ⊢
      clear hm' e3 hz
      go_enter Tryz.func83, Tryz.ntmps83
      go_wp2_with fail
      · go_ret
        exact ⟨rfl, HN.out _ _ (fun e => by omega) (by omega), hg _⟩
      · go_ret
        exact ⟨rfl, HN.out _ _ (fun _ => rfl) rfl, hg _⟩
    · simp only [if_neg q]
      have q' : 0 ≤ x := by omega
      obtain ⟨m, rfl⟩ := Int.eq_ofNat_of_zero_le q'
      have e3 : (((m : Int).toNat % (most + 1) : Nat) : Int) = (m : Int) % ((most : Int) + 1) := by simp
      have e4 : (m : Int) % ((most : Int) + 1) < (most : Int) + 1 := Int.emod_lt_of_pos _ (by omega)
      have e5 : 0 ≤ (m : Int) % ((most : Int) + 1) := Int.emod_nonneg _ (by omega)
      have et : (m : Int).tmod ((most : Int) + 1) = (m : Int) % ((most : Int) + 1) := Int.tmod_eq_emod_of_nonneg (by omega)
      have hx2 : m ≤ 9223372036854775807 := by omega
      rw [e3]
      generalize hz : (m : Int) % ((most : Int) + 1) = z at e4 e5 et ⊢
      clear e3 hz hx q
      go_enter Tryz.func83, Tryz.ntmps83
      go_wp2_with fail
      · go_ret
        exact ⟨rfl, HN.out _ _ (fun e => by omega) (by omega), hg _⟩
      · go_ret
        exact ⟨rfl, HN.out _ _ (fun _ => rfl) rfl, hg _⟩

theorem row_take {w : World} {v : Value} {xs : List Int} (h : Row 0 w v xs) {ao : Option Addr} {n c : Nat} (hv : v = .slice ao n c) {q : Nat} (hq : q ≤ xs.length) : Row 0 w (.slice ao q c) (xs.take q) := by
  have hl : (xs.take q).length = q := by rw [List.length_take]; omega
  refine ⟨by simp, ?_⟩
  rcases h.2 with ⟨e, h0⟩ | ⟨g', cap, cur, e, hb, hgg, h1, h2, h3, h4⟩
  · rw [hv] at e
    cases e
    rw [hl]
    left
    have : q = 0 := by omega
    subst this
    exact ⟨rfl, rfl⟩
  · rw [hv] at e
    simp only [Value.slice.injEq] at e
    obtain ⟨rfl, rfl, rfl⟩ := e
    rw [hl]
    refine .inr ⟨g', c, cur, rfl, hb, hgg, by omega, h2, h3, ?_⟩
    rw [List.map_take, ← h4, List.take_take]
    congr 1
    omega

set_option maxHeartbeats 8000000 in
set_option maxRecDepth 100000 in
theorem cut_any (w0 : World) (F : Nat → Prop) (pb g : Nat) (ps : List Int) (ao : Option Addr) (c : Nat) (data : List Int) (sure : Nat) (w : World) (hk : Kept F w0 w) (hB : PickB w0 F w pb ps) (hpb : w0.heap.size ≤ pb)
    (hg : w.heap[g]? = some (.cells #[.slice ao data.length c, .int .i64 (sure : Int)] 72 (0, 0))) (hr : Row 0 w (.slice ao data.length c) data) (hs : sure ≤ data.length) (hl : data.length ≤ 4194304) (hc : data.length ≤ c ∧ c ≤ 2 ^ 63 - 1) :
    Calls Tryz.prog 67 #[.pointer (some ⟨g, 0, none⟩), .func (.func 83) #[] #[.pointer (some ⟨pb, 0, none⟩)]] w fun e w' => e = .returned (.tuple #[]) ∧
      ∃ q, q = sure + pk ps (data.length - sure) ∧ w'.heap[g]? = some (.cells #[.slice ao q c, .int .i64 (q : Int)] 72 (0, 0)) ∧ Row 0 w' (.slice ao q c) (data.take q) ∧ PickB w0 F w' pb ps.tail ∧ Kept (fun k => k = g ∨ k = pb) w w' := by
  have hpg : pb ≠ g := fun e => by
    obtain ⟨_, _, _, h2⟩ := hB
    rw [e, hg] at h2
    simp only [Option.some.injEq, Obj.cells.injEq] at h2
    exact absurd h2.2.1 (by decide)
  have c0 : w.cell? ⟨g, 0, none⟩ = some (.slice ao data.length c) := cell_of hg 0
  have c1 : w.cell? ⟨g, 1, none⟩ = some (.int .i64 (sure : Int)) := cell_of hg 1
  have k1 := picker1_any w0 F pb ps (data.length - sure) w.drew ⟨hk.os, hk.tape, hk.output, hk.size, hk.block⟩ (hB.same rfl) (by omega)
  have hpk := pk_le ps (data.length - sure)
  have HF : Hid (∀ w2, w.grownBy w2 (some pb) → w2.cell? ⟨g, 0, none⟩ = some (.slice ao data.length c) ∧ w2.cell? ⟨g, 1, none⟩ = some (.int .i64 (sure : Int)) ∧ w2.frozen? ⟨g, 1, none⟩ = false ∧ w2.frozen? ⟨g, 0, none⟩ = false) := fun w2 g2 => by
    have e : w2.heap[g]? = w.heap[g]? := g2.block g (Array.getElem?_eq_some_iff.1 hg).1 (fun e => hpg (Option.some.inj e).symm)
    exact ⟨cell_of (e.trans hg) 0, cell_of (e.trans hg) 1, frozen_of (e.trans hg) 1, frozen_of (e.trans hg) 0⟩
  have HE : Hid (∀ w2 (q : Nat), w.grownBy w2 (some pb) → PickB w0 F w2 pb ps.tail → q = sure + pk ps (data.length - sure) → (((w2.setCell ⟨g, 1, none⟩ (.int .i64 (q : Int))).setCell ⟨g, 0, none⟩ (.slice ao q c)).heap[g]? = some (.cells #[.slice ao q c, .int .i64 (q : Int)] 72 (0, 0)) ∧ Row 0 ((w2.setCell ⟨g, 1, none⟩ (.int .i64 (q : Int))).setCell ⟨g, 0, none⟩ (.slice ao q c)) (.slice ao q c) (data.take q) ∧ PickB w0 F ((w2.setCell ⟨g, 1, none⟩ (.int .i64 (q : Int))).setCell ⟨g, 0, none⟩ (.slice ao q c)) pb ps.tail ∧ Kept (fun k => k = g ∨ k = pb) w ((w2.setCell ⟨g, 1, none⟩ (.int .i64 (q : Int))).setCell ⟨g, 0, none⟩ (.slice ao q c)))) := fun w2 q g2 B2 hq => by
    have e : w2.heap[g]? = w.heap[g]? := g2.block g (Array.getElem?_eq_some_iff.1 hg).1 (fun e => hpg (Option.some.inj e).symm)
    have hgg : w2.grownBy ((w2.setCell ⟨g, 1, none⟩ (.int .i64 (q : Int))).setCell ⟨g, 0, none⟩ (.slice ao q c)) (some g) := grown_trans (grown_set _ _ _ _) (grown_set _ _ _ _)
    have hpl : pb < w2.heap.size := by obtain ⟨_, _, _, h2⟩ := B2; exact (Array.getElem?_eq_some_iff.1 h2).1
    have hrt := row_take hr rfl (q := q) (by omega)
    have hne : ∀ b, (Value.slice ao q c).ownBlock = some b → b ≠ g ∧ b ≠ pb := fun b eb => by
      have t1 := owns_ty hrt eb
      refine ⟨TyOf.ne t1 ⟨_, _, hg⟩ (by decide), fun e2 => ?_⟩
      obtain ⟨_, _, _, h2⟩ := hB
      exact TyOf.ne t1 ⟨_, _, h2⟩ (by decide) e2
    refine ⟨?_, ?_, B2.same (hgg.block pb hpl fun e2 => hpg (Option.some.inj e2)), ?_⟩
    · rw [heap_set (heap_set (e.trans hg) 1 _) 0 _]
      rfl
    · refine owns_same (owns_same hrt fun b eb => g2.block b (owns_ty hrt eb).lt fun e2 => (hne b eb).2 (Option.some.inj e2)) fun b eb => hgg.block b (Nat.lt_of_lt_of_le (owns_ty hrt eb).lt g2.size) fun e2 => (hne b eb).1 (Option.some.inj e2)
    · exact (Kept.grown g2 fun k e2 => .inl (.inr (Option.some.inj e2).symm)).trans (Kept.grown (F := fun k => k = g ∨ k = pb) hgg fun k e2 => .inl (.inl (Option.some.inj e2).symm)) fun k x => .inl x
  obtain ⟨P, hP⟩ : ∃ P, P = pk ps (data.length - sure) := ⟨_, rfl⟩
  rw [← hP] at hpk k1
  obtain ⟨M, hM⟩ : ∃ M, M = data.length - sure := ⟨_, rfl⟩
  have HM : Hid (M = data.length - sure) := hM
  rw [← hM] at k1
  have hMI : (data.length : Int) - (sure : Int) = (M : Int) := by omega
  have wM : IntKind.i64.wrap (M : Int) = (M : Int) := by rw [IntKind.wrap_i64]; omega
  have hq1 : sure + P ≤ data.length := by omega
  obtain ⟨q, hq⟩ : ∃ q, q = sure + P := ⟨_, rfl⟩
  have wS : IntKind.i64.wrap ((sure : Int) + (P : Int)) = (q : Int) := by rw [IntKind.wrap_i64]; omega
  have HP : Hid (q = sure + pk ps (data.length - sure)) := by show _ = _; rw [← hP]; exact hq
  obtain ⟨hc1, hc2⟩ := hc
  have hqD : q ≤ data.length := by omega
  generalize data.length = D at *
  have hqc : q ≤ c := by omega
  clear hP hM hr hB hk hq hq1
  go_enter Tryz.func67, Tryz.ntmps67
  go_wp2_with fail
  go_region_with (first | (go_at_call 83; refine k1.mono ?_; rintro e w2 ⟨rfl, B2, g2⟩; replace g2 := undrew g2; obtain ⟨y0, y1, y2, y3⟩ := HF.out _ g2))
  all_goals
    go_wp2_with fail
    go_region
  all_goals
    try go_wp2_with fail
    go_end0
    obtain ⟨e1, e2, e3, e4⟩ := HE.out w2 q g2 B2 HP.out
    exact ⟨rfl, q, HP.out, e1, e2, e3, ⟨e4.os, e4.tape, e4.output, e4.size, e4.block⟩⟩
end Go.Proofs.YtligofmcmjblpaaGreat
