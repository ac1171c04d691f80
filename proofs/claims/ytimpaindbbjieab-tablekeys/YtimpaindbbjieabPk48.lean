import Derived.Test.YtimpaindbbjieabPk13
import Derived.Test.YtimpaindbbjieabPk18
import Derived.Test.YtimpaindbbjieabPk30
/- The laws on tables: TableKeys. -/
namespace Go.Proofs.Ytimpaindbbjieab
open Go.RowKit
set_option linter.unusedVariables false
set_option linter.unusedSimpArgs false

theorem ky1_old {out : List (List Int)} {e : EntV} {k : List Int} (h : k ∈ out) : k ∈ ky1 out e := by
  unfold ky1
  split
  · exact List.mem_append_left _ h
  · exact h
theorem ky1_new (out : List (List Int)) (e : EntV) : e.key ∈ ky1 out e := by
  unfold ky1
  split
  · exact List.mem_append_right _ (by simp)
  · rename_i q
    have : out.getLast? = some e.key := Classical.byContradiction fun t => q (.inr t)
    exact List.mem_of_getLast? this
theorem kys_all : ∀ (l : List EntV) (out : List (List Int)), (∀ k ∈ out, k ∈ l.foldl ky1 out) ∧ ∀ e ∈ l, e.key ∈ l.foldl ky1 out
  | [], out => ⟨fun k h => h, fun e h => by cases h⟩
  | a :: r, out => by
    obtain ⟨h1, h2⟩ := kys_all r (ky1 out a)
    refine ⟨fun k h => h1 k (ky1_old h), fun e h => ?_⟩
    rcases List.mem_cons.1 h with q | q
    · rw [q]; exact h1 _ (ky1_new out a)
    · exact h2 e q
theorem has_filT {l : List EntV} {e : EntV} (h : e ∈ l) : has (filT l) e.key = true := has_fil ((kys_all l []).2 e h)
def leastE (l : List EntV) : List Int := l.head?.elim [] (·.key)
theorem least_le {l : List EntV} (h : ordE l) {e : EntV} (he : e ∈ l) : ¬ cmp e.key (leastE l) < 0 := by
  cases l with
  | nil => cases he
  | cons a r =>
    show ¬ cmp e.key a.key < 0
    rcases List.mem_cons.1 he with q | q
    · rw [q, cmp_refl]; omega
    · have h1 := ahead_key ((List.pairwise_cons.1 h).1 e q)
      have h2 := cmp_neg a.key e.key
      omega
theorem most_ge : ∀ {l : List EntV} {prev : List Int}, ordE l → ∀ {e : EntV}, e ∈ l → ¬ 0 < cmp e.key (lastK prev l)
  | [], prev, h, e, he => by cases he
  | [a], prev, h, e, he => by
    rw [List.mem_singleton.1 he]
    show ¬ 0 < cmp a.key a.key
    rw [cmp_refl]
    omega
  | a :: b :: r, prev, h, e, he => by
    show ¬ 0 < cmp e.key (lastK a.key (b :: r))
    rcases List.mem_cons.1 he with q | q
    · obtain ⟨x, hx, hk⟩ := lastK_mem (c := b :: r) (prev := a.key) (by simp)
      rw [hk, q]
      have h1 := ahead_key ((List.pairwise_cons.1 h).1 x hx)
      omega
    · exact most_ge (List.pairwise_cons.1 h).2 q
/-- Whether a key is there. -/
def thE (l : List EntV) (key : List Int) : Bool := l.any fun e => decide (e.key = key)
theorem thE_take {l : List EntV} {key : List Int} {k : Nat} (h : k < l.length) : thE (l.take (k + 1)) key = (thE (l.take k) key || decide (l[k].key = key)) := by
  unfold thE
  rw [List.take_add_one, List.getElem?_eq_getElem h, List.any_append]
  simp
theorem thE_get {l : List EntV} {key : List Int} {s : Int} (h : ∀ e ∈ l, e.seq ≤ s) : (getE l key s).isSome = thE l key := by
  unfold getE thE
  rw [Bool.eq_iff_iff, List.find?_isSome, List.any_eq_true]
  constructor
  · rintro ⟨x, hx, q⟩
    exact ⟨x, hx, by simp at q ⊢; exact cmp_zero.1 q.1⟩
  · rintro ⟨x, hx, q⟩
    exact ⟨x, hx, by simp at q ⊢; exact ⟨cmp_zero.2 q, h x hx⟩⟩
theorem thE_has {l : List EntV} {key : List Int} (h : thE l key = true) : has (filT l) key = true := by
  unfold thE at h
  obtain ⟨x, hx, q⟩ := List.any_eq_true.1 h
  have e : x.key = key := by simpa using q
  rw [← e]
  exact has_filT hx
theorem ordB_of {l : List EntV} (h : ordE l) : ordB l = true := by
  unfold ordB
  exact decide_eq_true (show l.Pairwise _ from h)

set_option maxHeartbeats 4000000 in
set_option maxRecDepth 100000 in
theorem keys12_any (D : PT) {w : World} {ao : Option Addr} {len cap : Nat} {l : List EntV} {ya : Option Addr} {yl yc : Nat} {key : List Int} (h : RS entE w ao len cap l) (hkey : Sl w ya yl yc key) :
    Calls Try.prog 4 #[.slice ao len cap, .slice ya yl yc] w fun e w' => e = .returned (.bool true) ∧ Below w.heap.size w w' := by
  have hso := sorted12_any h
  have HAW : Hid (∀ wx, Calls Try.prog 7 #[] wx fun e w' => e = .returned (.bool true) ∧ Below wx.heap.size wx w') := fun wx => awake12_any D wx
  have HKY := hid hkey
  clear h hkey
  go_enter Try.func4, Try.ntmps4
  go_wp2_with fail
  refine hso.mono ?_
  rintro e w1 ⟨v1, rfl, L, SR⟩
  obtain ⟨a1, c1, rfl, rs1⟩ := SR.1.s.rs
  have hn60 := SR.2.2.2.1
  have hE := D.build rs1 (by omega) (may_lgT SR.2.2.1)
  have hbe := tblE_srt (by omega) SR.2.2.1 SR.2.1
  have HS1 : Hid (RS entE w1 a1 L.length c1 L ∧ Below w.heap.size w w1) := ⟨rs1, SR.2.2.2.2⟩
  have HL : Hid ((∀ e ∈ L, mayE e = true) ∧ ordE L ∧ L.length ≤ 60) := ⟨SR.2.2.1, SR.2.1, hn60⟩
  clear hso SR rs1
  by_cases q0 : L.length = 0
  · rw [if_pos q0] at hbe
    rw [hbe] at hE
    have q0' : ((L.length : Int) == 0) = true := by rw [q0]; rfl
    generalize L.length = n at q0' hE HS1
    generalize tblX L = X at hE
    clear q0 hbe hn60
    go_wp2_with (first | (go_at_call 6; refine hE.mono ?_; rintro e w2 ⟨v2, rfl, -, b2⟩) | (go_at_call 7; refine (HAW.out _).mono ?_; rintro e w3 ⟨rfl, b3⟩))
    have B2 := HS1.out.2.trans (b2.mono HS1.out.2.size)
    exact bodyPost_ret (v := .bool true) (by simp [results, Try.results4, go_sem]) rfl ⟨rfl, B2.trans (b3.mono B2.size)⟩
  · rw [if_neg q0] at hbe
    have hX : tblX L = tblB L := by unfold tblX; rw [if_pos hbe]
    have ho := opT_of_tbl hbe (rs_okT HS1.out.1)
    have hbig := (tblE_ok hbe).2.2.2.2
    rw [hbe, hX] at hE
    generalize tblB L = X at hE ho hbig
    obtain ⟨LN, hLN⟩ : ∃ n, n = X.length := ⟨_, rfl⟩
    have HLN := hid hLN
    rw [← hLN] at hbig
    have HO1 : Hid (∀ {wx : World} {a : Option Addr} {c : Nat}, Sl wx a LN c X → Calls Try.prog 8 #[.slice a LN c] wx fun e w' => ∃ p, e = .returned (.tuple #[.pointer (some ⟨p, 0, none⟩), .int .i64 0]) ∧ D.R w' p L ∧ Below wx.heap.size wx w') := fun {wx a c} hs => (D.opn hs (by omega)).mono fun e w' ⟨v, E, he, h1, h2, h3, h4⟩ => by
      rw [ho] at h1 h3
      have hE := h1.2 rfl
      obtain ⟨p, hv, hR⟩ := h3 hE
      exact ⟨p, by rw [he, hE, hv]; rfl, hR, h4⟩
    obtain ⟨n, hnn⟩ : ∃ n, n = L.length := ⟨_, rfl⟩
    have HN := hid hnn
    have hn63 : n ≤ 2 ^ 60 := by omega
    rw [← hnn] at hE HS1 ⊢
    clear q0 hbe hX hbig hLN hnn hn60 ho
    go_wp2_with fail
    refine hE.mono ?_
    rintro e w2 ⟨v2, rfl, ⟨a2, c2, hv2, s2⟩, b2⟩
    rw [← HLN.out] at hv2 s2
    subst hv2
    have B2 := HS1.out.2.trans (b2.mono HS1.out.2.size)
    clear hE
    go_wp2_with fail
    refine (HO1.out s2).mono ?_
    rintro e w3 ⟨p, rfl, R3, b3⟩
    have HB3 := hid (B2.trans (b3.mono B2.size))
    have HR3 := hid R3
    have HRS := hid ((HS1.out.1.later b2).later b3)
    have HK3 := hid (HKY.out.later HB3.out)
    clear s2 b2 B2 b3 R3 HO1 HS1 HKY HLN
    go_wp2_with fail
    go_loopg [10, 12, 39] n (fun g th _ i wr => ∃ (k : Nat) (β : Bool), k + g = n ∧ i = .int .i64 (k : Int) ∧ th = .bool β ∧ Hid (β = thE (L.take k) key ∧ Below w3.heap.size w3 wr))
    case atStart => exact ⟨0, false, by omega, rfl, rfl, by simp [thE], Below.refl _ _⟩
    case round =>
      obtain ⟨k, β, hk, rfl, rfl, HK⟩ := hrel
      by_cases hkl : k < n
      · have hkl' : (k : Int) < (n : Int) := by omega
        have hkx : k < L.length := by have := HN.out; omega
        obtain ⟨b, off, ka, kc, va, vc, rfl, e0, e1, e2, e3, e4, sk, sv, -, -⟩ := RS.ent HRS.out (List.getElem?_eq_getElem hkx)
        have bel := HK.out.2
        have d0 := cell_later bel e0
        have d1 := cell_later bel e1
        have d2 := cell_later bel e2
        have d3 := cell_later bel e3
        have d4 := cell_later bel e4
        have hm1 := has_filT (List.getElem_mem hkx)
        have hm2 := least_le HL.out.2.1 (List.getElem_mem hkx)
        have hm3 := most_ge (prev := []) HL.out.2.1 (List.getElem_mem hkx)
        have hth := thE_take (key := key) hkx
        clear e0 e1 e2 e3 e4
        generalize L[k] = o at d0 d1 d2 d3 d4 sk sv hm1 hm2 hm3 hth
        have hk62 : k ≤ 2 ^ 60 := by omega
        obtain ⟨GK, HG⟩ : ∃ g, Hid (g < gk ∧ k + 1 + g = n) := ⟨gk - 1, by omega, by omega⟩
        obtain ⟨W1, hW1⟩ : ∃ W1, W1 = wr.alloc (.cells #[.slice ka o.key.length kc, .int .i64 o.seq, .bool o.gone, .int .i64 o.till, .slice va o.val.length vc] 36) := ⟨_, rfl⟩
        have b1 : Below wr.heap.size wr W1 := by rw [hW1]; exact (Below.refl _ _).alloc (Nat.le_refl _) _
        have HBX : Hid (∀ wx, Below W1.heap.size W1 wx → wx.cell? ⟨wr.heap.size, 0, none⟩ = some (.slice ka o.key.length kc)) := fun wx hb => (box_cells wr (.slice ka o.key.length kc) (.int .i64 o.seq) (.bool o.gone) (.int .i64 o.till) (.slice va o.val.length vc) 36 (wx := wx) (by rw [← hW1]; exact hb)).1
        have B1 : Below w3.heap.size w3 W1 := bel.trans (b1.mono bel.size)
        have HB1 : Hid (∀ wx, Below W1.heap.size W1 wx → Below w3.heap.size w3 wx) := fun wx hb => B1.trans (hb.mono B1.size)
        have HMA : Hid (∀ wx, Below W1.heap.size W1 wx → Calls Try.prog 11 #[.pointer (some ⟨p, 0, none⟩), .slice ka o.key.length kc] wx fun r w' => r = .returned (.bool true) ∧ Below W1.heap.size W1 w') := fun wx hb => (D.may (D.later HR3.out (HB1.out _ hb)) (sk.later (HB1.out _ hb))).mono fun r w' ⟨hr, hb'⟩ => ⟨by rw [hr, hm1], hb.trans (hb'.mono hb.size)⟩
        obtain ⟨LS, hLS⟩ : ∃ x, x = leastE L := ⟨_, rfl⟩
        obtain ⟨MS, hMS⟩ : ∃ x, x = lastK [] L := ⟨_, rfl⟩
        rw [← hLS] at hm2
        rw [← hMS] at hm3
        have HLE : Hid (∀ wx, Below W1.heap.size W1 wx → Calls Try.prog 13 #[.pointer (some ⟨p, 0, none⟩)] wx fun r w' => ∃ a c, r = .returned (.slice a LS.length c) ∧ Sl w' a LS.length c LS ∧ Below W1.heap.size W1 w') := fun wx hb => (D.least (D.later HR3.out (HB1.out _ hb))).mono fun r w' ⟨v, hr, hv, hb'⟩ => by
          rw [show L.head?.elim [] (·.key) = LS from hLS.symm] at hv
          obtain ⟨a, c, hv, hs⟩ := hv
          exact ⟨a, c, by rw [hr, hv], hs, hb.trans (hb'.mono hb.size)⟩
        have HMO : Hid (∀ wx, Below W1.heap.size W1 wx → Calls Try.prog 14 #[.pointer (some ⟨p, 0, none⟩)] wx fun r w' => ∃ a c, r = .returned (.slice a MS.length c) ∧ Sl w' a MS.length c MS ∧ Below W1.heap.size W1 w') := fun wx hb => (D.most (D.later HR3.out (HB1.out _ hb))).mono fun r w' ⟨v, hr, hv, hb'⟩ => by
          rw [← hMS] at hv
          obtain ⟨a, c, hv, hs⟩ := hv
          exact ⟨a, c, by rw [hr, hv], hs, hb.trans (hb'.mono hb.size)⟩
        obtain ⟨x1, hx1⟩ : ∃ x, x = cmp o.key LS := ⟨_, rfl⟩
        obtain ⟨x2, hx2⟩ : ∃ x, x = cmp o.key MS := ⟨_, rfl⟩
        rw [← hx1] at hm2
        rw [← hx2] at hm3
        have hm2' : decide (x1 < 0) = false := by simpa using hm2
        have hm3' : decide (0 < x2) = false := by simpa using hm3
        have HC1 : Hid (∀ wx a c, Below W1.heap.size W1 wx → Sl wx a LS.length c LS → Calls Try.prog 12 #[.slice ka o.key.length kc, .slice a LS.length c] wx fun r w' => r = .returned (.int .i64 x1) ∧ Below W1.heap.size W1 w') := fun wx a c hb hs => (rcmp_any (sk.later (HB1.out _ hb)) hs).mono fun r w' ⟨hr, hb'⟩ => ⟨by rw [hr, hx1], hb.trans (hb'.mono hb.size)⟩
        have HC2 : Hid (∀ wx a c, Below W1.heap.size W1 wx → Sl wx a MS.length c MS → Calls Try.prog 12 #[.slice ka o.key.length kc, .slice a MS.length c] wx fun r w' => r = .returned (.int .i64 x2) ∧ Below W1.heap.size W1 w') := fun wx a c hb hs => (rcmp_any (sk.later (HB1.out _ hb)) hs).mono fun r w' ⟨hr, hb'⟩ => ⟨by rw [hr, hx2], hb.trans (hb'.mono hb.size)⟩
        have HST : Hid (∀ wx, Below W1.heap.size W1 wx → (convert 24 9 (.slice ka o.key.length kc)).run Try.prog wx = .ok (.string (strOfNums o.key)) wx ∧ (convert 24 9 (.slice ya yl yc)).run Try.prog wx = .ok (.string (strOfNums key)) wx) := fun wx hb => ⟨str_l (sk.later (HB1.out _ hb)), str_l (HK3.out.later (HB1.out _ hb))⟩
        have heq := str_eq sk.2.1 HK3.out.2.1
        rw [← HK.out.1] at hth
        have HTH := hid hth
        have HW1 := hid hW1
        have HBD : Hid (Below W1.heap.size W1 W1.drew) := (Below.refl _ W1).drew
        generalize decide (o.key = key) = γ at heq HTH
        generalize strOfNums o.key = S1 at HST heq
        generalize strOfNums key = S2 at HST heq
        generalize o.key.length = kl at HBX HMA HC1 HC2 HST d0 HW1
        generalize LS.length = l1 at HLE HC1
        generalize MS.length = l2 at HMO HC2
        clear hk hkl hkx bel sk sv hm1 hm2 hm3 hth hW1 b1 B1 hLS hMS hx1 hx2 HK
        go_upto_region 12 with fail
        rw [← HW1.out]
        clear d0 d1 d2 d3 d4
        have y0 := HBX.out _ (Below.refl _ _)
        go_region_held_law (fun w' => w'.cell? ⟨wr.heap.size, 0, none⟩ = some (.slice ka kl kc)) (first | exact y0 | exact HBX.out _ B9 | exact HBX.out _ B8 | exact HBX.out _ B7 | exact HBX.out _ B6 | exact HBX.out _ B5 | exact HBX.out _ HBD.out) (first | (go_at_call 11; refine (HMA.out _ HBD.out).mono ?_; rintro e w5 ⟨rfl, B5⟩) | (go_at_call 13; refine (HLE.out _ B5).mono ?_; rintro e w6 ⟨a6, c6, rfl, s6, B6⟩; have hc1 := HC1.out _ _ _ B6 s6; clear s6) | (go_at_call 14; refine (HMO.out _ B7).mono ?_; rintro e w8 ⟨a8, c8, rfl, s8, B8⟩; have hc2 := HC2.out _ _ _ B8 s8; clear s8) | (go_at_call 12; refine hc1.mono ?_; clear hc1; rintro e w7 ⟨rfl, B7⟩) | (go_at_call 12; refine hc2.mono ?_; clear hc2; rintro e w9 ⟨rfl, B9⟩))
        have z0 := HBX.out _ B9
        obtain ⟨t1, t2⟩ := HST.out _ B9
        have HB9 := hid (HB1.out _ B9)
        clear y0 B5 B6 B7 B8 B9
        cases β with
        | true =>
          have hT : thE (L.take (k + 1)) key = true := by rw [HTH.out]; rfl
          go_wp2_with fail
          go_roundg GK
          case measure => exact HG.out.1
          case rel => exact ⟨k + 1, true, HG.out.2, by go_num, rfl, hT.symm, HB9.out⟩
        | false =>
          have hT : thE (L.take (k + 1)) key = γ := by rw [HTH.out]; rfl
          have HT := hid hT
          clear hT
          go_wp2_with fail
          go_roundg GK
          case measure => exact HG.out.1
          case rel => exact ⟨k + 1, γ, HG.out.2, by go_num, rfl, HT.out.symm, HB9.out⟩
      · have hkl' : ¬ ((k : Int) < (n : Int)) := by omega
        have hkn : L.take k = L := List.take_of_length_le (by have := HN.out; omega)
        have HW := hid HK.out.2
        have hβ := HK.out.1
        rw [hkn] at hβ
        have hseq : ∀ e ∈ L, e.seq ≤ 4611686018427387904 := fun e he => by have := mayE_ok (HL.out.1 e he); omega
        have hgs := thE_get (key := key) hseq
        rw [← hβ] at hgs
        have hmy : β = true → has (filT L) key = true := fun t => thE_has (by rw [← hβ]; exact t)
        have hg := D.get (D.later HR3.out HW.out) (HK3.out.later HW.out) (s := 4611686018427387904) ⟨by decide, by decide⟩
        have HMY : Hid (∀ wx, Below wr.heap.size wr wx → Calls Try.prog 11 #[.pointer (some ⟨p, 0, none⟩), .slice ya yl yc] wx fun r w' => r = .returned (.bool (has (filT L) key)) ∧ Below wr.heap.size wr w') := fun wx hb => (D.may (D.later HR3.out (HW.out.trans (hb.mono HW.out.size))) (HK3.out.later (HW.out.trans (hb.mono HW.out.size)))).mono fun r w' ⟨hr, hb'⟩ => ⟨hr, hb.trans (hb'.mono hb.size)⟩
        have HAL : Hid (∀ wx, Below wr.heap.size wr wx → Calls Try.prog 10 #[.pointer (some ⟨p, 0, none⟩)] wx fun r w' => ∃ a c, r = .returned (.slice a n c) ∧ RS entE w' a n c L ∧ Below wr.heap.size wr w') := fun wx hb => (D.all (D.later HR3.out (HW.out.trans (hb.mono HW.out.size)))).mono fun r w' ⟨v, hr, ⟨a, c, hv, hs⟩, hb'⟩ => by
          rw [← HN.out] at hv hs
          exact ⟨a, c, by rw [hr, hv], hs, hb.trans (hb'.mono hb.size)⟩
        have HOR : Hid (∀ wx a c, Below wr.heap.size wr wx → RS entE wx a n c L → Calls Try.prog 16 #[.slice a n c] wx fun r w' => r = .returned (.bool true) ∧ Below wr.heap.size wr w') := fun wx a c hb hs => (rord_any hs (by have := HL.out.2.2; have := HN.out; omega)).mono fun r w' ⟨hr, hb'⟩ => ⟨by rw [hr, ordB_of HL.out.2.1], hb.trans (hb'.mono hb.size)⟩
        have HFIN : Hid (∀ wx, Below wr.heap.size wr wx → Below w.heap.size w wx) := fun wx hb => HB3.out.trans ((HW.out.trans (hb.mono HW.out.size)).mono HB3.out.size)
        unfold pm at hg
        generalize has (filT L) key = m at HMY hmy
        clear hk hkl hkn hβ hseq HK
        go_wp2_with fail
        refine hg.mono ?_
        rintro e w10 ⟨⟨BB, ⟨g0, rfl⟩ | ⟨x, ka, kc, va, vc, g0, rfl, -, -⟩⟩, b10⟩
        · rw [g0] at hgs
          have hb0 : β = false := hgs.symm
          subst hb0
          have B11 : Below wr.heap.size wr (w10.alloc (.cells #[.slice none 0 0, .int .i64 0, .bool false, .int .i64 0, .slice none 0 0] 36)) := b10.alloc b10.size _
          obtain ⟨W11, hW11⟩ : ∃ x, x = w10.alloc (.cells #[.slice none 0 0, .int .i64 0, .bool false, .int .i64 0, .slice none 0 0] 36) := ⟨_, rfl⟩
          rw [← hW11] at B11
          unfold ent0
          clear hg g0 hgs hmy b10
          go_upto_region 17 with fail
          rw [← hW11]
          clear hW11
          cases m
          all_goals
            go_wp2_with (first | (go_at_call 11; refine (HMY.out _ B11).mono ?_; rintro e w12 ⟨rfl, B12⟩) | (go_at_call 10; refine (HAL.out _ B12).mono ?_; rintro e w13 ⟨a13, c13, rfl, r13, B13⟩; have hor := HOR.out _ _ _ B13 r13; clear r13) | (go_at_call 16; refine hor.mono ?_; clear hor; rintro e w14 ⟨rfl, B14⟩) | (go_at_call 7; refine (HAW.out _).mono ?_; rintro e w15 ⟨rfl, b15⟩))
            exact bodyPost_ret (v := .bool true) (by simp [results, Try.results4, go_sem]) rfl ⟨rfl, HFIN.out _ (B14.trans (b15.mono B14.size))⟩
        · rw [g0] at hgs
          have hb0 : β = true := hgs.symm
          have hm := hmy hb0
          subst hb0 hm
          have B11 : Below wr.heap.size wr (w10.alloc (.cells #[.slice ka x.key.length kc, .int .i64 x.seq, .bool x.gone, .int .i64 x.till, .slice va x.val.length vc] 36)) := b10.alloc b10.size _
          obtain ⟨W11, hW11⟩ : ∃ y, y = w10.alloc (.cells #[.slice ka x.key.length kc, .int .i64 x.seq, .bool x.gone, .int .i64 x.till, .slice va x.val.length vc] 36) := ⟨_, rfl⟩
          rw [← hW11] at B11
          unfold entA
          clear hg g0 hgs hmy b10
          go_upto_region 17 with fail
          rw [← hW11]
          clear hW11
          go_wp2_with (first | (go_at_call 11; refine (HMY.out _ B11).mono ?_; rintro e w12 ⟨rfl, B12⟩) | (go_at_call 10; refine (HAL.out _ B12).mono ?_; rintro e w13 ⟨a13, c13, rfl, r13, B13⟩; have hor := HOR.out _ _ _ B13 r13; clear r13) | (go_at_call 16; refine hor.mono ?_; clear hor; rintro e w14 ⟨rfl, B14⟩) | (go_at_call 7; refine (HAW.out _).mono ?_; rintro e w15 ⟨rfl, b15⟩))
          exact bodyPost_ret (v := .bool true) (by simp [results, Try.results4, go_sem]) rfl ⟨rfl, HFIN.out _ (B14.trans (b15.mono B14.size))⟩
end Go.Proofs.Ytimpaindbbjieab
