/- The law that a wider filter meets what it met. -/
import Derived.Test.YtlbbaniehkghdaaDoorTexts
namespace Go.Proofs.YtlbbaniehkghdaaDoor
open Go.RowKit
set_option linter.unusedVariables false

theorem jn_snoc : ∀ (l : List (List UInt8)) (x : List UInt8), l ≠ [] → jn (l ++ [x]) = jn l ++ 47 :: x
  | [], _, h => absurd rfl h
  | [y], x, _ => rfl
  | y :: z :: r, x, _ => by
    have := jn_snoc (z :: r) x (by simp)
    rw [List.cons_append, jn_cons y (by simp), this, jn_cons y (by simp), List.append_assoc]
    rfl
theorem jn_len : ∀ (l : List (List UInt8)), (∀ x ∈ l, x.length ≤ 64) → (jn l).length ≤ 65 * l.length
  | [], _ => by simp [jn]
  | [x], h => by have := h x (by simp); simp [jn]; omega
  | x :: y :: r, h => by
    have h1 := h x (by simp)
    have h2 := jn_len (y :: r) fun z hz => h z (by simp [hz])
    rw [jn_cons x (by simp), List.length_append, List.length_cons, List.length_cons]
    omega
theorem app_list (a b : ByteArray) : (a ++ b).data.toList = a.data.toList ++ b.data.toList := by simp
set_option maxHeartbeats 2000000 in
set_option maxRecDepth 100000 in
theorem wider_any (f n : ByteArray) (at0 : Int) (w : World) (hf : f.size ≤ maxLen) (hn : n.size ≤ maxLen) : Calls Tryd.prog 8 #[.string f, .string n, .int .i64 at0] w fun e w' => e = .returned (.bool true) ∧ Below w.heap.size w w' := by
  have h1 := tfil_any f w hf
  have h2 := fun w => tmat_any f n w hf hn
  cases hF : fil f.data.toList with
  | false =>
    rw [hF] at h1
    clear h2 hf hn
    go_enter Tryd.func8, Tryd.ntmps8
    go_wp2_with fail
    refine h1.mono ?_
    rintro e w1 ⟨rfl, hb1⟩
    go_wp2_with fail
    refine (awake_any w1).mono ?_
    rintro e w2 ⟨rfl, hb2⟩
    go_wp2_with fail
    go_ret
    exact ⟨rfl, hb1.trans (hb2.mono hb1.size)⟩
  | true =>
    rw [hF] at h1
    cases hM : mat f.data.toList n.data.toList with
    | false =>
      simp only [hM] at h2
      clear hf hn
      go_enter Tryd.func8, Tryd.ntmps8
      go_wp2_with fail
      refine h1.mono ?_
      rintro e w1 ⟨rfl, hb1⟩
      go_wp2_with fail
      refine (h2 w1).mono ?_
      rintro e w2 ⟨rfl, hb2⟩
      go_wp2_with fail
      refine (awake_any w2).mono ?_
      rintro e w3 ⟨rfl, hb3⟩
      go_wp2_with fail
      go_ret
      have b2 := hb1.trans (hb2.mono hb1.size)
      exact ⟨rfl, b2.trans (hb3.mono b2.size)⟩
    | true =>
      simp only [hM] at h2
      have hNM : nam n.data.toList = true := by
        have := hM
        simp only [mat, Bool.and_eq_true] at this
        exact this.1.1.2
      obtain ⟨n1, _⟩ := nam_size n hNM
      obtain ⟨_, f64⟩ := fil_size f hF
      have n1' : (0 : Int) < (n.size : Int) := by omega
      by_cases q : (n[0].toNat : Int) = 36
      · have b36 : ((n[0].toNat : Int) == 36) = true := by simp [q]
        clear hf hn hF hM hNM f64
        go_enter Tryd.func8, Tryd.ntmps8
        go_wp2_with fail
        refine h1.mono ?_
        rintro e w1 ⟨rfl, hb1⟩
        go_wp2_with fail
        refine (h2 w1).mono ?_
        rintro e w2 ⟨rfl, hb2⟩
        go_wp2_with fail
        refine (awake_any w2).mono ?_
        rintro e w3 ⟨rfl, hb3⟩
        go_wp2_with fail
        go_ret
        have b2 := hb1.trans (hb2.mono hb1.size)
        exact ⟨rfl, b2.trans (hb3.mono b2.size)⟩
      · have b36 : ((n[0].toNat : Int) == 36) = false := by simp [q]
        have hdol : n.data.toList.head? ≠ some 36 := by
          rw [head_str n n1]
          intro e
          simp at e
          exact q (by rw [e]; rfl)
        have hlev := fun w => tlev_any f w (by omega)
        have hlast := fun (s : ByteArray) (h : s.size ≤ 64) w => tmat_any s n w (small_ok h) hn
        have hwd := fun i h1 h2 h3 => @mat_wider f.data.toList n.data.toList i hM hdol h1 h2 h3
        have hlen := lv_le f.data.toList
        have hcnt := lv_length f.data.toList
        have hne := lv_ne f.data.toList
        have hct := List.count_le_length (a := (47 : UInt8)) (l := f.data.toList)
        rw [len_data] at hlen hct
        clear hf hn hF hM hNM q hdol
        go_enter Tryd.func8, Tryd.ntmps8
        go_wp2_with fail
        refine h1.mono ?_
        rintro e w1 ⟨rfl, hb1⟩
        go_wp2_with fail
        refine (h2 w1).mono ?_
        rintro e w2 ⟨rfl, hb2⟩
        have HB2 : Hid (Below w.heap.size w w2) := hb1.trans (hb2.mono hb1.size)
        clear h1 h2 hb1 hb2
        go_upto_region 4 with (go_at_call 16; refine (hlev w2).mono ?_; rintro e w3 ⟨v, xs, rfl, r3, e3, hb3⟩)
        have hxl : xs.length = (lv f.data.toList).length := by rw [← e3]; simp
        have hpos : 0 < xs.length := by
          rw [hxl]
          exact List.length_pos_iff.2 hne
        obtain ⟨g, cap, hv, hcap⟩ := r3.shape hpos
        subst hv
        obtain ⟨m, hm⟩ : ∃ m, xs.length = m + 1 := ⟨xs.length - 1, by omega⟩
        rw [hm] at r3 hcap hxl ⊢
        have hm64 : m ≤ 64 := by omega
        obtain ⟨p, hp, hpl⟩ : ∃ p : Nat, ((at0.tmod ((m : Int) + 1)) + ((m : Int) + 1)).tmod ((m : Int) + 1) = (p : Int) ∧ p < m + 1 := by
          have h1 := Int.tmod_lt_of_pos at0 (show (0 : Int) < (m : Int) + 1 by omega)
          have h2 := Int.lt_tmod_of_pos at0 (show (0 : Int) < (m : Int) + 1 by omega)
          have h3 : 0 ≤ (at0.tmod ((m : Int) + 1)) + ((m : Int) + 1) := by omega
          have h4 := Int.tmod_lt_of_pos ((at0.tmod ((m : Int) + 1)) + ((m : Int) + 1)) (show (0 : Int) < (m : Int) + 1 by omega)
          have h5 := Int.tmod_nonneg ((m : Int) + 1) h3
          exact ⟨(((at0.tmod ((m : Int) + 1)) + ((m : Int) + 1)).tmod ((m : Int) + 1)).toNat, by omega, by omega⟩
        have hw1 : wrap64 ((at0.tmod ((m : Int) + 1)) + ((m : Int) + 1)) = (at0.tmod ((m : Int) + 1)) + ((m : Int) + 1) := by
          have h1 := Int.tmod_lt_of_pos at0 (show (0 : Int) < (m : Int) + 1 by omega)
          have h2 := Int.lt_tmod_of_pos at0 (show (0 : Int) < (m : Int) + 1 by omega)
          unfold wrap64
          omega
        have hz : (((m : Int) + 1) == 0) = false := by simp; omega
        have hzz : ¬ (m : Int) + 1 = 0 := by omega
        obtain ⟨kc, kf⟩ := r3.at hm p hpl
        obtain ⟨x, hx⟩ : ∃ x, x = xs.getD p ⟨#[]⟩ := ⟨_, rfl⟩
        rw [← hx] at kc
        have hpI : (p : Int) < (m : Int) + 1 := by omega
        have hcI : (m : Int) + 1 ≤ (cap : Int) := by omega
        have hxp : (lv f.data.toList)[p]? = some x.data.toList := by
          rw [← e3, hx]
          simp [List.getElem?_eq_getElem (show p < xs.length by omega)]
        have HA : Hid (RowS w2.heap.size w3 (.slice (some ⟨g, 0, none⟩) (m + 1) cap) xs ∧ xs.length = m + 1 ∧ xs.map (fun x => x.data.toList) = lv f.data.toList ∧ Below w2.heap.size w2 w3 ∧ p < m + 1 ∧ (lv f.data.toList).length = m + 1 ∧ f.size ≤ 64 ∧ m + 1 ≤ cap) := ⟨r3, hm, e3, hb3, hpl, hxl.symm, f64, hcap⟩
        clear hlev r3 hm e3 hb3 hxl hpos hne hcnt hct hx
        by_cases q2 : x.data.toList = [35]
        · have b35 : (x.toList == [35]) = true := by rw [tl_eq, q2]; rfl
          clear q2 hwd hlast
          go_wp2_with fail
          refine (awake_any _).mono ?_
          rintro e w4 ⟨rfl, hb4⟩
          go_wp2_with fail
          go_ret
          have b3 := HB2.out.trans (HA.out.2.2.2.1.mono HB2.out.size)
          exact ⟨rfl, b3.trans (hb4.mono b3.size)⟩
        · have b35 : (x.toList == [35]) = false := by rw [tl_eq]; simpa using q2
          have HW : Hid (∀ (h : (jn ((lv f.data.toList).set p [43])).length ≤ 64), mat (jn ((lv f.data.toList).set p [43])) n.data.toList = true) := fun h => hwd p (by rw [hxp]; intro e; exact q2 (by simpa using e)) (by have := HA.out; omega) h
          clear q2 hwd hxp
          go_upto_region 10 with fail
          obtain ⟨hset, hgr⟩ := HA.out.1.set HA.out.2.1 p ⟨#[43]⟩
          have hB4 := HA.out.2.2.2.1.trans (grownS_below HA.out.1 hgr HA.out.2.2.2.1.size)
          obtain ⟨ys, hys⟩ : ∃ ys, ys = xs.set p ⟨#[43]⟩ := ⟨_, rfl⟩
          rw [← hys] at hset
          have hyl : ys.length = m + 1 := by rw [hys, List.length_set]; exact HA.out.2.1
          have hyL : ys.map (fun x => x.data.toList) = (lv f.data.toList).set p [43] := by rw [hys, List.map_set, HA.out.2.2.1]
          have hcl : ∀ k, k < m + 1 → (w3.setCell ⟨g, p, none⟩ (.string ⟨#[43]⟩)).cell? ⟨g, k, none⟩ = some (.string (ys.getD k ⟨#[]⟩)) := fun k hk => (hset.at hyl k hk).1
          have h64 : ∀ x ∈ ys.map (fun x => x.data.toList), x.length ≤ 64 := fun x hx => by
            rw [hyL] at hx
            rcases List.mem_or_eq_of_mem_set hx with q | q
            · have := hlen x q; have := HA.out; omega
            · subst q; decide
          generalize w3.setCell ⟨g, p, none⟩ (.string ⟨#[43]⟩) = w4 at hcl hB4 ⊢
          obtain ⟨L, hL⟩ : ∃ L, L = ys.map (fun x => x.data.toList) := ⟨_, rfl⟩
          obtain ⟨Y, hYe⟩ : ∃ Y : Nat → ByteArray, Y = fun k => ys.getD k ⟨#[]⟩ := ⟨_, rfl⟩
          have hYL : ∀ k, k < m + 1 → L[k]? = some (Y k).data.toList := fun k hk => by
            rw [hL, hYe]
            simp [List.getElem?_eq_getElem (show k < ys.length by omega)]
          have hLl : L.length = m + 1 := by rw [hL, List.length_map, hyl]
          have hc0 : w4.cell? ⟨g, 0, none⟩ = some (.string (Y 0)) := by rw [hYe]; exact hcl 0 (by omega)
          have HL : Hid ((∀ k, k < m + 1 → w4.cell? ⟨g, k, none⟩ = some (.string (Y k))) ∧ (∀ k, k < m + 1 → L[k]? = some (Y k).data.toList) ∧ L.length = m + 1 ∧ L = (lv f.data.toList).set p [43] ∧ (∀ x ∈ L, x.length ≤ 64) ∧ Below w.heap.size w w4) := ⟨fun k hk => by rw [hYe]; exact hcl k hk, hYL, hLl, hL.trans hyL, by rw [hL]; exact h64, HB2.out.trans (hB4.mono HB2.out.size)⟩
          obtain ⟨rc, rfl⟩ : ∃ rc, cap = rc + 1 := ⟨cap - 1, by have := HA.out; omega⟩
          have hmr : (m : Int) ≤ (rc : Int) := by have := HA.out; omega
          obtain ⟨b5, off5, hif, hb5⟩ : ∃ b5 off5, (if rc = 0 then some (⟨g, 0, none⟩ : Addr) else some ⟨g, 0 + 1, none⟩) = some ⟨b5, off5, none⟩ ∧ (0 < m → b5 = g ∧ off5 = 1) := by
            by_cases q : rc = 0
            · exact ⟨g, 0, by simp [q], fun h => by have := HA.out; omega⟩
            · exact ⟨g, 1, by simp [q], fun _ => ⟨rfl, rfl⟩⟩
          rw [Nat.zero_add] at hif
          clear hset hgr hB4 hys hyl hyL hcl h64 hL hYe hYL hLl HB2 kc kf HA hw1 hp
          go_wp2_with fail
          have hsz : ∀ (k : Nat) (s : ByteArray), s.data.toList = jn (L.take (k + 1)) → s.size ≤ 5000 := fun k s h => by
            have h1 := jn_len (L.take (k + 1)) fun x hx => HL.out.2.2.2.2.1 x (List.mem_of_mem_take hx)
            rw [← h, len_data, List.length_take, HL.out.2.2.1] at h1
            omega
          have hstart : (Y 0).data.toList = jn (L.take (0 + 1)) := by
            have h0 := HL.out.2.1 0 (by omega)
            cases e : L with
            | nil => rw [e] at h0; simp at h0
            | cons a r =>
              rw [e] at h0
              simp at h0
              simp [jn, h0]
          have HST : Hid ((Y 0).data.toList = jn (L.take (0 + 1))) := hstart
          clear hstart
          go_loopg [8, 56] m (fun g2 wd i wr => ∃ (k : Nat) (s : ByteArray), k + g2 = m ∧ i = .int .i64 (k : Int) ∧ wd = .string s ∧ wr = w4 ∧ Hid (s.data.toList = jn (L.take (k + 1))))
          case atStart => exact ⟨0, Y 0, by omega, rfl, rfl, rfl, HST⟩
          case round =>
            obtain ⟨k, s, hk, rfl, rfl, hw, HK⟩ := hrel
            obtain rfl := hw
            have hs5 := hsz k s HK.out
            by_cases h : k < m
            · have h' : (k : Int) < (m : Int) := by omega
              obtain ⟨rfl, rfl⟩ := hb5 (by omega)
              have hcell := HL.out.1 (k + 1) (by omega)
              have hYk := HL.out.2.1 (k + 1) (by omega)
              rw [show k + 1 = 1 + k by omega] at hcell
              obtain ⟨y, hy⟩ : ∃ y, y = Y (1 + k) := ⟨_, rfl⟩
              rw [← hy] at hcell
              have hyk : L[k + 1]? = some y.data.toList := by rw [hYk, hy, show k + 1 = 1 + k by omega]
              have hy64 : y.size ≤ 64 := by
                have := HL.out.2.2.2.2.1 _ (List.mem_of_getElem? hyk)
                rw [len_data] at this
                exact this
              obtain ⟨GK, HG⟩ : ∃ g, Hid (g < gk ∧ k + 1 + g = m) := ⟨gk - 1, by omega, by omega⟩
              have hadd1 : ∀ w, (Op.stringOp .add (ByteArray.mk #[47]) y).run Tryd.prog w = .ok (.string (ByteArray.mk #[47] ++ y)) w := fun w => run_string_add_sum (P := Tryd.prog) (w := w) _ _ (by have : (ByteArray.mk #[47]).size = 1 := rfl; omega)
              have hcs : (ByteArray.mk #[47] ++ y).size = 1 + y.size := by rw [ByteArray.size_append]; rfl
              have hadd2 : ∀ w, (Op.stringOp .add s (ByteArray.mk #[47] ++ y)).run Tryd.prog w = .ok (.string (s ++ (ByteArray.mk #[47] ++ y))) w := fun w => run_string_add_sum (P := Tryd.prog) (w := w) _ _ (by omega)
              obtain ⟨t, ht⟩ : ∃ t, t = s ++ (ByteArray.mk #[47] ++ y) := ⟨_, rfl⟩
              have HTt : Hid (t.data.toList = jn (L.take (k + 1 + 1))) := by
                show t.data.toList = jn (L.take (k + 1 + 1))
                have e1 : L.take (k + 1 + 1) = L.take (k + 1) ++ [y.data.toList] := by
                  rw [List.take_add_one, hyk]
                  rfl
                have hne2 : L.take (k + 1) ≠ [] := by
                  intro e
                  have := congrArg List.length e
                  rw [List.length_take, HL.out.2.2.1] at this
                  simp at this
                rw [e1, jn_snoc _ _ hne2, ← HK.out, ht, app_list, app_list]
                rfl
              clear hk h hYk hy hyk hcs
              go_wp2_with fail
              go_roundg GK
              case measure => exact HG.out.1
              case rel => exact ⟨k + 1, t, HG.out.2, by go_num, by rw [ht], rfl, HTt⟩
            · have h' : (m : Int) ≤ (k : Int) := by omega
              have hall : s.data.toList = jn ((lv f.data.toList).set p [43]) := by
                have := HK.out
                rw [List.take_of_length_le (by rw [HL.out.2.2.1]; omega), HL.out.2.2.2.1] at this
                exact this
              have hs63 : s.size ≤ 2 ^ 62 := by omega
              by_cases q : s.size ≤ 64
              · have q' : (s.size : Int) ≤ 64 := by omega
                have hmt := hlast s q wr
                have e1 : mat s.data.toList n.data.toList = true := by
                  rw [hall]
                  exact HW.out (by rw [← hall, len_data]; exact q)
                rw [e1] at hmt
                clear hk h hall e1 hlast hs5
                go_wp2_with fail
                refine hmt.mono ?_
                rintro e w5 ⟨rfl, hb5'⟩
                go_wp2_with fail
                refine (awake_any w5).mono ?_
                rintro e w6 ⟨rfl, hb6⟩
                go_wp2_with fail
                go_ret
                have B4 := HL.out.2.2.2.2.2
                have B5 := B4.trans (hb5'.mono B4.size)
                exact ⟨rfl, B5.trans (hb6.mono B5.size)⟩
              · have q' : (64 : Int) < (s.size : Int) := by omega
                clear hk h hall hlast hs5
                go_wp2_with fail
                refine (awake_any wr).mono ?_
                rintro e w6 ⟨rfl, hb6⟩
                go_wp2_with fail
                go_ret
                have B4 := HL.out.2.2.2.2.2
                exact ⟨rfl, B4.trans (hb6.mono B4.size)⟩
end Go.Proofs.YtlbbaniehkghdaaDoor
