import Derived.BigQuiet
import Derived.Test.YteaicilehigjlaaPk04
import Derived.Test.YteaicilehigjlaaPk05
import Derived.Test.YteaicilehigjlaaPk07
import Derived.Test.YteaicilehigjlaaPk10
import Derived.Test.YteaicilehigjlaaPk13
/- What the landed edit's Encode answers. -/
namespace Go.Proofs.Yteaicilehigjlaa
open Go.RowKit
set_option linter.unusedVariables false
set_option linter.unusedSimpArgs false

/-- Numbers that do not lie where the row grows. -/
def Nums (v : Value) (w : World) (ao : Option Addr) (l : List Int) : Prop := ∀ i x, l[i]? = some x → ∃ b off, ao = some ⟨b, off, none⟩ ∧ w.cell? ⟨b, off + i, none⟩ = some (.int .i64 x) ∧ v.ownBlock ≠ some b
theorem Nums.later {v : Value} {w w' : World} {ao : Option Addr} {l : List Int} (h : Nums v w ao l) (hb : Below w.heap.size w w') : Nums v w' ao l := fun i x hx => by
  obtain ⟨b, off, e, hc, hn⟩ := h i x hx
  exact ⟨b, off, e, cell_later hb hc, hn⟩
theorem Nums.grow {v v' : Value} {w w' : World} {ao : Option Addr} {l : List Int} (h : Nums v w ao l) (hg : w.grownBy w' v.ownBlock) (hm : Moved w v v') : Nums v' w' ao l := fun i x hx => by
  obtain ⟨b, off, e, hc, hn⟩ := h i x hx
  refine ⟨b, off, e, hg.cell hc (fun z => hn z.symm), ?_⟩
  have hlt : b < w.heap.size := World.block_lt_of_cell? _ _ hc
  rcases hm with q | ⟨g, q1, q2⟩
  · rw [q]; exact hn
  · rw [q1]
    intro z
    simp only [Option.some.injEq] at z
    omega
theorem Nums.ofRS {v : Value} {w : World} {ao : Option Addr} {len cap : Nat} {l : List Int} (h : RS i64E w ao len cap l) (hn : ∀ b, v.ownBlock = some b → w.heap.size ≤ b) : Nums v w ao l := fun i x hx => by
  obtain ⟨b, off, e, hc, _⟩ := RS.i64 h hx
  refine ⟨b, off, e, hc, fun z => ?_⟩
  have := hn b z
  have hlt : b < w.heap.size := World.block_lt_of_cell? _ _ hc
  omega
theorem nums_new {v : Value} {w : World} {xs : List Int} (hv : ∀ b, v.ownBlock = some b → b < w.heap.size) (l : List Int) : Nums v (w.alloc (.cells (l.map (Value.int .i64)).toArray 2)) (some ⟨w.heap.size, 0, none⟩) l := fun i x hx => by
  refine ⟨w.heap.size, 0, rfl, ?_, fun z => by have := hv _ z; omega⟩
  rw [cell_of (heap_alloc_new w _)]
  simp [hx]
set_option maxHeartbeats 4000000 in
set_option maxRecDepth 100000 in
theorem eapn_any {B : Nat} {w : World} {v : Value} {xs : List Int} {ao : Option Addr} {len cap : Nat} {l : List Int} (hrow : Row B w v xs) (hB : B ≤ w.heap.size) (hln : l.length = len) (hn : Nums v w ao l) (hm : ∀ x ∈ l, 0 ≤ x ∧ x ≤ 4611686018427387904) (hl : len ≤ 200) (hx : xs.length ≤ 240000) :
    Calls Try.prog 23 #[v, .slice ao len cap] w fun e w' => ∃ v', e = .returned v' ∧ Row B w' v' (xs ++ enNs l) ∧ w.grownBy w' v.ownBlock ∧ Moved w v v' := by
  have hlen : ∀ k, (enNs (l.take k)).length ≤ 2000 := fun k => by
    have : ∀ (r : List Int), (∀ x ∈ r, 0 ≤ x ∧ x ≤ 4611686018427387904) → (enNs r).length ≤ 10 * r.length := fun r => by
      induction r with
      | nil => intro _; simp [enNs]
      | cons o r ih =>
        intro h
        have h0 := h o (List.mem_cons_self ..)
        have h1 := uv_len64 (n := o.toNat) (by omega)
        have h2 := ih fun p hp => h p (List.mem_cons_of_mem _ hp)
        rw [enNs, List.length_append, List.length_cons]
        omega
    have := this (l.take k) (fun x hx => hm x (List.mem_of_mem_take hx))
    rw [List.length_take] at this
    omega
  have H0 : Hid (Row B w v (xs ++ enNs (l.take 0)) ∧ w.grownBy w v.ownBlock ∧ Moved w v v ∧ Nums v w ao l) := ⟨by show Row _ _ _ (xs ++ []); rw [List.append_nil]; exact hrow, grow_refl _ _, Moved.refl _ _, hn⟩
  have HS : Hid ((∀ x ∈ l, 0 ≤ x ∧ x ≤ 4611686018427387904) ∧ len ≤ 200 ∧ xs.length ≤ 240000 ∧ B ≤ w.heap.size ∧ l.length = len ∧ ∀ k, (enNs (l.take k)).length ≤ 2000) := ⟨hm, hl, hx, hB, hln, hlen⟩
  have hl62 : len ≤ 2 ^ 61 := by omega
  clear hrow hB hn hm hx hlen hl hln
  go_enter Try.func23, Try.ntmps23
  go_wp2_with fail
  go_loopg [0, 6, 9] len (fun g u _ i wr => ∃ k : Nat, k + g = len ∧ i = .int .i64 (k : Int) ∧ Hid (Row B wr u (xs ++ enNs (l.take k)) ∧ w.grownBy wr v.ownBlock ∧ Moved w v u ∧ Nums u wr ao l))
  case atStart => exact ⟨0, by omega, rfl, H0⟩
  case round =>
    obtain ⟨k, hk, rfl, HK⟩ := hrel
    by_cases hkl : k < len
    · have hkl' : (k : Int) < (len : Int) := by omega
      have hkx : k < l.length := by have := HS.out.2.2.2.2.1; omega
      have hox := List.getElem?_eq_getElem hkx
      obtain ⟨b, off, rfl, d0, hne⟩ := HK.out.2.2.2 k _ hox
      have hm1 := HS.out.1 _ (List.getElem_mem hkx)
      have het := enNs_take hox
      generalize l[k] = x at d0 hm1 het
      have hP := vput_nil (w := wr) (n := x.toNat) (by omega)
      have hwr : IntKind.u64.wrap x = ((x.toNat : Nat) : Int) := wrapT hm1.1 hm1.2
      have HT : Hid (xs ++ enNs (l.take (k + 1)) = xs ++ enNs (l.take k) ++ uv x.toNat) := by show _ = _; rw [het, List.append_assoc]
      have HXL : Hid ((xs ++ enNs (l.take k)).length ≤ 242000 ∧ (uv x.toNat).length ≤ 10) := ⟨by rw [List.length_append]; have := HS.out.2.2.1; have := HS.out.2.2.2.2.2 k; omega, uv_len64 (by omega)⟩
      have HKK := hidE HK.out
      have HSZ : Hid (B ≤ wr.heap.size) := Nat.le_trans HS.out.2.2.2.1 HK.out.2.1.size
      have hk62 : k ≤ 2 ^ 61 := by omega
      obtain ⟨GK, HG⟩ : ∃ g, Hid (g < gk ∧ k + 1 + g = len) := ⟨gk - 1, by omega, by omega⟩
      generalize x.toNat = X at hP hwr HT HXL
      clear hk HK hox hkx het hne hm1 H0
      go_wp2_with (first | (go_at_call 39; refine hP.mono ?_; rintro e w3 ⟨v3, rfl, r3, b3⟩; obtain ⟨a3, c3, hv3, s3⟩ := Sl.ofRow r3 (okb_uv X); subst hv3; have R3 := hidE (And.intro (HKK.out.1.later b3) (And.intro s3 b3)); clear r3 s3 b3) | (at_builtin; refine wpList_appl (B := B) rfl (.tmp 13) (.tmp 16) rfl rfl R3.out.1 rfl R3.out.2.1 (by have := HXL.out; omega) (Nat.le_trans HSZ.out R3.out.2.2.size) ?_; intro v9 w9 r9 g9 m9; have H9 : Hid (Row B w9 v9 (xs ++ enNs (l.take (k + 1))) ∧ w.grownBy w9 v.ownBlock ∧ Moved w v v9 ∧ Nums v9 w9 _ l) := ⟨by rw [HT.out]; exact r9, grow_trans HKK.out.2.1 HKK.out.2.2.1 (grown_trans (below_grown R3.out.2.2 _) g9), HKK.out.2.2.1.trans ((Moved.refl _ _).trans m9 R3.out.2.2.size) HKK.out.2.1.size, (HKK.out.2.2.2.later R3.out.2.2).grow g9 m9⟩; clear r9 g9 m9))
      go_roundg GK
      case measure => exact HG.out.1
      case rel => exact ⟨k + 1, HG.out.2, by go_num, H9.out⟩
    · have hkl' : (len : Int) ≤ (k : Int) := by omega
      have HF : Hid (Row B wr u0 (xs ++ enNs l) ∧ w.grownBy wr v.ownBlock ∧ Moved w v u0) := by
        have := HK.out
        rw [List.take_of_length_le (by have := HS.out.2.2.2.2.1; omega)] at this
        exact ⟨this.1, this.2.1, this.2.2.1⟩
      clear hk hkl HK
      go_wp2_with fail
      exact bodyPost_ret (v := u0) (by simp [results, Try.results23, go_sem]) rfl ⟨u0, rfl, HF.out⟩
set_option maxHeartbeats 4000000 in
set_option maxRecDepth 100000 in
theorem eapl_any {W w : World} {v : Value} {xs : List Int} {la ma : Option Addr} {lc mc : Nat} {t : LnV} (hrow : Row W.heap.size w v xs) (hW : Below W.heap.size W w) (hl : Sl W la t.least.length lc t.least) (hm : Sl W ma t.most.length mc t.most) (ht : mayLn t = true) (hx : xs.length ≤ 230000) :
    Calls Try.prog 24 #[v, .agg #[.int .i64 t.num, .int .i64 t.lvl, .int .i64 t.size, .slice la t.least.length lc, .slice ma t.most.length mc]] w fun e w' => ∃ v', e = .returned v' ∧ Row W.heap.size w' v' (xs ++ enLn t) ∧ Below W.heap.size W w' := by
  have hmo := mayLn_ok ht
  obtain ⟨num, lvl, size, least, most⟩ := t
  simp only at hl hm hmo ⊢
  obtain ⟨C, hC⟩ : ∃ C, C = #[Value.int .i64 num, .int .i64 lvl, .int .i64 size, .slice la least.length lc, .slice ma most.length mc] := ⟨_, rfl⟩
  have M0 : Mid W w.heap.size C 24 (w.alloc (.cells C 24)) v xs :=
    ⟨hrow.later ((Below.refl _ w).alloc (Nat.le_refl _) _), hW.alloc hW.size _, heap_alloc_new w _, fun e => by have := (World.ownsRow.lt hrow _ e).2; omega⟩
  obtain ⟨W2, hW2⟩ : ∃ x, x = (w.alloc (.cells C 24)).alloc (.cells #[.int .i64 num, .int .i64 lvl, .int .i64 size] 2) := ⟨_, rfl⟩
  have M1 : Mid W w.heap.size C 24 W2 v xs := by rw [hW2]; exact M0.alloc _
  have hsz : (w.alloc (.cells C 24)).heap.size = w.heap.size + 1 := by simp
  have hN : Nums v W2 (some ⟨w.heap.size + 1, 0, none⟩) [num, lvl, size] := by
    have := nums_new (xs := xs) (w := w.alloc (.cells C 24)) (v := v) (fun b e => (World.ownsRow.lt M0.row b e).2) [num, lvl, size]
    rw [hsz] at this
    rw [hW2]
    exact this
  have hP := eapn_any (cap := 3) M1.row M1.bel.size rfl hN (fun x hx => by simp only [List.mem_cons, List.not_mem_nil, or_false] at hx; rcases hx with rfl | rfl | rfl <;> omega) (by simp) (by omega)
  have e3 : enNs [num, lvl, size] = uv num.toNat ++ (uv lvl.toNat ++ uv size.toNat) := by simp [enNs]
  rw [e3] at hP
  have HE : Hid (enLn ⟨num, lvl, size, least, most⟩ = uv num.toNat ++ (uv lvl.toNat ++ uv size.toNat) ++ lb least ++ lb most) := by show _ = _; unfold enLn; simp only [List.append_assoc]
  obtain ⟨N3, hN3⟩ : ∃ x, x = uv num.toNat ++ (uv lvl.toNat ++ uv size.toNat) := ⟨_, rfl⟩
  rw [← hN3] at hP HE
  have HLN : Hid (N3.length ≤ 30 ∧ (lb least).length ≤ 522 ∧ (lb most).length ≤ 522 ∧ xs.length ≤ 230000) := by
    refine ⟨?_, ?_, ?_, hx⟩
    · have := uv_len64 (n := num.toNat) (by omega)
      have := uv_len64 (n := lvl.toNat) (by omega)
      have := uv_len64 (n := size.toNat) (by omega)
      rw [hN3]
      simp only [List.length_append]
      omega
    · rw [lb_len]; have := uv_len64 (n := least.length) (by omega); omega
    · rw [lb_len]; have := uv_len64 (n := most.length) (by omega); omega
  have HOB := hidE (And.intro (okb_lb hl.2.1) (okb_lb hm.2.1))
  have HPK : Hid (∀ {wx : World}, Below W.heap.size W wx → Calls Try.prog 40 #[.slice none 0 0, .slice la least.length lc] wx fun e w' => ∃ a c, e = .returned (.slice a (lb least).length c) ∧ Sl w' a (lb least).length c (lb least) ∧ Below wx.heap.size wx w') := fun {wx} hb => by
    refine (vpby_nil (hl.later hb) (by omega)).mono ?_
    rintro e w' ⟨v', rfl, r, b⟩
    obtain ⟨a, c, rfl, hs⟩ := Sl.ofRow r HOB.out.1
    exact ⟨a, c, rfl, hs, b⟩
  have HPV : Hid (∀ {wx : World}, Below W.heap.size W wx → Calls Try.prog 40 #[.slice none 0 0, .slice ma most.length mc] wx fun e w' => ∃ a c, e = .returned (.slice a (lb most).length c) ∧ Sl w' a (lb most).length c (lb most) ∧ Below wx.heap.size wx w') := fun {wx} hb => by
    refine (vpby_nil (hm.later hb) (by omega)).mono ?_
    rintro e w' ⟨v', rfl, r, b⟩
    obtain ⟨a, c, rfl, hs⟩ := Sl.ofRow r HOB.out.2
    exact ⟨a, c, rfl, hs, b⟩
  have HM1 := hidE M1
  subst hC
  have hc0 : ∀ (x : World), (x.alloc (.cells #[Value.int .i64 num, .int .i64 lvl, .int .i64 size, .slice la least.length lc, .slice ma most.length mc] 24)).heap.size = x.heap.size + 1 := fun x => by simp
  rw [hW2] at hP
  have HW2 := hidE hW2
  generalize least.length = nl at HPK hP HM1 HW2 hc0 ⊢
  generalize most.length = nm at HPV hP HM1 HW2 hc0 ⊢
  clear hrow hW hl hm ht hx hmo M0 M1 hN hsz hW2 hN3 e3 hc0
  go_enter Try.func24, Try.ntmps24
  go_upto_region 2 with (go_at_call 23; refine hP.mono ?_; rintro e w3 ⟨v3, rfl, r3, g3, m3⟩; rw [← HW2.out] at g3 m3; have M3 := hidE (HM1.out.step g3 m3 r3); clear r3 g3 m3)
  obtain ⟨y0, y1, y2, y3, y4⟩ := M3.out.cells5
  clear hP
  go_upto_region 3 with (first | (go_at_call 40; refine (HPK.out M3.out.bel).mono ?_; rintro e w8 ⟨a8, c8, rfl, s8, b8⟩) | (at_builtin; refine wpList_appl (B := W.heap.size) rfl (.tmp 14) (.tmp 17) rfl rfl (M3.out.later b8).row rfl s8 (by have := HLN.out; simp only [List.length_append]; omega) (M3.out.later b8).bel.size ?_; intro v9 w9 r9 g9 m9; have M9 := hidE ((M3.out.later b8).step g9 m9 r9); clear r9 g9 m9))
  obtain ⟨x0, x1, x2, x3, x4⟩ := M9.out.cells5
  clear s8 b8 y0 y1 y2 y3 y4
  go_wp2_with (first | (go_at_call 40; refine (HPV.out M9.out.bel).mono ?_; rintro e w10 ⟨a10, c10, rfl, s10, b10⟩) | (at_builtin; refine wpList_appl (B := W.heap.size) rfl (.tmp 19) (.tmp 22) rfl rfl (M9.out.later b10).row rfl s10 (by have := HLN.out; simp only [List.length_append]; omega) (M9.out.later b10).bel.size ?_; intro v11 w11 r11 g11 m11; have M11 := hidE ((M9.out.later b10).step g11 m11 r11); clear r11 g11 m11))
  refine bodyPost_ret (v := v11) (by simp [results, Try.results24, go_sem]) rfl ⟨v11, rfl, ?_, M11.out.bel⟩
  have := M11.out.row
  rw [HE.out]
  simpa only [List.append_assoc] using this
set_option maxHeartbeats 8000000 in
set_option maxRecDepth 100000 in
theorem eenc_any {w : World} {e : EdV} {aa ra : Option Addr} {ac rc : Nat} (h : EdM w e aa ac ra rc) :
    Calls Try.prog 12 #[edV e aa ac ra rc] w fun r w' => ∃ v, r = .returned (.tuple #[v, .int .i64 (edErr e)]) ∧ Row w.heap.size w' v (enEdV e) ∧ Below w.heap.size w w' := by
  have hbx := fun (wx : World) hb => box5 w (.int .i64 e.log) (.int .i64 e.next) (.int .i64 e.seq) (.slice aa e.add.length ac) (.slice ra e.rem.length rc) 30 (wx := wx) hb
  obtain ⟨W, hW⟩ : ∃ W, W = w.alloc (.cells #[.int .i64 e.log, .int .i64 e.next, .int .i64 e.seq, .slice aa e.add.length ac, .slice ra e.rem.length rc] 30) := ⟨_, rfl⟩
  have hWb : Below w.heap.size w W := by rw [hW]; exact (Below.refl _ w).alloc (Nat.le_refl _) _
  rw [← hW] at hbx
  have hmay := emay_any (h.later hWb)
  unfold edErr enEdV
  by_cases q : mayEd e = true
  · rw [if_pos q, if_pos q]
    rw [q] at hmay
    have hok := mayEd_ok q
    have hA := mayAd_ok hok.2.2.2.1
    have hR := mayRm_ok hok.2.2.2.2
    have HM : Hid (EdM w e aa ac ra rc) := h
    obtain ⟨log, next, seq, add, rem⟩ := e
    unfold edV at hmay ⊢
    simp only at hbx hW hok hA hR hmay ⊢
    obtain ⟨na, hna⟩ : ∃ na, na = add.length := ⟨_, rfl⟩
    obtain ⟨nr, hnr⟩ : ∃ nr, nr = rem.length := ⟨_, rfl⟩
    have HNL := hidE (And.intro hna hnr)
    have HE : Hid (enEd ⟨log, next, seq, add, rem⟩ = uv log.toNat ++ (uv next.toNat ++ (uv seq.toNat ++ (uv na ++ (enLns add ++ (uv nr ++ enNs rem)))))) := by show _ = _; unfold enEd; rw [hna, hnr]
    rw [← hna] at hbx hW hA hmay ⊢
    rw [← hnr] at hbx hW hR hmay ⊢
    have HBX := hidE hbx
    have HWB := hidE hWb
    have HW := hidE hW
    have HOK := hidE (And.intro hok (And.intro hA hR))
    obtain ⟨x0, x1, x2, x3, x4⟩ := hbx _ (Below.refl _ _)
    have HU : Hid ((uv log.toNat).length ≤ 10 ∧ (uv next.toNat).length ≤ 10 ∧ (uv seq.toNat).length ≤ 10 ∧ (uv na).length ≤ 10 ∧ (uv nr).length ≤ 10 ∧ na ≤ 200 ∧ nr ≤ 200) := ⟨uv_len64 (by omega), uv_len64 (by omega), uv_len64 (by omega), uv_len64 (by omega), uv_len64 (by omega), hA.1, hR.1⟩
    have HP1 : Hid (∀ wx, Below W.heap.size W wx → Calls Try.prog 23 #[.slice none 0 0, .slice (some ⟨wx.heap.size, 0, none⟩) 4 4] (wx.alloc (.cells #[.int .i64 log, .int .i64 next, .int .i64 seq, .int .i64 (na : Int)] 2)) fun e w' => ∃ v', e = .returned v' ∧ Row W.heap.size w' v' (uv log.toNat ++ uv next.toNat ++ uv seq.toNat ++ uv na) ∧ Below W.heap.size W w') := fun wx hb => by
      have hN := nums_new (xs := []) (w := wx) (v := .slice none 0 0) (fun b e => by cases e) [log, next, seq, (na : Int)]
      have hb2 : Below wx.heap.size wx (wx.alloc (.cells #[.int .i64 log, .int .i64 next, .int .i64 seq, .int .i64 (na : Int)] 2)) := (Below.refl _ _).alloc (Nat.le_refl _) _
      have B2 := hb.trans (hb2.mono hb.size)
      refine (eapn_any (B := W.heap.size) (cap := 4) (xs := []) (Row.nil _ _) B2.size rfl hN (fun x hx => by simp only [List.mem_cons, List.not_mem_nil, or_false] at hx; rcases hx with rfl | rfl | rfl | rfl <;> omega) (by simp) (by simp)).mono ?_
      rintro e w' ⟨v', rfl, r, g, m⟩
      refine ⟨v', rfl, ?_, B2.trans (grown_below (Row.nil _ _) g B2.size)⟩
      have e4 : ([] : List Int) ++ enNs [log, next, seq, (na : Int)] = uv log.toNat ++ uv next.toNat ++ uv seq.toNat ++ uv na := by simp [enNs]
      rw [e4] at r
      exact r
    obtain ⟨HD, hHD⟩ : ∃ x, x = uv log.toNat ++ uv next.toNat ++ uv seq.toNat ++ uv na := ⟨_, rfl⟩
    have HHD : Hid (HD.length ≤ 40 ∧ HD = uv log.toNat ++ uv next.toNat ++ uv seq.toNat ++ uv na) := ⟨by rw [hHD]; have := HU.out; simp only [List.length_append]; omega, hHD⟩
    rw [← hHD] at HP1
    have hna62 : na ≤ 2 ^ 61 := by omega
    have hnr62 : nr ≤ 2 ^ 61 := by omega
    rw [hW] at x0 x1 x2 x3 x4 hmay
    clear h hok hA hR hna hnr hbx hWb q hHD
    go_enter Try.func12, Try.ntmps12
    go_upto_region 3 with (go_at_call 14; refine hmay.mono ?_; rintro e w2 ⟨rfl, hb2⟩)
    rw [← hW] at hb2
    clear hmay x0 x1 x2 x3 x4 hW
    obtain ⟨z0, z1, z2, z3, z4⟩ := HBX.out _ hb2
    have HB2 := hidE hb2
    have hp1 := HP1.out _ hb2
    clear hb2 HP1
    go_upto_region 4 with (go_at_call 23; refine hp1.mono ?_; rintro e w3 ⟨v3, rfl, r3, b3⟩)
    obtain ⟨y0, y1, y2, y3, y4⟩ := HBX.out _ b3
    have H0 : Hid (Row W.heap.size w3 v3 (HD ++ enLns (add.take 0)) ∧ Below W.heap.size W w3) := ⟨by show Row _ _ _ (HD ++ []); rw [List.append_nil]; exact r3, b3⟩
    clear z0 z1 z2 z3 z4 hp1 HB2 r3 b3
    go_wp2_with fail
    go_loopg [4, 24] na (fun g v i wr => ∃ k : Nat, k + g = na ∧ i = .int .i64 (k : Int) ∧ Hid (Row W.heap.size wr v (HD ++ enLns (add.take k)) ∧ Below W.heap.size W wr))
    case atStart => exact ⟨0, by omega, rfl, H0⟩
    case round =>
      obtain ⟨k, hk, rfl, HK⟩ := hrel
      by_cases hkl : k < na
      · have hkl' : (k : Int) < (na : Int) := by omega
        have hkx : k < add.length := by rw [← HNL.out.1]; exact hkl
        have hox := List.getElem?_eq_getElem hkx
        obtain ⟨b, off, la, lc, ma, mc, haa, d0', d1', d2', d3', d4', k1, k2, j1, j2, j3⟩ := RS.ln (HM.out.add.later HWB.out) hox
        have hbW : b < W.heap.size := World.block_lt_of_cell? _ _ d0'
        have d0 := cell_below HK.out.2 hbW d0'
        have d1 := cell_below HK.out.2 hbW d1'
        have d2 := cell_below HK.out.2 hbW d2'
        have d3 := cell_below HK.out.2 hbW d3'
        have d4 := cell_below HK.out.2 hbW d4'
        subst haa
        have hm1 := HOK.out.2.1.2.1 _ (List.getElem_mem hkx)
        have het := enLns_take hox
        have hlen1 := enLns_len (l := add.take k) (fun o ho => HOK.out.2.1.2.1 o (List.mem_of_mem_take ho))
        generalize add[k] = o at d0 d1 d2 d3 d4 k1 k2 hm1 het
        clear d0' d1' d2' d3' d4' hbW hox j1 j2 j3
        obtain ⟨xs, hxs⟩ : ∃ xs, xs = HD ++ enLns (add.take k) := ⟨_, rfl⟩
        have hxl : xs.length ≤ 230000 := by
          rw [hxs, List.length_append]
          have := HHD.out.1
          have := HU.out
          rw [List.length_take] at hlen1
          have : min k add.length ≤ 200 := by omega
          omega
        have hrow : Row W.heap.size wr u4 xs := by rw [hxs]; exact HK.out.1
        have HE2 : Hid (HD ++ enLns (add.take (k + 1)) = xs ++ enLn o) := by show _ = _; rw [het, hxs]; simp only [List.append_assoc]
        have hbw1 : Below wr.heap.size wr (wr.alloc (.cells #[.int .i64 o.num, .int .i64 o.lvl, .int .i64 o.size, .slice la o.least.length lc, .slice ma o.most.length mc] 24)) := (Below.refl _ _).alloc (Nat.le_refl _) _
        have hap := eapl_any (hrow.later hbw1) (HK.out.2.trans (hbw1.mono HK.out.2.size)) k1 k2 hm1 hxl
        have hk62 : k ≤ 2 ^ 61 := by omega
        obtain ⟨GK, HG⟩ : ∃ g, Hid (g < gk ∧ k + 1 + g = na) := ⟨gk - 1, by omega, by omega⟩
        generalize o.least.length = nl at d3 hap
        generalize o.most.length = nm at d4 hap
        clear hk het hlen1 hm1 k1 k2 hxl hxs HK hrow hbw1 hkx y0 y1 y2 y3 y4
        go_wp2_with (go_at_call 24; refine hap.mono ?_; rintro e w6 ⟨v6, rfl, r6, b6⟩)
        have HF : Hid (Row W.heap.size w6 v6 (HD ++ enLns (add.take (k + 1))) ∧ Below W.heap.size W w6) := ⟨by rw [HE2.out]; exact r6, b6⟩
        go_roundg GK
        case measure => exact HG.out.1
        case rel => exact ⟨k + 1, HG.out.2, by go_num, HF.out⟩
      · have hkl' : (na : Int) ≤ (k : Int) := by omega
        have HR0 : Hid (Row W.heap.size wr u4 (HD ++ enLns add) ∧ Below W.heap.size W wr) := by
          have := HK.out
          rw [List.take_of_length_le (by rw [← HNL.out.1]; omega)] at this
          exact this
        have HLN : Hid ((HD ++ enLns add).length ≤ 220040) := by
          show _ ≤ _
          rw [List.length_append]
          have := HHD.out.1
          have := enLns_len HOK.out.2.1.2.1
          have := HOK.out.2.1.1
          have h9 := HNL.out.1
          omega
        have hb2 : Below wr.heap.size wr (wr.alloc (.cells #[.int .i64 (nr : Int)] 2)) := (Below.refl _ _).alloc (Nat.le_refl _) _
        have B2 := HR0.out.2.trans (hb2.mono HR0.out.2.size)
        have hN := nums_new (xs := []) (w := wr) (v := u4) (fun b e => (World.ownsRow.lt HR0.out.1 b e).2) [(nr : Int)]
        have hP := eapn_any (cap := 1) (HR0.out.1.later hb2) B2.size rfl hN (fun x hx => by simp only [List.mem_cons, List.not_mem_nil, or_false] at hx; subst hx; omega) (by simp) (by have := HLN.out; omega)
        have e1 : enNs [(nr : Int)] = uv nr := by simp [enNs]
        rw [e1] at hP
        have HB2 := hidE (And.intro B2 (HR0.out.1.later hb2))
        obtain ⟨z0, z1, z2, z3, z4⟩ := HBX.out _ HR0.out.2
        clear hk hkl HK y0 y1 y2 y3 y4 hN B2 hb2 e1
        go_upto_region 10 with (go_at_call 23; refine hP.mono ?_; rintro e w3 ⟨v3, rfl, r3, g3, m3⟩)
        have B3 := HB2.out.1.trans (grown_below HB2.out.2 g3 HB2.out.1.size)
        obtain ⟨y0, y1, y2, y3, y4⟩ := HBX.out _ B3
        have hXL : (HD ++ enLns add ++ uv nr).length ≤ 240000 := by rw [List.length_append]; have := HLN.out; have := HU.out; omega
        have hRS := (HM.out.rem.later HWB.out)
        have hN2 : Nums v3 w3 ra rem := fun i x hx => by
          obtain ⟨b, off, e, hc, _⟩ := RS.i64 hRS hx
          have hlt : b < W.heap.size := World.block_lt_of_cell? _ _ hc
          exact ⟨b, off, e, cell_below B3 hlt hc, fun z => by have := (World.ownsRow.lt r3 _ z).1; omega⟩
        have hQ := eapn_any (cap := rc) r3 B3.size HNL.out.2.symm hN2 (fun x hx => by have := mayNo_ok (HOK.out.2.2.2.1 x hx); omega) HU.out.2.2.2.2.2.2 hXL
        have HR3 := hidE (And.intro r3 B3)
        clear hP r3 g3 m3 B3 z0 z1 z2 z3 z4 hRS hN2 hXL
        go_wp2_with (go_at_call 23; refine hQ.mono ?_; rintro e w4 ⟨v4, rfl, r4, g4, m4⟩)
        have HF : Hid (Row w.heap.size w4 v4 (enEd ⟨log, next, seq, add, rem⟩) ∧ Below w.heap.size w w4) := by
          refine ⟨?_, HWB.out.trans ((HR3.out.2.trans (grown_below HR3.out.1 g4 HR3.out.2.size)).mono HWB.out.size)⟩
          have h1 := r4.base HWB.out.size
          rw [HE.out]
          rw [HHD.out.2] at h1
          simpa only [List.append_assoc] using h1
        exact bodyPost_ret (v := .tuple #[v4, .int .i64 0]) (by simp [results, Try.results12, go_sem]) rfl ⟨v4, rfl, HF.out⟩
  · rw [if_neg q, if_neg q]
    have q' : mayEd e = false := by simpa using q
    rw [q'] at hmay
    rw [hW] at hmay hWb
    unfold edV at hmay ⊢
    have HB : Hid _ := hWb
    generalize e.add.length = na at hmay HB ⊢
    generalize e.rem.length = nr at hmay HB ⊢
    clear h hbx hWb q q' hW
    go_enter Try.func12, Try.ntmps12
    go_wp2_with (go_at_call 14; refine hmay.mono ?_; rintro e w2 ⟨rfl, hb2⟩)
    exact bodyPost_ret (v := .tuple #[.slice none 0 0, .int .i64 1]) (by simp [results, Try.results12, go_sem]) rfl ⟨_, rfl, Row.nil _ _, HB.out.trans (hb2.mono HB.out.size)⟩
end Go.Proofs.Yteaicilehigjlaa

/- What is left of bytes that are read: slices of slices, in any world. -/
namespace Go.Proofs.Yteaicilehigjlaa
open Go.RowKit
set_option linter.unusedVariables false
set_option linter.unusedSimpArgs false

/-- What is left, where nothing is wrong. -/
def rst (s : Rd) : List Int := if s.2 ≠ 0 then [] else s.1
/-- A slice of a slice: what it holds, in any world. -/
def Rests (ao : Option Addr) (len cap : Nat) (d : List Int) (r : Value) (xs : List Int) : Prop := ∀ w, Sl w ao len cap d → SlV w r xs
theorem SlV.sl {w : World} {a : Option Addr} {n c : Nat} {xs : List Int} (h : SlV w (.slice a n c) xs) : Sl w a n c xs := by
  obtain ⟨a', c', e, hs⟩ := h
  simp only [Value.slice.injEq] at e
  obtain ⟨rfl, rfl, rfl⟩ := e
  exact hs
theorem Rests.trans {ao a : Option Addr} {len cap n c : Nat} {d xs ys : List Int} {r : Value} (h : Rests ao len cap d (.slice a n c) xs) (g : Rests a n c xs r ys) : Rests ao len cap d r ys := fun w hw => g w (h w hw).sl
theorem Rests.nil (ao : Option Addr) (len cap : Nat) (d : List Int) : Rests ao len cap d (.slice none 0 0) [] := fun w _ => slv_nil w
theorem Rests.from {ao : Option Addr} {len cap : Nat} {d : List Int} (i : Nat) (hi : i ≤ len) (hd : d.length = len) : Rests ao len cap d (.slice (cutA ao cap i) (len - i) (cap - i)) (d.drop i) := fun w h => by
  have e : (d.drop i).length = len - i := by rw [List.length_drop, hd]
  exact ⟨_, _, by rw [e], by rw [e]; exact h.from i hi⟩
end Go.Proofs.Yteaicilehigjlaa

/- What the landed batch takes from bytes: a number, bytes, a kind. -/
namespace Go.Proofs.Yteaicilehigjlaa
open Go.RowKit
set_option linter.unusedVariables false
set_option linter.unusedSimpArgs false

theorem rdF_len (s : Rd) : (rdF s).2.1.length ≤ s.1.length := by
  unfold rdF
  split
  · exact Nat.le_refl _
  · split
    · simp
    · rename_i e; rw [e]; simp
theorem rdB_len (most : Nat) (s : Rd) : (rdB most s).2.1.length ≤ s.1.length := by
  unfold rdB
  split
  · exact Nat.le_refl _
  · split
    · exact Nat.le_refl _
    · simp
theorem rdN_len (most : Nat) (s : Rd) : (rdN most s).2.1.length ≤ s.1.length := by
  unfold rdN
  split
  · exact Nat.le_refl _
  · split
    · exact Nat.le_refl _
    · split
      · exact Nat.le_refl _
      · simp

end Go.Proofs.Yteaicilehigjlaa
