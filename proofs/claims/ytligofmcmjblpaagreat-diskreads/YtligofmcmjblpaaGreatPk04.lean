import Derived.Test.YtligofmcmjblpaaGreatPk03
/- The document's own disk: may a name be; which file it stands for. -/
namespace Go.Proofs.YtligofmcmjblpaaGreat
open Go.RowKit
set_option linter.unusedVariables false
set_option linter.unusedSimpArgs false

theorem drop_bytes (s : ByteArray) (k : Nat) (h : k < s.size) : s.data.toList.drop k = s[k] :: s.data.toList.drop (k + 1) := by
  have h' : k < s.data.toList.length := by rw [Array.length_toList]; exact h
  rw [List.drop_eq_getElem_cons h']
  rfl
theorem u8_nat (c : UInt8) (n : Nat) (hn : n < 256) : (c == UInt8.ofNat n) = ((c.toNat : Int) == (n : Int)) := by
  rw [Bool.eq_iff_iff, beq_iff_eq, beq_iff_eq, ← UInt8.toNat_inj, UInt8.toNat_ofNat']
  simp only [Nat.reducePow]
  rw [Nat.mod_eq_of_lt hn]
  omega

set_option maxHeartbeats 1000000 in
set_option maxRecDepth 100000 in
theorem rmay_any (s : ByteArray) (w : World) (h63 : s.size ≤ 2 ^ 63 - 1) : Calls Tryz.prog 69 #[.string s] w fun e w' => e = .returned (.bool (mayN s)) ∧ w' = w := by
  obtain ⟨T, hT⟩ : ∃ T, T = badc s.data.toList := ⟨_, rfl⟩
  have H0 : Hid (badc (s.data.toList.drop 0) = T) := hT.symm
  have HM : Hid (mayN s = (!T && (decide (1 ≤ s.size) && decide (s.size ≤ 64)))) := by rw [hT]; rfl
  generalize mayN s = M at HM
  clear hT
  go_enter Tryz.func69, Tryz.ntmps69
  go_wp2_with fail
  go_loopg [6] s.size (fun g i wr => ∃ k : Nat, k + g = s.size ∧ i = .int .i64 (k : Int) ∧ wr = w ∧ Hid (badc (s.data.toList.drop k) = T))
  case atStart => exact ⟨0, by omega, rfl, rfl, H0⟩
  case round =>
    obtain ⟨k, hk, rfl, hw, HT⟩ := hrel
    obtain rfl := hw
    by_cases h : k < s.size
    · have h' : (k : Int) < (s.size : Int) := by omega
      have hd := HT.out
      rw [drop_bytes s k h] at hd
      have e43 : (s[k] == 47) = ((s[k].toNat : Int) == 47) := u8_nat s[k] 47 (by decide)
      have e35 : (s[k] == 0) = ((s[k].toNat : Int) == 0) := u8_nat s[k] 0 (by decide)
      have hs : ((((s[k].toNat : Int) == 47) || ((s[k].toNat : Int) == 0)) || badc (s.data.toList.drop (k + 1))) = T := by
        rw [← e43, ← e35]
        exact hd
      obtain ⟨GK, HG⟩ : ∃ g, Hid (g < gk ∧ k + 1 + g = s.size) := ⟨gk - 1, by omega, by omega⟩
      clear hd e43 e35 hk
      by_cases q1 : (s[k].toNat : Int) = 47
      · have hT : T = true := by rw [← hs]; simp [q1]
        have HR : M = false := by rw [HM.out, hT]; rfl
        subst HR
        clear hs hT HM
        go_wp2_with fail
        go_ret
        exact ⟨rfl, rfl⟩
      · have b1 : ((s[k].toNat : Int) == 47) = false := beq_eq_false_iff_ne.2 q1
        by_cases q2 : (s[k].toNat : Int) = 0
        · have hT : T = true := by rw [← hs]; simp [q2]
          have HR : M = false := by rw [HM.out, hT]; rfl
          subst HR
          clear hs hT HM
          go_wp2_with fail
          go_ret
          exact ⟨rfl, rfl⟩
        · have b2 : ((s[k].toNat : Int) == 0) = false := beq_eq_false_iff_ne.2 q2
          rw [b1, b2] at hs
          have HS : Hid (badc (s.data.toList.drop (k + 1)) = T) := hs
          clear hs
          go_wp2_with fail
          go_roundg GK
          case measure => exact HG.out.1
          case rel => exact ⟨k + 1, HG.out.2, by go_num, rfl, HS⟩
    · have h' : (s.size : Int) ≤ (k : Int) := by omega
      have hT : T = false := by
        have := HT.out
        rw [List.drop_eq_nil_of_le (by rw [Array.length_toList]; show s.size ≤ k; omega)] at this
        exact this.symm
      have hm := HM.out
      rw [hT] at hm
      by_cases q1 : 1 ≤ s.size
      · have b1 : (1 : Int) ≤ (s.size : Int) := by omega
        by_cases q2 : s.size ≤ 64
        · have b2 : (s.size : Int) ≤ 64 := by omega
          have HR : M = true := by rw [hm]; simp [q1, q2]
          subst HR
          clear hm hT HM HT H0
          go_wp2_with fail
          go_ret
          exact ⟨rfl, rfl⟩
        · have b2 : decide ((s.size : Int) ≤ 64) = false := decide_eq_false (by omega)
          have HR : M = false := by rw [hm]; simp [q2]
          subst HR
          clear hm hT HM HT H0
          go_wp2_with fail
          go_ret
          exact ⟨rfl, rfl⟩
      · have b1 : decide ((1 : Int) ≤ (s.size : Int)) = false := decide_eq_false (by omega)
        have HR : M = false := by rw [hm]; simp [q1]
        subst HR
        clear hm hT HM HT H0
        go_wp2_with fail
        go_ret
        exact ⟨rfl, rfl⟩

theorem DirR.cells {w : World} {F : Nat → Prop} {loc : Nat → Nat} {v : Value} {l : List Ent} (h : DirR w F loc v l) :
    ∃ ao cap, v = .slice ao l.length cap ∧ l.length ≤ cap ∧ cap ≤ maxLen ∧ (ao = none → l.length = 0 ∧ cap = 0) ∧ ∀ k, k < l.length → ∃ g a i, ao = some ⟨g, 0, none⟩ ∧ l[k]? = some (a, i) ∧ l.drop k = (a, i) :: l.drop (k + 1) ∧ w.cell? ⟨g, k * 2, none⟩ = some (.string a) ∧ w.cell? ⟨g, k * 2 + 1, none⟩ = some (ptr (loc i)) := by
  have hcells : ∀ g, v.ownBlock = some g → _ := fun g hg => World.ownsRow.cells h.row (g := g) hg
  rcases h.row.2 with ⟨rfl, h0⟩ | ⟨g, cap, cur, rfl, hbg, hg, hnc, hcm, hcs, htake⟩
  · exact ⟨none, 0, by rw [h0], by omega, Nat.zero_le _, fun _ => ⟨h0, rfl⟩, fun k hk => absurd hk (by omega)⟩
  · refine ⟨some ⟨g, 0, none⟩, cap, rfl, hnc, hcm, (fun e => by cases e), fun k hk => ⟨g, l[k].1, l[k].2, rfl, List.getElem?_eq_getElem hk, List.drop_eq_getElem_cons hk, ?_, ?_⟩⟩
    · have := hcells g rfl (k * 2) _ (entC_at loc l k hk).1
      rw [Addr.add_lit, Nat.zero_add] at this
      exact this
    · have := hcells g rfl (k * 2 + 1) _ (entC_at loc l k hk).2
      rw [Addr.add_lit, Nat.zero_add] at this
      exact this
theorem _root_.Go.Proofs.Tryz.cells84 : Tryz.prog.cellsOf 102 = 2 := by kernel_rfl
def optp (loc : Nat → Nat) : Option Nat → Value
  | none => .pointer none
  | some i => ptr (loc i)

set_option maxHeartbeats 1000000 in
set_option maxRecDepth 100000 in
theorem rfind_any (p : Nat) (room : Int) (lv wv : Value) (c : Cn) (F : Nat → Prop) (loc : Nat → Nat) (l : List Ent) (s : ByteArray) (w : World) (hd : Dk w p room lv wv c) (hl : DirR w F loc lv l) (hn : l.length ≤ 2 ^ 40) :
    Calls Tryz.prog 47 #[ptr p, .string s] w fun e w' => e = .returned (optp loc (fnd l s)) ∧ Below w.heap.size w w' := by
  obtain ⟨ao, cap, rfl, hlc, hcm, hnil, hcell⟩ := hl.cells
  have c1 := cell_of hd 1
  simp only [List.getElem?_toArray, List.getElem?_cons_succ, List.getElem?_cons_zero] at c1
  obtain ⟨n, hnn⟩ : ∃ n, n = l.length := ⟨_, rfl⟩
  have HC : Hid (∀ k, k < l.length → ∃ g a i, ao = some ⟨g, 0, none⟩ ∧ l[k]? = some (a, i) ∧ l.drop k = (a, i) :: l.drop (k + 1) ∧ w.cell? ⟨g, k * 2, none⟩ = some (.string a) ∧ w.cell? ⟨g, k * 2 + 1, none⟩ = some (ptr (loc i))) := hcell
  have HN : Hid (n = l.length ∧ n ≤ 2 ^ 40) := ⟨hnn, by omega⟩
  have hn' : n ≤ 2 ^ 40 := by omega
  rw [← hnn] at c1
  obtain ⟨T, hT⟩ : ∃ T, T = fnd l s := ⟨_, rfl⟩
  rw [← hT]
  have H0 : Hid (fnd (l.drop 0) s = T) := hT.symm
  clear hd hl hlc hcm hnil hcell hT hn hnn
  unfold ptr at *
  go_enter Tryz.func47, Tryz.ntmps47
  go_wp2_with fail
  go_loopg [12] n (fun g i wr => ∃ k : Nat, k + g = n ∧ i = .int .i64 (k : Int) ∧ Below w.heap.size w wr ∧ Hid (fnd (l.drop k) s = T))
  case atStart => exact ⟨0, by omega, rfl, Below.refl _ _, H0⟩
  case round =>
    obtain ⟨k, hk, rfl, hw, HT⟩ := hrel
    by_cases h : k < n
    · have h' : (k : Int) < (n : Int) := by omega
      obtain ⟨g, a, i, rfl, xk, xd, x1, x2⟩ := HC.out k (by have := HN.out; omega)
      have y1 := cell_later hw x1
      have y2 := cell_later hw x2
      obtain ⟨GK, HG⟩ : ∃ g, Hid (g < gk ∧ k + 1 + g = n) := ⟨gk - 1, by omega, by omega⟩
      have HW : Hid (Below w.heap.size w wr) := hw
      have ht := HT.out
      rw [xd] at ht
      clear hk x1 x2 hw xd xk
      by_cases q : (a.toList == s.toList) = true
      · rw [fnd, if_pos q] at ht
        subst ht
        go_wp2_with fail
        go_ret
        exact ⟨rfl, HW.out.alloc HW.out.size _⟩
      · have q' : (a.toList == s.toList) = false := by simpa using q
        rw [fnd, if_neg q] at ht
        have HT2 : Hid (fnd (l.drop (k + 1)) s = T) := ht
        clear ht q
        go_wp2_with fail
        go_roundg GK
        case measure => exact HG.out.1
        case rel => exact ⟨k + 1, HG.out.2, by go_num, HW.out.alloc HW.out.size _, HT2⟩
    · have h' : (n : Int) ≤ (k : Int) := by omega
      have ht := HT.out
      rw [List.drop_eq_nil_of_le (by have := HN.out; omega)] at ht
      subst ht
      go_wp2_with fail
      go_ret
      exact ⟨rfl, hw⟩
end Go.Proofs.YtligofmcmjblpaaGreat
