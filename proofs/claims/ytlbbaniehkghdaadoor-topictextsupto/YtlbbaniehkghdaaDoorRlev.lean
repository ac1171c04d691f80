/- The document's own levels: a row of strings of one's own. -/
import Derived.Test.YtlbbaniehkghdaaDoorRname
namespace Go.Proofs.YtlbbaniehkghdaaDoor
open Go.RowKit
set_option linter.unusedVariables false

/-- A row of strings that the call itself made. -/
def RowS (B : Nat) (w : World) (v : Value) (xs : List ByteArray) : Prop := w.ownsRow B 9 1 v xs.length (xs.map Value.string)
theorem _root_.Go.Proofs.Tryd.info9 : (Tryd.prog.info? 9).map (fun i => (i.zero, i.size, i.bytes)) = some (some (.string ⟨#[]⟩), 1, 16) := by kernel_rfl
theorem RowS.nil (B : Nat) (w : World) : RowS B w (.slice none 0 0) [] := World.ownsRow_nil w B 9 1

/-- One string appended. -/
theorem wpList_appS {w : World} {ops : Array Oper} {rest : List Oper} {o : Oper} {a : Act} {Q : Exit → Act → World → Prop} {s x : Operand} {B : Nat} {v : Value} {xs : List ByteArray} {y : ByteArray} (hgd : o.guard = none)
    (ho : o.op = .call { callee := .builtin .append, args := #[s, x], argTypes := #[26, 26] }) (hs : a.eval s = v) (hx : a.eval x = .slice (some ⟨w.heap.size, 0, none⟩) 1 1) (hrow : RowS B w v xs) (hb : xs.length + 1 ≤ 1099511627776) (hB : B ≤ w.heap.size)
    (h : ∀ v' w', RowS B w' v' (xs ++ [y]) → Below B w w' → wpList Tryd.prog ops Q rest (a.put o.dst v') w') : wpList Tryd.prog ops Q (o :: rest) a (w.alloc (.cells #[.string y] 9)) := by
  obtain ⟨i, hi, hz, hsize, hbytes⟩ := info_parts Tryd.info9
  have hrow' : RowS B (w.alloc (.cells #[.string y] 9)) v xs := World.ownsRow.alloc hrow _
  have hB' : B ≤ (w.alloc (.cells #[.string y] 9)).heap.size := by simp; omega
  refine wpList_append_own (P := Tryd.prog) (w.alloc (.cells #[.string y] 9)) hgd s x 26 ho B 9 i _ 1 16 Tryd.underlying26 hi hz hsize hbytes rfl (by decide) v xs.length _ hs hrow' ⟨w.heap.size, 0, none⟩ 1 1 [.string y] hx rfl ?_ ?_ (by simp only [maxLen]; omega) (by omega) hB' fun v' w' h1 h2 h3 => h v' w' ?_ ?_
  · intro j u hu
    have hj : j = 0 := by
      cases j with
      | zero => rfl
      | succ j => simp at hu
    subst hj
    simp at hu
    rw [← hu]
    simp [Addr.add]
  · intro u hu
    simp at hu
    subst hu
    rfl
  · unfold RowS
    rw [List.map_append, List.length_append]
    exact h1
  · exact ((Below.refl B w).alloc hB _).trans (Below.grown (Below.refl _ _) h2 hB' (fun k hk => (World.ownsRow.lt hrow' k hk).1))

theorem ext_list (s : ByteArray) (a b : Nat) (h1 : a ≤ b) (h2 : b ≤ s.size) : (s.extract a b).data.toList = (s.data.toList.drop a).take (b - a) := by
  rw [ByteArray.data_extract, Array.toList_extract]

theorem drop_at (s : ByteArray) (f k : Nat) (hf : f ≤ k) (hk : k < s.size) : s.data.toList.drop f = (s.data.toList.drop f).take (k - f) ++ s[k] :: s.data.toList.drop (k + 1) := by
  have h1 : (s.data.toList.drop f).drop (k - f) = s[k] :: s.data.toList.drop (k + 1) := by
    rw [List.drop_drop, show f + (k - f) = k by omega, drop_bytes s k hk]
  conv => lhs; rw [← List.take_append_drop (k - f) (s.data.toList.drop f), h1]
theorem take_at (s : ByteArray) (f k : Nat) (hf : f ≤ k) (hk : k < s.size) : (s.data.toList.drop f).take (k + 1 - f) = (s.data.toList.drop f).take (k - f) ++ [s[k]] := by
  have hl : ((s.data.toList.drop f).take (k - f)).length = k - f := by
    rw [List.length_take, List.length_drop, len_data]
    omega
  conv => lhs; rw [drop_at s f k hf hk]
  rw [List.take_append, hl, show k + 1 - f - (k - f) = 1 by omega, List.take_of_length_le (by rw [hl]; omega)]
  rfl
theorem u8_of {c : UInt8} {n : Nat} (hn : n < 256) (h : (c.toNat : Int) = (n : Int)) : c = UInt8.ofNat n := by
  have := u8_nat c n hn
  rw [show ((c.toNat : Int) == (n : Int)) = true by simp [h], beq_iff_eq] at this
  exact this

def Lev (s : ByteArray) (W w : World) (f k : Nat) (v : Value) : Prop :=
  ∃ xs : List ByteArray, RowS W.heap.size w v xs ∧ Below W.heap.size W w ∧ xs.length ≤ k ∧
    ((k ≤ s.size ∧ f ≤ k ∧ lv s.data.toList = xs.map (fun x => x.data.toList) ++ lv (s.data.toList.drop f) ∧ (47 : UInt8) ∉ (s.data.toList.drop f).take (k - f)) ∨ (k = s.size + 1 ∧ lv s.data.toList = xs.map (fun x => x.data.toList)))

set_option maxHeartbeats 1000000 in
set_option maxRecDepth 100000 in
theorem rlev_any (s : ByteArray) (w : World) (hl : s.size ≤ 1099511627000) : Calls Tryd.prog 17 #[.string s] w fun e w' => ∃ v xs, e = .returned v ∧ RowS w.heap.size w' v xs ∧ xs.map (fun x => x.data.toList) = lv s.data.toList ∧ Below w.heap.size w w' := by
  have h63 : s.size ≤ 2 ^ 62 := by omega
  have HL : Hid (s.size ≤ 1099511627000) := hl
  clear hl
  go_enter Tryd.func17, Tryd.ntmps17
  go_wp2_with fail
  go_loopg [3, 4, 5] (s.size + 1) (fun g v f i wr => ∃ k fr : Nat, k + g = s.size + 1 ∧ i = .int .i64 (k : Int) ∧ f = .int .i64 (fr : Int) ∧ Hid (Lev s w wr fr k v))
  case atStart => exact ⟨0, 0, by omega, rfl, rfl, [], RowS.nil _ _, Below.refl _ _, by simp, .inl ⟨by omega, by omega, by simp, by simp⟩⟩
  case round =>
    obtain ⟨k, fr, hk, rfl, rfl, HV⟩ := hrel
    obtain ⟨xs, x1, x2, x3, x4⟩ := HV.out
    by_cases h : k ≤ s.size
    · have h' : (k : Int) ≤ (s.size : Int) := by omega
      obtain ⟨_, hf, hlv, hno⟩ : k ≤ s.size ∧ fr ≤ k ∧ lv s.data.toList = xs.map (fun x => x.data.toList) ++ lv (s.data.toList.drop fr) ∧ (47 : UInt8) ∉ (s.data.toList.drop fr).take (k - fr) := by
        rcases x4 with q | q
        · exact q
        · omega
      have hf' : (fr : Int) ≤ (k : Int) := by omega
      obtain ⟨GK, HG⟩ : ∃ g, Hid (g < gk ∧ k + 1 + g = s.size + 1) := ⟨gk - 1, by omega, by omega⟩
      have HX : Hid (RowS w.heap.size wr u3 xs ∧ Below w.heap.size w wr ∧ xs.length ≤ k) := ⟨x1, x2, x3⟩
      by_cases hks : k = s.size
      · have hks' : (k : Int) = (s.size : Int) := by omega
        have hks'' : ((k : Int) == (s.size : Int)) = true := by simp; omega
        go_wp2_with (at_builtin; refine wpList_appS (s := .tmp 22) (x := .tmp 27) (w := wr) rfl rfl rfl rfl HX.out.1 (by have := HX.out; have := HL.out; omega) HX.out.2.1.size ?_; intro v5 w5 hr5 hb5)
        go_roundg GK
        case measure => exact HG.out.1
        case rel =>
          refine ⟨k + 1, k + 1, HG.out.2, by go_num, by go_num, _, hr5, HX.out.2.1.trans hb5, by have := HX.out; simp; omega, .inr ⟨by omega, ?_⟩⟩
          have hD : (s.data.toList.drop fr).take (k - fr) = s.data.toList.drop fr := List.take_of_length_le (by rw [List.length_drop, len_data]; omega)
          rw [hD] at hno
          rw [hlv, List.map_append, List.map_cons, List.map_nil, ext_list s fr _ (by omega) (by omega), lv_one _ hno]
          congr 2
          first | exact hD.symm | (rw [List.take_of_length_le (by rw [List.length_drop, len_data]; omega)])
      · have hks' : (k : Int) < (s.size : Int) := by omega
        have hks'' : ((k : Int) == (s.size : Int)) = false := by simp; omega
        have hkl : k < s.size := by omega
        by_cases hc : (s[k].toNat : Int) = 47
        · clear hks
          go_wp2_with (at_builtin; refine wpList_appS (s := .tmp 22) (x := .tmp 27) (w := wr) rfl rfl rfl rfl HX.out.1 (by have := HX.out; have := HL.out; omega) HX.out.2.1.size ?_; intro v5 w5 hr5 hb5)
          go_roundg GK
          case measure => exact HG.out.1
          case rel =>
            refine ⟨k + 1, k + 1, HG.out.2, by go_num, by go_num, xs ++ [s.extract fr k], hr5, HX.out.2.1.trans hb5, by have := HX.out; simp; omega, .inl ⟨by omega, by omega, ?_, by simp⟩⟩
            have hd := drop_at s fr k hf hkl
            rw [u8_of (n := 47) (by decide) hc] at hd
            rw [hlv, List.map_append, List.map_cons, List.map_nil, ext_list s fr k hf (by omega), List.append_assoc]
            congr 1
            conv => lhs; rw [hd]
            exact lv_app _ hno _
        · have hc' : ((s[k].toNat : Int) == 47) = false := by simp [hc]
          clear hks
          go_wp2_with fail
          go_roundg GK
          case measure => exact HG.out.1
          case rel =>
            refine ⟨k + 1, fr, HG.out.2, by go_num, rfl, xs, HX.out.1, HX.out.2.1, by have := HX.out; omega, .inl ⟨by omega, by omega, hlv, ?_⟩⟩
            rw [take_at s fr k hf hkl, List.mem_append]
            rintro (q | q)
            · exact hno q
            · simp at q
              exact hc (by rw [← q]; rfl)
    · have h' : (s.size : Int) < (k : Int) := by omega
      have hall : lv s.data.toList = xs.map (fun x => x.data.toList) := by
        rcases x4 with q | q
        · omega
        · exact q.2
      have HX : Hid (RowS w.heap.size wr u3 xs ∧ Below w.heap.size w wr) := ⟨x1, x2⟩
      clear hk h x1 x2 x3 x4
      go_wp2_with fail
      exact bodyPost_ret (v := u3) (by simp [results, Tryd.results17, go_sem]) rfl ⟨u3, xs, rfl, HX.out.1, hall.symm, HX.out.2⟩
end Go.Proofs.YtlbbaniehkghdaaDoor
