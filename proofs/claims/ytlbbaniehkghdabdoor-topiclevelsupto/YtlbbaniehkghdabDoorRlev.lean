/- The document's own levels: a row of strings of one's own. -/
import Derived.Test.YtlbbaniehkghdabDoorRname
namespace Go.Proofs.YtlbbaniehkghdabDoor
open Go.RowKit
set_option linter.unusedVariables false

/-- A row of strings that the call itself made. -/
def RowS (B : Nat) (w : World) (v : Value) (xs : List ByteArray) : Prop := w.ownsRow B 9 1 v xs.length (xs.map Value.string)
theorem _root_.Go.Proofs.Tryd.info9 : (Tryd.prog.info? 9).map (fun i => (i.zero, i.size, i.bytes)) = some (some (.string ⟨#[]⟩), 1, 16) := by kernel_rfl
theorem RowS.nil (B : Nat) (w : World) : RowS B w (.slice none 0 0) [] := World.ownsRow_nil w B 9 1

/-- One string appended. -/
theorem wpList_appS {w : World} {ops : Array Oper} {rest : List Oper} {o : Oper} {a : Act} {Q : Exit → Act → World → Prop} {s x : Operand} {B : Nat} {v : Value} {xs : List ByteArray} {y : ByteArray} (hgd : o.guard = none)
    (ho : o.op = .call { callee := .builtin .append, args := #[s, x], argTypes := #[22, 22] }) (hs : a.eval s = v) (hx : a.eval x = .slice (some ⟨w.heap.size, 0, none⟩) 1 1) (hrow : RowS B w v xs) (hb : xs.length + 1 ≤ 1099511627776) (hB : B ≤ w.heap.size)
    (h : ∀ v' w', RowS B w' v' (xs ++ [y]) → Below B w w' → wpList Tryd.prog ops Q rest (a.put o.dst v') w') : wpList Tryd.prog ops Q (o :: rest) a (w.alloc (.cells #[.string y] 9)) := by
  obtain ⟨i, hi, hz, hsize, hbytes⟩ := info_parts Tryd.info9
  have hrow' : RowS B (w.alloc (.cells #[.string y] 9)) v xs := World.ownsRow.alloc hrow _
  have hB' : B ≤ (w.alloc (.cells #[.string y] 9)).heap.size := by simp; omega
  refine wpList_append_own (P := Tryd.prog) (w.alloc (.cells #[.string y] 9)) hgd s x 22 ho B 9 i _ 1 16 Tryd.underlying22 hi hz hsize hbytes rfl (by decide) v xs.length _ hs hrow' ⟨w.heap.size, 0, none⟩ 1 1 [.string y] hx rfl ?_ ?_ (by simp only [maxLen]; omega) (by omega) hB' fun v' w' h1 h2 h3 => h v' w' ?_ ?_
  · intro j u hu
    have hj : j = 0 := by
      cases j with
      | zero => rfl
      | succ j => simp at hu
    subst hj
    simp at hu
    rw [← hu]
    simp [Addr.add]
  · intro u hu
    simp at hu
    subst hu
    rfl
  · unfold RowS
    rw [List.map_append, List.length_append]
    exact h1
  · exact ((Below.refl B w).alloc hB _).trans (Below.grown (Below.refl _ _) h2 hB' (fun k hk => (World.ownsRow.lt hrow' k hk).1))

theorem ext_list (s : ByteArray) (a b : Nat) (h1 : a ≤ b) (h2 : b ≤ s.size) : (s.extract a b).data.toList = (s.data.toList.drop a).take (b - a) := by
  rw [ByteArray.data_extract, Array.toList_extract]

theorem drop_at (s : ByteArray) (f k : Nat) (hf : f ≤ k) (hk : k < s.size) : s.data.toList.drop f = (s.data.toList.drop f).take (k - f) ++ s[k] :: s.data.toList.drop (k + 1) := by
  have h1 : (s.data.toList.drop f).drop (k - f) = s[k] :: s.data.toList.drop (k + 1) := by
    rw [List.drop_drop, show f + (k - f) = k by omega, drop_bytes s k hk]
  conv => lhs; rw [← List.take_append_drop (k - f) (s.data.toList.drop f), h1]
theorem take_at (s : ByteArray) (f k : Nat) (hf : f ≤ k) (hk : k < s.size) : (s.data.toList.drop f).take (k + 1 - f) = (s.data.toList.drop f).take (k - f) ++ [s[k]] := by
  have hl : ((s.data.toList.drop f).take (k - f)).length = k - f := by
    rw [List.length_take, List.length_drop, len_data]
    omega
  conv => lhs; rw [drop_at s f k hf hk]
  rw [List.take_append, hl, show k + 1 - f - (k - f) = 1 by omega, List.take_of_length_le (by rw [hl]; omega)]
  rfl
theorem u8_of {c : UInt8} {n : Nat} (hn : n < 256) (h : (c.toNat : Int) = (n : Int)) : c = UInt8.ofNat n := by
  have := u8_nat c n hn
  rw [show ((c.toNat : Int) == (n : Int)) = true by simp [h], beq_iff_eq] at this
  exact this

end Go.Proofs.YtlbbaniehkghdabDoor
