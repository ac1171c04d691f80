/- The document's own disk: Read, ReadAt, List, New. -/
import Derived.Test.YtligofmcmjblpaaRapp
import Derived.Test.YtligofmcmjblpaaNx
namespace Go.Proofs.Ytligofmcmjblpaa
open Go.RowKit
set_option linter.unusedVariables false
set_option linter.unusedSimpArgs false

theorem read_cases (σ : DS) (s : ByteArray) : ((σ.read s).2 = 10 ∧ (σ.read s).1 = none) ∨ ((σ.read s).2 = 7 ∧ (σ.read s).1 = none) ∨ (σ.read s).2 = 0 := by
  unfold DS.read
  split
  · exact .inl ⟨rfl, rfl⟩
  · split
    · exact .inr (.inl ⟨rfl, rfl⟩)
    · exact .inr (.inr rfl)
theorem read_ok {σ : DS} (hi : Inv σ) (s : ByteArray) : Okb ((σ.read s).1.getD []) ∧ ((σ.read s).1.getD []).length ≤ 4194304 := by
  unfold DS.read
  split
  · exact ⟨fun x hx => by simp at hx, by simp⟩
  · split
    · exact ⟨fun x hx => by simp at hx, by simp⟩
    · next i _ => exact ⟨(hi.fl i).2.2, (hi.fl i).1⟩
/-- A piece of a row that is read. -/
theorem bs_piece (xs : List Int) (h : Okb xs) (a n : Nat) (hl : a + n ≤ xs.length) : bs (fun k => xof xs (a + k)) n = (xs.drop a).take n := by
  apply List.ext_getElem
  · simp [bs_length]; omega
  · intro i h1 h2
    simp [bs_length] at h1
    have hx : a + i < xs.length := by omega
    have := h xs[a + i] (List.getElem_mem hx)
    simp [bs, xof, hx]
    omega
theorem byt_piece {w : World} {ao : Option Addr} {len : Nat} {X : Nat → Nat} (h : Byt w ao len X) (a n : Nat) (hl : a + n ≤ len) {b off : Nat} (he : ao = some ⟨b, off, none⟩) : Byt w (some ⟨b, off + a, none⟩) n (fun k => X (a + k)) := fun k hk => by
  obtain ⟨h1, b', off', e, hc⟩ := h (a + k) (by omega)
  rw [he] at e
  simp only [Option.some.injEq, Addr.mk.injEq, and_true] at e
  obtain ⟨rfl, rfl⟩ := e
  exact ⟨h1, b, off + a, rfl, by rw [Nat.add_assoc]; exact hc⟩

theorem _root_.Go.Proofs.Try.info9 : (Try.prog.info? 9).map (fun i => (i.zero, i.size, i.bytes)) = some (some (.string ⟨#[]⟩), 1, 16) := by kernel_rfl
theorem RowS.nil (B : Nat) (w : World) : RowS B w (.slice none 0 0) [] := World.ownsRow_nil w B 9 1
theorem RowS.slice {B : Nat} {w : World} {v : Value} {xs : List ByteArray} (h : RowS B w v xs) : ∃ ao n c, v = .slice ao n c := by
  rcases h.2 with ⟨rfl, _⟩ | ⟨g, cap, cur, rfl, _⟩
  · exact ⟨_, _, _, rfl⟩
  · exact ⟨_, _, _, rfl⟩
/-- One string appended. -/
theorem wpList_appS {w : World} {ops : Array Oper} {rest : List Oper} {o : Oper} {a : Act} {Q : Exit → Act → World → Prop} {s x : Operand} {B : Nat} {v : Value} {xs : List ByteArray} {y : ByteArray} (hgd : o.guard = none)
    (ho : o.op = .call { callee := .builtin .append, args := #[s, x], argTypes := #[27, 27] }) (hs : a.eval s = v) (g : Nat) (hx : a.eval x = .slice (some ⟨g, 0, none⟩) 1 1) (hg : g = w.heap.size) (hrow : RowS B w v xs) (hb : xs.length + 1 ≤ 1099511627776) (hB : B ≤ w.heap.size)
    (h : ∀ v' w', RowS B w' v' (xs ++ [y]) → Below B w w' → wpList Try.prog ops Q rest (a.put o.dst v') w') : wpList Try.prog ops Q (o :: rest) a (w.alloc (.cells #[.string y] 9)) := by
  subst hg
  obtain ⟨i, hi, hz, hsize, hbytes⟩ := info_parts Try.info9
  have hrow' : RowS B (w.alloc (.cells #[.string y] 9)) v xs := World.ownsRow.alloc hrow _
  have hB' : B ≤ (w.alloc (.cells #[.string y] 9)).heap.size := by simp; omega
  refine wpList_append_own (P := Try.prog) (w.alloc (.cells #[.string y] 9)) hgd s x 27 ho B 9 i _ 1 16 Try.underlying27 hi hz hsize hbytes rfl (by decide) v xs.length _ hs hrow' ⟨w.heap.size, 0, none⟩ 1 1 [.string y] hx rfl ?_ ?_ (by simp only [maxLen]; omega) (by omega) hB' fun v' w' h1 h2 h3 => h v' w' ?_ ?_
  · intro j u hu
    have hj : j = 0 := by
      cases j with
      | zero => rfl
      | succ j => simp at hu
    subst hj
    simp at hu
    rw [← hu]
    simp [Addr.add]
  · intro u hu
    simp at hu
    subst hu
    rfl
  · unfold RowS
    rw [List.map_append, List.length_append]
    exact h1
  · exact ((Below.refl B w).alloc hB _).trans (Below.grown (Below.refl _ _) h2 hB' (fun k hk => (World.ownsRow.lt hrow' k hk).1))

end Go.Proofs.Ytligofmcmjblpaa
