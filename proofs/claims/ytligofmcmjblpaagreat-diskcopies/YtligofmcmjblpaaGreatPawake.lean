/- A disk that every program must know. -/
import Derived.Test.YtligofmcmjblpaaGreatPlike
import Derived.Lib.SlBytesConst
namespace Go.Proofs.YtligofmcmjblpaaGreat
open Go.RowKit
set_option linter.unusedVariables false

def sA : ByteArray := ⟨#[97]⟩
def aw0 : DS := DS.new 100
def aw1 : DS := (aw0.create sA).2
def aw2 : DS := (aw1.append sA [120, 121]).2
theorem aw_create : (aw0.create sA).1 = 0 := by decide +kernel
theorem aw_append : (aw1.append sA [120, 121]).1 = 0 := by decide +kernel
theorem aw_read : aw2.read sA = (some [120, 121], 0) := by decide +kernel
theorem aw_str : strOfNums [120, 121] = ⟨#[120, 121]⟩ := by rfl
theorem inv0 : Inv aw0 := Inv.new 100 (by decide)
theorem aw0_calls : aw0.c.calls = 0 := rfl
theorem aw1_calls : aw1.c.calls = 1 := by decide +kernel
theorem inv1 : Inv aw1 := inv0.create (by rw [aw0_calls]; decide) sA
theorem okb2 : Okb [120, 121] := fun x hx => by
  simp at hx
  rcases hx with rfl | rfl <;> decide
theorem inv2 : Inv aw2 := inv1.append (by rw [aw1_calls]; decide) sA _ okb2
def X2 (k : Nat) : Nat := if k = 0 then 120 else 121
theorem byt2 (w : World) (fz : Nat × Nat) : Byt (w.alloc (.cells #[.int .u8 120, .int .u8 121] 5 fz)) (some ⟨w.heap.size, 0, none⟩) 2 X2 := fun k hk => by
  have : k = 0 ∨ k = 1 := by omega
  rcases this with rfl | rfl
  · exact ⟨by decide, w.heap.size, 0, rfl, cell_of (heap_alloc_new w _) 0⟩
  · exact ⟨by decide, w.heap.size, 0, rfl, cell_of (heap_alloc_new w _) 1⟩

set_option maxHeartbeats 2000000 in
set_option maxRecDepth 100000 in
theorem awake_any (D : PD) (w : World) : Calls Tryz.prog 11 #[] w fun e w' => e = .returned (.bool true) ∧ Below w.heap.size w w' := by
  have k0 := D.new 100 w (by decide) (by decide)
  have HC : Hid (∀ {w1 q F}, D.R w1 q aw0 F → Calls Tryz.prog 17 #[.pointer (some ⟨q, 0, none⟩), .string ⟨#[97]⟩] w1 fun e w' => e = .returned (.int .i64 0) ∧ Nx D.R w1 q aw1 F w') := fun h => by
    have := D.create sA h inv0 (by decide)
    rw [aw_create] at this
    exact this
  have HA : Hid (∀ {w2 q F} (cp : Nat) (fz : Nat × Nat), D.R w2 q aw1 F → Calls Tryz.prog 18 #[.pointer (some ⟨q, 0, none⟩), .string ⟨#[97]⟩, .slice (some ⟨w2.heap.size, 0, none⟩) 2 cp] (w2.alloc (.cells #[.int .u8 120, .int .u8 121] 5 fz)) fun e w' => e = .returned (.int .i64 0) ∧ Nx D.R w2 q aw2 F w') := fun {w2 q F} cp fz h => by
    have hb : Below w2.heap.size w2 (w2.alloc (.cells #[.int .u8 120, .int .u8 121] 5 fz)) := (Below.refl _ _).alloc (Nat.le_refl _) _
    have := D.append sA (some ⟨w2.heap.size, 0, none⟩) 2 cp X2 (PD.later h hb) inv1 (byt2 w2 fz) (fun e => by cases e) (fun _ a e hF => by
      simp only [Option.some.injEq] at e
      subst e
      have := D.lt h _ hF
      simp at this) (by decide)
    rw [show bs X2 2 = [120, 121] from rfl, aw_append] at this
    exact this.mono fun e w' ⟨h1, h2⟩ => ⟨h1, Nx.start hb h2⟩
  have HR : Hid (∀ {w3 q F}, D.R w3 q aw2 F → Calls Tryz.prog 44 #[.pointer (some ⟨q, 0, none⟩), .string ⟨#[97]⟩] w3 fun e w' => ∃ v, e = .returned (.tuple #[v, .int .i64 0]) ∧ BytR w' v [120, 121] ∧ Below w3.heap.size w3 w') := fun h => by
    have := D.read sA h inv2
    rw [aw_read] at this
    exact this
  have kc := fun (w : World) (C : Array Value) (n c : Nat) => Lib.run_convert_bytes_const (P := Tryz.prog) w 27 5 C n c Tryz.underlying27 Tryz.underlying5
  unfold ptr at k0
  go_enter Tryz.func11, Tryz.ntmps11
  go_wp2_with (first | (go_at_call 6; refine k0.mono ?_; rintro e w1 ⟨q, F, rfl, r1, f1, b1⟩) | (go_at_call 17; refine (HC.out r1).mono ?_; rintro e w2 ⟨rfl, F2, r2, m2, s2⟩) | (go_at_call 18; refine (HA.out _ _ r2).mono ?_; rintro e w3 ⟨rfl, F3, r3, m3, s3⟩) | (go_at_call 44; refine (HR.out r3).mono ?_; rintro e w4 ⟨v4, rfl, x4, b4⟩; obtain ⟨o1, o2, o3, rfl, t4⟩ := x4.str; have u4 := t4 _ (Below.refl _ _); rw [aw_str] at u4))
  go_ret
  have B1 : Below w.heap.size w w1 := b1
  have B2 : Below w.heap.size w w2 := B1.trans (m2.below B1.size f1)
  have f2 : ∀ k, F2 k → w.heap.size ≤ k := fun k hk => by
    rcases s2 k hk with x | x
    · exact f1 k x
    · have := B1.size
      omega
  have B3 : Below w.heap.size w w3 := B2.trans (m3.below B2.size f2)
  exact ⟨rfl, B3.trans (b4.mono B3.size)⟩
end Go.Proofs.YtligofmcmjblpaaGreat
