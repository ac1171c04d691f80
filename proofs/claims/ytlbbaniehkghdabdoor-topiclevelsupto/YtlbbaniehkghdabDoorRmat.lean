/- The document's own Match and Covers. -/
import Derived.Test.YtlbbaniehkghdabDoorRfil
import Derived.WalkSmall
namespace Go.Proofs.YtlbbaniehkghdabDoor
open Go.RowKit
set_option linter.unusedVariables false

theorem fil_size (s : ByteArray) (h : fil s.data.toList = true) : 1 ≤ s.size ∧ s.size ≤ 64 := by
  simp only [fil, Bool.and_eq_true, decide_eq_true_eq, len_data] at h
  exact h.1.1
theorem nam_size (s : ByteArray) (h : nam s.data.toList = true) : 1 ≤ s.size ∧ s.size ≤ 64 := by
  simp only [nam, Bool.and_eq_true, decide_eq_true_eq, len_data] at h
  exact h.1.1
theorem head_str (s : ByteArray) (h : 0 < s.size) : s.data.toList.head? = some s[0] := by
  have := drop_bytes s 0 h
  rw [List.drop_zero] at this
  rw [this]
  rfl
theorem far_str (f n : ByteArray) (hf : 0 < f.size) (hn : 0 < n.size) : far f.data.toList n.data.toList = (((n[0].toNat : Int) == 36) && (((f[0].toNat : Int) == 43) || ((f[0].toNat : Int) == 35))) := by
  unfold far
  rw [head_str f hf, head_str n hn]
  have e36 : (n[0] == 36) = ((n[0].toNat : Int) == 36) := u8_nat n[0] 36 (by decide)
  have e43 : (f[0] == 43) = ((f[0].toNat : Int) == 43) := u8_nat f[0] 43 (by decide)
  have e35 : (f[0] == 35) = ((f[0].toNat : Int) == 35) := u8_nat f[0] 35 (by decide)
  rw [← e36, ← e43, ← e35]
  rfl

end Go.Proofs.YtlbbaniehkghdabDoor
