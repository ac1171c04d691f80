/- The document's own disk: what a pick says. -/
import Derived.Test.YtligofmcmjblpaaRspoil
namespace Go.Proofs.Ytligofmcmjblpaa
open Go.RowKit
set_option linter.unusedVariables false
set_option linter.unusedSimpArgs false

theorem wrapU (n : Int) : IntKind.u64.wrap n = n % 18446744073709551616 := by simp [IntKind.wrap_u64]
theorem and62 (x : Int) (h : -9223372036854775808 ≤ x) (h0 : x < 0) : bits .and .u64 (x + 18446744073709551616) 4611686018427387903 = x % 4611686018427387904 := by
  obtain ⟨n, hn⟩ := Int.eq_ofNat_of_zero_le (show 0 ≤ x + 18446744073709551616 by omega)
  have e := u64_and_nat n 4611686018427387903 (by omega) (by decide)
  rw [hn]
  have e2 : n &&& 4611686018427387903 = n % 4611686018427387904 := Nat.and_two_pow_sub_one_eq_mod n 62
  rw [show ((4611686018427387903 : Int)) = ((4611686018427387903 : Nat) : Int) from rfl, e, e2]
  omega

end Go.Proofs.Ytligofmcmjblpaa
