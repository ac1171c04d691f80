/-
  No cell of these rows narrows 'for every input' (looked for: loops, veiled, ifaces, maps, wideKeys, modest, calm, conditions, laid).
  DERIVED. THE GIVEN ROWS OF THIS SEAT. 3 by the template 'for every input the law returns true; each argument reads behind the call as it read before'; 0 by the template 'total and deterministic' (their statements: YtchnjoikjadciabTotals.lean).
  GIVEN WITH THE SEED: the statements are not yours to turn. If you find one false, say at which input.
  Laid BY PROGRAM, IN A SANDBOX (cutbox-rows.mjs): the forced cells as the released guide's own fill.sh prints them over the translation 8bf225fbc3b6056c… (all of the seat's roots in one cut). By AI agents, Wed Nov 11 2026. No macro, syntax, notation, axiom, sorry.
-/
import Derived.Test.YtchnjoikjadciabChecked
import GoSem.Claim
import GoSem.ClaimJoined
import GoSem.ClaimMapViews
import Derived.JoinedTies
import Derived.KernelRfl
namespace Go.Proofs.Ytchnjoikjadciab
/- THE CELL 'sum', in the pinned program and in every row, IS THE sha256 OF THE DUMP (.gsa) THAT YtchnjoikjadciabProg.lean LOADS. Nothing in Lean hashes anything: it is a label: what it is worth is what the hold of that sum in a sandbox is worth. -/
noncomputable def Try.pinned : Pinned := { name := "ytchnjoikjadciab", sum := "8bf225fbc3b6056c0f30639e1304cf8a436580d37779e1c81d6a343d8b7268a3", checked := Try.checked }
namespace Rows
def none {H : Type} : Left H := { results := [], args := [] }

/-- 'halyardlaw1.PhaseSquares': WHATEVER THE INPUT: true; the input reads as it did. -/
def phaseSquaresSpec : ChangeSpec := { name := "phaseSquares", fn := fun _ => fun
  | [d] => { results := [.lit (.bool true)], args := [d] }
  | _ => none }
def phaseSquaresRow : OpenClaim := { program := "ytchnjoikjadciab", sum := "8bf225fbc3b6056c0f30639e1304cf8a436580d37779e1c81d6a343d8b7268a3", func := "halyard/halyardlaw1.PhaseSquares", spec := "phaseSquares", apart := false }
def PhaseSquaresSaid : Prop := phaseSquaresRow.holds Try.pinned (OpenSpec.ofChange phaseSquaresSpec)

/-- ITS FALSE NEIGHBOUR: 'it returns false'. Refute it at one input. -/
def phaseSquaresWrong : ChangeSpec := { name := "phaseSquares", fn := fun _ => fun
  | [d] => { results := [.lit (.bool false)], args := [d] }
  | _ => none }
def PhaseSquaresWrongFalsely : Prop := phaseSquaresRow.holds Try.pinned (OpenSpec.ofChange phaseSquaresWrong)

/-- 'halyardlaw1.PhaseSums': WHATEVER THE INPUT: true; the input reads as it did. -/
def phaseSumsSpec : ChangeSpec := { name := "phaseSums", fn := fun _ => fun
  | [d1, d2, d3] => { results := [.lit (.bool true)], args := [d1, d2, d3] }
  | _ => none }
def phaseSumsRow : OpenClaim := { program := "ytchnjoikjadciab", sum := "8bf225fbc3b6056c0f30639e1304cf8a436580d37779e1c81d6a343d8b7268a3", func := "halyard/halyardlaw1.PhaseSums", spec := "phaseSums", apart := false }
def PhaseSumsSaid : Prop := phaseSumsRow.holds Try.pinned (OpenSpec.ofChange phaseSumsSpec)

/-- ITS FALSE NEIGHBOUR: 'it returns false'. Refute it at one input. -/
def phaseSumsWrong : ChangeSpec := { name := "phaseSums", fn := fun _ => fun
  | [d1, d2, d3] => { results := [.lit (.bool false)], args := [d1, d2, d3] }
  | _ => none }
def PhaseSumsWrongFalsely : Prop := phaseSumsRow.holds Try.pinned (OpenSpec.ofChange phaseSumsWrong)

/-- 'halyardlaw1.PhaseReturns': WHATEVER THE INPUT: true; the input reads as it did. -/
def phaseReturnsSpec : ChangeSpec := { name := "phaseReturns", fn := fun _ => fun
  | [d] => { results := [.lit (.bool true)], args := [d] }
  | _ => none }
def phaseReturnsRow : OpenClaim := { program := "ytchnjoikjadciab", sum := "8bf225fbc3b6056c0f30639e1304cf8a436580d37779e1c81d6a343d8b7268a3", func := "halyard/halyardlaw1.PhaseReturns", spec := "phaseReturns", apart := false }
def PhaseReturnsSaid : Prop := phaseReturnsRow.holds Try.pinned (OpenSpec.ofChange phaseReturnsSpec)

/-- ITS FALSE NEIGHBOUR: 'it returns false'. Refute it at one input. -/
def phaseReturnsWrong : ChangeSpec := { name := "phaseReturns", fn := fun _ => fun
  | [d] => { results := [.lit (.bool false)], args := [d] }
  | _ => none }
def PhaseReturnsWrongFalsely : Prop := phaseReturnsRow.holds Try.pinned (OpenSpec.ofChange phaseReturnsWrong)

/- THE SECOND FORM. 'bulk': how many values and letters a reading holds, each counted each time it is reached (what is shared counts as often as it is met; a slice's spare places count too). A statement '..UptoSaid' is the law's where the arguments, and the package variables that the reading takes, are together of bulk at most 1048576: NARROWER than '..Said'. Prove '..Said' where nothing that the law and all that it calls make is longer than what came in: it says more and counts as full. Else prove '..UptoSaid'. A law counts once. -/
mutual
def uptoBulk {H : Type} : DataW H → Nat
  | .lit (.string bytes) => bytes.length + 1
  | .lit _ => 1
  | .nil => 1
  | .ptr d => uptoBulk d + 1
  | .slice elems spare => uptoBulkAll elems + uptoBulkAll spare + 1
  | .agg parts => uptoBulkAll parts + 1
  | .iface _ d => uptoBulk d + 1
  | .map entries => uptoBulkEntries entries + 1
  | .held _ => 1
def uptoBulkAll {H : Type} : List (DataW H) → Nat
  | [] => 0
  | d :: r => uptoBulk d + uptoBulkAll r
def uptoBulkEntries {H : Type} : List (Lit × DataW H) → Nat
  | [] => 0
  | x :: r => uptoBulkEntry x + uptoBulkEntries r
def uptoBulkEntry {H : Type} : Lit × DataW H → Nat
  | (.string bytes, d) => bytes.length + uptoBulk d + 1
  | (_, d) => uptoBulk d + 1
 end
def uptoSmall : (H : Type) → List (DataW H) → Bool := fun _ ds => decide (uptoBulkAll ds ≤ 1048576)
def OpenSpec.upto (s : _root_.Go.ChangeSpec) : _root_.Go.OpenSpec := { _root_.Go.OpenSpec.ofChange s with cond := some uptoSmall }

/-- 'halyardlaw1.PhaseSquares', WHERE WHAT IT READS IS OF BULK AT MOST 1048576: true; the input reads as it did. -/
def phaseSquaresUptoRow : OpenClaim := { program := "ytchnjoikjadciab", sum := "8bf225fbc3b6056c0f30639e1304cf8a436580d37779e1c81d6a343d8b7268a3", func := "halyard/halyardlaw1.PhaseSquares", spec := "phaseSquares", apart := false, narrowed := true }
def PhaseSquaresUptoSaid : Prop := phaseSquaresUptoRow.holds Try.pinned (OpenSpec.upto phaseSquaresSpec)

/-- 'halyardlaw1.PhaseSums', WHERE WHAT IT READS IS OF BULK AT MOST 1048576: true; the input reads as it did. -/
def phaseSumsUptoRow : OpenClaim := { program := "ytchnjoikjadciab", sum := "8bf225fbc3b6056c0f30639e1304cf8a436580d37779e1c81d6a343d8b7268a3", func := "halyard/halyardlaw1.PhaseSums", spec := "phaseSums", apart := false, narrowed := true }
def PhaseSumsUptoSaid : Prop := phaseSumsUptoRow.holds Try.pinned (OpenSpec.upto phaseSumsSpec)

/-- 'halyardlaw1.PhaseReturns', WHERE WHAT IT READS IS OF BULK AT MOST 1048576: true; the input reads as it did. -/
def phaseReturnsUptoRow : OpenClaim := { program := "ytchnjoikjadciab", sum := "8bf225fbc3b6056c0f30639e1304cf8a436580d37779e1c81d6a343d8b7268a3", func := "halyard/halyardlaw1.PhaseReturns", spec := "phaseReturns", apart := false, narrowed := true }
def PhaseReturnsUptoSaid : Prop := phaseReturnsUptoRow.holds Try.pinned (OpenSpec.upto phaseReturnsSpec)

end Rows
end Go.Proofs.Ytchnjoikjadciab
