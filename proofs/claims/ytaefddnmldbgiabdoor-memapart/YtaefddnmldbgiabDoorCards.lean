/-
  DERIVED. GIVEN WITH THE SEED: THE CARDS: each row of YtaefddnmldbgiabDoorRows.lean that lists a variable, with what it lists TIED to the program's text (the seventh form; the later family's looks); each row that meets fmt, with fmt's text TOLD by the authors' own Lean function (tested against real Go, not proved from fmt's source: count such statements apart). THE CARD IS WHAT COUNTS. Prove the row's statement (the work); the ties are given (YtaefddnmldbgiabDoorTie.lean); close each card by the builder's one call (the guide's Derived/Test/ToyasCard.lean, 'card_holds'). Laid BY PROGRAM, IN A SANDBOX (cutbox-door.mjs). By AI agents, Wed Nov 11 2026. No macro, syntax, notation, axiom, sorry.
-/
import Derived.Test.YtaefddnmldbgiabDoorRows
import GoSem.ClaimSeven
namespace Go.Proofs.YtaefddnmldbgiabDoor
namespace Rows

/-- THE TIED CARD OF 'halyardlaw9.MemLatest'. -/
def memLatestCard : Claim7 := { stood := { row := memLatestRow, standIns := [], harness := (true, "e30f5e4e1041c198e8e5512af94e3571b1fa4a12a8ae96eb056cf32cbb4415b5"), looks := false }, kinds := [], alts := [], laidByText := true, laidKinds := [.data], laidTests := true, laidLooks := .later }
def MemLatestCardSaid : Prop := Claim7.holds Tryd.pinned (.plain (OpenSpec.ofChange memLatestSpec)) memLatestCard

/-- THE TIED CARD OF 'halyardlaw9.MemApart'. -/
def memApartCard : Claim7 := { stood := { row := memApartRow, standIns := [], harness := (true, "e30f5e4e1041c198e8e5512af94e3571b1fa4a12a8ae96eb056cf32cbb4415b5"), looks := false }, kinds := [], alts := [], laidByText := true, laidKinds := [.data], laidTests := true, laidLooks := .later }
def MemApartCardSaid : Prop := Claim7.holds Tryd.pinned (.plain (OpenSpec.ofChange memApartSpec)) memApartCard

/-- THE SECOND FORM's CARD OF 'halyardlaw9.MemLatest'. -/
def memLatestUptoCard : Claim7 := { stood := { row := memLatestUptoRow, standIns := [], harness := (true, "e30f5e4e1041c198e8e5512af94e3571b1fa4a12a8ae96eb056cf32cbb4415b5"), looks := false }, kinds := [], alts := [], laidByText := true, laidKinds := [.data], laidTests := true, laidLooks := .later }
def MemLatestUptoCardSaid : Prop := Claim7.holds Tryd.pinned (.plain (OpenSpec.upto memLatestSpec)) memLatestUptoCard

/-- THE SECOND FORM's CARD OF 'halyardlaw9.MemApart'. -/
def memApartUptoCard : Claim7 := { stood := { row := memApartUptoRow, standIns := [], harness := (true, "e30f5e4e1041c198e8e5512af94e3571b1fa4a12a8ae96eb056cf32cbb4415b5"), looks := false }, kinds := [], alts := [], laidByText := true, laidKinds := [.data], laidTests := true, laidLooks := .later }
def MemApartUptoCardSaid : Prop := Claim7.holds Tryd.pinned (.plain (OpenSpec.upto memApartSpec)) memApartUptoCard
end Rows
end Go.Proofs.YtaefddnmldbgiabDoor
