/-
  DERIVED. GIVEN WITH THE SEED: THE CARDS: each row of YtaefddnmldbgiaaDoorRows.lean that lists a variable, with what it lists TIED to the program's text (the seventh form; the later family's looks); each row that meets fmt, with fmt's text TOLD by the authors' own Lean function (tested against real Go, not proved from fmt's source: count such statements apart). THE CARD IS WHAT COUNTS. Prove the row's statement (the work); the ties are given (YtaefddnmldbgiaaDoorTie.lean); close each card by the builder's one call (the guide's Derived/Test/ToyasCard.lean, 'card_holds'). Laid BY PROGRAM, IN A SANDBOX (cutbox-door.mjs). By AI agents, Wed Nov 11 2026. No macro, syntax, notation, axiom, sorry.
-/
import Derived.Test.YtaefddnmldbgiaaDoorRows
import GoSem.ClaimSeven
namespace Go.Proofs.YtaefddnmldbgiaaDoor
namespace Rows

/-- THE TIED CARD OF 'halyardlaw9.MemAdds'. -/
def memAddsCard : Claim7 := { stood := { row := memAddsRow, standIns := [], harness := (true, "e96807a5f63df29ee2161462b356e7599a0f7c314e99f1ccc4c7038fef50b996"), looks := false }, kinds := [], alts := [], laidByText := true, laidKinds := [.data], laidTests := true, laidLooks := .later }
def MemAddsCardSaid : Prop := Claim7.holds Tryd.pinned (.plain (OpenSpec.ofChange memAddsSpec)) memAddsCard

/-- THE TIED CARD OF 'halyardlaw9.MemGets'. -/
def memGetsCard : Claim7 := { stood := { row := memGetsRow, standIns := [], harness := (true, "e96807a5f63df29ee2161462b356e7599a0f7c314e99f1ccc4c7038fef50b996"), looks := false }, kinds := [], alts := [], laidByText := true, laidKinds := [.data], laidTests := true, laidLooks := .later }
def MemGetsCardSaid : Prop := Claim7.holds Tryd.pinned (.plain (OpenSpec.ofChange memGetsSpec)) memGetsCard

/-- THE TIED CARD OF 'halyardlaw9.MemLists'. -/
def memListsCard : Claim7 := { stood := { row := memListsRow, standIns := [], harness := (true, "e96807a5f63df29ee2161462b356e7599a0f7c314e99f1ccc4c7038fef50b996"), looks := false }, kinds := [], alts := [], laidByText := true, laidKinds := [.data], laidTests := true, laidLooks := .later }
def MemListsCardSaid : Prop := Claim7.holds Tryd.pinned (.plain (OpenSpec.ofChange memListsSpec)) memListsCard

/-- THE TIED CARD OF 'halyardlaw9.MemNil'. -/
def memNilCard : Claim7 := { stood := { row := memNilRow, standIns := [], harness := (true, "e96807a5f63df29ee2161462b356e7599a0f7c314e99f1ccc4c7038fef50b996"), looks := false }, kinds := [], alts := [], laidByText := true, laidKinds := [.data], laidTests := true, laidLooks := .later }
def MemNilCardSaid : Prop := Claim7.holds Tryd.pinned (.plain (OpenSpec.ofChange memNilSpec)) memNilCard

/-- THE TIED CARD OF 'halyardlaw9.MemTurned'. -/
def memTurnedCard : Claim7 := { stood := { row := memTurnedRow, standIns := [], harness := (true, "e96807a5f63df29ee2161462b356e7599a0f7c314e99f1ccc4c7038fef50b996"), looks := false }, kinds := [], alts := [], laidByText := true, laidKinds := [.data], laidTests := true, laidLooks := .later }
def MemTurnedCardSaid : Prop := Claim7.holds Tryd.pinned (.plain (OpenSpec.ofChange memTurnedSpec)) memTurnedCard

/-- THE TIED CARD OF 'halyardlaw9.MemCuts'. -/
def memCutsCard : Claim7 := { stood := { row := memCutsRow, standIns := [], harness := (true, "e96807a5f63df29ee2161462b356e7599a0f7c314e99f1ccc4c7038fef50b996"), looks := false }, kinds := [], alts := [], laidByText := true, laidKinds := [.data], laidTests := true, laidLooks := .later }
def MemCutsCardSaid : Prop := Claim7.holds Tryd.pinned (.plain (OpenSpec.ofChange memCutsSpec)) memCutsCard

/-- THE SECOND FORM's CARD OF 'halyardlaw9.MemAdds'. -/
def memAddsUptoCard : Claim7 := { stood := { row := memAddsUptoRow, standIns := [], harness := (true, "e96807a5f63df29ee2161462b356e7599a0f7c314e99f1ccc4c7038fef50b996"), looks := false }, kinds := [], alts := [], laidByText := true, laidKinds := [.data], laidTests := true, laidLooks := .later }
def MemAddsUptoCardSaid : Prop := Claim7.holds Tryd.pinned (.plain (OpenSpec.upto memAddsSpec)) memAddsUptoCard

/-- THE SECOND FORM's CARD OF 'halyardlaw9.MemGets'. -/
def memGetsUptoCard : Claim7 := { stood := { row := memGetsUptoRow, standIns := [], harness := (true, "e96807a5f63df29ee2161462b356e7599a0f7c314e99f1ccc4c7038fef50b996"), looks := false }, kinds := [], alts := [], laidByText := true, laidKinds := [.data], laidTests := true, laidLooks := .later }
def MemGetsUptoCardSaid : Prop := Claim7.holds Tryd.pinned (.plain (OpenSpec.upto memGetsSpec)) memGetsUptoCard

/-- THE SECOND FORM's CARD OF 'halyardlaw9.MemLists'. -/
def memListsUptoCard : Claim7 := { stood := { row := memListsUptoRow, standIns := [], harness := (true, "e96807a5f63df29ee2161462b356e7599a0f7c314e99f1ccc4c7038fef50b996"), looks := false }, kinds := [], alts := [], laidByText := true, laidKinds := [.data], laidTests := true, laidLooks := .later }
def MemListsUptoCardSaid : Prop := Claim7.holds Tryd.pinned (.plain (OpenSpec.upto memListsSpec)) memListsUptoCard

/-- THE SECOND FORM's CARD OF 'halyardlaw9.MemNil'. -/
def memNilUptoCard : Claim7 := { stood := { row := memNilUptoRow, standIns := [], harness := (true, "e96807a5f63df29ee2161462b356e7599a0f7c314e99f1ccc4c7038fef50b996"), looks := false }, kinds := [], alts := [], laidByText := true, laidKinds := [.data], laidTests := true, laidLooks := .later }
def MemNilUptoCardSaid : Prop := Claim7.holds Tryd.pinned (.plain (OpenSpec.upto memNilSpec)) memNilUptoCard

/-- THE SECOND FORM's CARD OF 'halyardlaw9.MemTurned'. -/
def memTurnedUptoCard : Claim7 := { stood := { row := memTurnedUptoRow, standIns := [], harness := (true, "e96807a5f63df29ee2161462b356e7599a0f7c314e99f1ccc4c7038fef50b996"), looks := false }, kinds := [], alts := [], laidByText := true, laidKinds := [.data], laidTests := true, laidLooks := .later }
def MemTurnedUptoCardSaid : Prop := Claim7.holds Tryd.pinned (.plain (OpenSpec.upto memTurnedSpec)) memTurnedUptoCard

/-- THE SECOND FORM's CARD OF 'halyardlaw9.MemCuts'. -/
def memCutsUptoCard : Claim7 := { stood := { row := memCutsUptoRow, standIns := [], harness := (true, "e96807a5f63df29ee2161462b356e7599a0f7c314e99f1ccc4c7038fef50b996"), looks := false }, kinds := [], alts := [], laidByText := true, laidKinds := [.data], laidTests := true, laidLooks := .later }
def MemCutsUptoCardSaid : Prop := Claim7.holds Tryd.pinned (.plain (OpenSpec.upto memCutsSpec)) memCutsUptoCard
end Rows
end Go.Proofs.YtaefddnmldbgiaaDoor
