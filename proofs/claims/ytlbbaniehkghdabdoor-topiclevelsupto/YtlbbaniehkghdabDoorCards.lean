/-
  DERIVED. GIVEN WITH THE SEED: THE CARDS: each row of YtlbbaniehkghdabDoorRows.lean that lists a variable, with what it lists TIED to the program's text (the seventh form; the later family's looks); each row that meets fmt, with fmt's text TOLD by the authors' own Lean function (tested against real Go, not proved from fmt's source: count such statements apart). THE CARD IS WHAT COUNTS. Prove the row's statement (the work); the ties are given (YtlbbaniehkghdabDoorTie.lean); close each card by the builder's one call (the guide's Derived/Test/ToyasCard.lean, 'card_holds'). Laid BY PROGRAM, IN A SANDBOX (cutbox-door.mjs). By AI agents, Wed Nov 11 2026. No macro, syntax, notation, axiom, sorry.
-/
import Derived.Test.YtlbbaniehkghdabDoorRows
import GoSem.ClaimSeven
namespace Go.Proofs.YtlbbaniehkghdabDoor
namespace Rows

/-- THE TIED CARD OF 'halyardlaw4.TopicLevels'. -/
def topicLevelsCard : Claim7 := { stood := { row := topicLevelsRow, standIns := [], harness := (true, "6982d89d83aa3b51863b47038fa94c770ead8ca52981a178ba8037c61bc999cb"), looks := false }, kinds := [], alts := [], laidByText := true, laidKinds := [.data, .pinned], laidTests := true, laidLooks := .later }
def TopicLevelsCardSaid : Prop := Claim7.holds Tryd.pinned (.plain (OpenSpec.ofChange topicLevelsSpec)) topicLevelsCard

/-- THE TIED CARD OF 'halyardlaw4.TopicBelow'. -/
def topicBelowCard : Claim7 := { stood := { row := topicBelowRow, standIns := [], harness := (true, "6982d89d83aa3b51863b47038fa94c770ead8ca52981a178ba8037c61bc999cb"), looks := false }, kinds := [], alts := [], laidByText := true, laidKinds := [.data, .pinned], laidTests := true, laidLooks := .later }
def TopicBelowCardSaid : Prop := Claim7.holds Tryd.pinned (.plain (OpenSpec.ofChange topicBelowSpec)) topicBelowCard

/-- THE SECOND FORM's CARD OF 'halyardlaw4.TopicLevels'. -/
def topicLevelsUptoCard : Claim7 := { stood := { row := topicLevelsUptoRow, standIns := [], harness := (true, "6982d89d83aa3b51863b47038fa94c770ead8ca52981a178ba8037c61bc999cb"), looks := false }, kinds := [], alts := [], laidByText := true, laidKinds := [.data, .pinned], laidTests := true, laidLooks := .later }
def TopicLevelsUptoCardSaid : Prop := Claim7.holds Tryd.pinned (.plain (OpenSpec.upto topicLevelsSpec)) topicLevelsUptoCard

/-- THE SECOND FORM's CARD OF 'halyardlaw4.TopicBelow'. -/
def topicBelowUptoCard : Claim7 := { stood := { row := topicBelowUptoRow, standIns := [], harness := (true, "6982d89d83aa3b51863b47038fa94c770ead8ca52981a178ba8037c61bc999cb"), looks := false }, kinds := [], alts := [], laidByText := true, laidKinds := [.data, .pinned], laidTests := true, laidLooks := .later }
def TopicBelowUptoCardSaid : Prop := Claim7.holds Tryd.pinned (.plain (OpenSpec.upto topicBelowSpec)) topicBelowUptoCard
end Rows
end Go.Proofs.YtlbbaniehkghdabDoor
