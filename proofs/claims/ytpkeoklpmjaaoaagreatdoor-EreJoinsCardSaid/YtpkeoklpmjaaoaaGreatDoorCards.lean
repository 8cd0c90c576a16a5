/-
  DERIVED. GIVEN WITH THE SEED: THE CARDS: each row of YtpkeoklpmjaaoaaGreatDoorRows.lean that lists a variable, with what it lists TIED to the program's text (the seventh form; the later family's looks); each row that meets fmt, with fmt's text TOLD by the authors' own Lean function (tested against real Go, not proved from fmt's source: count such statements apart). THE CARD IS WHAT COUNTS. Prove the row's statement (the work); the ties are given (YtpkeoklpmjaaoaaGreatDoorTie.lean); close each card by the builder's one call (the guide's Derived/Test/ToyasCard.lean, 'card_holds'). Laid BY PROGRAM, IN A SANDBOX (cutbox-door.mjs). By AI agents, Wed Nov 11 2026. No macro, syntax, notation, axiom, sorry.
-/
import Derived.Test.YtpkeoklpmjaaoaaGreatDoorRows
import GoSem.ClaimSeven
namespace Go.Proofs.YtpkeoklpmjaaoaaGreatDoor
namespace Rows

/-- THE TIED CARD OF 'trawllaw06.EreParses'. -/
def ereParsesCard : Claim7 := { stood := { row := ereParsesRow, standIns := [], harness := (true, "a169df4794d658fe2283133882c014702bd4af052cdb5c85ce509365927e589c"), looks := true }, kinds := [], alts := [], laidByText := true, laidKinds := [.handle, .sentinel, .sentinel, .sentinel, .sentinel, .sentinel, .sentinel, .sentinel, .sentinel, .sentinel, .sentinel, .sentinel, .sentinel, .sentinel, .sentinel, .sentinel, .sentinel, .sentinel, .sentinel, .sentinel, .sentinel, .sentinel], laidTests := true, laidLooks := .later }
def EreParsesCardSaid : Prop := Claim7.holds Tryz.pinned (.plain (OpenSpec.ofChange ereParsesSpec)) ereParsesCard

/-- THE TIED CARD OF 'trawllaw06.EreRight'. -/
def ereRightCard : Claim7 := { stood := { row := ereRightRow, standIns := [], harness := (true, "a169df4794d658fe2283133882c014702bd4af052cdb5c85ce509365927e589c"), looks := true }, kinds := [], alts := [], laidByText := true, laidKinds := [.handle, .sentinel, .sentinel, .sentinel, .sentinel, .sentinel, .sentinel, .sentinel, .sentinel, .sentinel, .sentinel, .sentinel, .sentinel, .sentinel, .sentinel, .sentinel, .sentinel, .sentinel, .sentinel, .sentinel, .sentinel, .sentinel], laidTests := true, laidLooks := .later }
def EreRightCardSaid : Prop := Claim7.holds Tryz.pinned (.plain (OpenSpec.ofChange ereRightSpec)) ereRightCard

/-- THE TIED CARD OF 'trawllaw06.EreJoins'. -/
def ereJoinsCard : Claim7 := { stood := { row := ereJoinsRow, standIns := [], harness := (true, "a169df4794d658fe2283133882c014702bd4af052cdb5c85ce509365927e589c"), looks := true }, kinds := [], alts := [], laidByText := true, laidKinds := [.handle, .sentinel, .sentinel, .sentinel, .sentinel, .sentinel, .sentinel, .sentinel, .sentinel, .sentinel, .sentinel, .sentinel, .sentinel, .sentinel, .sentinel, .sentinel, .sentinel, .sentinel, .sentinel, .sentinel, .sentinel, .sentinel], laidTests := true, laidLooks := .later }
def EreJoinsCardSaid : Prop := Claim7.holds Tryz.pinned (.plain (OpenSpec.ofChange ereJoinsSpec)) ereJoinsCard

/-- THE TIED CARD OF 'trawllaw06.EreEscapes'. -/
def ereEscapesCard : Claim7 := { stood := { row := ereEscapesRow, standIns := [], harness := (true, "a169df4794d658fe2283133882c014702bd4af052cdb5c85ce509365927e589c"), looks := true }, kinds := [], alts := [], laidByText := true, laidKinds := [.handle, .sentinel, .sentinel, .sentinel, .sentinel, .sentinel, .sentinel, .sentinel, .sentinel, .sentinel, .sentinel, .sentinel, .sentinel, .sentinel, .sentinel, .sentinel, .sentinel, .sentinel, .sentinel, .sentinel, .sentinel, .sentinel], laidTests := true, laidLooks := .later }
def EreEscapesCardSaid : Prop := Claim7.holds Tryz.pinned (.plain (OpenSpec.ofChange ereEscapesSpec)) ereEscapesCard

/-- THE SECOND FORM's CARD OF 'trawllaw06.EreParses'. -/
def ereParsesUptoCard : Claim7 := { stood := { row := ereParsesUptoRow, standIns := [], harness := (true, "a169df4794d658fe2283133882c014702bd4af052cdb5c85ce509365927e589c"), looks := true }, kinds := [], alts := [], laidByText := true, laidKinds := [.handle, .sentinel, .sentinel, .sentinel, .sentinel, .sentinel, .sentinel, .sentinel, .sentinel, .sentinel, .sentinel, .sentinel, .sentinel, .sentinel, .sentinel, .sentinel, .sentinel, .sentinel, .sentinel, .sentinel, .sentinel, .sentinel], laidTests := true, laidLooks := .later }
def EreParsesUptoCardSaid : Prop := Claim7.holds Tryz.pinned (.plain (OpenSpec.upto ereParsesSpec)) ereParsesUptoCard

/-- THE SECOND FORM's CARD OF 'trawllaw06.EreRight'. -/
def ereRightUptoCard : Claim7 := { stood := { row := ereRightUptoRow, standIns := [], harness := (true, "a169df4794d658fe2283133882c014702bd4af052cdb5c85ce509365927e589c"), looks := true }, kinds := [], alts := [], laidByText := true, laidKinds := [.handle, .sentinel, .sentinel, .sentinel, .sentinel, .sentinel, .sentinel, .sentinel, .sentinel, .sentinel, .sentinel, .sentinel, .sentinel, .sentinel, .sentinel, .sentinel, .sentinel, .sentinel, .sentinel, .sentinel, .sentinel, .sentinel], laidTests := true, laidLooks := .later }
def EreRightUptoCardSaid : Prop := Claim7.holds Tryz.pinned (.plain (OpenSpec.upto ereRightSpec)) ereRightUptoCard

/-- THE SECOND FORM's CARD OF 'trawllaw06.EreJoins'. -/
def ereJoinsUptoCard : Claim7 := { stood := { row := ereJoinsUptoRow, standIns := [], harness := (true, "a169df4794d658fe2283133882c014702bd4af052cdb5c85ce509365927e589c"), looks := true }, kinds := [], alts := [], laidByText := true, laidKinds := [.handle, .sentinel, .sentinel, .sentinel, .sentinel, .sentinel, .sentinel, .sentinel, .sentinel, .sentinel, .sentinel, .sentinel, .sentinel, .sentinel, .sentinel, .sentinel, .sentinel, .sentinel, .sentinel, .sentinel, .sentinel, .sentinel], laidTests := true, laidLooks := .later }
def EreJoinsUptoCardSaid : Prop := Claim7.holds Tryz.pinned (.plain (OpenSpec.upto ereJoinsSpec)) ereJoinsUptoCard

/-- THE SECOND FORM's CARD OF 'trawllaw06.EreEscapes'. -/
def ereEscapesUptoCard : Claim7 := { stood := { row := ereEscapesUptoRow, standIns := [], harness := (true, "a169df4794d658fe2283133882c014702bd4af052cdb5c85ce509365927e589c"), looks := true }, kinds := [], alts := [], laidByText := true, laidKinds := [.handle, .sentinel, .sentinel, .sentinel, .sentinel, .sentinel, .sentinel, .sentinel, .sentinel, .sentinel, .sentinel, .sentinel, .sentinel, .sentinel, .sentinel, .sentinel, .sentinel, .sentinel, .sentinel, .sentinel, .sentinel, .sentinel], laidTests := true, laidLooks := .later }
def EreEscapesUptoCardSaid : Prop := Claim7.holds Tryz.pinned (.plain (OpenSpec.upto ereEscapesSpec)) ereEscapesUptoCard
end Rows
end Go.Proofs.YtpkeoklpmjaaoaaGreatDoor
