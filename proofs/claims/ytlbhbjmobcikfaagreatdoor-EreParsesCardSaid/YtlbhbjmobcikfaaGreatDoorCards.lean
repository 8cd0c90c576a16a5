/-
  DERIVED. GIVEN WITH THE SEED: THE CARDS: each row of YtlbhbjmobcikfaaGreatDoorRows.lean that lists a variable, with what it lists TIED to the program's text (the seventh form; the later family's looks); each row that meets fmt, with fmt's text TOLD by the authors' own Lean function (tested against real Go, not proved from fmt's source: count such statements apart). THE CARD IS WHAT COUNTS. Prove the row's statement (the work); the ties are given (YtlbhbjmobcikfaaGreatDoorTie.lean); close each card by the builder's one call (the guide's Derived/Test/ToyasCard.lean, 'card_holds'). Laid BY PROGRAM, IN A SANDBOX (cutbox-door.mjs). By AI agents, Wed Nov 11 2026. No macro, syntax, notation, axiom, sorry.
-/
import Derived.Test.YtlbhbjmobcikfaaGreatDoorRows
import GoSem.ClaimSeven
namespace Go.Proofs.YtlbhbjmobcikfaaGreatDoor
namespace Rows

/-- THE TIED CARD OF 'trawllaw06.EreParses'. -/
def ereParsesCard : Claim7 := { stood := { row := ereParsesRow, standIns := [], harness := (true, "78f4d23ead63ab15431dfd0155fe30f083a6af0f29927975bef98ae4c12d9f6b"), looks := true }, kinds := [], alts := [], laidByText := true, laidKinds := [.handle, .sentinel, .sentinel, .sentinel, .sentinel, .sentinel, .sentinel, .sentinel, .sentinel, .sentinel, .sentinel, .sentinel, .sentinel, .sentinel, .sentinel, .sentinel, .sentinel, .sentinel, .sentinel, .sentinel, .sentinel, .sentinel], laidTests := true, laidLooks := .later }
def EreParsesCardSaid : Prop := Claim7.holds Tryz.pinned (.plain (OpenSpec.ofChange ereParsesSpec)) ereParsesCard

/-- THE TIED CARD OF 'trawllaw06.EreRight'. -/
def ereRightCard : Claim7 := { stood := { row := ereRightRow, standIns := [], harness := (true, "78f4d23ead63ab15431dfd0155fe30f083a6af0f29927975bef98ae4c12d9f6b"), looks := true }, kinds := [], alts := [], laidByText := true, laidKinds := [.handle, .sentinel, .sentinel, .sentinel, .sentinel, .sentinel, .sentinel, .sentinel, .sentinel, .sentinel, .sentinel, .sentinel, .sentinel, .sentinel, .sentinel, .sentinel, .sentinel, .sentinel, .sentinel, .sentinel, .sentinel, .sentinel], laidTests := true, laidLooks := .later }
def EreRightCardSaid : Prop := Claim7.holds Tryz.pinned (.plain (OpenSpec.ofChange ereRightSpec)) ereRightCard

/-- THE TIED CARD OF 'trawllaw06.EreJoins'. -/
def ereJoinsCard : Claim7 := { stood := { row := ereJoinsRow, standIns := [], harness := (true, "78f4d23ead63ab15431dfd0155fe30f083a6af0f29927975bef98ae4c12d9f6b"), looks := true }, kinds := [], alts := [], laidByText := true, laidKinds := [.handle, .sentinel, .sentinel, .sentinel, .sentinel, .sentinel, .sentinel, .sentinel, .sentinel, .sentinel, .sentinel, .sentinel, .sentinel, .sentinel, .sentinel, .sentinel, .sentinel, .sentinel, .sentinel, .sentinel, .sentinel, .sentinel], laidTests := true, laidLooks := .later }
def EreJoinsCardSaid : Prop := Claim7.holds Tryz.pinned (.plain (OpenSpec.ofChange ereJoinsSpec)) ereJoinsCard

/-- THE TIED CARD OF 'trawllaw06.EreEscapes'. -/
def ereEscapesCard : Claim7 := { stood := { row := ereEscapesRow, standIns := [], harness := (true, "78f4d23ead63ab15431dfd0155fe30f083a6af0f29927975bef98ae4c12d9f6b"), looks := true }, kinds := [], alts := [], laidByText := true, laidKinds := [.handle, .sentinel, .sentinel, .sentinel, .sentinel, .sentinel, .sentinel, .sentinel, .sentinel, .sentinel, .sentinel, .sentinel, .sentinel, .sentinel, .sentinel, .sentinel, .sentinel, .sentinel, .sentinel, .sentinel, .sentinel, .sentinel], laidTests := true, laidLooks := .later }
def EreEscapesCardSaid : Prop := Claim7.holds Tryz.pinned (.plain (OpenSpec.ofChange ereEscapesSpec)) ereEscapesCard

/-- THE TIED CARD OF 'trawllaw07.BreParses'. -/
def breParsesCard : Claim7 := { stood := { row := breParsesRow, standIns := [], harness := (true, "78f4d23ead63ab15431dfd0155fe30f083a6af0f29927975bef98ae4c12d9f6b"), looks := true }, kinds := [], alts := [], laidByText := true, laidKinds := [.handle, .sentinel, .sentinel, .sentinel, .sentinel, .sentinel, .sentinel, .sentinel, .sentinel, .sentinel, .sentinel, .sentinel, .sentinel, .sentinel, .sentinel, .sentinel, .sentinel, .sentinel, .sentinel, .sentinel, .sentinel, .sentinel], laidTests := true, laidLooks := .later }
def BreParsesCardSaid : Prop := Claim7.holds Tryz.pinned (.plain (OpenSpec.ofChange breParsesSpec)) breParsesCard

/-- THE TIED CARD OF 'trawllaw07.BreRight'. -/
def breRightCard : Claim7 := { stood := { row := breRightRow, standIns := [], harness := (true, "78f4d23ead63ab15431dfd0155fe30f083a6af0f29927975bef98ae4c12d9f6b"), looks := true }, kinds := [], alts := [], laidByText := true, laidKinds := [.handle, .sentinel, .sentinel, .sentinel, .sentinel, .sentinel, .sentinel, .sentinel, .sentinel, .sentinel, .sentinel, .sentinel, .sentinel, .sentinel, .sentinel, .sentinel, .sentinel, .sentinel, .sentinel, .sentinel, .sentinel, .sentinel], laidTests := true, laidLooks := .later }
def BreRightCardSaid : Prop := Claim7.holds Tryz.pinned (.plain (OpenSpec.ofChange breRightSpec)) breRightCard

/-- THE TIED CARD OF 'trawllaw07.BreGroups'. -/
def breGroupsCard : Claim7 := { stood := { row := breGroupsRow, standIns := [], harness := (true, "78f4d23ead63ab15431dfd0155fe30f083a6af0f29927975bef98ae4c12d9f6b"), looks := true }, kinds := [], alts := [], laidByText := true, laidKinds := [.handle, .sentinel, .sentinel, .sentinel, .sentinel, .sentinel, .sentinel, .sentinel, .sentinel, .sentinel, .sentinel, .sentinel, .sentinel, .sentinel, .sentinel, .sentinel, .sentinel, .sentinel, .sentinel, .sentinel, .sentinel, .sentinel], laidTests := true, laidLooks := .later }
def BreGroupsCardSaid : Prop := Claim7.holds Tryz.pinned (.plain (OpenSpec.ofChange breGroupsSpec)) breGroupsCard

/-- THE TIED CARD OF 'trawllaw07.BreLetters'. -/
def breLettersCard : Claim7 := { stood := { row := breLettersRow, standIns := [], harness := (true, "78f4d23ead63ab15431dfd0155fe30f083a6af0f29927975bef98ae4c12d9f6b"), looks := true }, kinds := [], alts := [], laidByText := true, laidKinds := [.handle, .sentinel, .sentinel, .sentinel, .sentinel, .sentinel, .sentinel, .sentinel, .sentinel, .sentinel, .sentinel, .sentinel, .sentinel, .sentinel, .sentinel, .sentinel, .sentinel, .sentinel, .sentinel, .sentinel, .sentinel, .sentinel], laidTests := true, laidLooks := .later }
def BreLettersCardSaid : Prop := Claim7.holds Tryz.pinned (.plain (OpenSpec.ofChange breLettersSpec)) breLettersCard

/-- THE SECOND FORM's CARD OF 'trawllaw06.EreParses'. -/
def ereParsesUptoCard : Claim7 := { stood := { row := ereParsesUptoRow, standIns := [], harness := (true, "78f4d23ead63ab15431dfd0155fe30f083a6af0f29927975bef98ae4c12d9f6b"), looks := true }, kinds := [], alts := [], laidByText := true, laidKinds := [.handle, .sentinel, .sentinel, .sentinel, .sentinel, .sentinel, .sentinel, .sentinel, .sentinel, .sentinel, .sentinel, .sentinel, .sentinel, .sentinel, .sentinel, .sentinel, .sentinel, .sentinel, .sentinel, .sentinel, .sentinel, .sentinel], laidTests := true, laidLooks := .later }
def EreParsesUptoCardSaid : Prop := Claim7.holds Tryz.pinned (.plain (OpenSpec.upto ereParsesSpec)) ereParsesUptoCard

/-- THE SECOND FORM's CARD OF 'trawllaw06.EreRight'. -/
def ereRightUptoCard : Claim7 := { stood := { row := ereRightUptoRow, standIns := [], harness := (true, "78f4d23ead63ab15431dfd0155fe30f083a6af0f29927975bef98ae4c12d9f6b"), looks := true }, kinds := [], alts := [], laidByText := true, laidKinds := [.handle, .sentinel, .sentinel, .sentinel, .sentinel, .sentinel, .sentinel, .sentinel, .sentinel, .sentinel, .sentinel, .sentinel, .sentinel, .sentinel, .sentinel, .sentinel, .sentinel, .sentinel, .sentinel, .sentinel, .sentinel, .sentinel], laidTests := true, laidLooks := .later }
def EreRightUptoCardSaid : Prop := Claim7.holds Tryz.pinned (.plain (OpenSpec.upto ereRightSpec)) ereRightUptoCard

/-- THE SECOND FORM's CARD OF 'trawllaw06.EreJoins'. -/
def ereJoinsUptoCard : Claim7 := { stood := { row := ereJoinsUptoRow, standIns := [], harness := (true, "78f4d23ead63ab15431dfd0155fe30f083a6af0f29927975bef98ae4c12d9f6b"), looks := true }, kinds := [], alts := [], laidByText := true, laidKinds := [.handle, .sentinel, .sentinel, .sentinel, .sentinel, .sentinel, .sentinel, .sentinel, .sentinel, .sentinel, .sentinel, .sentinel, .sentinel, .sentinel, .sentinel, .sentinel, .sentinel, .sentinel, .sentinel, .sentinel, .sentinel, .sentinel], laidTests := true, laidLooks := .later }
def EreJoinsUptoCardSaid : Prop := Claim7.holds Tryz.pinned (.plain (OpenSpec.upto ereJoinsSpec)) ereJoinsUptoCard

/-- THE SECOND FORM's CARD OF 'trawllaw06.EreEscapes'. -/
def ereEscapesUptoCard : Claim7 := { stood := { row := ereEscapesUptoRow, standIns := [], harness := (true, "78f4d23ead63ab15431dfd0155fe30f083a6af0f29927975bef98ae4c12d9f6b"), looks := true }, kinds := [], alts := [], laidByText := true, laidKinds := [.handle, .sentinel, .sentinel, .sentinel, .sentinel, .sentinel, .sentinel, .sentinel, .sentinel, .sentinel, .sentinel, .sentinel, .sentinel, .sentinel, .sentinel, .sentinel, .sentinel, .sentinel, .sentinel, .sentinel, .sentinel, .sentinel], laidTests := true, laidLooks := .later }
def EreEscapesUptoCardSaid : Prop := Claim7.holds Tryz.pinned (.plain (OpenSpec.upto ereEscapesSpec)) ereEscapesUptoCard

/-- THE SECOND FORM's CARD OF 'trawllaw07.BreParses'. -/
def breParsesUptoCard : Claim7 := { stood := { row := breParsesUptoRow, standIns := [], harness := (true, "78f4d23ead63ab15431dfd0155fe30f083a6af0f29927975bef98ae4c12d9f6b"), looks := true }, kinds := [], alts := [], laidByText := true, laidKinds := [.handle, .sentinel, .sentinel, .sentinel, .sentinel, .sentinel, .sentinel, .sentinel, .sentinel, .sentinel, .sentinel, .sentinel, .sentinel, .sentinel, .sentinel, .sentinel, .sentinel, .sentinel, .sentinel, .sentinel, .sentinel, .sentinel], laidTests := true, laidLooks := .later }
def BreParsesUptoCardSaid : Prop := Claim7.holds Tryz.pinned (.plain (OpenSpec.upto breParsesSpec)) breParsesUptoCard

/-- THE SECOND FORM's CARD OF 'trawllaw07.BreRight'. -/
def breRightUptoCard : Claim7 := { stood := { row := breRightUptoRow, standIns := [], harness := (true, "78f4d23ead63ab15431dfd0155fe30f083a6af0f29927975bef98ae4c12d9f6b"), looks := true }, kinds := [], alts := [], laidByText := true, laidKinds := [.handle, .sentinel, .sentinel, .sentinel, .sentinel, .sentinel, .sentinel, .sentinel, .sentinel, .sentinel, .sentinel, .sentinel, .sentinel, .sentinel, .sentinel, .sentinel, .sentinel, .sentinel, .sentinel, .sentinel, .sentinel, .sentinel], laidTests := true, laidLooks := .later }
def BreRightUptoCardSaid : Prop := Claim7.holds Tryz.pinned (.plain (OpenSpec.upto breRightSpec)) breRightUptoCard

/-- THE SECOND FORM's CARD OF 'trawllaw07.BreGroups'. -/
def breGroupsUptoCard : Claim7 := { stood := { row := breGroupsUptoRow, standIns := [], harness := (true, "78f4d23ead63ab15431dfd0155fe30f083a6af0f29927975bef98ae4c12d9f6b"), looks := true }, kinds := [], alts := [], laidByText := true, laidKinds := [.handle, .sentinel, .sentinel, .sentinel, .sentinel, .sentinel, .sentinel, .sentinel, .sentinel, .sentinel, .sentinel, .sentinel, .sentinel, .sentinel, .sentinel, .sentinel, .sentinel, .sentinel, .sentinel, .sentinel, .sentinel, .sentinel], laidTests := true, laidLooks := .later }
def BreGroupsUptoCardSaid : Prop := Claim7.holds Tryz.pinned (.plain (OpenSpec.upto breGroupsSpec)) breGroupsUptoCard

/-- THE SECOND FORM's CARD OF 'trawllaw07.BreLetters'. -/
def breLettersUptoCard : Claim7 := { stood := { row := breLettersUptoRow, standIns := [], harness := (true, "78f4d23ead63ab15431dfd0155fe30f083a6af0f29927975bef98ae4c12d9f6b"), looks := true }, kinds := [], alts := [], laidByText := true, laidKinds := [.handle, .sentinel, .sentinel, .sentinel, .sentinel, .sentinel, .sentinel, .sentinel, .sentinel, .sentinel, .sentinel, .sentinel, .sentinel, .sentinel, .sentinel, .sentinel, .sentinel, .sentinel, .sentinel, .sentinel, .sentinel, .sentinel], laidTests := true, laidLooks := .later }
def BreLettersUptoCardSaid : Prop := Claim7.holds Tryz.pinned (.plain (OpenSpec.upto breLettersSpec)) breLettersUptoCard
end Rows
end Go.Proofs.YtlbhbjmobcikfaaGreatDoor
