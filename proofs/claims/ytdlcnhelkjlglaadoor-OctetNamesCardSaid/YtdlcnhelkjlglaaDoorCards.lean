/-
  DERIVED. GIVEN WITH THE SEED: THE CARDS: each row of YtdlcnhelkjlglaaDoorRows.lean that lists a variable, with what it lists TIED to the program's text (the seventh form; the later family's looks); each row that meets fmt, with fmt's text TOLD by the authors' own Lean function (tested against real Go, not proved from fmt's source: count such statements apart). THE CARD IS WHAT COUNTS. Prove the row's statement (the work); the ties are given (YtdlcnhelkjlglaaDoorTie.lean); close each card by the builder's one call (the guide's Derived/Test/ToyasCard.lean, 'card_holds'). Laid BY PROGRAM, IN A SANDBOX (cutbox-door.mjs). By AI agents, Wed Nov 11 2026. No macro, syntax, notation, axiom, sorry.
-/
import Derived.Test.YtdlcnhelkjlglaaDoorRows
import GoSem.ClaimSeven
namespace Go.Proofs.YtdlcnhelkjlglaaDoor
namespace Rows

/-- THE TIED CARD OF 'trawllaw01.OctetMakes'. -/
def octetMakesCard : Claim7 := { stood := { row := octetMakesRow, standIns := [], harness := (true, "41802173b2d790053fcb1301ce51326a22c507772a35fdb674fd5b625e322b71"), looks := true }, kinds := [], alts := [], laidByText := true, laidKinds := [.data], laidTests := true, laidLooks := .later }
def OctetMakesCardSaid : Prop := Claim7.holds Tryd.pinned (.plain (OpenSpec.ofChange octetMakesSpec)) octetMakesCard

/-- THE TIED CARD OF 'trawllaw01.OctetRows'. -/
def octetRowsCard : Claim7 := { stood := { row := octetRowsRow, standIns := [], harness := (true, "41802173b2d790053fcb1301ce51326a22c507772a35fdb674fd5b625e322b71"), looks := true }, kinds := [], alts := [], laidByText := true, laidKinds := [.data], laidTests := true, laidLooks := .later }
def OctetRowsCardSaid : Prop := Claim7.holds Tryd.pinned (.plain (OpenSpec.ofChange octetRowsSpec)) octetRowsCard

/-- THE TIED CARD OF 'trawllaw01.OctetAlgebra'. -/
def octetAlgebraCard : Claim7 := { stood := { row := octetAlgebraRow, standIns := [], harness := (true, "41802173b2d790053fcb1301ce51326a22c507772a35fdb674fd5b625e322b71"), looks := true }, kinds := [], alts := [], laidByText := true, laidKinds := [.data], laidTests := true, laidLooks := .later }
def OctetAlgebraCardSaid : Prop := Claim7.holds Tryd.pinned (.plain (OpenSpec.ofChange octetAlgebraSpec)) octetAlgebraCard

/-- THE TIED CARD OF 'trawllaw01.OctetNames'. -/
def octetNamesCard : Claim7 := { stood := { row := octetNamesRow, standIns := [], harness := (true, "41802173b2d790053fcb1301ce51326a22c507772a35fdb674fd5b625e322b71"), looks := true }, kinds := [], alts := [], laidByText := true, laidKinds := [.sentinel, .sentinel, .sentinel, .sentinel, .sentinel, .sentinel, .sentinel, .sentinel, .sentinel, .sentinel, .sentinel, .sentinel, .sentinel, .sentinel, .sentinel, .sentinel, .sentinel, .sentinel, .sentinel, .sentinel, .sentinel], laidTests := true, laidLooks := .later }
def OctetNamesCardSaid : Prop := Claim7.holds Tryd.pinned (.plain (OpenSpec.ofChange octetNamesSpec)) octetNamesCard

/-- THE SECOND FORM's CARD OF 'trawllaw01.OctetMakes'. -/
def octetMakesUptoCard : Claim7 := { stood := { row := octetMakesUptoRow, standIns := [], harness := (true, "41802173b2d790053fcb1301ce51326a22c507772a35fdb674fd5b625e322b71"), looks := true }, kinds := [], alts := [], laidByText := true, laidKinds := [.data], laidTests := true, laidLooks := .later }
def OctetMakesUptoCardSaid : Prop := Claim7.holds Tryd.pinned (.plain (OpenSpec.upto octetMakesSpec)) octetMakesUptoCard

/-- THE SECOND FORM's CARD OF 'trawllaw01.OctetRows'. -/
def octetRowsUptoCard : Claim7 := { stood := { row := octetRowsUptoRow, standIns := [], harness := (true, "41802173b2d790053fcb1301ce51326a22c507772a35fdb674fd5b625e322b71"), looks := true }, kinds := [], alts := [], laidByText := true, laidKinds := [.data], laidTests := true, laidLooks := .later }
def OctetRowsUptoCardSaid : Prop := Claim7.holds Tryd.pinned (.plain (OpenSpec.upto octetRowsSpec)) octetRowsUptoCard

/-- THE SECOND FORM's CARD OF 'trawllaw01.OctetAlgebra'. -/
def octetAlgebraUptoCard : Claim7 := { stood := { row := octetAlgebraUptoRow, standIns := [], harness := (true, "41802173b2d790053fcb1301ce51326a22c507772a35fdb674fd5b625e322b71"), looks := true }, kinds := [], alts := [], laidByText := true, laidKinds := [.data], laidTests := true, laidLooks := .later }
def OctetAlgebraUptoCardSaid : Prop := Claim7.holds Tryd.pinned (.plain (OpenSpec.upto octetAlgebraSpec)) octetAlgebraUptoCard

/-- THE SECOND FORM's CARD OF 'trawllaw01.OctetNames'. -/
def octetNamesUptoCard : Claim7 := { stood := { row := octetNamesUptoRow, standIns := [], harness := (true, "41802173b2d790053fcb1301ce51326a22c507772a35fdb674fd5b625e322b71"), looks := true }, kinds := [], alts := [], laidByText := true, laidKinds := [.sentinel, .sentinel, .sentinel, .sentinel, .sentinel, .sentinel, .sentinel, .sentinel, .sentinel, .sentinel, .sentinel, .sentinel, .sentinel, .sentinel, .sentinel, .sentinel, .sentinel, .sentinel, .sentinel, .sentinel, .sentinel], laidTests := true, laidLooks := .later }
def OctetNamesUptoCardSaid : Prop := Claim7.holds Tryd.pinned (.plain (OpenSpec.upto octetNamesSpec)) octetNamesUptoCard
end Rows
end Go.Proofs.YtdlcnhelkjlglaaDoor
