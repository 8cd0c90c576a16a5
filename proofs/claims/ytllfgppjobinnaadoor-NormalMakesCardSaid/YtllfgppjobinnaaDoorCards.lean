/-
  DERIVED. GIVEN WITH THE SEED: THE CARDS: each row of YtllfgppjobinnaaDoorRows.lean that lists a variable, with what it lists TIED to the program's text (the seventh form; the later family's looks); each row that meets fmt, with fmt's text TOLD by the authors' own Lean function (tested against real Go, not proved from fmt's source: count such statements apart). THE CARD IS WHAT COUNTS. Prove the row's statement (the work); the ties are given (YtllfgppjobinnaaDoorTie.lean); close each card by the builder's one call (the guide's Derived/Test/ToyasCard.lean, 'card_holds'). Laid BY PROGRAM, IN A SANDBOX (cutbox-door.mjs). By AI agents, Wed Nov 11 2026. No macro, syntax, notation, axiom, sorry.
-/
import Derived.Test.YtllfgppjobinnaaDoorRows
import GoSem.ClaimSeven
namespace Go.Proofs.YtllfgppjobinnaaDoor
namespace Rows

/-- THE TIED CARD OF 'trawllaw01.OctetMakes'. -/
def octetMakesCard : Claim7 := { stood := { row := octetMakesRow, standIns := [], harness := (true, "1f0500a914051a96cc207fc6d24405ea488cd193d3c7b4fde14c2856ad11ad70"), looks := true }, kinds := [], alts := [], laidByText := true, laidKinds := [.data], laidTests := true, laidLooks := .later }
def OctetMakesCardSaid : Prop := Claim7.holds Tryd.pinned (.plain (OpenSpec.ofChange octetMakesSpec)) octetMakesCard

/-- THE TIED CARD OF 'trawllaw11.ReachAlgebra'. -/
def reachAlgebraCard : Claim7 := { stood := { row := reachAlgebraRow, standIns := [], harness := (true, "1f0500a914051a96cc207fc6d24405ea488cd193d3c7b4fde14c2856ad11ad70"), looks := true }, kinds := [], alts := [], laidByText := true, laidKinds := [.data, .sentinel, .sentinel, .sentinel, .sentinel, .sentinel], laidTests := true, laidLooks := .later }
def ReachAlgebraCardSaid : Prop := Claim7.holds Tryd.pinned (.plain (OpenSpec.ofChange reachAlgebraSpec)) reachAlgebraCard

/-- THE TIED CARD OF 'trawllaw12.RankChecks'. -/
def rankChecksCard : Claim7 := { stood := { row := rankChecksRow, standIns := [], harness := (true, "1f0500a914051a96cc207fc6d24405ea488cd193d3c7b4fde14c2856ad11ad70"), looks := true }, kinds := [], alts := [], laidByText := true, laidKinds := [.sentinel, .sentinel, .sentinel], laidTests := true, laidLooks := .later }
def RankChecksCardSaid : Prop := Claim7.holds Tryd.pinned (.plain (OpenSpec.ofChange rankChecksSpec)) rankChecksCard

/-- THE TIED CARD OF 'trawllaw13.ParsesCounts'. -/
def parsesCountsCard : Claim7 := { stood := { row := parsesCountsRow, standIns := [], harness := (true, "1f0500a914051a96cc207fc6d24405ea488cd193d3c7b4fde14c2856ad11ad70"), looks := true }, kinds := [], alts := [], laidByText := true, laidKinds := [.data, .sentinel, .sentinel, .sentinel, .sentinel, .sentinel], laidTests := true, laidLooks := .later }
def ParsesCountsCardSaid : Prop := Claim7.holds Tryd.pinned (.plain (OpenSpec.ofChange parsesCountsSpec)) parsesCountsCard

/-- THE TIED CARD OF 'trawllaw15.NormalMakes'. -/
def normalMakesCard : Claim7 := { stood := { row := normalMakesRow, standIns := [], harness := (true, "1f0500a914051a96cc207fc6d24405ea488cd193d3c7b4fde14c2856ad11ad70"), looks := true }, kinds := [], alts := [], laidByText := true, laidKinds := [.data, .data, .data, .sentinel, .sentinel, .sentinel, .sentinel, .sentinel, .sentinel, .sentinel, .sentinel, .sentinel, .sentinel, .sentinel, .sentinel, .sentinel, .sentinel, .sentinel, .sentinel, .sentinel, .sentinel, .sentinel, .sentinel, .sentinel], laidTests := true, laidLooks := .later }
def NormalMakesCardSaid : Prop := Claim7.holds Tryd.pinned (.plain (OpenSpec.ofChange normalMakesSpec)) normalMakesCard

/-- THE TIED CARD OF 'trawllaw15.NormalLess'. -/
def normalLessCard : Claim7 := { stood := { row := normalLessRow, standIns := [], harness := (true, "1f0500a914051a96cc207fc6d24405ea488cd193d3c7b4fde14c2856ad11ad70"), looks := true }, kinds := [], alts := [], laidByText := true, laidKinds := [.data, .data, .data, .sentinel, .sentinel, .sentinel, .sentinel, .sentinel, .sentinel, .sentinel, .sentinel, .sentinel, .sentinel, .sentinel, .sentinel, .sentinel, .sentinel, .sentinel, .sentinel, .sentinel, .sentinel, .sentinel, .sentinel, .sentinel], laidTests := true, laidLooks := .later }
def NormalLessCardSaid : Prop := Claim7.holds Tryd.pinned (.plain (OpenSpec.ofChange normalLessSpec)) normalLessCard

/-- THE SECOND FORM's CARD OF 'trawllaw01.OctetMakes'. -/
def octetMakesUptoCard : Claim7 := { stood := { row := octetMakesUptoRow, standIns := [], harness := (true, "1f0500a914051a96cc207fc6d24405ea488cd193d3c7b4fde14c2856ad11ad70"), looks := true }, kinds := [], alts := [], laidByText := true, laidKinds := [.data], laidTests := true, laidLooks := .later }
def OctetMakesUptoCardSaid : Prop := Claim7.holds Tryd.pinned (.plain (OpenSpec.upto octetMakesSpec)) octetMakesUptoCard

/-- THE SECOND FORM's CARD OF 'trawllaw11.ReachAlgebra'. -/
def reachAlgebraUptoCard : Claim7 := { stood := { row := reachAlgebraUptoRow, standIns := [], harness := (true, "1f0500a914051a96cc207fc6d24405ea488cd193d3c7b4fde14c2856ad11ad70"), looks := true }, kinds := [], alts := [], laidByText := true, laidKinds := [.data, .sentinel, .sentinel, .sentinel, .sentinel, .sentinel], laidTests := true, laidLooks := .later }
def ReachAlgebraUptoCardSaid : Prop := Claim7.holds Tryd.pinned (.plain (OpenSpec.upto reachAlgebraSpec)) reachAlgebraUptoCard

/-- THE SECOND FORM's CARD OF 'trawllaw12.RankChecks'. -/
def rankChecksUptoCard : Claim7 := { stood := { row := rankChecksUptoRow, standIns := [], harness := (true, "1f0500a914051a96cc207fc6d24405ea488cd193d3c7b4fde14c2856ad11ad70"), looks := true }, kinds := [], alts := [], laidByText := true, laidKinds := [.sentinel, .sentinel, .sentinel], laidTests := true, laidLooks := .later }
def RankChecksUptoCardSaid : Prop := Claim7.holds Tryd.pinned (.plain (OpenSpec.upto rankChecksSpec)) rankChecksUptoCard

/-- THE SECOND FORM's CARD OF 'trawllaw13.ParsesCounts'. -/
def parsesCountsUptoCard : Claim7 := { stood := { row := parsesCountsUptoRow, standIns := [], harness := (true, "1f0500a914051a96cc207fc6d24405ea488cd193d3c7b4fde14c2856ad11ad70"), looks := true }, kinds := [], alts := [], laidByText := true, laidKinds := [.data, .sentinel, .sentinel, .sentinel, .sentinel, .sentinel], laidTests := true, laidLooks := .later }
def ParsesCountsUptoCardSaid : Prop := Claim7.holds Tryd.pinned (.plain (OpenSpec.upto parsesCountsSpec)) parsesCountsUptoCard

/-- THE SECOND FORM's CARD OF 'trawllaw15.NormalMakes'. -/
def normalMakesUptoCard : Claim7 := { stood := { row := normalMakesUptoRow, standIns := [], harness := (true, "1f0500a914051a96cc207fc6d24405ea488cd193d3c7b4fde14c2856ad11ad70"), looks := true }, kinds := [], alts := [], laidByText := true, laidKinds := [.data, .data, .data, .sentinel, .sentinel, .sentinel, .sentinel, .sentinel, .sentinel, .sentinel, .sentinel, .sentinel, .sentinel, .sentinel, .sentinel, .sentinel, .sentinel, .sentinel, .sentinel, .sentinel, .sentinel, .sentinel, .sentinel, .sentinel], laidTests := true, laidLooks := .later }
def NormalMakesUptoCardSaid : Prop := Claim7.holds Tryd.pinned (.plain (OpenSpec.upto normalMakesSpec)) normalMakesUptoCard

/-- THE SECOND FORM's CARD OF 'trawllaw15.NormalLess'. -/
def normalLessUptoCard : Claim7 := { stood := { row := normalLessUptoRow, standIns := [], harness := (true, "1f0500a914051a96cc207fc6d24405ea488cd193d3c7b4fde14c2856ad11ad70"), looks := true }, kinds := [], alts := [], laidByText := true, laidKinds := [.data, .data, .data, .sentinel, .sentinel, .sentinel, .sentinel, .sentinel, .sentinel, .sentinel, .sentinel, .sentinel, .sentinel, .sentinel, .sentinel, .sentinel, .sentinel, .sentinel, .sentinel, .sentinel, .sentinel, .sentinel, .sentinel, .sentinel], laidTests := true, laidLooks := .later }
def NormalLessUptoCardSaid : Prop := Claim7.holds Tryd.pinned (.plain (OpenSpec.upto normalLessSpec)) normalLessUptoCard
end Rows
end Go.Proofs.YtllfgppjobinnaaDoor
