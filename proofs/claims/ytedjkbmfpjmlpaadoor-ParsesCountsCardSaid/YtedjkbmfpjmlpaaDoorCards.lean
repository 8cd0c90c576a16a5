/-
  DERIVED. GIVEN WITH THE SEED: THE CARDS: each row of YtedjkbmfpjmlpaaDoorRows.lean that lists a variable, with what it lists TIED to the program's text (the seventh form; the later family's looks); each row that meets fmt, with fmt's text TOLD by the authors' own Lean function (tested against real Go, not proved from fmt's source: count such statements apart). THE CARD IS WHAT COUNTS. Prove the row's statement (the work); the ties are given (YtedjkbmfpjmlpaaDoorTie.lean); close each card by the builder's one call (the guide's Derived/Test/ToyasCard.lean, 'card_holds'). Laid BY PROGRAM, IN A SANDBOX (cutbox-door.mjs). By AI agents, Wed Nov 11 2026. No macro, syntax, notation, axiom, sorry.
-/
import Derived.Test.YtedjkbmfpjmlpaaDoorRows
import GoSem.ClaimSeven
namespace Go.Proofs.YtedjkbmfpjmlpaaDoor
namespace Rows

/-- THE TIED CARD OF 'trawllaw01.OctetMakes'. -/
def octetMakesCard : Claim7 := { stood := { row := octetMakesRow, standIns := [], harness := (true, "4f4b28aa7a75dfad9e5669343dc87fa11e9310863057726ff6810e77c1d569d3"), looks := true }, kinds := [], alts := [], laidByText := true, laidKinds := [.data], laidTests := true, laidLooks := .later }
def OctetMakesCardSaid : Prop := Claim7.holds Tryd.pinned (.plain (OpenSpec.ofChange octetMakesSpec)) octetMakesCard

/-- THE TIED CARD OF 'trawllaw11.ReachAlgebra'. -/
def reachAlgebraCard : Claim7 := { stood := { row := reachAlgebraRow, standIns := [], harness := (true, "4f4b28aa7a75dfad9e5669343dc87fa11e9310863057726ff6810e77c1d569d3"), looks := true }, kinds := [], alts := [], laidByText := true, laidKinds := [.data, .sentinel, .sentinel, .sentinel, .sentinel, .sentinel], laidTests := true, laidLooks := .later }
def ReachAlgebraCardSaid : Prop := Claim7.holds Tryd.pinned (.plain (OpenSpec.ofChange reachAlgebraSpec)) reachAlgebraCard

/-- THE TIED CARD OF 'trawllaw12.RankChecks'. -/
def rankChecksCard : Claim7 := { stood := { row := rankChecksRow, standIns := [], harness := (true, "4f4b28aa7a75dfad9e5669343dc87fa11e9310863057726ff6810e77c1d569d3"), looks := true }, kinds := [], alts := [], laidByText := true, laidKinds := [.sentinel, .sentinel, .sentinel], laidTests := true, laidLooks := .later }
def RankChecksCardSaid : Prop := Claim7.holds Tryd.pinned (.plain (OpenSpec.ofChange rankChecksSpec)) rankChecksCard

/-- THE TIED CARD OF 'trawllaw13.ParsesCounts'. -/
def parsesCountsCard : Claim7 := { stood := { row := parsesCountsRow, standIns := [], harness := (true, "4f4b28aa7a75dfad9e5669343dc87fa11e9310863057726ff6810e77c1d569d3"), looks := true }, kinds := [], alts := [], laidByText := true, laidKinds := [.data, .sentinel, .sentinel, .sentinel, .sentinel, .sentinel], laidTests := true, laidLooks := .later }
def ParsesCountsCardSaid : Prop := Claim7.holds Tryd.pinned (.plain (OpenSpec.ofChange parsesCountsSpec)) parsesCountsCard

/-- THE TIED CARD OF 'trawllaw16.TurnBack'. -/
def turnBackCard : Claim7 := { stood := { row := turnBackRow, standIns := [], harness := (true, "4f4b28aa7a75dfad9e5669343dc87fa11e9310863057726ff6810e77c1d569d3"), looks := true }, kinds := [], alts := [], laidByText := true, laidKinds := [.sentinel, .sentinel, .sentinel, .sentinel, .sentinel, .sentinel, .sentinel, .sentinel, .sentinel, .sentinel, .sentinel, .sentinel, .sentinel, .sentinel, .sentinel, .sentinel, .sentinel, .sentinel, .sentinel, .sentinel, .sentinel], laidTests := true, laidLooks := .later }
def TurnBackCardSaid : Prop := Claim7.holds Tryd.pinned (.plain (OpenSpec.ofChange turnBackSpec)) turnBackCard

/-- THE TIED CARD OF 'trawllaw16.TurnMirrors'. -/
def turnMirrorsCard : Claim7 := { stood := { row := turnMirrorsRow, standIns := [], harness := (true, "4f4b28aa7a75dfad9e5669343dc87fa11e9310863057726ff6810e77c1d569d3"), looks := true }, kinds := [], alts := [], laidByText := true, laidKinds := [.data, .sentinel, .sentinel, .sentinel, .sentinel, .sentinel], laidTests := true, laidLooks := .later }
def TurnMirrorsCardSaid : Prop := Claim7.holds Tryd.pinned (.plain (OpenSpec.ofChange turnMirrorsSpec)) turnMirrorsCard

/-- THE SECOND FORM's CARD OF 'trawllaw01.OctetMakes'. -/
def octetMakesUptoCard : Claim7 := { stood := { row := octetMakesUptoRow, standIns := [], harness := (true, "4f4b28aa7a75dfad9e5669343dc87fa11e9310863057726ff6810e77c1d569d3"), looks := true }, kinds := [], alts := [], laidByText := true, laidKinds := [.data], laidTests := true, laidLooks := .later }
def OctetMakesUptoCardSaid : Prop := Claim7.holds Tryd.pinned (.plain (OpenSpec.upto octetMakesSpec)) octetMakesUptoCard

/-- THE SECOND FORM's CARD OF 'trawllaw11.ReachAlgebra'. -/
def reachAlgebraUptoCard : Claim7 := { stood := { row := reachAlgebraUptoRow, standIns := [], harness := (true, "4f4b28aa7a75dfad9e5669343dc87fa11e9310863057726ff6810e77c1d569d3"), looks := true }, kinds := [], alts := [], laidByText := true, laidKinds := [.data, .sentinel, .sentinel, .sentinel, .sentinel, .sentinel], laidTests := true, laidLooks := .later }
def ReachAlgebraUptoCardSaid : Prop := Claim7.holds Tryd.pinned (.plain (OpenSpec.upto reachAlgebraSpec)) reachAlgebraUptoCard

/-- THE SECOND FORM's CARD OF 'trawllaw12.RankChecks'. -/
def rankChecksUptoCard : Claim7 := { stood := { row := rankChecksUptoRow, standIns := [], harness := (true, "4f4b28aa7a75dfad9e5669343dc87fa11e9310863057726ff6810e77c1d569d3"), looks := true }, kinds := [], alts := [], laidByText := true, laidKinds := [.sentinel, .sentinel, .sentinel], laidTests := true, laidLooks := .later }
def RankChecksUptoCardSaid : Prop := Claim7.holds Tryd.pinned (.plain (OpenSpec.upto rankChecksSpec)) rankChecksUptoCard

/-- THE SECOND FORM's CARD OF 'trawllaw13.ParsesCounts'. -/
def parsesCountsUptoCard : Claim7 := { stood := { row := parsesCountsUptoRow, standIns := [], harness := (true, "4f4b28aa7a75dfad9e5669343dc87fa11e9310863057726ff6810e77c1d569d3"), looks := true }, kinds := [], alts := [], laidByText := true, laidKinds := [.data, .sentinel, .sentinel, .sentinel, .sentinel, .sentinel], laidTests := true, laidLooks := .later }
def ParsesCountsUptoCardSaid : Prop := Claim7.holds Tryd.pinned (.plain (OpenSpec.upto parsesCountsSpec)) parsesCountsUptoCard

/-- THE SECOND FORM's CARD OF 'trawllaw16.TurnBack'. -/
def turnBackUptoCard : Claim7 := { stood := { row := turnBackUptoRow, standIns := [], harness := (true, "4f4b28aa7a75dfad9e5669343dc87fa11e9310863057726ff6810e77c1d569d3"), looks := true }, kinds := [], alts := [], laidByText := true, laidKinds := [.sentinel, .sentinel, .sentinel, .sentinel, .sentinel, .sentinel, .sentinel, .sentinel, .sentinel, .sentinel, .sentinel, .sentinel, .sentinel, .sentinel, .sentinel, .sentinel, .sentinel, .sentinel, .sentinel, .sentinel, .sentinel], laidTests := true, laidLooks := .later }
def TurnBackUptoCardSaid : Prop := Claim7.holds Tryd.pinned (.plain (OpenSpec.upto turnBackSpec)) turnBackUptoCard

/-- THE SECOND FORM's CARD OF 'trawllaw16.TurnMirrors'. -/
def turnMirrorsUptoCard : Claim7 := { stood := { row := turnMirrorsUptoRow, standIns := [], harness := (true, "4f4b28aa7a75dfad9e5669343dc87fa11e9310863057726ff6810e77c1d569d3"), looks := true }, kinds := [], alts := [], laidByText := true, laidKinds := [.data, .sentinel, .sentinel, .sentinel, .sentinel, .sentinel], laidTests := true, laidLooks := .later }
def TurnMirrorsUptoCardSaid : Prop := Claim7.holds Tryd.pinned (.plain (OpenSpec.upto turnMirrorsSpec)) turnMirrorsUptoCard
end Rows
end Go.Proofs.YtedjkbmfpjmlpaaDoor
