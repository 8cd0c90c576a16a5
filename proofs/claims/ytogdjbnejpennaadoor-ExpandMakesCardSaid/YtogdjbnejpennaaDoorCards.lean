/-
  DERIVED. GIVEN WITH THE SEED: THE CARDS: each row of YtogdjbnejpennaaDoorRows.lean that lists a variable, with what it lists TIED to the program's text (the seventh form; the later family's looks); each row that meets fmt, with fmt's text TOLD by the authors' own Lean function (tested against real Go, not proved from fmt's source: count such statements apart). THE CARD IS WHAT COUNTS. Prove the row's statement (the work); the ties are given (YtogdjbnejpennaaDoorTie.lean); close each card by the builder's one call (the guide's Derived/Test/ToyasCard.lean, 'card_holds'). Laid BY PROGRAM, IN A SANDBOX (cutbox-door.mjs). By AI agents, Wed Nov 11 2026. No macro, syntax, notation, axiom, sorry.
-/
import Derived.Test.YtogdjbnejpennaaDoorRows
import GoSem.ClaimSeven
namespace Go.Proofs.YtogdjbnejpennaaDoor
namespace Rows

/-- THE TIED CARD OF 'trawllaw01.OctetMakes'. -/
def octetMakesCard : Claim7 := { stood := { row := octetMakesRow, standIns := [], harness := (true, "b1710cc4755a6c4b66f71bed740bd36a734a495826e2c10ae6f0ce0cb9716271"), looks := true }, kinds := [], alts := [], laidByText := true, laidKinds := [.data], laidTests := true, laidLooks := .later }
def OctetMakesCardSaid : Prop := Claim7.holds Tryd.pinned (.plain (OpenSpec.ofChange octetMakesSpec)) octetMakesCard

/-- THE TIED CARD OF 'trawllaw11.ReachAlgebra'. -/
def reachAlgebraCard : Claim7 := { stood := { row := reachAlgebraRow, standIns := [], harness := (true, "b1710cc4755a6c4b66f71bed740bd36a734a495826e2c10ae6f0ce0cb9716271"), looks := true }, kinds := [], alts := [], laidByText := true, laidKinds := [.data, .sentinel, .sentinel, .sentinel, .sentinel, .sentinel], laidTests := true, laidLooks := .later }
def ReachAlgebraCardSaid : Prop := Claim7.holds Tryd.pinned (.plain (OpenSpec.ofChange reachAlgebraSpec)) reachAlgebraCard

/-- THE TIED CARD OF 'trawllaw12.RankChecks'. -/
def rankChecksCard : Claim7 := { stood := { row := rankChecksRow, standIns := [], harness := (true, "b1710cc4755a6c4b66f71bed740bd36a734a495826e2c10ae6f0ce0cb9716271"), looks := true }, kinds := [], alts := [], laidByText := true, laidKinds := [.sentinel, .sentinel, .sentinel], laidTests := true, laidLooks := .later }
def RankChecksCardSaid : Prop := Claim7.holds Tryd.pinned (.plain (OpenSpec.ofChange rankChecksSpec)) rankChecksCard

/-- THE TIED CARD OF 'trawllaw13.ParsesCounts'. -/
def parsesCountsCard : Claim7 := { stood := { row := parsesCountsRow, standIns := [], harness := (true, "b1710cc4755a6c4b66f71bed740bd36a734a495826e2c10ae6f0ce0cb9716271"), looks := true }, kinds := [], alts := [], laidByText := true, laidKinds := [.data, .sentinel, .sentinel, .sentinel, .sentinel, .sentinel], laidTests := true, laidLooks := .later }
def ParsesCountsCardSaid : Prop := Claim7.holds Tryd.pinned (.plain (OpenSpec.ofChange parsesCountsSpec)) parsesCountsCard

/-- THE TIED CARD OF 'trawllaw14.ExpandMakes'. -/
def expandMakesCard : Claim7 := { stood := { row := expandMakesRow, standIns := [], harness := (true, "b1710cc4755a6c4b66f71bed740bd36a734a495826e2c10ae6f0ce0cb9716271"), looks := true }, kinds := [], alts := [], laidByText := true, laidKinds := [.sentinel, .sentinel, .sentinel, .sentinel, .sentinel, .sentinel, .sentinel, .sentinel, .sentinel, .sentinel, .sentinel, .sentinel, .sentinel, .sentinel, .sentinel, .sentinel, .sentinel, .sentinel, .sentinel, .sentinel, .sentinel], laidTests := true, laidLooks := .later }
def ExpandMakesCardSaid : Prop := Claim7.holds Tryd.pinned (.plain (OpenSpec.ofChange expandMakesSpec)) expandMakesCard

/-- THE TIED CARD OF 'trawllaw14.ExpandOwns'. -/
def expandOwnsCard : Claim7 := { stood := { row := expandOwnsRow, standIns := [], harness := (true, "b1710cc4755a6c4b66f71bed740bd36a734a495826e2c10ae6f0ce0cb9716271"), looks := true }, kinds := [], alts := [], laidByText := true, laidKinds := [.sentinel, .sentinel, .sentinel], laidTests := true, laidLooks := .later }
def ExpandOwnsCardSaid : Prop := Claim7.holds Tryd.pinned (.plain (OpenSpec.ofChange expandOwnsSpec)) expandOwnsCard

/-- THE TIED CARD OF 'trawllaw14.ExpandSizes'. -/
def expandSizesCard : Claim7 := { stood := { row := expandSizesRow, standIns := [], harness := (true, "b1710cc4755a6c4b66f71bed740bd36a734a495826e2c10ae6f0ce0cb9716271"), looks := true }, kinds := [], alts := [], laidByText := true, laidKinds := [.sentinel, .sentinel, .sentinel, .sentinel, .sentinel, .sentinel, .sentinel, .sentinel, .sentinel, .sentinel, .sentinel, .sentinel, .sentinel, .sentinel, .sentinel, .sentinel, .sentinel, .sentinel, .sentinel, .sentinel, .sentinel], laidTests := true, laidLooks := .later }
def ExpandSizesCardSaid : Prop := Claim7.holds Tryd.pinned (.plain (OpenSpec.ofChange expandSizesSpec)) expandSizesCard

/-- THE SECOND FORM's CARD OF 'trawllaw01.OctetMakes'. -/
def octetMakesUptoCard : Claim7 := { stood := { row := octetMakesUptoRow, standIns := [], harness := (true, "b1710cc4755a6c4b66f71bed740bd36a734a495826e2c10ae6f0ce0cb9716271"), looks := true }, kinds := [], alts := [], laidByText := true, laidKinds := [.data], laidTests := true, laidLooks := .later }
def OctetMakesUptoCardSaid : Prop := Claim7.holds Tryd.pinned (.plain (OpenSpec.upto octetMakesSpec)) octetMakesUptoCard

/-- THE SECOND FORM's CARD OF 'trawllaw11.ReachAlgebra'. -/
def reachAlgebraUptoCard : Claim7 := { stood := { row := reachAlgebraUptoRow, standIns := [], harness := (true, "b1710cc4755a6c4b66f71bed740bd36a734a495826e2c10ae6f0ce0cb9716271"), looks := true }, kinds := [], alts := [], laidByText := true, laidKinds := [.data, .sentinel, .sentinel, .sentinel, .sentinel, .sentinel], laidTests := true, laidLooks := .later }
def ReachAlgebraUptoCardSaid : Prop := Claim7.holds Tryd.pinned (.plain (OpenSpec.upto reachAlgebraSpec)) reachAlgebraUptoCard

/-- THE SECOND FORM's CARD OF 'trawllaw12.RankChecks'. -/
def rankChecksUptoCard : Claim7 := { stood := { row := rankChecksUptoRow, standIns := [], harness := (true, "b1710cc4755a6c4b66f71bed740bd36a734a495826e2c10ae6f0ce0cb9716271"), looks := true }, kinds := [], alts := [], laidByText := true, laidKinds := [.sentinel, .sentinel, .sentinel], laidTests := true, laidLooks := .later }
def RankChecksUptoCardSaid : Prop := Claim7.holds Tryd.pinned (.plain (OpenSpec.upto rankChecksSpec)) rankChecksUptoCard

/-- THE SECOND FORM's CARD OF 'trawllaw13.ParsesCounts'. -/
def parsesCountsUptoCard : Claim7 := { stood := { row := parsesCountsUptoRow, standIns := [], harness := (true, "b1710cc4755a6c4b66f71bed740bd36a734a495826e2c10ae6f0ce0cb9716271"), looks := true }, kinds := [], alts := [], laidByText := true, laidKinds := [.data, .sentinel, .sentinel, .sentinel, .sentinel, .sentinel], laidTests := true, laidLooks := .later }
def ParsesCountsUptoCardSaid : Prop := Claim7.holds Tryd.pinned (.plain (OpenSpec.upto parsesCountsSpec)) parsesCountsUptoCard

/-- THE SECOND FORM's CARD OF 'trawllaw14.ExpandMakes'. -/
def expandMakesUptoCard : Claim7 := { stood := { row := expandMakesUptoRow, standIns := [], harness := (true, "b1710cc4755a6c4b66f71bed740bd36a734a495826e2c10ae6f0ce0cb9716271"), looks := true }, kinds := [], alts := [], laidByText := true, laidKinds := [.sentinel, .sentinel, .sentinel, .sentinel, .sentinel, .sentinel, .sentinel, .sentinel, .sentinel, .sentinel, .sentinel, .sentinel, .sentinel, .sentinel, .sentinel, .sentinel, .sentinel, .sentinel, .sentinel, .sentinel, .sentinel], laidTests := true, laidLooks := .later }
def ExpandMakesUptoCardSaid : Prop := Claim7.holds Tryd.pinned (.plain (OpenSpec.upto expandMakesSpec)) expandMakesUptoCard

/-- THE SECOND FORM's CARD OF 'trawllaw14.ExpandOwns'. -/
def expandOwnsUptoCard : Claim7 := { stood := { row := expandOwnsUptoRow, standIns := [], harness := (true, "b1710cc4755a6c4b66f71bed740bd36a734a495826e2c10ae6f0ce0cb9716271"), looks := true }, kinds := [], alts := [], laidByText := true, laidKinds := [.sentinel, .sentinel, .sentinel], laidTests := true, laidLooks := .later }
def ExpandOwnsUptoCardSaid : Prop := Claim7.holds Tryd.pinned (.plain (OpenSpec.upto expandOwnsSpec)) expandOwnsUptoCard

/-- THE SECOND FORM's CARD OF 'trawllaw14.ExpandSizes'. -/
def expandSizesUptoCard : Claim7 := { stood := { row := expandSizesUptoRow, standIns := [], harness := (true, "b1710cc4755a6c4b66f71bed740bd36a734a495826e2c10ae6f0ce0cb9716271"), looks := true }, kinds := [], alts := [], laidByText := true, laidKinds := [.sentinel, .sentinel, .sentinel, .sentinel, .sentinel, .sentinel, .sentinel, .sentinel, .sentinel, .sentinel, .sentinel, .sentinel, .sentinel, .sentinel, .sentinel, .sentinel, .sentinel, .sentinel, .sentinel, .sentinel, .sentinel], laidTests := true, laidLooks := .later }
def ExpandSizesUptoCardSaid : Prop := Claim7.holds Tryd.pinned (.plain (OpenSpec.upto expandSizesSpec)) expandSizesUptoCard
end Rows
end Go.Proofs.YtogdjbnejpennaaDoor
