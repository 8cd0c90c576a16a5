/-
  DERIVED. GIVEN WITH THE SEED: THE CARDS: each row of YtoepdfpnkmccoaaDoorRows.lean that lists a variable, with what it lists TIED to the program's text (the seventh form; the later family's looks); each row that meets fmt, with fmt's text TOLD by the authors' own Lean function (tested against real Go, not proved from fmt's source: count such statements apart). THE CARD IS WHAT COUNTS. Prove the row's statement (the work); the ties are given (YtoepdfpnkmccoaaDoorTie.lean); close each card by the builder's one call (the guide's Derived/Test/ToyasCard.lean, 'card_holds'). Laid BY PROGRAM, IN A SANDBOX (cutbox-door.mjs). By AI agents, Wed Nov 11 2026. No macro, syntax, notation, axiom, sorry.
-/
import Derived.Test.YtoepdfpnkmccoaaDoorRows
import GoSem.ClaimSeven
namespace Go.Proofs.YtoepdfpnkmccoaaDoor
namespace Rows

/-- THE TIED CARD OF 'trawllaw09.ImageDecodes'. -/
def imageDecodesCard : Claim7 := { stood := { row := imageDecodesRow, standIns := [], harness := (true, "cc46fab90ecd387de63de0e07e6a4c7fc907e37cf3666e8a86709abd1b6a88c2"), looks := true }, kinds := [], alts := [], laidByText := true, laidKinds := [.sentinel, .sentinel, .sentinel, .sentinel, .sentinel, .sentinel, .sentinel, .sentinel, .sentinel, .sentinel, .sentinel, .sentinel, .sentinel, .sentinel, .sentinel, .sentinel, .sentinel, .sentinel, .sentinel, .sentinel, .sentinel], laidTests := true, laidLooks := .later }
def ImageDecodesCardSaid : Prop := Claim7.holds Tryd.pinned (.plain (OpenSpec.ofChange imageDecodesSpec)) imageDecodesCard

/-- THE TIED CARD OF 'trawllaw11.ReachEnds'. -/
def reachEndsCard : Claim7 := { stood := { row := reachEndsRow, standIns := [], harness := (true, "cc46fab90ecd387de63de0e07e6a4c7fc907e37cf3666e8a86709abd1b6a88c2"), looks := true }, kinds := [], alts := [], laidByText := true, laidKinds := [.data, .sentinel, .sentinel, .sentinel, .sentinel, .sentinel, .sentinel, .sentinel, .sentinel, .sentinel, .sentinel, .sentinel, .sentinel, .sentinel, .sentinel, .sentinel, .sentinel, .sentinel, .sentinel, .sentinel, .sentinel, .sentinel], laidTests := true, laidLooks := .later }
def ReachEndsCardSaid : Prop := Claim7.holds Tryd.pinned (.plain (OpenSpec.ofChange reachEndsSpec)) reachEndsCard

/-- THE TIED CARD OF 'trawllaw11.ReachTakes'. -/
def reachTakesCard : Claim7 := { stood := { row := reachTakesRow, standIns := [], harness := (true, "cc46fab90ecd387de63de0e07e6a4c7fc907e37cf3666e8a86709abd1b6a88c2"), looks := true }, kinds := [], alts := [], laidByText := true, laidKinds := [.data, .sentinel, .sentinel, .sentinel, .sentinel, .sentinel, .sentinel, .sentinel, .sentinel, .sentinel, .sentinel, .sentinel, .sentinel, .sentinel, .sentinel, .sentinel, .sentinel, .sentinel, .sentinel, .sentinel, .sentinel, .sentinel], laidTests := true, laidLooks := .later }
def ReachTakesCardSaid : Prop := Claim7.holds Tryd.pinned (.plain (OpenSpec.ofChange reachTakesSpec)) reachTakesCard

/-- THE TIED CARD OF 'trawllaw11.ReachParts'. -/
def reachPartsCard : Claim7 := { stood := { row := reachPartsRow, standIns := [], harness := (true, "cc46fab90ecd387de63de0e07e6a4c7fc907e37cf3666e8a86709abd1b6a88c2"), looks := true }, kinds := [], alts := [], laidByText := true, laidKinds := [.data, .sentinel, .sentinel, .sentinel, .sentinel, .sentinel], laidTests := true, laidLooks := .later }
def ReachPartsCardSaid : Prop := Claim7.holds Tryd.pinned (.plain (OpenSpec.ofChange reachPartsSpec)) reachPartsCard

/-- THE TIED CARD OF 'trawllaw11.ReachRounds'. -/
def reachRoundsCard : Claim7 := { stood := { row := reachRoundsRow, standIns := [], harness := (true, "cc46fab90ecd387de63de0e07e6a4c7fc907e37cf3666e8a86709abd1b6a88c2"), looks := true }, kinds := [], alts := [], laidByText := true, laidKinds := [.data, .sentinel, .sentinel, .sentinel, .sentinel, .sentinel], laidTests := true, laidLooks := .later }
def ReachRoundsCardSaid : Prop := Claim7.holds Tryd.pinned (.plain (OpenSpec.ofChange reachRoundsSpec)) reachRoundsCard

/-- THE TIED CARD OF 'trawllaw11.ReachAlgebra'. -/
def reachAlgebraCard : Claim7 := { stood := { row := reachAlgebraRow, standIns := [], harness := (true, "cc46fab90ecd387de63de0e07e6a4c7fc907e37cf3666e8a86709abd1b6a88c2"), looks := true }, kinds := [], alts := [], laidByText := true, laidKinds := [.data, .sentinel, .sentinel, .sentinel, .sentinel, .sentinel], laidTests := true, laidLooks := .later }
def ReachAlgebraCardSaid : Prop := Claim7.holds Tryd.pinned (.plain (OpenSpec.ofChange reachAlgebraSpec)) reachAlgebraCard

/-- THE SECOND FORM's CARD OF 'trawllaw09.ImageDecodes'. -/
def imageDecodesUptoCard : Claim7 := { stood := { row := imageDecodesUptoRow, standIns := [], harness := (true, "cc46fab90ecd387de63de0e07e6a4c7fc907e37cf3666e8a86709abd1b6a88c2"), looks := true }, kinds := [], alts := [], laidByText := true, laidKinds := [.sentinel, .sentinel, .sentinel, .sentinel, .sentinel, .sentinel, .sentinel, .sentinel, .sentinel, .sentinel, .sentinel, .sentinel, .sentinel, .sentinel, .sentinel, .sentinel, .sentinel, .sentinel, .sentinel, .sentinel, .sentinel], laidTests := true, laidLooks := .later }
def ImageDecodesUptoCardSaid : Prop := Claim7.holds Tryd.pinned (.plain (OpenSpec.upto imageDecodesSpec)) imageDecodesUptoCard

/-- THE SECOND FORM's CARD OF 'trawllaw11.ReachEnds'. -/
def reachEndsUptoCard : Claim7 := { stood := { row := reachEndsUptoRow, standIns := [], harness := (true, "cc46fab90ecd387de63de0e07e6a4c7fc907e37cf3666e8a86709abd1b6a88c2"), looks := true }, kinds := [], alts := [], laidByText := true, laidKinds := [.data, .sentinel, .sentinel, .sentinel, .sentinel, .sentinel, .sentinel, .sentinel, .sentinel, .sentinel, .sentinel, .sentinel, .sentinel, .sentinel, .sentinel, .sentinel, .sentinel, .sentinel, .sentinel, .sentinel, .sentinel, .sentinel], laidTests := true, laidLooks := .later }
def ReachEndsUptoCardSaid : Prop := Claim7.holds Tryd.pinned (.plain (OpenSpec.upto reachEndsSpec)) reachEndsUptoCard

/-- THE SECOND FORM's CARD OF 'trawllaw11.ReachTakes'. -/
def reachTakesUptoCard : Claim7 := { stood := { row := reachTakesUptoRow, standIns := [], harness := (true, "cc46fab90ecd387de63de0e07e6a4c7fc907e37cf3666e8a86709abd1b6a88c2"), looks := true }, kinds := [], alts := [], laidByText := true, laidKinds := [.data, .sentinel, .sentinel, .sentinel, .sentinel, .sentinel, .sentinel, .sentinel, .sentinel, .sentinel, .sentinel, .sentinel, .sentinel, .sentinel, .sentinel, .sentinel, .sentinel, .sentinel, .sentinel, .sentinel, .sentinel, .sentinel], laidTests := true, laidLooks := .later }
def ReachTakesUptoCardSaid : Prop := Claim7.holds Tryd.pinned (.plain (OpenSpec.upto reachTakesSpec)) reachTakesUptoCard

/-- THE SECOND FORM's CARD OF 'trawllaw11.ReachParts'. -/
def reachPartsUptoCard : Claim7 := { stood := { row := reachPartsUptoRow, standIns := [], harness := (true, "cc46fab90ecd387de63de0e07e6a4c7fc907e37cf3666e8a86709abd1b6a88c2"), looks := true }, kinds := [], alts := [], laidByText := true, laidKinds := [.data, .sentinel, .sentinel, .sentinel, .sentinel, .sentinel], laidTests := true, laidLooks := .later }
def ReachPartsUptoCardSaid : Prop := Claim7.holds Tryd.pinned (.plain (OpenSpec.upto reachPartsSpec)) reachPartsUptoCard

/-- THE SECOND FORM's CARD OF 'trawllaw11.ReachRounds'. -/
def reachRoundsUptoCard : Claim7 := { stood := { row := reachRoundsUptoRow, standIns := [], harness := (true, "cc46fab90ecd387de63de0e07e6a4c7fc907e37cf3666e8a86709abd1b6a88c2"), looks := true }, kinds := [], alts := [], laidByText := true, laidKinds := [.data, .sentinel, .sentinel, .sentinel, .sentinel, .sentinel], laidTests := true, laidLooks := .later }
def ReachRoundsUptoCardSaid : Prop := Claim7.holds Tryd.pinned (.plain (OpenSpec.upto reachRoundsSpec)) reachRoundsUptoCard

/-- THE SECOND FORM's CARD OF 'trawllaw11.ReachAlgebra'. -/
def reachAlgebraUptoCard : Claim7 := { stood := { row := reachAlgebraUptoRow, standIns := [], harness := (true, "cc46fab90ecd387de63de0e07e6a4c7fc907e37cf3666e8a86709abd1b6a88c2"), looks := true }, kinds := [], alts := [], laidByText := true, laidKinds := [.data, .sentinel, .sentinel, .sentinel, .sentinel, .sentinel], laidTests := true, laidLooks := .later }
def ReachAlgebraUptoCardSaid : Prop := Claim7.holds Tryd.pinned (.plain (OpenSpec.upto reachAlgebraSpec)) reachAlgebraUptoCard
end Rows
end Go.Proofs.YtoepdfpnkmccoaaDoor
