/-
  DERIVED. GIVEN WITH THE SEED: THE CARDS: each row of YtknlkgegbcbcfaaDoorRows.lean that lists a variable, with what it lists TIED to the program's text (the seventh form; the later family's looks); each row that meets fmt, with fmt's text TOLD by the authors' own Lean function (tested against real Go, not proved from fmt's source: count such statements apart). THE CARD IS WHAT COUNTS. Prove the row's statement (the work); the ties are given (YtknlkgegbcbcfaaDoorTie.lean); close each card by the builder's one call (the guide's Derived/Test/ToyasCard.lean, 'card_holds'). Laid BY PROGRAM, IN A SANDBOX (cutbox-door.mjs). By AI agents, Wed Nov 11 2026. No macro, syntax, notation, axiom, sorry.
-/
import Derived.Test.YtknlkgegbcbcfaaDoorRows
import GoSem.ClaimSeven
namespace Go.Proofs.YtknlkgegbcbcfaaDoor
namespace Rows

/-- THE TIED CARD OF 'trawllaw01.OctetMakes'. -/
def octetMakesCard : Claim7 := { stood := { row := octetMakesRow, standIns := [], harness := (true, "b01df7e2840e6291311ceb96d1f9ef114d3bf4bee5773072eeb585c4ac2dcdfd"), looks := false }, kinds := [], alts := [], laidByText := true, laidKinds := [.data], laidTests := true, laidLooks := .later }
def OctetMakesCardSaid : Prop := Claim7.holds Tryd.pinned (.plain (OpenSpec.ofChange octetMakesSpec)) octetMakesCard

/-- THE TIED CARD OF 'trawllaw11.ReachAlgebra'. -/
def reachAlgebraCard : Claim7 := { stood := { row := reachAlgebraRow, standIns := [], harness := (true, "b01df7e2840e6291311ceb96d1f9ef114d3bf4bee5773072eeb585c4ac2dcdfd"), looks := false }, kinds := [], alts := [], laidByText := true, laidKinds := [.data, .sentinel, .sentinel, .sentinel, .sentinel, .sentinel], laidTests := true, laidLooks := .later }
def ReachAlgebraCardSaid : Prop := Claim7.holds Tryd.pinned (.plain (OpenSpec.ofChange reachAlgebraSpec)) reachAlgebraCard

/-- THE TIED CARD OF 'trawllaw12.RankChecks'. -/
def rankChecksCard : Claim7 := { stood := { row := rankChecksRow, standIns := [], harness := (true, "b01df7e2840e6291311ceb96d1f9ef114d3bf4bee5773072eeb585c4ac2dcdfd"), looks := false }, kinds := [], alts := [], laidByText := true, laidKinds := [.sentinel, .sentinel, .sentinel], laidTests := true, laidLooks := .later }
def RankChecksCardSaid : Prop := Claim7.holds Tryd.pinned (.plain (OpenSpec.ofChange rankChecksSpec)) rankChecksCard

/-- THE TIED CARD OF 'trawllaw12.RankCompares'. -/
def rankComparesCard : Claim7 := { stood := { row := rankComparesRow, standIns := [], harness := (true, "b01df7e2840e6291311ceb96d1f9ef114d3bf4bee5773072eeb585c4ac2dcdfd"), looks := false }, kinds := [], alts := [], laidByText := true, laidKinds := [.sentinel, .sentinel, .sentinel], laidTests := true, laidLooks := .later }
def RankComparesCardSaid : Prop := Claim7.holds Tryd.pinned (.plain (OpenSpec.ofChange rankComparesSpec)) rankComparesCard

/-- THE TIED CARD OF 'trawllaw12.RankOrders'. -/
def rankOrdersCard : Claim7 := { stood := { row := rankOrdersRow, standIns := [], harness := (true, "b01df7e2840e6291311ceb96d1f9ef114d3bf4bee5773072eeb585c4ac2dcdfd"), looks := false }, kinds := [], alts := [], laidByText := true, laidKinds := [.sentinel, .sentinel, .sentinel], laidTests := true, laidLooks := .later }
def RankOrdersCardSaid : Prop := Claim7.holds Tryd.pinned (.plain (OpenSpec.ofChange rankOrdersSpec)) rankOrdersCard

/-- THE TIED CARD OF 'trawllaw12.RankNests'. -/
def rankNestsCard : Claim7 := { stood := { row := rankNestsRow, standIns := [], harness := (true, "b01df7e2840e6291311ceb96d1f9ef114d3bf4bee5773072eeb585c4ac2dcdfd"), looks := false }, kinds := [], alts := [], laidByText := true, laidKinds := [.sentinel, .sentinel, .sentinel], laidTests := true, laidLooks := .later }
def RankNestsCardSaid : Prop := Claim7.holds Tryd.pinned (.plain (OpenSpec.ofChange rankNestsSpec)) rankNestsCard

/-- THE SECOND FORM's CARD OF 'trawllaw01.OctetMakes'. -/
def octetMakesUptoCard : Claim7 := { stood := { row := octetMakesUptoRow, standIns := [], harness := (true, "b01df7e2840e6291311ceb96d1f9ef114d3bf4bee5773072eeb585c4ac2dcdfd"), looks := false }, kinds := [], alts := [], laidByText := true, laidKinds := [.data], laidTests := true, laidLooks := .later }
def OctetMakesUptoCardSaid : Prop := Claim7.holds Tryd.pinned (.plain (OpenSpec.upto octetMakesSpec)) octetMakesUptoCard

/-- THE SECOND FORM's CARD OF 'trawllaw11.ReachAlgebra'. -/
def reachAlgebraUptoCard : Claim7 := { stood := { row := reachAlgebraUptoRow, standIns := [], harness := (true, "b01df7e2840e6291311ceb96d1f9ef114d3bf4bee5773072eeb585c4ac2dcdfd"), looks := false }, kinds := [], alts := [], laidByText := true, laidKinds := [.data, .sentinel, .sentinel, .sentinel, .sentinel, .sentinel], laidTests := true, laidLooks := .later }
def ReachAlgebraUptoCardSaid : Prop := Claim7.holds Tryd.pinned (.plain (OpenSpec.upto reachAlgebraSpec)) reachAlgebraUptoCard

/-- THE SECOND FORM's CARD OF 'trawllaw12.RankChecks'. -/
def rankChecksUptoCard : Claim7 := { stood := { row := rankChecksUptoRow, standIns := [], harness := (true, "b01df7e2840e6291311ceb96d1f9ef114d3bf4bee5773072eeb585c4ac2dcdfd"), looks := false }, kinds := [], alts := [], laidByText := true, laidKinds := [.sentinel, .sentinel, .sentinel], laidTests := true, laidLooks := .later }
def RankChecksUptoCardSaid : Prop := Claim7.holds Tryd.pinned (.plain (OpenSpec.upto rankChecksSpec)) rankChecksUptoCard

/-- THE SECOND FORM's CARD OF 'trawllaw12.RankCompares'. -/
def rankComparesUptoCard : Claim7 := { stood := { row := rankComparesUptoRow, standIns := [], harness := (true, "b01df7e2840e6291311ceb96d1f9ef114d3bf4bee5773072eeb585c4ac2dcdfd"), looks := false }, kinds := [], alts := [], laidByText := true, laidKinds := [.sentinel, .sentinel, .sentinel], laidTests := true, laidLooks := .later }
def RankComparesUptoCardSaid : Prop := Claim7.holds Tryd.pinned (.plain (OpenSpec.upto rankComparesSpec)) rankComparesUptoCard

/-- THE SECOND FORM's CARD OF 'trawllaw12.RankOrders'. -/
def rankOrdersUptoCard : Claim7 := { stood := { row := rankOrdersUptoRow, standIns := [], harness := (true, "b01df7e2840e6291311ceb96d1f9ef114d3bf4bee5773072eeb585c4ac2dcdfd"), looks := false }, kinds := [], alts := [], laidByText := true, laidKinds := [.sentinel, .sentinel, .sentinel], laidTests := true, laidLooks := .later }
def RankOrdersUptoCardSaid : Prop := Claim7.holds Tryd.pinned (.plain (OpenSpec.upto rankOrdersSpec)) rankOrdersUptoCard

/-- THE SECOND FORM's CARD OF 'trawllaw12.RankNests'. -/
def rankNestsUptoCard : Claim7 := { stood := { row := rankNestsUptoRow, standIns := [], harness := (true, "b01df7e2840e6291311ceb96d1f9ef114d3bf4bee5773072eeb585c4ac2dcdfd"), looks := false }, kinds := [], alts := [], laidByText := true, laidKinds := [.sentinel, .sentinel, .sentinel], laidTests := true, laidLooks := .later }
def RankNestsUptoCardSaid : Prop := Claim7.holds Tryd.pinned (.plain (OpenSpec.upto rankNestsSpec)) rankNestsUptoCard
end Rows
end Go.Proofs.YtknlkgegbcbcfaaDoor
