/-
  NARROWER THAN 'FOR EVERY INPUT', by the rows' own cells (each row's printed sentence says how): ClassNamed: laid · ClassFolds: laid · ClassNames: laid · ClassAlgebra: laid · ClassParts: laid.
  DERIVED. THE GIVEN ROWS OF THIS SEAT. 5 by the template 'for every input the law returns true; each argument reads behind the call as it read before'; 0 by the template 'total and deterministic' (their statements: YtnicijdpcpnbdaaDoorTotals.lean).
  GIVEN WITH THE SEED: the statements are not yours to turn. If you find one false, say at which input.
  Laid BY PROGRAM, IN A SANDBOX (cutbox-rows.mjs): the forced cells as the released guide's own fill.sh prints them over the translation 33d8286c6ce9dfe1… (all of the seat's roots in one cut). By AI agents, Wed Nov 11 2026. No macro, syntax, notation, axiom, sorry.
-/
import Derived.Test.YtnicijdpcpnbdaaDoorChecked
import GoSem.Claim
import GoSem.ClaimJoined
import GoSem.ClaimMapViews
import Derived.JoinedTies
import Derived.KernelRfl
namespace Go.Proofs.YtnicijdpcpnbdaaDoor
/- THE CELL 'sum', in the pinned program and in every row, IS THE sha256 OF THE DUMP (.gsa) THAT YtnicijdpcpnbdaaDoorProg.lean LOADS. Nothing in Lean hashes anything: it is a label: what it is worth is what the hold of that sum in a sandbox is worth. -/
noncomputable def Tryd.pinned : Pinned := { name := "ytnicijdpcpnbdaadoor", sum := "33d8286c6ce9dfe123fdbc4e98190352e5f154869072633346ed4674e144839e", checked := Tryd.checked }
namespace Rows
def none {H : Type} : Left H := { results := [], args := [] }

/- WHAT THE LISTED PACKAGE-LEVEL VARIABLES READ AS WHEN THE CALL BEGINS. Each datum BY PROGRAM (the guide's laid-datum.mjs) off the statement by which the dump's own 'gosem.cut.vars' lays the variable. In a bare row this is a premise. The card (YtnicijdpcpnbdaaDoorCards.lean) ties it to the program's text. -/
def laid_trawl_api_ErrBracket {H : Type} : DataW H := .iface "*errors.errorString" (.ptr (.agg [.lit (.string [116, 114, 97, 119, 108, 58, 32, 98, 114, 97, 99, 107, 101, 116])]))
def laid_trawl_api_ErrParen {H : Type} : DataW H := .iface "*errors.errorString" (.ptr (.agg [.lit (.string [116, 114, 97, 119, 108, 58, 32, 112, 97, 114, 101, 110, 116, 104, 101, 115, 105, 115])]))
def laid_trawl_api_ErrBrace {H : Type} : DataW H := .iface "*errors.errorString" (.ptr (.agg [.lit (.string [116, 114, 97, 119, 108, 58, 32, 98, 114, 97, 99, 101])]))
def laid_trawl_api_ErrCount {H : Type} : DataW H := .iface "*errors.errorString" (.ptr (.agg [.lit (.string [116, 114, 97, 119, 108, 58, 32, 99, 111, 117, 110, 116])]))
def laid_trawl_api_ErrRange {H : Type} : DataW H := .iface "*errors.errorString" (.ptr (.agg [.lit (.string [116, 114, 97, 119, 108, 58, 32, 114, 97, 110, 103, 101])]))
def laid_trawl_api_ErrClass {H : Type} : DataW H := .iface "*errors.errorString" (.ptr (.agg [.lit (.string [116, 114, 97, 119, 108, 58, 32, 99, 108, 97, 115, 115])]))
def laid_trawl_api_ErrCollate {H : Type} : DataW H := .iface "*errors.errorString" (.ptr (.agg [.lit (.string [116, 114, 97, 119, 108, 58, 32, 99, 111, 108, 108, 97, 116, 105, 110, 103])]))
def laid_trawl_api_ErrEscape {H : Type} : DataW H := .iface "*errors.errorString" (.ptr (.agg [.lit (.string [116, 114, 97, 119, 108, 58, 32, 101, 115, 99, 97, 112, 101])]))
def laid_trawl_api_ErrRepeat {H : Type} : DataW H := .iface "*errors.errorString" (.ptr (.agg [.lit (.string [116, 114, 97, 119, 108, 58, 32, 114, 101, 112, 101, 97, 116])]))
def laid_trawl_api_ErrTooBig {H : Type} : DataW H := .iface "*errors.errorString" (.ptr (.agg [.lit (.string [116, 114, 97, 119, 108, 58, 32, 116, 111, 111, 32, 98, 105, 103])]))
def laid_trawl_api_ErrNest {H : Type} : DataW H := .iface "*errors.errorString" (.ptr (.agg [.lit (.string [116, 114, 97, 119, 108, 58, 32, 110, 101, 115, 116, 105, 110, 103])]))
def laid_trawl_api_ErrLong {H : Type} : DataW H := .iface "*errors.errorString" (.ptr (.agg [.lit (.string [116, 114, 97, 119, 108, 58, 32, 108, 111, 110, 103])]))
def laid_trawl_api_ErrTree {H : Type} : DataW H := .iface "*errors.errorString" (.ptr (.agg [.lit (.string [116, 114, 97, 119, 108, 58, 32, 116, 114, 101, 101])]))
def laid_trawl_api_ErrDeep {H : Type} : DataW H := .iface "*errors.errorString" (.ptr (.agg [.lit (.string [116, 114, 97, 119, 108, 58, 32, 100, 101, 101, 112])]))
def laid_trawl_api_ErrArgument {H : Type} : DataW H := .iface "*errors.errorString" (.ptr (.agg [.lit (.string [116, 114, 97, 119, 108, 58, 32, 97, 114, 103, 117, 109, 101, 110, 116])]))
def laid_trawl_api_ErrNoMatch {H : Type} : DataW H := .iface "*errors.errorString" (.ptr (.agg [.lit (.string [116, 114, 97, 119, 108, 58, 32, 110, 111, 32, 109, 97, 116, 99, 104])]))
def laid_trawl_api_ErrImage {H : Type} : DataW H := .iface "*errors.errorString" (.ptr (.agg [.lit (.string [116, 114, 97, 119, 108, 58, 32, 105, 109, 97, 103, 101])]))
def laid_trawl_api_ErrMany {H : Type} : DataW H := .iface "*errors.errorString" (.ptr (.agg [.lit (.string [116, 114, 97, 119, 108, 58, 32, 109, 97, 110, 121])]))
def laid_trawl_api_ErrOption {H : Type} : DataW H := .iface "*errors.errorString" (.ptr (.agg [.lit (.string [116, 114, 97, 119, 108, 58, 32, 111, 112, 116, 105, 111, 110])]))
def laid_trawl_api_ErrCommand {H : Type} : DataW H := .iface "*errors.errorString" (.ptr (.agg [.lit (.string [116, 114, 97, 119, 108, 58, 32, 99, 111, 109, 109, 97, 110, 100])]))
def laid_trawl_api_ErrClosed {H : Type} : DataW H := .iface "*errors.errorString" (.ptr (.agg [.lit (.string [116, 114, 97, 119, 108, 58, 32, 99, 108, 111, 115, 101, 100])]))

/-- 'trawllaw02.ClassNamed': WHATEVER THE INPUT: true; the input reads as it did. -/
def classNamedSpec : ChangeSpec := { name := "classNamed", fn := fun _ => fun
  | [d] => { results := [.lit (.bool true)], args := [d] }
  | _ => none }
def classNamedRow : OpenClaim := { program := "ytnicijdpcpnbdaadoor", sum := "33d8286c6ce9dfe123fdbc4e98190352e5f154869072633346ed4674e144839e", func := "trawl/trawllaw02.ClassNamed", spec := "classNamed", inPlace := ["internal/reflectlite.TypeOf"], unfollowed := true, recurses := true, named := ["trawl/api.ErrClass", "trawl/api.ErrBracket", "trawl/api.ErrParen", "trawl/api.ErrBrace", "trawl/api.ErrCount", "trawl/api.ErrRange", "trawl/api.ErrCollate", "trawl/api.ErrEscape", "trawl/api.ErrRepeat", "trawl/api.ErrTooBig", "trawl/api.ErrNest", "trawl/api.ErrLong", "trawl/api.ErrTree", "trawl/api.ErrDeep", "trawl/api.ErrArgument", "trawl/api.ErrNoMatch", "trawl/api.ErrImage", "trawl/api.ErrMany", "trawl/api.ErrOption", "trawl/api.ErrCommand", "trawl/api.ErrClosed"], apart := false, laid := [("trawl/api.ErrBracket", laid_trawl_api_ErrBracket), ("trawl/api.ErrParen", laid_trawl_api_ErrParen), ("trawl/api.ErrBrace", laid_trawl_api_ErrBrace), ("trawl/api.ErrCount", laid_trawl_api_ErrCount), ("trawl/api.ErrRange", laid_trawl_api_ErrRange), ("trawl/api.ErrClass", laid_trawl_api_ErrClass), ("trawl/api.ErrCollate", laid_trawl_api_ErrCollate), ("trawl/api.ErrEscape", laid_trawl_api_ErrEscape), ("trawl/api.ErrRepeat", laid_trawl_api_ErrRepeat), ("trawl/api.ErrTooBig", laid_trawl_api_ErrTooBig), ("trawl/api.ErrNest", laid_trawl_api_ErrNest), ("trawl/api.ErrLong", laid_trawl_api_ErrLong), ("trawl/api.ErrTree", laid_trawl_api_ErrTree), ("trawl/api.ErrDeep", laid_trawl_api_ErrDeep), ("trawl/api.ErrArgument", laid_trawl_api_ErrArgument), ("trawl/api.ErrNoMatch", laid_trawl_api_ErrNoMatch), ("trawl/api.ErrImage", laid_trawl_api_ErrImage), ("trawl/api.ErrMany", laid_trawl_api_ErrMany), ("trawl/api.ErrOption", laid_trawl_api_ErrOption), ("trawl/api.ErrCommand", laid_trawl_api_ErrCommand), ("trawl/api.ErrClosed", laid_trawl_api_ErrClosed)] }
def ClassNamedSaid : Prop := classNamedRow.holds Tryd.pinned (OpenSpec.ofChange classNamedSpec)

/-- ITS FALSE NEIGHBOUR: 'it returns false'. Refute it at one input. -/
def classNamedWrong : ChangeSpec := { name := "classNamed", fn := fun _ => fun
  | [d] => { results := [.lit (.bool false)], args := [d] }
  | _ => none }
def ClassNamedWrongFalsely : Prop := classNamedRow.holds Tryd.pinned (OpenSpec.ofChange classNamedWrong)

/-- 'trawllaw02.ClassFolds': WHATEVER THE INPUT: true; the input reads as it did. -/
def classFoldsSpec : ChangeSpec := { name := "classFolds", fn := fun _ => fun
  | [d1, d2] => { results := [.lit (.bool true)], args := [d1, d2] }
  | _ => none }
def classFoldsRow : OpenClaim := { program := "ytnicijdpcpnbdaadoor", sum := "33d8286c6ce9dfe123fdbc4e98190352e5f154869072633346ed4674e144839e", func := "trawl/trawllaw02.ClassFolds", spec := "classFolds", inPlace := ["internal/reflectlite.TypeOf"], unfollowed := true, recurses := true, named := ["trawl/api.ErrClass", "trawl/api.ErrBracket", "trawl/api.ErrParen", "trawl/api.ErrBrace", "trawl/api.ErrCount", "trawl/api.ErrRange", "trawl/api.ErrCollate", "trawl/api.ErrEscape", "trawl/api.ErrRepeat", "trawl/api.ErrTooBig", "trawl/api.ErrNest", "trawl/api.ErrLong", "trawl/api.ErrTree", "trawl/api.ErrDeep", "trawl/api.ErrArgument", "trawl/api.ErrNoMatch", "trawl/api.ErrImage", "trawl/api.ErrMany", "trawl/api.ErrOption", "trawl/api.ErrCommand", "trawl/api.ErrClosed"], apart := false, laid := [("trawl/api.ErrBracket", laid_trawl_api_ErrBracket), ("trawl/api.ErrParen", laid_trawl_api_ErrParen), ("trawl/api.ErrBrace", laid_trawl_api_ErrBrace), ("trawl/api.ErrCount", laid_trawl_api_ErrCount), ("trawl/api.ErrRange", laid_trawl_api_ErrRange), ("trawl/api.ErrClass", laid_trawl_api_ErrClass), ("trawl/api.ErrCollate", laid_trawl_api_ErrCollate), ("trawl/api.ErrEscape", laid_trawl_api_ErrEscape), ("trawl/api.ErrRepeat", laid_trawl_api_ErrRepeat), ("trawl/api.ErrTooBig", laid_trawl_api_ErrTooBig), ("trawl/api.ErrNest", laid_trawl_api_ErrNest), ("trawl/api.ErrLong", laid_trawl_api_ErrLong), ("trawl/api.ErrTree", laid_trawl_api_ErrTree), ("trawl/api.ErrDeep", laid_trawl_api_ErrDeep), ("trawl/api.ErrArgument", laid_trawl_api_ErrArgument), ("trawl/api.ErrNoMatch", laid_trawl_api_ErrNoMatch), ("trawl/api.ErrImage", laid_trawl_api_ErrImage), ("trawl/api.ErrMany", laid_trawl_api_ErrMany), ("trawl/api.ErrOption", laid_trawl_api_ErrOption), ("trawl/api.ErrCommand", laid_trawl_api_ErrCommand), ("trawl/api.ErrClosed", laid_trawl_api_ErrClosed)] }
def ClassFoldsSaid : Prop := classFoldsRow.holds Tryd.pinned (OpenSpec.ofChange classFoldsSpec)

/-- ITS FALSE NEIGHBOUR: 'it returns false'. Refute it at one input. -/
def classFoldsWrong : ChangeSpec := { name := "classFolds", fn := fun _ => fun
  | [d1, d2] => { results := [.lit (.bool false)], args := [d1, d2] }
  | _ => none }
def ClassFoldsWrongFalsely : Prop := classFoldsRow.holds Tryd.pinned (OpenSpec.ofChange classFoldsWrong)

/-- 'trawllaw02.ClassNames': WHATEVER THE INPUT: true; the input reads as it did. -/
def classNamesSpec : ChangeSpec := { name := "classNames", fn := fun _ => fun
  | [] => { results := [.lit (.bool true)], args := [] }
  | _ => none }
def classNamesRow : OpenClaim := { program := "ytnicijdpcpnbdaadoor", sum := "33d8286c6ce9dfe123fdbc4e98190352e5f154869072633346ed4674e144839e", func := "trawl/trawllaw02.ClassNames", spec := "classNames", inPlace := ["internal/reflectlite.TypeOf"], unfollowed := true, recurses := true, named := ["trawl/api.ErrClass", "trawl/api.ErrBracket", "trawl/api.ErrParen", "trawl/api.ErrBrace", "trawl/api.ErrCount", "trawl/api.ErrRange", "trawl/api.ErrCollate", "trawl/api.ErrEscape", "trawl/api.ErrRepeat", "trawl/api.ErrTooBig", "trawl/api.ErrNest", "trawl/api.ErrLong", "trawl/api.ErrTree", "trawl/api.ErrDeep", "trawl/api.ErrArgument", "trawl/api.ErrNoMatch", "trawl/api.ErrImage", "trawl/api.ErrMany", "trawl/api.ErrOption", "trawl/api.ErrCommand", "trawl/api.ErrClosed"], apart := false, laid := [("trawl/api.ErrBracket", laid_trawl_api_ErrBracket), ("trawl/api.ErrParen", laid_trawl_api_ErrParen), ("trawl/api.ErrBrace", laid_trawl_api_ErrBrace), ("trawl/api.ErrCount", laid_trawl_api_ErrCount), ("trawl/api.ErrRange", laid_trawl_api_ErrRange), ("trawl/api.ErrClass", laid_trawl_api_ErrClass), ("trawl/api.ErrCollate", laid_trawl_api_ErrCollate), ("trawl/api.ErrEscape", laid_trawl_api_ErrEscape), ("trawl/api.ErrRepeat", laid_trawl_api_ErrRepeat), ("trawl/api.ErrTooBig", laid_trawl_api_ErrTooBig), ("trawl/api.ErrNest", laid_trawl_api_ErrNest), ("trawl/api.ErrLong", laid_trawl_api_ErrLong), ("trawl/api.ErrTree", laid_trawl_api_ErrTree), ("trawl/api.ErrDeep", laid_trawl_api_ErrDeep), ("trawl/api.ErrArgument", laid_trawl_api_ErrArgument), ("trawl/api.ErrNoMatch", laid_trawl_api_ErrNoMatch), ("trawl/api.ErrImage", laid_trawl_api_ErrImage), ("trawl/api.ErrMany", laid_trawl_api_ErrMany), ("trawl/api.ErrOption", laid_trawl_api_ErrOption), ("trawl/api.ErrCommand", laid_trawl_api_ErrCommand), ("trawl/api.ErrClosed", laid_trawl_api_ErrClosed)] }
def ClassNamesSaid : Prop := classNamesRow.holds Tryd.pinned (OpenSpec.ofChange classNamesSpec)

/-- ITS FALSE NEIGHBOUR: 'it returns false'. Refute it at one input. -/
def classNamesWrong : ChangeSpec := { name := "classNames", fn := fun _ => fun
  | [] => { results := [.lit (.bool false)], args := [] }
  | _ => none }
def ClassNamesWrongFalsely : Prop := classNamesRow.holds Tryd.pinned (OpenSpec.ofChange classNamesWrong)

/-- 'trawllaw02.ClassAlgebra': WHATEVER THE INPUT: true; the input reads as it did. -/
def classAlgebraSpec : ChangeSpec := { name := "classAlgebra", fn := fun _ => fun
  | [d1, d2, d3] => { results := [.lit (.bool true)], args := [d1, d2, d3] }
  | _ => none }
def classAlgebraRow : OpenClaim := { program := "ytnicijdpcpnbdaadoor", sum := "33d8286c6ce9dfe123fdbc4e98190352e5f154869072633346ed4674e144839e", func := "trawl/trawllaw02.ClassAlgebra", spec := "classAlgebra", inPlace := ["internal/reflectlite.TypeOf"], unfollowed := true, recurses := true, named := ["trawl/api.ErrClass", "trawl/api.ErrBracket", "trawl/api.ErrParen", "trawl/api.ErrBrace", "trawl/api.ErrCount", "trawl/api.ErrRange", "trawl/api.ErrCollate", "trawl/api.ErrEscape", "trawl/api.ErrRepeat", "trawl/api.ErrTooBig", "trawl/api.ErrNest", "trawl/api.ErrLong", "trawl/api.ErrTree", "trawl/api.ErrDeep", "trawl/api.ErrArgument", "trawl/api.ErrNoMatch", "trawl/api.ErrImage", "trawl/api.ErrMany", "trawl/api.ErrOption", "trawl/api.ErrCommand", "trawl/api.ErrClosed"], apart := false, laid := [("trawl/api.ErrBracket", laid_trawl_api_ErrBracket), ("trawl/api.ErrParen", laid_trawl_api_ErrParen), ("trawl/api.ErrBrace", laid_trawl_api_ErrBrace), ("trawl/api.ErrCount", laid_trawl_api_ErrCount), ("trawl/api.ErrRange", laid_trawl_api_ErrRange), ("trawl/api.ErrClass", laid_trawl_api_ErrClass), ("trawl/api.ErrCollate", laid_trawl_api_ErrCollate), ("trawl/api.ErrEscape", laid_trawl_api_ErrEscape), ("trawl/api.ErrRepeat", laid_trawl_api_ErrRepeat), ("trawl/api.ErrTooBig", laid_trawl_api_ErrTooBig), ("trawl/api.ErrNest", laid_trawl_api_ErrNest), ("trawl/api.ErrLong", laid_trawl_api_ErrLong), ("trawl/api.ErrTree", laid_trawl_api_ErrTree), ("trawl/api.ErrDeep", laid_trawl_api_ErrDeep), ("trawl/api.ErrArgument", laid_trawl_api_ErrArgument), ("trawl/api.ErrNoMatch", laid_trawl_api_ErrNoMatch), ("trawl/api.ErrImage", laid_trawl_api_ErrImage), ("trawl/api.ErrMany", laid_trawl_api_ErrMany), ("trawl/api.ErrOption", laid_trawl_api_ErrOption), ("trawl/api.ErrCommand", laid_trawl_api_ErrCommand), ("trawl/api.ErrClosed", laid_trawl_api_ErrClosed)] }
def ClassAlgebraSaid : Prop := classAlgebraRow.holds Tryd.pinned (OpenSpec.ofChange classAlgebraSpec)

/-- ITS FALSE NEIGHBOUR: 'it returns false'. Refute it at one input. -/
def classAlgebraWrong : ChangeSpec := { name := "classAlgebra", fn := fun _ => fun
  | [d1, d2, d3] => { results := [.lit (.bool false)], args := [d1, d2, d3] }
  | _ => none }
def ClassAlgebraWrongFalsely : Prop := classAlgebraRow.holds Tryd.pinned (OpenSpec.ofChange classAlgebraWrong)

/-- 'trawllaw02.ClassParts': WHATEVER THE INPUT: true; the input reads as it did. -/
def classPartsSpec : ChangeSpec := { name := "classParts", fn := fun _ => fun
  | [d] => { results := [.lit (.bool true)], args := [d] }
  | _ => none }
def classPartsRow : OpenClaim := { program := "ytnicijdpcpnbdaadoor", sum := "33d8286c6ce9dfe123fdbc4e98190352e5f154869072633346ed4674e144839e", func := "trawl/trawllaw02.ClassParts", spec := "classParts", inPlace := ["internal/reflectlite.TypeOf"], unfollowed := true, recurses := true, named := ["trawl/api.ErrClass", "trawl/api.ErrBracket", "trawl/api.ErrParen", "trawl/api.ErrBrace", "trawl/api.ErrCount", "trawl/api.ErrRange", "trawl/api.ErrCollate", "trawl/api.ErrEscape", "trawl/api.ErrRepeat", "trawl/api.ErrTooBig", "trawl/api.ErrNest", "trawl/api.ErrLong", "trawl/api.ErrTree", "trawl/api.ErrDeep", "trawl/api.ErrArgument", "trawl/api.ErrNoMatch", "trawl/api.ErrImage", "trawl/api.ErrMany", "trawl/api.ErrOption", "trawl/api.ErrCommand", "trawl/api.ErrClosed"], apart := false, laid := [("trawl/api.ErrBracket", laid_trawl_api_ErrBracket), ("trawl/api.ErrParen", laid_trawl_api_ErrParen), ("trawl/api.ErrBrace", laid_trawl_api_ErrBrace), ("trawl/api.ErrCount", laid_trawl_api_ErrCount), ("trawl/api.ErrRange", laid_trawl_api_ErrRange), ("trawl/api.ErrClass", laid_trawl_api_ErrClass), ("trawl/api.ErrCollate", laid_trawl_api_ErrCollate), ("trawl/api.ErrEscape", laid_trawl_api_ErrEscape), ("trawl/api.ErrRepeat", laid_trawl_api_ErrRepeat), ("trawl/api.ErrTooBig", laid_trawl_api_ErrTooBig), ("trawl/api.ErrNest", laid_trawl_api_ErrNest), ("trawl/api.ErrLong", laid_trawl_api_ErrLong), ("trawl/api.ErrTree", laid_trawl_api_ErrTree), ("trawl/api.ErrDeep", laid_trawl_api_ErrDeep), ("trawl/api.ErrArgument", laid_trawl_api_ErrArgument), ("trawl/api.ErrNoMatch", laid_trawl_api_ErrNoMatch), ("trawl/api.ErrImage", laid_trawl_api_ErrImage), ("trawl/api.ErrMany", laid_trawl_api_ErrMany), ("trawl/api.ErrOption", laid_trawl_api_ErrOption), ("trawl/api.ErrCommand", laid_trawl_api_ErrCommand), ("trawl/api.ErrClosed", laid_trawl_api_ErrClosed)] }
def ClassPartsSaid : Prop := classPartsRow.holds Tryd.pinned (OpenSpec.ofChange classPartsSpec)

/-- ITS FALSE NEIGHBOUR: 'it returns false'. Refute it at one input. -/
def classPartsWrong : ChangeSpec := { name := "classParts", fn := fun _ => fun
  | [d] => { results := [.lit (.bool false)], args := [d] }
  | _ => none }
def ClassPartsWrongFalsely : Prop := classPartsRow.holds Tryd.pinned (OpenSpec.ofChange classPartsWrong)

/- THE SECOND FORM. 'bulk': how many values and letters a reading holds, each counted each time it is reached (what is shared counts as often as it is met; a slice's spare places count too). A statement '..UptoSaid' is the law's where the arguments, and the package variables that the reading takes, are together of bulk at most 1048576: NARROWER than '..Said'. Prove '..Said' where nothing that the law and all that it calls make is longer than what came in: it says more and counts as full. Else prove '..UptoSaid'. A law counts once. -/
mutual
def uptoBulk {H : Type} : DataW H → Nat
  | .lit (.string bytes) => bytes.length + 1
  | .lit _ => 1
  | .nil => 1
  | .ptr d => uptoBulk d + 1
  | .slice elems spare => uptoBulkAll elems + uptoBulkAll spare + 1
  | .agg parts => uptoBulkAll parts + 1
  | .iface _ d => uptoBulk d + 1
  | .map entries => uptoBulkEntries entries + 1
  | .held _ => 1
def uptoBulkAll {H : Type} : List (DataW H) → Nat
  | [] => 0
  | d :: r => uptoBulk d + uptoBulkAll r
def uptoBulkEntries {H : Type} : List (Lit × DataW H) → Nat
  | [] => 0
  | x :: r => uptoBulkEntry x + uptoBulkEntries r
def uptoBulkEntry {H : Type} : Lit × DataW H → Nat
  | (.string bytes, d) => bytes.length + uptoBulk d + 1
  | (_, d) => uptoBulk d + 1
 end
def uptoSmall : (H : Type) → List (DataW H) → Bool := fun _ ds => decide (uptoBulkAll ds ≤ 1048576)
def OpenSpec.upto (s : _root_.Go.ChangeSpec) : _root_.Go.OpenSpec := { _root_.Go.OpenSpec.ofChange s with cond := some uptoSmall }

/-- 'trawllaw02.ClassNamed', WHERE WHAT IT READS IS OF BULK AT MOST 1048576: true; the input reads as it did. -/
def classNamedUptoRow : OpenClaim := { program := "ytnicijdpcpnbdaadoor", sum := "33d8286c6ce9dfe123fdbc4e98190352e5f154869072633346ed4674e144839e", func := "trawl/trawllaw02.ClassNamed", spec := "classNamed", inPlace := ["internal/reflectlite.TypeOf"], unfollowed := true, recurses := true, named := ["trawl/api.ErrClass", "trawl/api.ErrBracket", "trawl/api.ErrParen", "trawl/api.ErrBrace", "trawl/api.ErrCount", "trawl/api.ErrRange", "trawl/api.ErrCollate", "trawl/api.ErrEscape", "trawl/api.ErrRepeat", "trawl/api.ErrTooBig", "trawl/api.ErrNest", "trawl/api.ErrLong", "trawl/api.ErrTree", "trawl/api.ErrDeep", "trawl/api.ErrArgument", "trawl/api.ErrNoMatch", "trawl/api.ErrImage", "trawl/api.ErrMany", "trawl/api.ErrOption", "trawl/api.ErrCommand", "trawl/api.ErrClosed"], apart := false, laid := [("trawl/api.ErrBracket", laid_trawl_api_ErrBracket), ("trawl/api.ErrParen", laid_trawl_api_ErrParen), ("trawl/api.ErrBrace", laid_trawl_api_ErrBrace), ("trawl/api.ErrCount", laid_trawl_api_ErrCount), ("trawl/api.ErrRange", laid_trawl_api_ErrRange), ("trawl/api.ErrClass", laid_trawl_api_ErrClass), ("trawl/api.ErrCollate", laid_trawl_api_ErrCollate), ("trawl/api.ErrEscape", laid_trawl_api_ErrEscape), ("trawl/api.ErrRepeat", laid_trawl_api_ErrRepeat), ("trawl/api.ErrTooBig", laid_trawl_api_ErrTooBig), ("trawl/api.ErrNest", laid_trawl_api_ErrNest), ("trawl/api.ErrLong", laid_trawl_api_ErrLong), ("trawl/api.ErrTree", laid_trawl_api_ErrTree), ("trawl/api.ErrDeep", laid_trawl_api_ErrDeep), ("trawl/api.ErrArgument", laid_trawl_api_ErrArgument), ("trawl/api.ErrNoMatch", laid_trawl_api_ErrNoMatch), ("trawl/api.ErrImage", laid_trawl_api_ErrImage), ("trawl/api.ErrMany", laid_trawl_api_ErrMany), ("trawl/api.ErrOption", laid_trawl_api_ErrOption), ("trawl/api.ErrCommand", laid_trawl_api_ErrCommand), ("trawl/api.ErrClosed", laid_trawl_api_ErrClosed)], narrowed := true }
def ClassNamedUptoSaid : Prop := classNamedUptoRow.holds Tryd.pinned (OpenSpec.upto classNamedSpec)

/-- 'trawllaw02.ClassFolds', WHERE WHAT IT READS IS OF BULK AT MOST 1048576: true; the input reads as it did. -/
def classFoldsUptoRow : OpenClaim := { program := "ytnicijdpcpnbdaadoor", sum := "33d8286c6ce9dfe123fdbc4e98190352e5f154869072633346ed4674e144839e", func := "trawl/trawllaw02.ClassFolds", spec := "classFolds", inPlace := ["internal/reflectlite.TypeOf"], unfollowed := true, recurses := true, named := ["trawl/api.ErrClass", "trawl/api.ErrBracket", "trawl/api.ErrParen", "trawl/api.ErrBrace", "trawl/api.ErrCount", "trawl/api.ErrRange", "trawl/api.ErrCollate", "trawl/api.ErrEscape", "trawl/api.ErrRepeat", "trawl/api.ErrTooBig", "trawl/api.ErrNest", "trawl/api.ErrLong", "trawl/api.ErrTree", "trawl/api.ErrDeep", "trawl/api.ErrArgument", "trawl/api.ErrNoMatch", "trawl/api.ErrImage", "trawl/api.ErrMany", "trawl/api.ErrOption", "trawl/api.ErrCommand", "trawl/api.ErrClosed"], apart := false, laid := [("trawl/api.ErrBracket", laid_trawl_api_ErrBracket), ("trawl/api.ErrParen", laid_trawl_api_ErrParen), ("trawl/api.ErrBrace", laid_trawl_api_ErrBrace), ("trawl/api.ErrCount", laid_trawl_api_ErrCount), ("trawl/api.ErrRange", laid_trawl_api_ErrRange), ("trawl/api.ErrClass", laid_trawl_api_ErrClass), ("trawl/api.ErrCollate", laid_trawl_api_ErrCollate), ("trawl/api.ErrEscape", laid_trawl_api_ErrEscape), ("trawl/api.ErrRepeat", laid_trawl_api_ErrRepeat), ("trawl/api.ErrTooBig", laid_trawl_api_ErrTooBig), ("trawl/api.ErrNest", laid_trawl_api_ErrNest), ("trawl/api.ErrLong", laid_trawl_api_ErrLong), ("trawl/api.ErrTree", laid_trawl_api_ErrTree), ("trawl/api.ErrDeep", laid_trawl_api_ErrDeep), ("trawl/api.ErrArgument", laid_trawl_api_ErrArgument), ("trawl/api.ErrNoMatch", laid_trawl_api_ErrNoMatch), ("trawl/api.ErrImage", laid_trawl_api_ErrImage), ("trawl/api.ErrMany", laid_trawl_api_ErrMany), ("trawl/api.ErrOption", laid_trawl_api_ErrOption), ("trawl/api.ErrCommand", laid_trawl_api_ErrCommand), ("trawl/api.ErrClosed", laid_trawl_api_ErrClosed)], narrowed := true }
def ClassFoldsUptoSaid : Prop := classFoldsUptoRow.holds Tryd.pinned (OpenSpec.upto classFoldsSpec)

/-- 'trawllaw02.ClassNames', WHERE WHAT IT READS IS OF BULK AT MOST 1048576: true; the input reads as it did. -/
def classNamesUptoRow : OpenClaim := { program := "ytnicijdpcpnbdaadoor", sum := "33d8286c6ce9dfe123fdbc4e98190352e5f154869072633346ed4674e144839e", func := "trawl/trawllaw02.ClassNames", spec := "classNames", inPlace := ["internal/reflectlite.TypeOf"], unfollowed := true, recurses := true, named := ["trawl/api.ErrClass", "trawl/api.ErrBracket", "trawl/api.ErrParen", "trawl/api.ErrBrace", "trawl/api.ErrCount", "trawl/api.ErrRange", "trawl/api.ErrCollate", "trawl/api.ErrEscape", "trawl/api.ErrRepeat", "trawl/api.ErrTooBig", "trawl/api.ErrNest", "trawl/api.ErrLong", "trawl/api.ErrTree", "trawl/api.ErrDeep", "trawl/api.ErrArgument", "trawl/api.ErrNoMatch", "trawl/api.ErrImage", "trawl/api.ErrMany", "trawl/api.ErrOption", "trawl/api.ErrCommand", "trawl/api.ErrClosed"], apart := false, laid := [("trawl/api.ErrBracket", laid_trawl_api_ErrBracket), ("trawl/api.ErrParen", laid_trawl_api_ErrParen), ("trawl/api.ErrBrace", laid_trawl_api_ErrBrace), ("trawl/api.ErrCount", laid_trawl_api_ErrCount), ("trawl/api.ErrRange", laid_trawl_api_ErrRange), ("trawl/api.ErrClass", laid_trawl_api_ErrClass), ("trawl/api.ErrCollate", laid_trawl_api_ErrCollate), ("trawl/api.ErrEscape", laid_trawl_api_ErrEscape), ("trawl/api.ErrRepeat", laid_trawl_api_ErrRepeat), ("trawl/api.ErrTooBig", laid_trawl_api_ErrTooBig), ("trawl/api.ErrNest", laid_trawl_api_ErrNest), ("trawl/api.ErrLong", laid_trawl_api_ErrLong), ("trawl/api.ErrTree", laid_trawl_api_ErrTree), ("trawl/api.ErrDeep", laid_trawl_api_ErrDeep), ("trawl/api.ErrArgument", laid_trawl_api_ErrArgument), ("trawl/api.ErrNoMatch", laid_trawl_api_ErrNoMatch), ("trawl/api.ErrImage", laid_trawl_api_ErrImage), ("trawl/api.ErrMany", laid_trawl_api_ErrMany), ("trawl/api.ErrOption", laid_trawl_api_ErrOption), ("trawl/api.ErrCommand", laid_trawl_api_ErrCommand), ("trawl/api.ErrClosed", laid_trawl_api_ErrClosed)], narrowed := true }
def ClassNamesUptoSaid : Prop := classNamesUptoRow.holds Tryd.pinned (OpenSpec.upto classNamesSpec)

/-- 'trawllaw02.ClassAlgebra', WHERE WHAT IT READS IS OF BULK AT MOST 1048576: true; the input reads as it did. -/
def classAlgebraUptoRow : OpenClaim := { program := "ytnicijdpcpnbdaadoor", sum := "33d8286c6ce9dfe123fdbc4e98190352e5f154869072633346ed4674e144839e", func := "trawl/trawllaw02.ClassAlgebra", spec := "classAlgebra", inPlace := ["internal/reflectlite.TypeOf"], unfollowed := true, recurses := true, named := ["trawl/api.ErrClass", "trawl/api.ErrBracket", "trawl/api.ErrParen", "trawl/api.ErrBrace", "trawl/api.ErrCount", "trawl/api.ErrRange", "trawl/api.ErrCollate", "trawl/api.ErrEscape", "trawl/api.ErrRepeat", "trawl/api.ErrTooBig", "trawl/api.ErrNest", "trawl/api.ErrLong", "trawl/api.ErrTree", "trawl/api.ErrDeep", "trawl/api.ErrArgument", "trawl/api.ErrNoMatch", "trawl/api.ErrImage", "trawl/api.ErrMany", "trawl/api.ErrOption", "trawl/api.ErrCommand", "trawl/api.ErrClosed"], apart := false, laid := [("trawl/api.ErrBracket", laid_trawl_api_ErrBracket), ("trawl/api.ErrParen", laid_trawl_api_ErrParen), ("trawl/api.ErrBrace", laid_trawl_api_ErrBrace), ("trawl/api.ErrCount", laid_trawl_api_ErrCount), ("trawl/api.ErrRange", laid_trawl_api_ErrRange), ("trawl/api.ErrClass", laid_trawl_api_ErrClass), ("trawl/api.ErrCollate", laid_trawl_api_ErrCollate), ("trawl/api.ErrEscape", laid_trawl_api_ErrEscape), ("trawl/api.ErrRepeat", laid_trawl_api_ErrRepeat), ("trawl/api.ErrTooBig", laid_trawl_api_ErrTooBig), ("trawl/api.ErrNest", laid_trawl_api_ErrNest), ("trawl/api.ErrLong", laid_trawl_api_ErrLong), ("trawl/api.ErrTree", laid_trawl_api_ErrTree), ("trawl/api.ErrDeep", laid_trawl_api_ErrDeep), ("trawl/api.ErrArgument", laid_trawl_api_ErrArgument), ("trawl/api.ErrNoMatch", laid_trawl_api_ErrNoMatch), ("trawl/api.ErrImage", laid_trawl_api_ErrImage), ("trawl/api.ErrMany", laid_trawl_api_ErrMany), ("trawl/api.ErrOption", laid_trawl_api_ErrOption), ("trawl/api.ErrCommand", laid_trawl_api_ErrCommand), ("trawl/api.ErrClosed", laid_trawl_api_ErrClosed)], narrowed := true }
def ClassAlgebraUptoSaid : Prop := classAlgebraUptoRow.holds Tryd.pinned (OpenSpec.upto classAlgebraSpec)

/-- 'trawllaw02.ClassParts', WHERE WHAT IT READS IS OF BULK AT MOST 1048576: true; the input reads as it did. -/
def classPartsUptoRow : OpenClaim := { program := "ytnicijdpcpnbdaadoor", sum := "33d8286c6ce9dfe123fdbc4e98190352e5f154869072633346ed4674e144839e", func := "trawl/trawllaw02.ClassParts", spec := "classParts", inPlace := ["internal/reflectlite.TypeOf"], unfollowed := true, recurses := true, named := ["trawl/api.ErrClass", "trawl/api.ErrBracket", "trawl/api.ErrParen", "trawl/api.ErrBrace", "trawl/api.ErrCount", "trawl/api.ErrRange", "trawl/api.ErrCollate", "trawl/api.ErrEscape", "trawl/api.ErrRepeat", "trawl/api.ErrTooBig", "trawl/api.ErrNest", "trawl/api.ErrLong", "trawl/api.ErrTree", "trawl/api.ErrDeep", "trawl/api.ErrArgument", "trawl/api.ErrNoMatch", "trawl/api.ErrImage", "trawl/api.ErrMany", "trawl/api.ErrOption", "trawl/api.ErrCommand", "trawl/api.ErrClosed"], apart := false, laid := [("trawl/api.ErrBracket", laid_trawl_api_ErrBracket), ("trawl/api.ErrParen", laid_trawl_api_ErrParen), ("trawl/api.ErrBrace", laid_trawl_api_ErrBrace), ("trawl/api.ErrCount", laid_trawl_api_ErrCount), ("trawl/api.ErrRange", laid_trawl_api_ErrRange), ("trawl/api.ErrClass", laid_trawl_api_ErrClass), ("trawl/api.ErrCollate", laid_trawl_api_ErrCollate), ("trawl/api.ErrEscape", laid_trawl_api_ErrEscape), ("trawl/api.ErrRepeat", laid_trawl_api_ErrRepeat), ("trawl/api.ErrTooBig", laid_trawl_api_ErrTooBig), ("trawl/api.ErrNest", laid_trawl_api_ErrNest), ("trawl/api.ErrLong", laid_trawl_api_ErrLong), ("trawl/api.ErrTree", laid_trawl_api_ErrTree), ("trawl/api.ErrDeep", laid_trawl_api_ErrDeep), ("trawl/api.ErrArgument", laid_trawl_api_ErrArgument), ("trawl/api.ErrNoMatch", laid_trawl_api_ErrNoMatch), ("trawl/api.ErrImage", laid_trawl_api_ErrImage), ("trawl/api.ErrMany", laid_trawl_api_ErrMany), ("trawl/api.ErrOption", laid_trawl_api_ErrOption), ("trawl/api.ErrCommand", laid_trawl_api_ErrCommand), ("trawl/api.ErrClosed", laid_trawl_api_ErrClosed)], narrowed := true }
def ClassPartsUptoSaid : Prop := classPartsUptoRow.holds Tryd.pinned (OpenSpec.upto classPartsSpec)

end Rows
end Go.Proofs.YtnicijdpcpnbdaaDoor
