/-
  No cell of these rows narrows 'for every input' (looked for: loops, veiled, ifaces, maps, wideKeys, modest, calm, conditions, laid).
  DERIVED. THE GIVEN ROWS OF THIS SEAT. 3 by the template 'for every input the law returns true; each argument reads behind the call as it read before'; 0 by the template 'total and deterministic' (their statements: YtnfgalgifgfojaaTotals.lean).
  GIVEN WITH THE SEED: the statements are not yours to turn. If you find one false, say at which input.
  Laid BY PROGRAM, IN A SANDBOX (cutbox-rows.mjs): the forced cells as the released guide's own fill.sh prints them over the translation 88a6407e543d1c76… (all of the seat's roots in one cut). By AI agents, Wed Nov 11 2026. No macro, syntax, notation, axiom, sorry.
-/
import Derived.Test.YtnfgalgifgfojaaChecked
import GoSem.Claim
import GoSem.ClaimJoined
import GoSem.ClaimMapViews
import Derived.JoinedTies
import Derived.KernelRfl
namespace Go.Proofs.Ytnfgalgifgfojaa
/- THE CELL 'sum', in the pinned program and in every row, IS THE sha256 OF THE DUMP (.gsa) THAT YtnfgalgifgfojaaProg.lean LOADS. Nothing in Lean hashes anything: it is a label: what it is worth is what the hold of that sum in a sandbox is worth. -/
noncomputable def Try.pinned : Pinned := { name := "ytnfgalgifgfojaa", sum := "88a6407e543d1c76f94663f16533a144023767a73471917e58099d170a5a4521", checked := Try.checked }
namespace Rows
def none {H : Type} : Left H := { results := [], args := [] }

/-- 'trawllaw10.SceneTells': WHATEVER THE INPUT: true; the input reads as it did. -/
def sceneTellsSpec : ChangeSpec := { name := "sceneTells", fn := fun _ => fun
  | [d1, d2, d3, d4] => { results := [.lit (.bool true)], args := [d1, d2, d3, d4] }
  | _ => none }
def sceneTellsRow : OpenClaim := { program := "ytnfgalgifgfojaa", sum := "88a6407e543d1c76f94663f16533a144023767a73471917e58099d170a5a4521", func := "trawl/trawllaw10.SceneTells", spec := "sceneTells", apart := false }
def SceneTellsSaid : Prop := sceneTellsRow.holds Try.pinned (OpenSpec.ofChange sceneTellsSpec)

/-- ITS FALSE NEIGHBOUR: 'it returns false'. Refute it at one input. -/
def sceneTellsWrong : ChangeSpec := { name := "sceneTells", fn := fun _ => fun
  | [d1, d2, d3, d4] => { results := [.lit (.bool false)], args := [d1, d2, d3, d4] }
  | _ => none }
def SceneTellsWrongFalsely : Prop := sceneTellsRow.holds Try.pinned (OpenSpec.ofChange sceneTellsWrong)

/-- 'trawllaw10.SceneTurns': WHATEVER THE INPUT: true; the input reads as it did. -/
def sceneTurnsSpec : ChangeSpec := { name := "sceneTurns", fn := fun _ => fun
  | [d1, d2, d3, d4] => { results := [.lit (.bool true)], args := [d1, d2, d3, d4] }
  | _ => none }
def sceneTurnsRow : OpenClaim := { program := "ytnfgalgifgfojaa", sum := "88a6407e543d1c76f94663f16533a144023767a73471917e58099d170a5a4521", func := "trawl/trawllaw10.SceneTurns", spec := "sceneTurns", apart := false }
def SceneTurnsSaid : Prop := sceneTurnsRow.holds Try.pinned (OpenSpec.ofChange sceneTurnsSpec)

/-- ITS FALSE NEIGHBOUR: 'it returns false'. Refute it at one input. -/
def sceneTurnsWrong : ChangeSpec := { name := "sceneTurns", fn := fun _ => fun
  | [d1, d2, d3, d4] => { results := [.lit (.bool false)], args := [d1, d2, d3, d4] }
  | _ => none }
def SceneTurnsWrongFalsely : Prop := sceneTurnsRow.holds Try.pinned (OpenSpec.ofChange sceneTurnsWrong)

/-- 'trawllaw10.SceneFlags': WHATEVER THE INPUT: true; the input reads as it did. -/
def sceneFlagsSpec : ChangeSpec := { name := "sceneFlags", fn := fun _ => fun
  | [d1, d2, d3] => { results := [.lit (.bool true)], args := [d1, d2, d3] }
  | _ => none }
def sceneFlagsRow : OpenClaim := { program := "ytnfgalgifgfojaa", sum := "88a6407e543d1c76f94663f16533a144023767a73471917e58099d170a5a4521", func := "trawl/trawllaw10.SceneFlags", spec := "sceneFlags", apart := false }
def SceneFlagsSaid : Prop := sceneFlagsRow.holds Try.pinned (OpenSpec.ofChange sceneFlagsSpec)

/-- ITS FALSE NEIGHBOUR: 'it returns false'. Refute it at one input. -/
def sceneFlagsWrong : ChangeSpec := { name := "sceneFlags", fn := fun _ => fun
  | [d1, d2, d3] => { results := [.lit (.bool false)], args := [d1, d2, d3] }
  | _ => none }
def SceneFlagsWrongFalsely : Prop := sceneFlagsRow.holds Try.pinned (OpenSpec.ofChange sceneFlagsWrong)

/- THE SECOND FORM. 'bulk': how many values and letters a reading holds, each counted each time it is reached (what is shared counts as often as it is met; a slice's spare places count too). A statement '..UptoSaid' is the law's where the arguments, and the package variables that the reading takes, are together of bulk at most 1048576: NARROWER than '..Said'. Prove '..Said' where nothing that the law and all that it calls make is longer than what came in: it says more and counts as full. Else prove '..UptoSaid'. A law counts once. -/
mutual
def uptoBulk {H : Type} : DataW H → Nat
  | .lit (.string bytes) => bytes.length + 1
  | .lit _ => 1
  | .nil => 1
  | .ptr d => uptoBulk d + 1
  | .slice elems spare => uptoBulkAll elems + uptoBulkAll spare + 1
  | .agg parts => uptoBulkAll parts + 1
  | .iface _ d => uptoBulk d + 1
  | .map entries => uptoBulkEntries entries + 1
  | .held _ => 1
def uptoBulkAll {H : Type} : List (DataW H) → Nat
  | [] => 0
  | d :: r => uptoBulk d + uptoBulkAll r
def uptoBulkEntries {H : Type} : List (Lit × DataW H) → Nat
  | [] => 0
  | x :: r => uptoBulkEntry x + uptoBulkEntries r
def uptoBulkEntry {H : Type} : Lit × DataW H → Nat
  | (.string bytes, d) => bytes.length + uptoBulk d + 1
  | (_, d) => uptoBulk d + 1
 end
def uptoSmall : (H : Type) → List (DataW H) → Bool := fun _ ds => decide (uptoBulkAll ds ≤ 1048576)
def OpenSpec.upto (s : _root_.Go.ChangeSpec) : _root_.Go.OpenSpec := { _root_.Go.OpenSpec.ofChange s with cond := some uptoSmall }

/-- 'trawllaw10.SceneTells', WHERE WHAT IT READS IS OF BULK AT MOST 1048576: true; the input reads as it did. -/
def sceneTellsUptoRow : OpenClaim := { program := "ytnfgalgifgfojaa", sum := "88a6407e543d1c76f94663f16533a144023767a73471917e58099d170a5a4521", func := "trawl/trawllaw10.SceneTells", spec := "sceneTells", apart := false, narrowed := true }
def SceneTellsUptoSaid : Prop := sceneTellsUptoRow.holds Try.pinned (OpenSpec.upto sceneTellsSpec)

/-- 'trawllaw10.SceneTurns', WHERE WHAT IT READS IS OF BULK AT MOST 1048576: true; the input reads as it did. -/
def sceneTurnsUptoRow : OpenClaim := { program := "ytnfgalgifgfojaa", sum := "88a6407e543d1c76f94663f16533a144023767a73471917e58099d170a5a4521", func := "trawl/trawllaw10.SceneTurns", spec := "sceneTurns", apart := false, narrowed := true }
def SceneTurnsUptoSaid : Prop := sceneTurnsUptoRow.holds Try.pinned (OpenSpec.upto sceneTurnsSpec)

/-- 'trawllaw10.SceneFlags', WHERE WHAT IT READS IS OF BULK AT MOST 1048576: true; the input reads as it did. -/
def sceneFlagsUptoRow : OpenClaim := { program := "ytnfgalgifgfojaa", sum := "88a6407e543d1c76f94663f16533a144023767a73471917e58099d170a5a4521", func := "trawl/trawllaw10.SceneFlags", spec := "sceneFlags", apart := false, narrowed := true }
def SceneFlagsUptoSaid : Prop := sceneFlagsUptoRow.holds Try.pinned (OpenSpec.upto sceneFlagsSpec)

end Rows
end Go.Proofs.Ytnfgalgifgfojaa
