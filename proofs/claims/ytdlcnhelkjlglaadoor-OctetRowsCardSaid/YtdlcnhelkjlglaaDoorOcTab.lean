/- What the listed table gives: its sixty-four cells. -/
import Derived.Test.YtdlcnhelkjlglaaDoorRows
import Derived.ProofKit
import Derived.LaidMore
import Derived.LaidHandle
import Derived.OpenShut
import Derived.MakeChecks
import Derived.Shelf.Spec.TrailingZeros
namespace Go.Proofs.YtdlcnhelkjlglaaDoor
open Go.ChangeShapes Go.WideShapes Go.ChangeAt Go.RowKit
theorem Tryd.gTab : Tryd.prog.globalNamed "math/bits.deBruijn64tab" = some 21 := by kernel_rfl
theorem Tryd.tTab : (Tryd.prog.globals[21]?).map (·.type) = some 75 := by kernel_rfl
theorem Tryd.cellsU8 : Tryd.prog.cellsOf 5 = 1 := by kernel_rfl
theorem tab_datum {H : Type} : (Rows.laid_math_bits_deBruijn64tab : DataW H) = .agg (Lib.deBruijn64tab.map fun (n : Nat) => .lit (.int .u8 (n : Int))) := rfl
theorem tab_length : Lib.deBruijn64tab.length = 64 := by decide
theorem tab_of_laid {W : World} (h : laidMetH Tryd.prog [("math/bits.deBruijn64tab", Rows.laid_math_bits_deBruijn64tab)] W) : TabAt 21 Lib.deBruijn64tab W ∧ 21 < W.heap.size := by
  rw [MakeChecks.laidMetH_plain _ _ _ (by kernel_rfl)] at h
  obtain ⟨ps, ⟨g0, t0, cs0, f0, p0, q0, hg0, ht0, hv0, hd0, _, _⟩, _, _⟩ := h
  obtain rfl := Option.some.inj (Tryd.gTab.symm.trans hg0)
  obtain rfl := Option.some.inj (Tryd.tTab.symm.trans ht0)
  obtain ⟨xs, m, rfl, hx, hlen, hn, hel⟩ := DataW.trod_array Tryd.underlying75 hd0
  rw [tab_datum] at hx
  simp only [Prod.mk.injEq, DataW.agg.injEq] at hx
  have hT : TabAt 21 Lib.deBruijn64tab W := by
    intro j hj
    rw [tab_length] at hj
    have h1 := hel j hj
    have hjx : j < xs.length := by omega
    rw [Tryd.cellsU8, Nat.mul_one, List.getElem?_eq_getElem hjx] at h1
    obtain ⟨n, hc, hd, -⟩ := DataW.trod_int Tryd.underlying5 h1
    have h2 : (Lib.deBruijn64tab.map fun (n : Nat) => (DataW.lit (.int .u8 (n : Int)) : DataW _))[j]? = some xs[j].1 := by
      rw [hx.1, List.getElem?_map, List.getElem?_eq_getElem hjx]; rfl
    rw [List.getElem?_map, List.getElem?_eq_getElem (by rw [tab_length]; exact hj), hd] at h2
    simp only [Option.map_some, Option.some.injEq, DataW.lit.injEq, Lit.int.injEq, true_and] at h2
    have h3 : cs0[j]? = some (.int .u8 n) := by
      rw [← Array.getElem?_toList]
      have : (cs0.toList.drop j)[0]? = some (.int .u8 n) := by
        have := congrArg (fun l => l[0]?) hc
        simpa [List.getElem?_take] using this
      simpa using this
    rw [World.var?_cell hg0 hv0 j, h3, ← h2]
    simp [List.getD, List.getElem?_eq_getElem (show j < Lib.deBruijn64tab.length by rw [tab_length]; exact hj)]
  exact ⟨hT, block_lt_of_cell (hT 0 (by rw [tab_length]; omega))⟩
/-- The door's own heap meets the condition: three closed facts. -/
theorem tab_met (os : Os) (args : Array Value) : laidMetH Tryd.prog [("math/bits.deBruijn64tab", Rows.laid_math_bits_deBruijn64tab)] ((World.doorLaid Tryd.prog 400 os).forCall (fun _ _ => 0) ⟨#[], args, []⟩).memory :=
  laidMetH_of_parts3 (fuel := 8) (laidMet_of_run' 8 (by kernel_rfl) (by kernel_rfl)) (by kernel_rfl) (by kernel_rfl)
end Go.Proofs.YtdlcnhelkjlglaaDoor
