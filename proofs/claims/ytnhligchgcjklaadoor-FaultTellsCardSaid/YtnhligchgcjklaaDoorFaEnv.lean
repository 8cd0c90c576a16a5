/- What the laws of layer 3 take of the program's variables: the type error, and, where the code has them, the table of the words and the library's powers of ten. -/
import Derived.Test.YtnhligchgcjklaaDoorErPlace
import Derived.Test.YtnhligchgcjklaaDoorFaWords
import Derived.Lib.LaidTab
import Derived.Lib.ItoaNum
import Derived.Lib.AppendIntMem
namespace Go.Proofs.YtnhligchgcjklaaDoor
open Go.RowKit
structure FaEnv (w : World) : Prop where
  ty : ErrType w
  words : ∀ k, k < 22 → w.cell? ⟨21, k, none⟩ = some (.string (wordS k))
  pow : Lib.TabIs Tryd.prog w "internal/strconv.uint64pow10" .u64 Lib.pow10Tab
theorem FaEnv.later {w w' : World} (h : FaEnv w) (hb : Below w.heap.size w w') : FaEnv w' where
  ty := h.ty.later hb
  words := fun k hk => (hb.cell (p := ⟨21, k, none⟩) (block_lt_of_cell (h.words k hk))).trans (h.words k hk)
  pow := Lib.tabBelow_of_tabIs h.pow w' hb
end Go.Proofs.YtnhligchgcjklaaDoor
