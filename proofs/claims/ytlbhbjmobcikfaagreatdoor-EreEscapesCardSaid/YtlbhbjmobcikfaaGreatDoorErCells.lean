/- The list of the twenty-one sentinels. -/
import Derived.Test.YtlbhbjmobcikfaaGreatDoorErAll
namespace Go.Proofs.YtlbhbjmobcikfaaGreatDoor
open Go.RowKit
def errCells (A : Nat → Addr) : Array Value := #[.iface 184 (.pointer (some (A 0))), .iface 184 (.pointer (some (A 1))), .iface 184 (.pointer (some (A 2))), .iface 184 (.pointer (some (A 3))), .iface 184 (.pointer (some (A 4))), .iface 184 (.pointer (some (A 5))), .iface 184 (.pointer (some (A 6))), .iface 184 (.pointer (some (A 7))), .iface 184 (.pointer (some (A 8))), .iface 184 (.pointer (some (A 9))), .iface 184 (.pointer (some (A 10))), .iface 184 (.pointer (some (A 11))), .iface 184 (.pointer (some (A 12))), .iface 184 (.pointer (some (A 13))), .iface 184 (.pointer (some (A 14))), .iface 184 (.pointer (some (A 15))), .iface 184 (.pointer (some (A 16))), .iface 184 (.pointer (some (A 17))), .iface 184 (.pointer (some (A 18))), .iface 184 (.pointer (some (A 19))), .iface 184 (.pointer (some (A 20)))]
theorem errCells_get (A : Nat → Addr) : ∀ k, k < 21 → (errCells A)[k]? = some (.iface 184 (.pointer (some (A k))))
  | 0, _ => rfl
  | 1, _ => rfl
  | 2, _ => rfl
  | 3, _ => rfl
  | 4, _ => rfl
  | 5, _ => rfl
  | 6, _ => rfl
  | 7, _ => rfl
  | 8, _ => rfl
  | 9, _ => rfl
  | 10, _ => rfl
  | 11, _ => rfl
  | 12, _ => rfl
  | 13, _ => rfl
  | 14, _ => rfl
  | 15, _ => rfl
  | 16, _ => rfl
  | 17, _ => rfl
  | 18, _ => rfl
  | 19, _ => rfl
  | 20, _ => rfl
  | k + 21, hk => absurd hk (by omega)
end Go.Proofs.YtlbhbjmobcikfaaGreatDoor
