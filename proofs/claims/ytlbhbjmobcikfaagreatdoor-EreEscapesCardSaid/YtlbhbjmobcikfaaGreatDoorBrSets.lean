/- Sets told by what they hold: the words of what is joined, met, turned, folded. Nothing of the program. -/
import Derived.Test.YtlbhbjmobcikfaaGreatDoorBrMath
namespace Go.Proofs.YtlbhbjmobcikfaaGreatDoor
namespace Br
theorem mk_or (p q : Nat → Bool) (k : Nat) : Oc.mk p k ||| Oc.mk q k = Oc.mk (fun j => p j || q j) k := by
  refine (Oc.mk_eq fun i hi => ?_).symm
  rw [BitVec.getLsbD_or, Oc.mk_bit _ _ _ hi, Oc.mk_bit _ _ _ hi]
theorem mk_and (p q : Nat → Bool) (k : Nat) : Oc.mk p k &&& Oc.mk q k = Oc.mk (fun j => p j && q j) k := by
  refine (Oc.mk_eq fun i hi => ?_).symm
  rw [BitVec.getLsbD_and, Oc.mk_bit _ _ _ hi, Oc.mk_bit _ _ _ hi]
theorem mk_not (p : Nat → Bool) (k : Nat) : ~~~(Oc.mk p k) = Oc.mk (fun j => !p j) k := by
  refine (Oc.mk_eq fun i hi => ?_).symm
  rw [BitVec.getLsbD_not, Oc.mk_bit _ _ _ hi]; simp [hi]
theorem mk_same {p q : Nat → Bool} {k : Nat} (hk : k < 4) (h : ∀ i, i < 256 → p i = q i) : Oc.mk p k = Oc.mk q k := by
  refine Oc.mk_eq fun i hi => ?_
  rw [h _ (by omega), Oc.mk_bit _ _ _ hi]
theorem mk_fold (p : Nat → Bool) (k : Nat) (hk : k < 4) : Oc.mk (Cl.fold (Oc.mem (Oc.mk p 0) (Oc.mk p 1) (Oc.mk p 2) (Oc.mk p 3))) k = Oc.mk (Cl.fold p) k :=
  mk_same hk fun i hi => by unfold Cl.fold; rw [Oc.mem_mk p i hi, Oc.mem_mk p _ (Cl.oth_lt hi)]
theorem mk_mem (p : Nat → Bool) (k : Nat) (hk : k < 4) : Oc.mk (Oc.mem (Oc.mk p 0) (Oc.mk p 1) (Oc.mk p 2) (Oc.mk p 3)) k = Oc.mk p k :=
  mk_same hk fun i hi => Oc.mem_mk p i hi
end Br
end Go.Proofs.YtlbhbjmobcikfaaGreatDoor
