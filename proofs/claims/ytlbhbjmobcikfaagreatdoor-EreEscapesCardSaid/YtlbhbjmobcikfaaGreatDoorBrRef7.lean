/- What the reference of bracket reads, at any place. -/
import Derived.Test.YtlbhbjmobcikfaaGreatDoorBrRef5
import Derived.Test.YtlbhbjmobcikfaaGreatDoorBrRef6
namespace Go.Proofs.YtlbhbjmobcikfaaGreatDoor
open Go.RowKit
/-- What is read at any place, with any of the flags that are looked at. -/
def rdI (s : ByteArray) (at_ : Int) (ic nl : Bool) : Br.Ans := Br.read (bt s) s.size at_ ic nl
theorem refread_any (s : ByteArray) (hs : s.size ≤ 1152921504606846976) (at_ : Int) (ic nl : Bool) (w : World) :
    Calls Tryz.prog 105 #[.string s, .int .i64 at_, .int .i64 (flI ic nl)] w (RdEnd (rdI s at_ ic nl) w) := by
  unfold rdI Br.read
  by_cases h : 0 ≤ at_ ∧ bt s at_.toNat = 91
  · rw [if_pos h]
    obtain ⟨a, rfl⟩ : ∃ a : Nat, at_ = a := ⟨at_.toNat, by omega⟩
    have ha : bt s a = 91 := h.2
    show Calls _ _ _ _ (RdEnd (Br.whole (bt s) s.size a ic nl) w)
    unfold Br.whole
    cases ht : (bt s (a + 1) == 94) with
    | true => exact refread_t s hs a ic nl ha ht _ rfl w
    | false => exact refread_f s hs a ic nl ha ht _ rfl w
  · rw [if_neg h]
    refine refread_no s hs at_ _ ?_ w
    unfold isB
    by_cases h0 : 0 ≤ at_
    · have : ¬ bt s at_.toNat = 91 := fun hh => h ⟨h0, hh⟩
      simp [this]
    · simp [h0]
end Go.Proofs.YtlbhbjmobcikfaaGreatDoor
