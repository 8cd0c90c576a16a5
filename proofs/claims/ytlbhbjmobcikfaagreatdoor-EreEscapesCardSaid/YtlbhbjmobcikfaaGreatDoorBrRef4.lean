/- What the reference of bracket reads. -/
import Derived.Test.YtlbhbjmobcikfaaGreatDoorBrRef3
import Derived.Test.YtlbhbjmobcikfaaGreatDoorBrSets
import Derived.Test.YtlbhbjmobcikfaaGreatDoorOcRef2
import Derived.Test.YtlbhbjmobcikfaaGreatDoorOcRef3
namespace Go.Proofs.YtlbhbjmobcikfaaGreatDoor
open Go.RowKit
theorem refjoin_p (P Q : Nat → Bool) (w : World) : Calls Tryz.prog 128 #[(.agg #[.int .u64 (Oc.U (Oc.mk P 0)), .int .u64 (Oc.U (Oc.mk P 1)), .int .u64 (Oc.U (Oc.mk P 2)), .int .u64 (Oc.U (Oc.mk P 3))]), (.agg #[.int .u64 (Oc.U (Oc.mk Q 0)), .int .u64 (Oc.U (Oc.mk Q 1)), .int .u64 (Oc.U (Oc.mk Q 2)), .int .u64 (Oc.U (Oc.mk Q 3))])] w fun e w' =>
    e = .returned (.agg #[.int .u64 (Oc.U (Oc.mk (fun x => P x || Q x) 0)), .int .u64 (Oc.U (Oc.mk (fun x => P x || Q x) 1)), .int .u64 (Oc.U (Oc.mk (fun x => P x || Q x) 2)), .int .u64 (Oc.U (Oc.mk (fun x => P x || Q x) 3))]) ∧ Below w.heap.size w w' := by
  have h := refjoin_any (Oc.mk P 0) (Oc.mk P 1) (Oc.mk P 2) (Oc.mk P 3) (Oc.mk Q 0) (Oc.mk Q 1) (Oc.mk Q 2) (Oc.mk Q 3) w
  rw [Br.mk_or, Br.mk_or, Br.mk_or, Br.mk_or] at h
  exact h
theorem refmeet_p (P Q : Nat → Bool) (w : World) : Calls Tryz.prog 129 #[(.agg #[.int .u64 (Oc.U (Oc.mk P 0)), .int .u64 (Oc.U (Oc.mk P 1)), .int .u64 (Oc.U (Oc.mk P 2)), .int .u64 (Oc.U (Oc.mk P 3))]), (.agg #[.int .u64 (Oc.U (Oc.mk Q 0)), .int .u64 (Oc.U (Oc.mk Q 1)), .int .u64 (Oc.U (Oc.mk Q 2)), .int .u64 (Oc.U (Oc.mk Q 3))])] w fun e w' =>
    e = .returned (.agg #[.int .u64 (Oc.U (Oc.mk (fun x => P x && Q x) 0)), .int .u64 (Oc.U (Oc.mk (fun x => P x && Q x) 1)), .int .u64 (Oc.U (Oc.mk (fun x => P x && Q x) 2)), .int .u64 (Oc.U (Oc.mk (fun x => P x && Q x) 3))]) ∧ Below w.heap.size w w' := by
  have h := refmeet_any (Oc.mk P 0) (Oc.mk P 1) (Oc.mk P 2) (Oc.mk P 3) (Oc.mk Q 0) (Oc.mk Q 1) (Oc.mk Q 2) (Oc.mk Q 3) w
  rw [Br.mk_and, Br.mk_and, Br.mk_and, Br.mk_and] at h
  exact h
theorem refnot_p (P : Nat → Bool) (w : World) : Calls Tryz.prog 104 #[(.agg #[.int .u64 (Oc.U (Oc.mk P 0)), .int .u64 (Oc.U (Oc.mk P 1)), .int .u64 (Oc.U (Oc.mk P 2)), .int .u64 (Oc.U (Oc.mk P 3))])] w fun e w' =>
    e = .returned (.agg #[.int .u64 (Oc.U (Oc.mk (fun x => !P x) 0)), .int .u64 (Oc.U (Oc.mk (fun x => !P x) 1)), .int .u64 (Oc.U (Oc.mk (fun x => !P x) 2)), .int .u64 (Oc.U (Oc.mk (fun x => !P x) 3))]) ∧ Below w.heap.size w w' := by
  have h := refnot_any (Oc.mk P 0) (Oc.mk P 1) (Oc.mk P 2) (Oc.mk P 3) w
  rw [Br.mk_not, Br.mk_not, Br.mk_not, Br.mk_not] at h
  exact h
theorem reffold_p (P : Nat → Bool) (w : World) : Calls Tryz.prog 108 #[(.agg #[.int .u64 (Oc.U (Oc.mk P 0)), .int .u64 (Oc.U (Oc.mk P 1)), .int .u64 (Oc.U (Oc.mk P 2)), .int .u64 (Oc.U (Oc.mk P 3))])] w fun e w' =>
    e = .returned (.agg #[.int .u64 (Oc.U (Oc.mk (Cl.fold P) 0)), .int .u64 (Oc.U (Oc.mk (Cl.fold P) 1)), .int .u64 (Oc.U (Oc.mk (Cl.fold P) 2)), .int .u64 (Oc.U (Oc.mk (Cl.fold P) 3))]) ∧ Below w.heap.size w w' := by
  have h := reffold_any (Oc.mk P 0) (Oc.mk P 1) (Oc.mk P 2) (Oc.mk P 3) w
  rw [Br.mk_fold P 0 (by omega), Br.mk_fold P 1 (by omega), Br.mk_fold P 2 (by omega), Br.mk_fold P 3 (by omega)] at h
  exact h
theorem of_nl (w : World) : Calls Tryz.prog 22 #[.string ⟨#[10]⟩] w fun e w' =>
    e = .returned (.agg #[.int .u64 (Oc.U (Oc.mk (fun b => b == 10) 0)), .int .u64 (Oc.U (Oc.mk (fun b => b == 10) 1)), .int .u64 (Oc.U (Oc.mk (fun b => b == 10) 2)), .int .u64 (Oc.U (Oc.mk (fun b => b == 10) 3))]) ∧ Below w.heap.size w w' := by
  have h := refof_any ⟨#[10]⟩ (by unfold maxLen; decide) w
  rw [show Oc.anyB (byteAt ⟨#[10]⟩) (ByteArray.size ⟨#[10]⟩) = fun b => b == 10 by funext b; show (false || b == byteAt ⟨#[10]⟩ 0) = _; rw [show byteAt ⟨#[10]⟩ 0 = 10 by decide, Bool.false_or]] at h
  exact h
theorem setC_one {a b c d : Int} : (#[.int .u64 a, .int .u64 b, .int .u64 c, .int .u64 d] : Array Value).all (·.oneCell') = true := by simp [Value.oneCell']
/-- The flags of a bracket expression. -/
def flI (ic nl : Bool) : Int := (if ic then 2 else 0) + (if nl then 4 else 0)
/-- What is read at a place: with the errors of a place that is none. -/
def RdEnd (R : Br.Ans) (w : World) (e : Ending) (w' : World) : Prop := e = .returned (ansV R) ∧ Below w.heap.size w w'
set_option maxRecDepth 100000 in
set_option maxHeartbeats 1000000 in
theorem refread_no (s : ByteArray) (hs : s.size ≤ 1152921504606846976) (at_ : Int) (fl : Value) (h : isB s at_ 91 = false) (w : World) :
    Calls Tryz.prog 105 #[.string s, .int .i64 at_, fl] w (RdEnd (.err 15 (-1)) w) := by
  have h0 := fun w => ris_any s hs at_ 91 (by omega) w
  rw [h] at h0
  have H0 := Lib.hid h0
  clear h0 h
  go_enter Tryz.func105, Tryz.ntmps105
  go_wp2_with fail
  refine (H0.out _).mono ?_; rintro e w' ⟨rfl, rfl⟩
  go_wp2
  exact bodyPost_ret (v := ansV (.err 15 (-1))) (by simp [results, Tryz.results105, go_sem]; rfl) rfl ⟨rfl, by go_grown⟩
end Go.Proofs.YtlbhbjmobcikfaaGreatDoor
