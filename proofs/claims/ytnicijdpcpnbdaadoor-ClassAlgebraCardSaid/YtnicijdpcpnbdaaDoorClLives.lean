/- The fixed facts that every statement of class begins with. -/
import Derived.Test.YtnicijdpcpnbdaaDoorClNamed
import Derived.Test.YtnicijdpcpnbdaaDoorClMore
import Derived.Test.YtnicijdpcpnbdaaDoorErNum
import Derived.Test.YtnicijdpcpnbdaaDoorOcEq
namespace Go.Proofs.YtnicijdpcpnbdaaDoor
open Go.RowKit
theorem refrange_digits (w : World) : Calls Tryd.prog 25 #[.int .u8 48, .int .u8 57] w fun e w' => e = .returned (.agg #[.int .u64 (Oc.U (Cl.cw 4 0)), .int .u64 (Oc.U (Cl.cw 4 1)), .int .u64 (Oc.U (Cl.cw 4 2)), .int .u64 (Oc.U (Cl.cw 4 3))]) ∧ Below w.heap.size w w' := by
  have h := refrange_any 48 57 (by omega) (by omega) w
  rw [show Oc.mk (upto 48 (57 + 1)) 0 = Cl.cw 4 0 by decide +kernel, show Oc.mk (upto 48 (57 + 1)) 1 = Cl.cw 4 1 by decide +kernel, show Oc.mk (upto 48 (57 + 1)) 2 = Cl.cw 4 2 by decide +kernel, show Oc.mk (upto 48 (57 + 1)) 3 = Cl.cw 4 3 by decide +kernel] at h
  exact h
theorem num_class (A : Nat → Addr) (w : World) (hE : Errs w A) : Calls Tryd.prog 11 #[.iface 71 (.pointer (some (A 5)))] w fun e w' => e = .returned (.int .i64 6) ∧ Below w.heap.size w w' :=
  num_any A 5 0 _ w hE (by omega) .base
theorem other_a (w : World) : Calls Tryd.prog 14 #[.int .u8 97] w fun e w' => e = .returned (.int .u8 65) ∧ w = w' :=
  other_any 97 (by omega) w
theorem word_no : Cl.No ⟨#[119, 111, 114, 100]⟩ := by
  intro k hk
  have : k = 0 ∨ k = 1 ∨ k = 2 ∨ k = 3 ∨ k = 4 ∨ k = 5 ∨ k = 6 ∨ k = 7 ∨ k = 8 ∨ k = 9 ∨ k = 10 ∨ k = 11 := by omega
  rcases this with rfl | rfl | rfl | rfl | rfl | rfl | rfl | rfl | rfl | rfl | rfl | rfl <;> decide +kernel
/-- ErrClass, at its variable. -/
theorem Errs.class {A : Nat → Addr} {w : World} (h : Errs w A) : w.cell? ⟨0, 0, none⟩ = some (.iface 71 (.pointer (some (A 5)))) := (h 5 (by omega)).1
set_option maxRecDepth 100000 in
set_option maxHeartbeats 2000000 in
theorem cllives_any (A : Nat → Addr) (w : World) (hE : Errs w A) : Calls Tryd.prog 8 #[] w fun e w' => e = .returned (.bool true) ∧ Below w.heap.size w w' := by
  have he := eq4
  have HE0 := Lib.hid hE; clear hE
  go_enter Tryd.func8, Tryd.ntmps8
  go_wp2_with fail
  refine (named_4 _).mono ?_
  rintro e w1 ⟨rfl, hb1⟩
  have HB1 := Lib.hid hb1; clear hb1
  go_wp2_with fail
  have hbA := HB1.out.alloc HB1.out.size (.cells #[.int .u64 (Oc.U (Cl.cw 4 0)), .int .u64 (Oc.U (Cl.cw 4 1)), .int .u64 (Oc.U (Cl.cw 4 2)), .int .u64 (Oc.U (Cl.cw 4 3))] 25)
  have hE1 := (HE0.out.below hbA).class
  refine (named_no _ word_no _ _ hE1).mono ?_
  rintro e w2 ⟨rfl, hb2⟩
  have hsz : w1.heap.size + 1 ≤ w2.heap.size := by have := hb2.size; simpa using this
  have HB2 := Lib.hid (hbA.trans (hb2.mono (by have := HB1.out.size; simp; omega)))
  have Z2 := Lib.hid (keep_blk hb2 (heap_alloc_new w1 _))
  clear hb2 hbA hE1
  go_wp2_with fail
  have hb3 := HB2.out.alloc HB2.out.size (.cells #[.int .u64 0, .int .u64 0, .int .u64 0, .int .u64 0] 25)
  have HE := Lib.hid (HE0.out.below hb3)
  have Z3 := Lib.hid (heap_alloc_lt (o := .cells #[.int .u64 0, .int .u64 0, .int .u64 0, .int .u64 0] 25) Z2.out)
  have HB3 := Lib.hid hb3
  clear hb3 HB2 Z2 HB1 HE0
  generalize World.alloc w2 _ = w3 at *
  refine Ri.wp_region_frame (by kernel_rfl) (by kernel_rfl) (by kernel_rfl) (by kernel_rfl)
    (fun L v w' => Below w3.heap.size w3 w' ∧ (L 0 = true → v 0 = .nilIface) ∧ (L 1 = true → v 1 = .bool true) ∧ (L 2 = true → v 2 = .bool true) ∧ (L 3 = true → v 3 = (.agg #[.int .u64 (Oc.U (Cl.cw 4 0)), .int .u64 (Oc.U (Cl.cw 4 1)), .int .u64 (Oc.U (Cl.cw 4 2)), .int .u64 (Oc.U (Cl.cw 4 3))])) ∧ (L 4 = true → v 4 = (.agg #[.int .u64 (Oc.U (Cl.cw 4 0)), .int .u64 (Oc.U (Cl.cw 4 1)), .int .u64 (Oc.U (Cl.cw 4 2)), .int .u64 (Oc.U (Cl.cw 4 3))])) ∧ (L 5 = true → v 5 = .bool true) ∧ (L 6 = true → v 6 = .bool true) ∧ (L 7 = true → v 7 = .bool true) ∧ (L 8 = true → v 8 = .iface 71 (.pointer (some (A 5)))) ∧ (L 9 = true → v 9 = .int .i64 6) ∧ (L 10 = true → v 10 = .bool true) ∧ (L 11 = true → v 11 = .bool true) ∧ (L 12 = true → v 12 = .bool true) ∧ (L 13 = true → v 13 = .int .u8 65) ∧ (L 14 = true → v 14 = .bool true) ∧ (L 15 = true → v 15 = .bool true) ∧ (L 16 = true → v 16 = .bool true))
    ?_ ?_ ?_
  · exact ⟨(Below.refl _ _).drew, by simp, by simp, by simp, by simp, by simp, by simp, by simp, by simp, by simp, by simp, by simp, by simp, by simp, by simp, by simp, by simp, by simp⟩
  · intro i hi9 L v w9 xa hI hL hd hv ho
    have hi' : i = 0 ∨ i = 1 ∨ i = 2 ∨ i = 3 ∨ i = 4 ∨ i = 5 ∨ i = 6 ∨ i = 7 ∨ i = 8 ∨ i = 9 ∨ i = 10 ∨ i = 11 ∨ i = 12 ∨ i = 13 ∨ i = 14 ∨ i = 15 ∨ i = 16 := by simp at hi9; omega
    obtain ⟨hb, q0, q1, q2, q3, q4, q5, q6, q7, q8, q9, q10, q11, q12, q13, q14, q15, q16⟩ := hI
    rcases hi' with rfl | rfl | rfl | rfl | rfl | rfl | rfl | rfl | rfl | rfl | rfl | rfl | rfl | rfl | rfl | rfl | rfl
    · have e2 : xa.tmps.getD 2 undef = .nilIface := ho 2 (by kernel_rfl)
      refine Ri.step_plain rfl rfl (fun K' hK => ?_)
      go_simp
      exact hK _ _ ⟨_, _, rfl, rfl, hb, fun _ => rfl, q1, q2, q3, q4, q5, q6, q7, q8, q9, q10, q11, q12, q13, q14, q15, q16⟩
    · have l0 : L 0 = true := by have := hd _ rfl; simp [Region.binds] at this; simp [this]
      have f0 := (hv 0 13 rfl l0).trans (q0 l0)
      refine Ri.step_plain rfl rfl (fun K' hK => ?_)
      go_simp
      exact hK _ _ ⟨_, _, rfl, rfl, hb, q0, fun _ => rfl, q2, q3, q4, q5, q6, q7, q8, q9, q10, q11, q12, q13, q14, q15, q16⟩
    · have l0 : L 1 = true := by have := hd _ rfl; simp [Region.binds] at this; simp [this]
      have f1 := (hv 1 14 rfl l0).trans (q1 l0)
      refine Ri.step_plain rfl rfl (fun K' hK => ?_)
      go_simp
      exact hK _ _ ⟨_, _, rfl, rfl, hb, q0, q1, fun _ => rfl, q3, q4, q5, q6, q7, q8, q9, q10, q11, q12, q13, q14, q15, q16⟩
    · have l0 : L 2 = true := by have := hd _ rfl; simp [Region.binds] at this; simp [this]
      have f2 := (hv 2 15 rfl l0).trans (q2 l0)
      have e1 : xa.tmps.getD 1 undef = .pointer (some ⟨w1.heap.size, 0, none⟩) := ho 1 (by kernel_rfl)
      refine Ri.step_wanted (b := true) rfl rfl rfl f2 (fun K' hK => ?_)
      refine wp_load_row _ _ rfl _ e1 _ _ _ _ (keep_blk hb Z3.out) Tryd.underlying25 rfl (by kernel_rfl) ?_
      exact hK _ _ ⟨_, _, rfl, rfl, hb, q0, q1, q2, fun _ => rfl, q4, q5, q6, q7, q8, q9, q10, q11, q12, q13, q14, q15, q16⟩
    · have l0 : L 2 = true := by have := hd _ rfl; simp [Region.binds] at this; simp [this]
      have f2 := (hv 2 15 rfl l0).trans (q2 l0)
      refine Ri.step_wanted (b := true) rfl rfl rfl f2 (fun K' hK => ?_)
      go_simp
      refine (refrange_digits _).mono ?_
      rintro e w8 ⟨rfl, hb8⟩
      exact hK _ _ ⟨_, _, rfl, rfl, hb.trans (hb8.mono hb.size), q0, q1, q2, q3, fun _ => rfl, q5, q6, q7, q8, q9, q10, q11, q12, q13, q14, q15, q16⟩
    · have l0 : L 2 = true ∧ L 3 = true ∧ L 4 = true := by have := hd _ rfl; simp [Region.binds] at this; simp [this]
      have f2 := (hv 2 15 rfl l0.1).trans (q2 l0.1)
      have f3 := (hv 3 16 rfl l0.2.1).trans (q3 l0.2.1)
      have f4 := (hv 4 17 rfl l0.2.2).trans (q4 l0.2.2)
      refine Ri.step_wanted (b := true) rfl rfl rfl f2 (fun K' hK => ?_)
      go_simp
      exact hK _ _ ⟨_, _, rfl, rfl, hb, q0, q1, q2, q3, q4, fun _ => rfl, q6, q7, q8, q9, q10, q11, q12, q13, q14, q15, q16⟩
    · have l0 : L 2 = true ∧ L 5 = true := by have := hd _ rfl; simp [Region.binds] at this; simp [this]
      have f2 := (hv 2 15 rfl l0.1).trans (q2 l0.1)
      have f5 := (hv 5 18 rfl l0.2).trans (q5 l0.2)
      refine Ri.step_plain rfl rfl (fun K' hK => ?_)
      go_simp
      exact hK _ _ ⟨_, _, rfl, rfl, hb, q0, q1, q2, q3, q4, q5, fun _ => rfl, q7, q8, q9, q10, q11, q12, q13, q14, q15, q16⟩
    · have l0 : L 6 = true := by have := hd _ rfl; simp [Region.binds] at this; simp [this]
      have f6 := (hv 6 19 rfl l0).trans (q6 l0)
      refine Ri.step_plain rfl rfl (fun K' hK => ?_)
      go_simp
      exact hK _ _ ⟨_, _, rfl, rfl, hb, q0, q1, q2, q3, q4, q5, q6, fun _ => rfl, q8, q9, q10, q11, q12, q13, q14, q15, q16⟩
    · have l0 : L 7 = true := by have := hd _ rfl; simp [Region.binds] at this; simp [this]
      have f7 := (hv 7 20 rfl l0).trans (q7 l0)
      have e4 : xa.tmps.getD 4 undef = .iface 71 (.pointer (some (A 5))) := ho 4 (by kernel_rfl)
      refine Ri.step_wanted (b := true) rfl rfl rfl f7 (fun K' hK => ?_)
      go_simp
      exact hK _ _ ⟨_, _, rfl, rfl, hb, q0, q1, q2, q3, q4, q5, q6, q7, fun _ => rfl, q9, q10, q11, q12, q13, q14, q15, q16⟩
    · have l0 : L 7 = true ∧ L 8 = true := by have := hd _ rfl; simp [Region.binds] at this; simp [this]
      have f7 := (hv 7 20 rfl l0.1).trans (q7 l0.1)
      have f8 := (hv 8 21 rfl l0.2).trans (q8 l0.2)
      refine Ri.step_wanted (b := true) rfl rfl rfl f7 (fun K' hK => ?_)
      go_simp
      refine (num_class A _ (HE.out.below hb)).mono ?_
      rintro e w8 ⟨rfl, hb8⟩
      exact hK _ _ ⟨_, _, rfl, rfl, hb.trans (hb8.mono hb.size), q0, q1, q2, q3, q4, q5, q6, q7, q8, fun _ => rfl, q10, q11, q12, q13, q14, q15, q16⟩
    · have l0 : L 7 = true ∧ L 9 = true := by have := hd _ rfl; simp [Region.binds] at this; simp [this]
      have f7 := (hv 7 20 rfl l0.1).trans (q7 l0.1)
      have f9 := (hv 9 22 rfl l0.2).trans (q9 l0.2)
      refine Ri.step_wanted (b := true) rfl rfl rfl f7 (fun K' hK => ?_)
      go_simp
      exact hK _ _ ⟨_, _, rfl, rfl, hb, q0, q1, q2, q3, q4, q5, q6, q7, q8, q9, fun _ => rfl, q11, q12, q13, q14, q15, q16⟩
    · have l0 : L 7 = true ∧ L 10 = true := by have := hd _ rfl; simp [Region.binds] at this; simp [this]
      have f7 := (hv 7 20 rfl l0.1).trans (q7 l0.1)
      have f10 := (hv 10 23 rfl l0.2).trans (q10 l0.2)
      refine Ri.step_plain rfl rfl (fun K' hK => ?_)
      go_simp
      exact hK _ _ ⟨_, _, rfl, rfl, hb, q0, q1, q2, q3, q4, q5, q6, q7, q8, q9, q10, fun _ => rfl, q12, q13, q14, q15, q16⟩
    · have l0 : L 11 = true := by have := hd _ rfl; simp [Region.binds] at this; simp [this]
      have f11 := (hv 11 24 rfl l0).trans (q11 l0)
      refine Ri.step_plain rfl rfl (fun K' hK => ?_)
      go_simp
      exact hK _ _ ⟨_, _, rfl, rfl, hb, q0, q1, q2, q3, q4, q5, q6, q7, q8, q9, q10, q11, fun _ => rfl, q13, q14, q15, q16⟩
    · have l0 : L 12 = true := by have := hd _ rfl; simp [Region.binds] at this; simp [this]
      have f12 := (hv 12 25 rfl l0).trans (q12 l0)
      refine Ri.step_wanted (b := true) rfl rfl rfl f12 (fun K' hK => ?_)
      go_simp
      refine (other_a _).mono ?_
      rintro e w8 ⟨rfl, rfl⟩
      exact hK _ _ ⟨_, _, rfl, rfl, hb, q0, q1, q2, q3, q4, q5, q6, q7, q8, q9, q10, q11, q12, fun _ => rfl, q14, q15, q16⟩
    · have l0 : L 12 = true ∧ L 13 = true := by have := hd _ rfl; simp [Region.binds] at this; simp [this]
      have f12 := (hv 12 25 rfl l0.1).trans (q12 l0.1)
      have f13 := (hv 13 26 rfl l0.2).trans (q13 l0.2)
      refine Ri.step_wanted (b := true) rfl rfl rfl f12 (fun K' hK => ?_)
      go_simp
      exact hK _ _ ⟨_, _, rfl, rfl, hb, q0, q1, q2, q3, q4, q5, q6, q7, q8, q9, q10, q11, q12, q13, fun _ => rfl, q15, q16⟩
    · have l0 : L 12 = true ∧ L 14 = true := by have := hd _ rfl; simp [Region.binds] at this; simp [this]
      have f12 := (hv 12 25 rfl l0.1).trans (q12 l0.1)
      have f14 := (hv 14 27 rfl l0.2).trans (q14 l0.2)
      refine Ri.step_plain rfl rfl (fun K' hK => ?_)
      go_simp
      exact hK _ _ ⟨_, _, rfl, rfl, hb, q0, q1, q2, q3, q4, q5, q6, q7, q8, q9, q10, q11, q12, q13, q14, fun _ => rfl, q16⟩
    · have l0 : L 15 = true := by have := hd _ rfl; simp [Region.binds] at this; simp [this]
      have f15 := (hv 15 28 rfl l0).trans (q15 l0)
      refine Ri.step_plain rfl rfl (fun K' hK => ?_)
      go_simp
      exact hK _ _ ⟨_, _, rfl, rfl, hb, q0, q1, q2, q3, q4, q5, q6, q7, q8, q9, q10, q11, q12, q13, q14, q15, fun _ => rfl⟩
  · rintro v w9 ⟨hb, -, -, -, -, -, -, -, -, -, -, -, -, -, -, -, -, q16⟩
    have q16' : v 16 = .bool true := q16 rfl
    simp only [Ri.frame, List.zipIdx, List.foldl_cons, List.foldl_nil, if_true, List.setIfInBounds_toArray, List.set_cons_zero, List.set_cons_succ, Nat.reduceAdd, q16']
    clear q16 q16'
    generalize v 0 = y0; generalize v 1 = y1; generalize v 2 = y2; generalize v 3 = y3; generalize v 4 = y4; generalize v 5 = y5; generalize v 6 = y6; generalize v 7 = y7; generalize v 8 = y8; generalize v 9 = y9; generalize v 10 = y10; generalize v 11 = y11; generalize v 12 = y12; generalize v 13 = y13; generalize v 14 = y14; generalize v 15 = y15
    go_wp2
    have hb3 := HB3.out
    go_ret
    exact ⟨rfl, hb3.trans (hb.mono hb3.size)⟩
end Go.Proofs.YtnicijdpcpnbdaaDoor
