/- ClassFolds: whatever the set and the byte, the law returns true. -/
import Derived.Test.YtnicijdpcpnbdaaDoorClLives
import Derived.Test.YtnicijdpcpnbdaaDoorClFold
import Derived.Test.YtnicijdpcpnbdaaDoorClRef2
namespace Go.Proofs.YtnicijdpcpnbdaaDoor
open Go.RowKit
set_option maxRecDepth 100000 in
set_option maxHeartbeats 4000000 in
theorem clfolds_any (A : Nat → Addr) (a b c d : BitVec 64) (n : Nat) (hn : n < 256) (w : World) (hE : Errs w A) : Calls Tryd.prog 4 #[(.agg #[.int .u64 (Oc.U a), .int .u64 (Oc.U b), .int .u64 (Oc.U c), .int .u64 (Oc.U d)]), .int .u8 n] w fun e w' => e = .returned (.bool true) ∧ Below w.heap.size w w' := by
  have he := eq4
  have hbA := (Below.refl w.heap.size w).alloc (Nat.le_refl _) (.cells #[.int .u64 (Oc.U a), .int .u64 (Oc.U b), .int .u64 (Oc.U c), .int .u64 (Oc.U d)] 25)
  have HE := Lib.hid (hE.below hbA); clear hE
  go_enter Tryd.func4, Tryd.ntmps4
  go_wp2_with fail
  refine (cllives_any A _ HE.out).mono ?_
  rintro e w1 ⟨rfl, hb1⟩
  have HB1 := Lib.hid (hbA.trans (hb1.mono (by simp)))
  have Z1 := Lib.hid (keep_blk hb1 (heap_alloc_new w _))
  clear hb1 hbA HE
  go_wp2_with fail
  refine Ri.wp_region_frame (by kernel_rfl) (by kernel_rfl) (by kernel_rfl) (by kernel_rfl)
    (fun L v w' => Below w1.heap.size w1 w' ∧ (L 0 = true → v 0 = (.agg #[.int .u64 (Oc.U a), .int .u64 (Oc.U b), .int .u64 (Oc.U c), .int .u64 (Oc.U d)])) ∧ (L 1 = true → v 1 = (.agg #[.int .u64 (Oc.U (Oc.mk (Cl.fold (Oc.mem a b c d)) 0)), .int .u64 (Oc.U (Oc.mk (Cl.fold (Oc.mem a b c d)) 1)), .int .u64 (Oc.U (Oc.mk (Cl.fold (Oc.mem a b c d)) 2)), .int .u64 (Oc.U (Oc.mk (Cl.fold (Oc.mem a b c d)) 3))])) ∧ (L 2 = true → v 2 = (.agg #[.int .u64 (Oc.U a), .int .u64 (Oc.U b), .int .u64 (Oc.U c), .int .u64 (Oc.U d)])) ∧ (L 3 = true → v 3 = (.agg #[.int .u64 (Oc.U (Oc.mk (Cl.fold (Oc.mem a b c d)) 0)), .int .u64 (Oc.U (Oc.mk (Cl.fold (Oc.mem a b c d)) 1)), .int .u64 (Oc.U (Oc.mk (Cl.fold (Oc.mem a b c d)) 2)), .int .u64 (Oc.U (Oc.mk (Cl.fold (Oc.mem a b c d)) 3))])) ∧ (L 4 = true → v 4 = .bool true) ∧ (L 5 = true → v 5 = .bool true) ∧ (L 6 = true → v 6 = .int .u8 n) ∧ (L 7 = true → v 7 = .int .u8 (Cl.oth n)) ∧ (L 8 = true → v 8 = .int .u8 n) ∧ (L 9 = true → v 9 = .int .u8 (Cl.oth n)) ∧ (L 10 = true → v 10 = .bool true) ∧ (L 11 = true → v 11 = .bool true) ∧ (L 12 = true → v 12 = .bool true) ∧ (L 13 = true → v 13 = .int .u8 n) ∧ (L 14 = true → v 14 = .bool (Cl.wd n)) ∧ (L 15 = true → v 15 = .int .u8 n) ∧ (L 16 = true → v 16 = .bool (Cl.wd n)) ∧ (L 17 = true → v 17 = .bool true) ∧ (L 18 = true → v 18 = .bool true) ∧ (L 19 = true → v 19 = .bool true))
    ?_ ?_ ?_
  · exact ⟨(Below.refl _ _).drew, by simp, by simp, by simp, by simp, by simp, by simp, by simp, by simp, by simp, by simp, by simp, by simp, by simp, by simp, by simp, by simp, by simp, by simp, by simp, by simp⟩
  · intro i hi9 L v w9 xa hI hL hd hv ho
    have hi' : i = 0 ∨ i = 1 ∨ i = 2 ∨ i = 3 ∨ i = 4 ∨ i = 5 ∨ i = 6 ∨ i = 7 ∨ i = 8 ∨ i = 9 ∨ i = 10 ∨ i = 11 ∨ i = 12 ∨ i = 13 ∨ i = 14 ∨ i = 15 ∨ i = 16 ∨ i = 17 ∨ i = 18 ∨ i = 19 := by simp at hi9; omega
    obtain ⟨hb, q0, q1, q2, q3, q4, q5, q6, q7, q8, q9, q10, q11, q12, q13, q14, q15, q16, q17, q18, q19⟩ := hI
    rcases hi' with rfl | rfl | rfl | rfl | rfl | rfl | rfl | rfl | rfl | rfl | rfl | rfl | rfl | rfl | rfl | rfl | rfl | rfl | rfl | rfl
    · have e2 : xa.tmps.getD 2 undef = .pointer (some ⟨w.heap.size, 0, none⟩) := ho 2 (by kernel_rfl)
      refine Ri.step_plain rfl rfl (fun K' hK => ?_)
      refine wp_load_row _ _ rfl _ e2 _ _ _ _ (keep_blk hb Z1.out) Tryd.underlying25 rfl (by kernel_rfl) ?_
      exact hK _ _ ⟨_, _, rfl, rfl, hb, fun _ => rfl, q1, q2, q3, q4, q5, q6, q7, q8, q9, q10, q11, q12, q13, q14, q15, q16, q17, q18, q19⟩
    · have l0 : L 0 = true := by have := hd _ rfl; simp [Region.binds] at this; simp [this]
      have f0 := (hv 0 7 rfl l0).trans (q0 l0)
      refine Ri.step_plain rfl rfl (fun K' hK => ?_)
      go_simp
      refine (fold_any _ _ _ _ _).mono ?_
      rintro e w8 ⟨rfl, hb8⟩
      exact hK _ _ ⟨_, _, rfl, rfl, hb.trans (hb8.mono hb.size), q0, fun _ => rfl, q2, q3, q4, q5, q6, q7, q8, q9, q10, q11, q12, q13, q14, q15, q16, q17, q18, q19⟩
    · have e2 : xa.tmps.getD 2 undef = .pointer (some ⟨w.heap.size, 0, none⟩) := ho 2 (by kernel_rfl)
      refine Ri.step_plain rfl rfl (fun K' hK => ?_)
      refine wp_load_row _ _ rfl _ e2 _ _ _ _ (keep_blk hb Z1.out) Tryd.underlying25 rfl (by kernel_rfl) ?_
      exact hK _ _ ⟨_, _, rfl, rfl, hb, q0, q1, fun _ => rfl, q3, q4, q5, q6, q7, q8, q9, q10, q11, q12, q13, q14, q15, q16, q17, q18, q19⟩
    · have l0 : L 2 = true := by have := hd _ rfl; simp [Region.binds] at this; simp [this]
      have f2 := (hv 2 9 rfl l0).trans (q2 l0)
      refine Ri.step_plain rfl rfl (fun K' hK => ?_)
      go_simp
      refine (reffold_any _ _ _ _ _).mono ?_
      rintro e w8 ⟨rfl, hb8⟩
      exact hK _ _ ⟨_, _, rfl, rfl, hb.trans (hb8.mono hb.size), q0, q1, q2, fun _ => rfl, q4, q5, q6, q7, q8, q9, q10, q11, q12, q13, q14, q15, q16, q17, q18, q19⟩
    · have l0 : L 1 = true ∧ L 3 = true := by have := hd _ rfl; simp [Region.binds] at this; simp [this]
      have f1 := (hv 1 8 rfl l0.1).trans (q1 l0.1)
      have f3 := (hv 3 10 rfl l0.2).trans (q3 l0.2)
      refine Ri.step_plain rfl rfl (fun K' hK => ?_)
      go_simp
      exact hK _ _ ⟨_, _, rfl, rfl, hb, q0, q1, q2, q3, fun _ => rfl, q5, q6, q7, q8, q9, q10, q11, q12, q13, q14, q15, q16, q17, q18, q19⟩
    · have l0 : L 4 = true := by have := hd _ rfl; simp [Region.binds] at this; simp [this]
      have f4 := (hv 4 11 rfl l0).trans (q4 l0)
      refine Ri.step_plain rfl rfl (fun K' hK => ?_)
      go_simp
      exact hK _ _ ⟨_, _, rfl, rfl, hb, q0, q1, q2, q3, q4, fun _ => rfl, q6, q7, q8, q9, q10, q11, q12, q13, q14, q15, q16, q17, q18, q19⟩
    · have l0 : L 5 = true := by have := hd _ rfl; simp [Region.binds] at this; simp [this]
      have f5 := (hv 5 12 rfl l0).trans (q5 l0)
      have e1 : xa.tmps.getD 1 undef = .int .u8 n := ho 1 (by kernel_rfl)
      refine Ri.step_wanted (b := true) rfl rfl rfl f5 (fun K' hK => ?_)
      go_simp
      exact hK _ _ ⟨_, _, rfl, rfl, hb, q0, q1, q2, q3, q4, q5, fun _ => rfl, q7, q8, q9, q10, q11, q12, q13, q14, q15, q16, q17, q18, q19⟩
    · have l0 : L 5 = true ∧ L 6 = true := by have := hd _ rfl; simp [Region.binds] at this; simp [this]
      have f5 := (hv 5 12 rfl l0.1).trans (q5 l0.1)
      have f6 := (hv 6 13 rfl l0.2).trans (q6 l0.2)
      refine Ri.step_wanted (b := true) rfl rfl rfl f5 (fun K' hK => ?_)
      go_simp
      refine (other_any n hn _).mono ?_
      rintro e w8 ⟨rfl, rfl⟩
      exact hK _ _ ⟨_, _, rfl, rfl, hb, q0, q1, q2, q3, q4, q5, q6, fun _ => rfl, q8, q9, q10, q11, q12, q13, q14, q15, q16, q17, q18, q19⟩
    · have l0 : L 5 = true := by have := hd _ rfl; simp [Region.binds] at this; simp [this]
      have f5 := (hv 5 12 rfl l0).trans (q5 l0)
      have e1 : xa.tmps.getD 1 undef = .int .u8 n := ho 1 (by kernel_rfl)
      refine Ri.step_wanted (b := true) rfl rfl rfl f5 (fun K' hK => ?_)
      go_simp
      exact hK _ _ ⟨_, _, rfl, rfl, hb, q0, q1, q2, q3, q4, q5, q6, q7, fun _ => rfl, q9, q10, q11, q12, q13, q14, q15, q16, q17, q18, q19⟩
    · have l0 : L 5 = true ∧ L 8 = true := by have := hd _ rfl; simp [Region.binds] at this; simp [this]
      have f5 := (hv 5 12 rfl l0.1).trans (q5 l0.1)
      have f8 := (hv 8 15 rfl l0.2).trans (q8 l0.2)
      refine Ri.step_wanted (b := true) rfl rfl rfl f5 (fun K' hK => ?_)
      go_simp
      refine (refother_any n hn _).mono ?_
      rintro e w8 ⟨rfl, rfl⟩
      exact hK _ _ ⟨_, _, rfl, rfl, hb, q0, q1, q2, q3, q4, q5, q6, q7, q8, fun _ => rfl, q10, q11, q12, q13, q14, q15, q16, q17, q18, q19⟩
    · have l0 : L 5 = true ∧ L 7 = true ∧ L 9 = true := by have := hd _ rfl; simp [Region.binds] at this; simp [this]
      have f5 := (hv 5 12 rfl l0.1).trans (q5 l0.1)
      have f7 := (hv 7 14 rfl l0.2.1).trans (q7 l0.2.1)
      have f9 := (hv 9 16 rfl l0.2.2).trans (q9 l0.2.2)
      refine Ri.step_wanted (b := true) rfl rfl rfl f5 (fun K' hK => ?_)
      go_simp
      exact hK _ _ ⟨_, _, rfl, rfl, hb, q0, q1, q2, q3, q4, q5, q6, q7, q8, q9, fun _ => rfl, q11, q12, q13, q14, q15, q16, q17, q18, q19⟩
    · have l0 : L 5 = true ∧ L 10 = true := by have := hd _ rfl; simp [Region.binds] at this; simp [this]
      have f5 := (hv 5 12 rfl l0.1).trans (q5 l0.1)
      have f10 := (hv 10 17 rfl l0.2).trans (q10 l0.2)
      refine Ri.step_plain rfl rfl (fun K' hK => ?_)
      go_simp
      exact hK _ _ ⟨_, _, rfl, rfl, hb, q0, q1, q2, q3, q4, q5, q6, q7, q8, q9, q10, fun _ => rfl, q12, q13, q14, q15, q16, q17, q18, q19⟩
    · have l0 : L 11 = true := by have := hd _ rfl; simp [Region.binds] at this; simp [this]
      have f11 := (hv 11 18 rfl l0).trans (q11 l0)
      refine Ri.step_plain rfl rfl (fun K' hK => ?_)
      go_simp
      exact hK _ _ ⟨_, _, rfl, rfl, hb, q0, q1, q2, q3, q4, q5, q6, q7, q8, q9, q10, q11, fun _ => rfl, q13, q14, q15, q16, q17, q18, q19⟩
    · have l0 : L 12 = true := by have := hd _ rfl; simp [Region.binds] at this; simp [this]
      have f12 := (hv 12 19 rfl l0).trans (q12 l0)
      have e1 : xa.tmps.getD 1 undef = .int .u8 n := ho 1 (by kernel_rfl)
      refine Ri.step_wanted (b := true) rfl rfl rfl f12 (fun K' hK => ?_)
      go_simp
      exact hK _ _ ⟨_, _, rfl, rfl, hb, q0, q1, q2, q3, q4, q5, q6, q7, q8, q9, q10, q11, q12, fun _ => rfl, q14, q15, q16, q17, q18, q19⟩
    · have l0 : L 12 = true ∧ L 13 = true := by have := hd _ rfl; simp [Region.binds] at this; simp [this]
      have f12 := (hv 12 19 rfl l0.1).trans (q12 l0.1)
      have f13 := (hv 13 20 rfl l0.2).trans (q13 l0.2)
      refine Ri.step_wanted (b := true) rfl rfl rfl f12 (fun K' hK => ?_)
      go_simp
      refine (word_any n hn _).mono ?_
      rintro e w8 ⟨rfl, rfl⟩
      exact hK _ _ ⟨_, _, rfl, rfl, hb, q0, q1, q2, q3, q4, q5, q6, q7, q8, q9, q10, q11, q12, q13, fun _ => rfl, q15, q16, q17, q18, q19⟩
    · have l0 : L 12 = true := by have := hd _ rfl; simp [Region.binds] at this; simp [this]
      have f12 := (hv 12 19 rfl l0).trans (q12 l0)
      have e1 : xa.tmps.getD 1 undef = .int .u8 n := ho 1 (by kernel_rfl)
      refine Ri.step_wanted (b := true) rfl rfl rfl f12 (fun K' hK => ?_)
      go_simp
      exact hK _ _ ⟨_, _, rfl, rfl, hb, q0, q1, q2, q3, q4, q5, q6, q7, q8, q9, q10, q11, q12, q13, q14, fun _ => rfl, q16, q17, q18, q19⟩
    · have l0 : L 12 = true ∧ L 15 = true := by have := hd _ rfl; simp [Region.binds] at this; simp [this]
      have f12 := (hv 12 19 rfl l0.1).trans (q12 l0.1)
      have f15 := (hv 15 22 rfl l0.2).trans (q15 l0.2)
      refine Ri.step_wanted (b := true) rfl rfl rfl f12 (fun K' hK => ?_)
      go_simp
      refine (refword_any n hn _).mono ?_
      rintro e w8 ⟨rfl, rfl⟩
      exact hK _ _ ⟨_, _, rfl, rfl, hb, q0, q1, q2, q3, q4, q5, q6, q7, q8, q9, q10, q11, q12, q13, q14, q15, fun _ => rfl, q17, q18, q19⟩
    · have l0 : L 12 = true ∧ L 14 = true ∧ L 16 = true := by have := hd _ rfl; simp [Region.binds] at this; simp [this]
      have f12 := (hv 12 19 rfl l0.1).trans (q12 l0.1)
      have f14 := (hv 14 21 rfl l0.2.1).trans (q14 l0.2.1)
      have f16 := (hv 16 23 rfl l0.2.2).trans (q16 l0.2.2)
      refine Ri.step_wanted (b := true) rfl rfl rfl f12 (fun K' hK => ?_)
      go_simp
      exact hK _ _ ⟨_, _, rfl, rfl, hb, q0, q1, q2, q3, q4, q5, q6, q7, q8, q9, q10, q11, q12, q13, q14, q15, q16, fun _ => rfl, q18, q19⟩
    · have l0 : L 12 = true ∧ L 17 = true := by have := hd _ rfl; simp [Region.binds] at this; simp [this]
      have f12 := (hv 12 19 rfl l0.1).trans (q12 l0.1)
      have f17 := (hv 17 24 rfl l0.2).trans (q17 l0.2)
      refine Ri.step_plain rfl rfl (fun K' hK => ?_)
      go_simp
      exact hK _ _ ⟨_, _, rfl, rfl, hb, q0, q1, q2, q3, q4, q5, q6, q7, q8, q9, q10, q11, q12, q13, q14, q15, q16, q17, fun _ => rfl, q19⟩
    · have l0 : L 18 = true := by have := hd _ rfl; simp [Region.binds] at this; simp [this]
      have f18 := (hv 18 25 rfl l0).trans (q18 l0)
      refine Ri.step_plain rfl rfl (fun K' hK => ?_)
      go_simp
      exact hK _ _ ⟨_, _, rfl, rfl, hb, q0, q1, q2, q3, q4, q5, q6, q7, q8, q9, q10, q11, q12, q13, q14, q15, q16, q17, q18, fun _ => rfl⟩
  · rintro v w9 ⟨hb, -, -, -, -, -, -, -, -, -, -, -, -, -, -, -, -, -, -, -, q19⟩
    have q19' : v 19 = .bool true := q19 rfl
    simp only [Ri.frame, List.zipIdx, List.foldl_cons, List.foldl_nil, if_true, List.setIfInBounds_toArray, List.set_cons_zero, List.set_cons_succ, Nat.reduceAdd, q19']
    clear q19 q19'
    generalize v 0 = y0; generalize v 1 = y1; generalize v 2 = y2; generalize v 3 = y3; generalize v 4 = y4; generalize v 5 = y5; generalize v 6 = y6; generalize v 7 = y7; generalize v 8 = y8; generalize v 9 = y9; generalize v 10 = y10; generalize v 11 = y11; generalize v 12 = y12; generalize v 13 = y13; generalize v 14 = y14; generalize v 15 = y15; generalize v 16 = y16; generalize v 17 = y17; generalize v 18 = y18
    go_wp2
    have hb1 := HB1.out
    go_ret
    exact ⟨rfl, hb1.trans (hb.mono hb1.size)⟩
end Go.Proofs.YtnicijdpcpnbdaaDoor
