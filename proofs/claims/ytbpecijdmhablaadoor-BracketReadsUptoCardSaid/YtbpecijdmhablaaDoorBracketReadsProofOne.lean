/- What is proved: whatever the text, the place and the flags that it is handed, the law BracketReads returns true, and each argument reads behind the call as it read before. Conditions: the listed variables read as the program's text says (tied); what is handed in is of bulk at most 1048576. -/
import Derived.Test.YtbpecijdmhablaaDoorBrSpec
import Derived.Test.YtbpecijdmhablaaDoorOcWalks
import Derived.Test.YtbpecijdmhablaaDoorRegInv
import Derived.Test.YtbpecijdmhablaaDoorOcWalks2
import Derived.ProofKit
import Derived.OpenShut
import Derived.ChangeOld
import Derived.Deep.Slices
import Derived.Laws.IdiomArrays
import Derived.Lib.SmallJoins
import Derived.Test.YtbpecijdmhablaaDoorErPlace
import Derived.Lib.LaidTab
import Derived.Lib.ItoaNum
import Derived.Lib.AppendIntMem
import Derived.Test.YtbpecijdmhablaaDoorErAll
import Derived.LaidHandle
import Derived.LaidLaws
import Derived.Test.YtbpecijdmhablaaDoorBrDo
import Derived.Test.YtbpecijdmhablaaDoorCards
import Derived.Test.YtbpecijdmhablaaDoorTie
import Derived.SizedLaws
import Derived.ChangeMaps5
import Derived.SevenTiedAt
import Derived.Deep.DeepWitnessRowRef
/- The fixed facts that every statement of bracket begins with, out of what Read is to answer. -/
namespace Go.Proofs.YtbpecijdmhablaaDoor
open Go.RowKit
def brT1 : ByteArray := ⟨#[91, 97, 45, 99, 45, 101, 93]⟩
def brT2 : ByteArray := ⟨#[91, 98, 45, 97, 93]⟩
def brP1 : Nat → Bool := fun x => ((false || Br.rng 97 99 x) || x == 45) || x == 101
theorem rd1 : rdI brT1 0 (icB 0) (nlB 0) = .ok brP1 7 := by
  have h1 : icB 0 = false := by decide
  have h2 : nlB 0 = false := by decide
  rw [h1, h2]
  rfl
theorem rd2 : rdI brT2 0 (icB 0) (nlB 0) = .err 5 1 := by
  have h1 : icB 0 = false := by decide
  have h2 : nlB 0 = false := by decide
  rw [h1, h2]
  rfl
theorem cnt1 : Oc.cnt (Oc.mem (Oc.mk brP1 0) (Oc.mk brP1 1) (Oc.mk brP1 2) (Oc.mk brP1 3)) 256 = 5 := by decide +kernel
theorem mem1 : Oc.mem (Oc.mk brP1 0) (Oc.mk brP1 1) (Oc.mk brP1 2) (Oc.mk brP1 3) 45 = true := by decide +kernel
set_option maxRecDepth 100000 in
set_option maxHeartbeats 2000000 in
theorem brlives_any (D : BrDoes) (A : Nat → Addr) (w : World) (hE : BrEnv w A) (hT : ErrType w) : Calls Tryd.prog 6 #[] w fun e w' => e = .returned (.bool true) ∧ Below w.heap.size w w' := by
  have HE := Lib.hid hE; have HT := Lib.hid hT
  have HD := Lib.hid D.read
  have C1 := Lib.hid cnt1; have M1 := Lib.hid mem1
  clear hE hT D
  go_enter Tryd.func6, Tryd.ntmps6
  go_wp2_with fail
  refine (HD.out A brT1 0 0 _ HE.out (by decide) (by decide) (by decide)).mono ?_
  intro e w1 he
  obtain ⟨rfl, hb1⟩ := he.ok rd1
  clear he
  have HB1 := Lib.hid (hb1.alloc hb1.size (.cells #[.int .u64 (Oc.U (Oc.mk brP1 0)), .int .u64 (Oc.U (Oc.mk brP1 1)), .int .u64 (Oc.U (Oc.mk brP1 2)), .int .u64 (Oc.U (Oc.mk brP1 3))] 25))
  clear hb1
  go_wp2_with fail
  refine (HD.out A brT2 0 0 _ (HE.out.below HB1.out) (by decide) (by decide) (by decide)).mono ?_
  intro e w2 he
  obtain ⟨v, rfl, hv, hb2⟩ := he.err rd2
  clear he
  have Z2 := Lib.hid (heap_alloc_lt (o := .cells #[.int .u64 0, .int .u64 0, .int .u64 0, .int .u64 0] 25) (keep_blk hb2 (heap_alloc_new w1 _)))
  have hb2' := HB1.out.trans (hb2.mono HB1.out.size)
  have HB2 := Lib.hid (hb2'.alloc hb2'.size (.cells #[.int .u64 0, .int .u64 0, .int .u64 0, .int .u64 0] 25))
  have hv2 := hv.later ((Below.refl w2.heap.size w2).alloc (Nat.le_refl _) (.cells #[.int .u64 0, .int .u64 0, .int .u64 0, .int .u64 0] 25))
  obtain ⟨t, q, rfl⟩ := hv.iface
  have HV := Lib.hid hv2
  clear hb2 hb2' hv hv2
  have HE2 := Lib.hid (HE.out.below HB2.out); have HT2 := Lib.hid (HT.out.later HB2.out)
  obtain ⟨c0, c1, c2, c3, -⟩ := four Z2.out
  go_wp2_with fail
  refine (count_any _ _ _ _ _).mono ?_; rintro e w4 ⟨rfl, hb4⟩
  clear c0 c1 c2 c3
  have n5 : Oc.cnt (Oc.mem (Oc.mk brP1 0) (Oc.mk brP1 1) (Oc.mk brP1 2) (Oc.mk brP1 3)) 256 = 5 := C1.out
  obtain ⟨c0, c1, c2, c3, -⟩ := four (keep_blk hb4 Z2.out)
  have Z4 := Lib.hid (keep_blk hb4 Z2.out); have HB4 := Lib.hid (HB2.out.trans (hb4.mono HB2.out.size)); have HE4 := Lib.hid (HE2.out.below hb4); have HT4 := Lib.hid (HT2.out.later hb4); have HV4 := Lib.hid (HV.out.later hb4)
  clear hb4
  go_wp2_with fail
  refine (has_any _ _ _ _ 45 (by omega) _).mono ?_; rintro e w5 ⟨rfl, hb5⟩
  clear c0 c1 c2 c3 n5
  have m1 : Oc.mem (Oc.mk brP1 0) (Oc.mk brP1 1) (Oc.mk brP1 2) (Oc.mk brP1 3) 45 = true := M1.out
  rw [m1]
  have HB5 := Lib.hid (HB4.out.trans (hb5.mono HB4.out.size)); have HE5 := Lib.hid (HE4.out.below hb5); have HT5 := Lib.hid (HT4.out.later hb5); have HV5 := Lib.hid (HV4.out.later hb5)
  clear hb5 m1
  go_wp2_with fail
  refine (HV5.out.num HE5.out).mono ?_; rintro e w6 ⟨rfl, hb6⟩
  have HB6 := Lib.hid (HB5.out.trans (hb6.mono HB5.out.size)); have HT6 := Lib.hid (HT5.out.later hb6); have HV6 := Lib.hid (HV5.out.later hb6)
  clear hb6
  go_wp2_with fail
  refine (HV6.out.place HT6.out).mono ?_; rintro e w7 ⟨rfl, hb7⟩
  have HB7 := Lib.hid (HB6.out.trans (hb7.mono HB6.out.size))
  clear hb7
  go_wp2
  go_ret
  exact ⟨rfl, HB7.out⟩
end Go.Proofs.YtbpecijdmhablaaDoor
/- BracketReads: whatever the text, the place and the flags, the law returns true, where Read does what chapter 5 promises. -/
namespace Go.Proofs.YtbpecijdmhablaaDoor
open Go.RowKit
theorem seven {w : World} {b : Nat} {x0 x1 x2 x3 x4 x5 x6 : Value} {t : TypeId} (h : w.heap[b]? = some (.cells #[x0, x1, x2, x3, x4, x5, x6] t)) :
    w.cell? ⟨b, 0, none⟩ = some x0 ∧ w.cell? ⟨b, 1, none⟩ = some x1 ∧ w.cell? ⟨b, 2, none⟩ = some x2 ∧ w.cell? ⟨b, 3, none⟩ = some x3 ∧ w.cell? ⟨b, 4, none⟩ = some x4 ∧ w.cell? ⟨b, 5, none⟩ = some x5 ∧ w.cell? ⟨b, 6, none⟩ = some x6 := by
  simp [World.cell?, h]
set_option maxRecDepth 100000 in
set_option maxHeartbeats 4000000 in
theorem brreads_ok (D : BrDoes) (A : Nat → Addr) (s : ByteArray) (at_ fl : Int) (w : World) (hE : BrEnv w A) (hT : ErrType w) (hs : s.size ≤ 4294967280) (h0 : IntKind.i64.min ≤ at_) (h1 : at_ ≤ IntKind.i64.max) (P : Nat → Bool) (j : Nat) (hR : rdI s at_ (icB fl) (nlB fl) = .ok P j) :
    Calls Tryd.prog 3 #[.string s, .int .i64 at_, .int .i64 fl] w fun e w' => e = .returned (.bool true) ∧ Below w.heap.size w w' := by
  have he := eq4
  have hread := fun w hE => D.read A s at_ fl w hE hs h0 h1
  have href := fun w => refread_any s (by omega) at_ (icB fl) (nlB fl) w
  rw [← and6] at href
  rw [hR] at href hread
  have HL := Lib.hid (brlives_any D A w hE hT)
  have HD := Lib.hid hread; have HF := Lib.hid href
  have HE := Lib.hid hE; have HT := Lib.hid hT
  clear hread href D hR hE hT h0 h1
  go_enter Tryd.func3, Tryd.ntmps3
  go_wp2_with fail
  refine HL.out.mono ?_; rintro e w1 ⟨rfl, hb1⟩
  have HB1 := Lib.hid hb1; have HE1 := Lib.hid (HE.out.below hb1); have HT1 := Lib.hid (HT.out.later hb1)
  clear hb1
  go_wp2_with fail
  refine (HD.out _ HE1.out).mono ?_
  intro e w2 he2
  obtain ⟨rfl, hb2⟩ := he2.ok rfl
  have hb2' := HB1.out.trans (hb2.mono HB1.out.size)
  have hbA := hb2'.alloc hb2'.size (.cells #[.int .u64 (Oc.U (Oc.mk P 0)), .int .u64 (Oc.U (Oc.mk P 1)), .int .u64 (Oc.U (Oc.mk P 2)), .int .u64 (Oc.U (Oc.mk P 3))] 25)
  have HB2 := Lib.hid hbA
  have hbB : Below w1.heap.size w1 (w2.alloc (.cells #[.int .u64 (Oc.U (Oc.mk P 0)), .int .u64 (Oc.U (Oc.mk P 1)), .int .u64 (Oc.U (Oc.mk P 2)), .int .u64 (Oc.U (Oc.mk P 3))] 25)) := hb2.alloc hb2.size _
  have HE2 := Lib.hid (HE1.out.below hbB); have HT2 := Lib.hid (HT1.out.later hbB)
  clear he2 hb2 hb2' hbA hbB
  go_wp2_with fail
  refine (HF.out _).mono ?_
  intro e w3 he3
  obtain ⟨rfl, hb3⟩ : e = .returned (.agg #[.int .u64 (Oc.U (Oc.mk P 0)), .int .u64 (Oc.U (Oc.mk P 1)), .int .u64 (Oc.U (Oc.mk P 2)), .int .u64 (Oc.U (Oc.mk P 3)), .int .i64 j, .int .i64 0, .int .i64 0]) ∧ Below (w2.alloc (.cells #[.int .u64 (Oc.U (Oc.mk P 0)), .int .u64 (Oc.U (Oc.mk P 1)), .int .u64 (Oc.U (Oc.mk P 2)), .int .u64 (Oc.U (Oc.mk P 3))] 25)).heap.size (w2.alloc (.cells #[.int .u64 (Oc.U (Oc.mk P 0)), .int .u64 (Oc.U (Oc.mk P 1)), .int .u64 (Oc.U (Oc.mk P 2)), .int .u64 (Oc.U (Oc.mk P 3))] 25)) w3 := he3
  have hb3' := HB2.out.trans (hb3.mono HB2.out.size)
  have Z7 : Hid ((w3.alloc (.cells #[.int .u64 (Oc.U (Oc.mk P 0)), .int .u64 (Oc.U (Oc.mk P 1)), .int .u64 (Oc.U (Oc.mk P 2)), .int .u64 (Oc.U (Oc.mk P 3)), .int .i64 j, .int .i64 0, .int .i64 0] 31)).heap[w2.heap.size]? = some (.cells #[.int .u64 (Oc.U (Oc.mk P 0)), .int .u64 (Oc.U (Oc.mk P 1)), .int .u64 (Oc.U (Oc.mk P 2)), .int .u64 (Oc.U (Oc.mk P 3))] 25)) := Lib.hid (heap_alloc_lt (keep_blk hb3 (heap_alloc_new w2 _)))
  have Z10 : Hid ((w3.alloc (.cells #[.int .u64 (Oc.U (Oc.mk P 0)), .int .u64 (Oc.U (Oc.mk P 1)), .int .u64 (Oc.U (Oc.mk P 2)), .int .u64 (Oc.U (Oc.mk P 3)), .int .i64 j, .int .i64 0, .int .i64 0] 31)).heap[w3.heap.size]? = some (.cells #[.int .u64 (Oc.U (Oc.mk P 0)), .int .u64 (Oc.U (Oc.mk P 1)), .int .u64 (Oc.U (Oc.mk P 2)), .int .u64 (Oc.U (Oc.mk P 3)), .int .i64 j, .int .i64 0, .int .i64 0] 31)) := Lib.hid (heap_alloc_new w3 _)
  have HB3 : Hid (Below w.heap.size w (w3.alloc (.cells #[.int .u64 (Oc.U (Oc.mk P 0)), .int .u64 (Oc.U (Oc.mk P 1)), .int .u64 (Oc.U (Oc.mk P 2)), .int .u64 (Oc.U (Oc.mk P 3)), .int .i64 j, .int .i64 0, .int .i64 0] 31))) := Lib.hid (hb3'.alloc hb3'.size _)
  have hbC : Below (w2.alloc (.cells #[.int .u64 (Oc.U (Oc.mk P 0)), .int .u64 (Oc.U (Oc.mk P 1)), .int .u64 (Oc.U (Oc.mk P 2)), .int .u64 (Oc.U (Oc.mk P 3))] 25)).heap.size (w2.alloc (.cells #[.int .u64 (Oc.U (Oc.mk P 0)), .int .u64 (Oc.U (Oc.mk P 1)), .int .u64 (Oc.U (Oc.mk P 2)), .int .u64 (Oc.U (Oc.mk P 3))] 25)) (w3.alloc (.cells #[.int .u64 (Oc.U (Oc.mk P 0)), .int .u64 (Oc.U (Oc.mk P 1)), .int .u64 (Oc.U (Oc.mk P 2)), .int .u64 (Oc.U (Oc.mk P 3)), .int .i64 j, .int .i64 0, .int .i64 0] 31)) := hb3.alloc hb3.size _
  have HE3 := Lib.hid (HE2.out.below hbC); have HT3 := Lib.hid (HT2.out.later hbC)
  clear hb3 hb3' hbC
  go_wp2_with fail
  generalize World.alloc w3 _ = W at *
  refine Ri.wp_region_frame (by kernel_rfl) (by kernel_rfl) (by kernel_rfl) (by kernel_rfl)
    (fun L v w' => Below W.heap.size W w' ∧ (L 0 = true → v 0 = .nilIface) ∧ (L 1 = true → v 1 = .int .i64 0) ∧ (L 2 = true → v 2 = .pointer (some ⟨w3.heap.size, 5, none⟩)) ∧ (L 3 = true → v 3 = .int .i64 0) ∧ (L 4 = true → v 4 = .bool false) ∧ (L 5 = true → v 5 = .bool false) ∧ (L 6 = true → v 6 = .agg #[.int .u64 (Oc.U (Oc.mk P 0)), .int .u64 (Oc.U (Oc.mk P 1)), .int .u64 (Oc.U (Oc.mk P 2)), .int .u64 (Oc.U (Oc.mk P 3))]) ∧ (L 7 = true → v 7 = .pointer (some ⟨w3.heap.size, 0, none⟩)) ∧ (L 8 = true → v 8 = .agg #[.int .u64 (Oc.U (Oc.mk P 0)), .int .u64 (Oc.U (Oc.mk P 1)), .int .u64 (Oc.U (Oc.mk P 2)), .int .u64 (Oc.U (Oc.mk P 3))]) ∧ (L 9 = true → v 9 = .bool false) ∧ (L 10 = true → v 10 = .bool false) ∧ (L 11 = true → v 11 = .bool false) ∧ (L 12 = true → v 12 = .int .i64 j) ∧ (L 13 = true → v 13 = .pointer (some ⟨w3.heap.size, 4, none⟩)) ∧ (L 14 = true → v 14 = .int .i64 j) ∧ (L 15 = true → v 15 = .bool false) ∧ (L 16 = true → v 16 = .bool false))
    ?_ ?_ ?_
  · exact ⟨(Below.refl _ _).drew, by simp, by simp, by simp, by simp, by simp, by simp, by simp, by simp, by simp, by simp, by simp, by simp, by simp, by simp, by simp, by simp, by simp⟩
  · intro i hi9 L v w9 xa hI hL hd hv ho
    have hi' : i = 0 ∨ i = 1 ∨ i = 2 ∨ i = 3 ∨ i = 4 ∨ i = 5 ∨ i = 6 ∨ i = 7 ∨ i = 8 ∨ i = 9 ∨ i = 10 ∨ i = 11 ∨ i = 12 ∨ i = 13 ∨ i = 14 ∨ i = 15 ∨ i = 16 := by simp at hi9; omega
    obtain ⟨hb, q0, q1, q2, q3, q4, q5, q6, q7, q8, q9, q10, q11, q12, q13, q14, q15, q16⟩ := hI
    rcases hi' with rfl | rfl | rfl | rfl | rfl | rfl | rfl | rfl | rfl | rfl | rfl | rfl | rfl | rfl | rfl | rfl | rfl
    · have e9 : xa.tmps.getD 9 undef = .nilIface := ho 9 (by kernel_rfl)
      refine Ri.step_plain rfl rfl (fun K' hK => ?_)
      go_simp
      exact hK _ _ ⟨_, _, rfl, rfl, hb, fun _ => rfl, q1, q2, q3, q4, q5, q6, q7, q8, q9, q10, q11, q12, q13, q14, q15, q16⟩
    · have l0 : L 0 = true := by have := hd _ rfl; simp [Region.binds] at this; simp [this]
      have f0 := (hv 0 26 rfl l0).trans (q0 l0)
      refine Ri.step_plain rfl rfl (fun K' hK => ?_)
      go_simp
      refine (num_nil _).mono ?_
      rintro e w8 ⟨rfl, rfl⟩
      exact hK _ _ ⟨_, _, rfl, rfl, hb, q0, fun _ => rfl, q2, q3, q4, q5, q6, q7, q8, q9, q10, q11, q12, q13, q14, q15, q16⟩
    · have e10 : xa.tmps.getD 10 undef = .pointer (some ⟨w3.heap.size, 0, none⟩) := ho 10 (by kernel_rfl)
      refine Ri.step_plain rfl rfl (fun K' hK => ?_)
      go_simp
      exact hK _ _ ⟨_, _, rfl, rfl, hb, q0, q1, fun _ => rfl, q3, q4, q5, q6, q7, q8, q9, q10, q11, q12, q13, q14, q15, q16⟩
    · have l0 : L 2 = true := by have := hd _ rfl; simp [Region.binds] at this; simp [this]
      have f2 := (hv 2 28 rfl l0).trans (q2 l0)
      refine Ri.step_plain rfl rfl (fun K' hK => ?_)
      obtain ⟨c0, c1, c2, c3, c4, c5, c6⟩ := seven (keep_blk hb Z10.out)
      go_simp
      exact hK _ _ ⟨_, _, rfl, rfl, hb, q0, q1, q2, fun _ => rfl, q4, q5, q6, q7, q8, q9, q10, q11, q12, q13, q14, q15, q16⟩
    · have l0 : L 1 = true ∧ L 3 = true := by have := hd _ rfl; simp [Region.binds] at this; simp [this]
      have f1 := (hv 1 27 rfl l0.1).trans (q1 l0.1)
      have f3 := (hv 3 29 rfl l0.2).trans (q3 l0.2)
      refine Ri.step_plain rfl rfl (fun K' hK => ?_)
      go_simp
      exact hK _ _ ⟨_, _, rfl, rfl, hb, q0, q1, q2, q3, fun _ => rfl, q5, q6, q7, q8, q9, q10, q11, q12, q13, q14, q15, q16⟩
    · have l0 : L 4 = true := by have := hd _ rfl; simp [Region.binds] at this; simp [this]
      have f4 := (hv 4 30 rfl l0).trans (q4 l0)
      refine Ri.step_plain rfl rfl (fun K' hK => ?_)
      go_simp
      exact hK _ _ ⟨_, _, rfl, rfl, hb, q0, q1, q2, q3, q4, fun _ => rfl, q6, q7, q8, q9, q10, q11, q12, q13, q14, q15, q16⟩
    · have l0 : L 5 = true := by have := hd _ rfl; simp [Region.binds] at this; simp [this]
      have f5 := (hv 5 31 rfl l0).trans (q5 l0)
      have e7 : xa.tmps.getD 7 undef = .pointer (some ⟨w2.heap.size, 0, none⟩) := ho 7 (by kernel_rfl)
      refine Ri.step_wanted (b := false) rfl rfl rfl f5 (fun K' hK => ?_)
      refine wp_load_row _ _ rfl _ e7 _ _ _ _ (keep_blk hb Z7.out) Tryd.underlying25 rfl (by kernel_rfl) ?_
      exact hK _ _ ⟨_, _, rfl, rfl, hb, q0, q1, q2, q3, q4, q5, fun _ => rfl, q7, q8, q9, q10, q11, q12, q13, q14, q15, q16⟩
    · have l0 : L 5 = true := by have := hd _ rfl; simp [Region.binds] at this; simp [this]
      have f5 := (hv 5 31 rfl l0).trans (q5 l0)
      have e10 : xa.tmps.getD 10 undef = .pointer (some ⟨w3.heap.size, 0, none⟩) := ho 10 (by kernel_rfl)
      refine Ri.step_wanted (b := false) rfl rfl rfl f5 (fun K' hK => ?_)
      go_simp
      exact hK _ _ ⟨_, _, rfl, rfl, hb, q0, q1, q2, q3, q4, q5, q6, fun _ => rfl, q8, q9, q10, q11, q12, q13, q14, q15, q16⟩
    · have l0 : L 5 = true ∧ L 7 = true := by have := hd _ rfl; simp [Region.binds] at this; simp [this]
      have f5 := (hv 5 31 rfl l0.1).trans (q5 l0.1)
      have f7 := (hv 7 33 rfl l0.2).trans (q7 l0.2)
      refine Ri.step_wanted (b := false) rfl rfl rfl f5 (fun K' hK => ?_)
      obtain ⟨c0, c1, c2, c3, c4, c5, c6⟩ := seven (keep_blk hb Z10.out)
      go_simp
      exact hK _ _ ⟨_, _, rfl, rfl, hb, q0, q1, q2, q3, q4, q5, q6, q7, fun _ => rfl, q9, q10, q11, q12, q13, q14, q15, q16⟩
    · have l0 : L 5 = true ∧ L 6 = true ∧ L 8 = true := by have := hd _ rfl; simp [Region.binds] at this; simp [this]
      have f5 := (hv 5 31 rfl l0.1).trans (q5 l0.1)
      have f6 := (hv 6 32 rfl l0.2.1).trans (q6 l0.2.1)
      have f8 := (hv 8 34 rfl l0.2.2).trans (q8 l0.2.2)
      refine Ri.step_wanted (b := false) rfl rfl rfl f5 (fun K' hK => ?_)
      go_simp
      exact hK _ _ ⟨_, _, rfl, rfl, hb, q0, q1, q2, q3, q4, q5, q6, q7, q8, fun _ => rfl, q10, q11, q12, q13, q14, q15, q16⟩
    · have l0 : L 5 = true ∧ L 9 = true := by have := hd _ rfl; simp [Region.binds] at this; simp [this]
      have f5 := (hv 5 31 rfl l0.1).trans (q5 l0.1)
      have f9 := (hv 9 35 rfl l0.2).trans (q9 l0.2)
      refine Ri.step_plain rfl rfl (fun K' hK => ?_)
      go_simp
      exact hK _ _ ⟨_, _, rfl, rfl, hb, q0, q1, q2, q3, q4, q5, q6, q7, q8, q9, fun _ => rfl, q11, q12, q13, q14, q15, q16⟩
    · have l0 : L 10 = true := by have := hd _ rfl; simp [Region.binds] at this; simp [this]
      have f10 := (hv 10 36 rfl l0).trans (q10 l0)
      refine Ri.step_plain rfl rfl (fun K' hK => ?_)
      go_simp
      exact hK _ _ ⟨_, _, rfl, rfl, hb, q0, q1, q2, q3, q4, q5, q6, q7, q8, q9, q10, fun _ => rfl, q12, q13, q14, q15, q16⟩
    · have l0 : L 11 = true := by have := hd _ rfl; simp [Region.binds] at this; simp [this]
      have f11 := (hv 11 37 rfl l0).trans (q11 l0)
      have e8 : xa.tmps.getD 8 undef = .int .i64 j := ho 8 (by kernel_rfl)
      refine Ri.step_wanted (b := false) rfl rfl rfl f11 (fun K' hK => ?_)
      go_simp
      exact hK _ _ ⟨_, _, rfl, rfl, hb, q0, q1, q2, q3, q4, q5, q6, q7, q8, q9, q10, q11, fun _ => rfl, q13, q14, q15, q16⟩
    · have l0 : L 11 = true := by have := hd _ rfl; simp [Region.binds] at this; simp [this]
      have f11 := (hv 11 37 rfl l0).trans (q11 l0)
      have e10 : xa.tmps.getD 10 undef = .pointer (some ⟨w3.heap.size, 0, none⟩) := ho 10 (by kernel_rfl)
      refine Ri.step_wanted (b := false) rfl rfl rfl f11 (fun K' hK => ?_)
      go_simp
      exact hK _ _ ⟨_, _, rfl, rfl, hb, q0, q1, q2, q3, q4, q5, q6, q7, q8, q9, q10, q11, q12, fun _ => rfl, q14, q15, q16⟩
    · have l0 : L 11 = true ∧ L 13 = true := by have := hd _ rfl; simp [Region.binds] at this; simp [this]
      have f11 := (hv 11 37 rfl l0.1).trans (q11 l0.1)
      have f13 := (hv 13 39 rfl l0.2).trans (q13 l0.2)
      refine Ri.step_wanted (b := false) rfl rfl rfl f11 (fun K' hK => ?_)
      obtain ⟨c0, c1, c2, c3, c4, c5, c6⟩ := seven (keep_blk hb Z10.out)
      go_simp
      exact hK _ _ ⟨_, _, rfl, rfl, hb, q0, q1, q2, q3, q4, q5, q6, q7, q8, q9, q10, q11, q12, q13, fun _ => rfl, q15, q16⟩
    · have l0 : L 11 = true ∧ L 12 = true ∧ L 14 = true := by have := hd _ rfl; simp [Region.binds] at this; simp [this]
      have f11 := (hv 11 37 rfl l0.1).trans (q11 l0.1)
      have f12 := (hv 12 38 rfl l0.2.1).trans (q12 l0.2.1)
      have f14 := (hv 14 40 rfl l0.2.2).trans (q14 l0.2.2)
      refine Ri.step_wanted (b := false) rfl rfl rfl f11 (fun K' hK => ?_)
      go_simp
      exact hK _ _ ⟨_, _, rfl, rfl, hb, q0, q1, q2, q3, q4, q5, q6, q7, q8, q9, q10, q11, q12, q13, q14, fun _ => rfl, q16⟩
    · have l0 : L 11 = true ∧ L 15 = true := by have := hd _ rfl; simp [Region.binds] at this; simp [this]
      have f11 := (hv 11 37 rfl l0.1).trans (q11 l0.1)
      have f15 := (hv 15 41 rfl l0.2).trans (q15 l0.2)
      refine Ri.step_plain rfl rfl (fun K' hK => ?_)
      go_simp
      exact hK _ _ ⟨_, _, rfl, rfl, hb, q0, q1, q2, q3, q4, q5, q6, q7, q8, q9, q10, q11, q12, q13, q14, q15, fun _ => rfl⟩
  · rintro v w9 ⟨hb, -, -, -, -, -, -, -, -, -, -, -, -, -, -, -, -, q16⟩
    have q16' : v 16 = .bool false := q16 rfl
    simp only [Ri.frame, List.zipIdx, List.foldl_cons, List.foldl_nil, if_true, List.setIfInBounds_toArray, List.set_cons_zero, List.set_cons_succ, Nat.reduceAdd, q16']
    clear q16 q16'
    generalize v 0 = y0; generalize v 1 = y1; generalize v 2 = y2; generalize v 3 = y3; generalize v 4 = y4; generalize v 5 = y5; generalize v 6 = y6; generalize v 7 = y7; generalize v 8 = y8; generalize v 9 = y9; generalize v 10 = y10; generalize v 11 = y11; generalize v 12 = y12; generalize v 13 = y13; generalize v 14 = y14; generalize v 15 = y15
    have HE4 := Lib.hid (HE3.out.below hb); have HT4 := Lib.hid (HT3.out.later hb); have Y10 := Lib.hid (keep_blk hb Z10.out); have HB4 := Lib.hid (HB3.out.trans (hb.mono HB3.out.size))
    clear hb
    go_wp2_with fail
    refine Ri.wp_region_frame (by kernel_rfl) (by kernel_rfl) (by kernel_rfl) (by kernel_rfl)
      (fun L v w' => Below w9.heap.size w9 w' ∧ (L 0 = true → v 0 = .nilIface) ∧ (L 1 = true → v 1 = .bool true) ∧ (L 2 = true → v 2 = .bool true) ∧ (L 3 = true → v 3 = undef) ∧ (L 4 = true → v 4 = undef) ∧ (L 5 = true → v 5 = undef) ∧ (L 6 = true → v 6 = undef) ∧ (L 7 = true → v 7 = undef) ∧ (L 8 = true → v 8 = .bool true) ∧ (L 9 = true → v 9 = .bool true))
      ?_ ?_ ?_
    · exact ⟨(Below.refl _ _).drew, by simp, by simp, by simp, by simp, by simp, by simp, by simp, by simp, by simp, by simp⟩
    · intro i hi9 L v w10 xa hI hL hd hv ho
      have hi' : i = 0 ∨ i = 1 ∨ i = 2 ∨ i = 3 ∨ i = 4 ∨ i = 5 ∨ i = 6 ∨ i = 7 ∨ i = 8 ∨ i = 9 := by simp at hi9; omega
      obtain ⟨hb, q0, q1, q2, q3, q4, q5, q6, q7, q8, q9⟩ := hI
      rcases hi' with rfl | rfl | rfl | rfl | rfl | rfl | rfl | rfl | rfl | rfl
      · have e9 : xa.tmps.getD 9 undef = .nilIface := ho 9 (by kernel_rfl)
        refine Ri.step_plain rfl rfl (fun K' hK => ?_)
        go_simp
        exact hK _ _ ⟨_, _, rfl, rfl, hb, fun _ => rfl, q1, q2, q3, q4, q5, q6, q7, q8, q9⟩
      · have l0 : L 0 = true := by have := hd _ rfl; simp [Region.binds] at this; simp [this]
        have f0 := (hv 0 43 rfl l0).trans (q0 l0)
        refine Ri.step_plain rfl rfl (fun K' hK => ?_)
        go_simp
        exact hK _ _ ⟨_, _, rfl, rfl, hb, q0, fun _ => rfl, q2, q3, q4, q5, q6, q7, q8, q9⟩
      · have l0 : L 1 = true := by have := hd _ rfl; simp [Region.binds] at this; simp [this]
        have f1 := (hv 1 44 rfl l0).trans (q1 l0)
        refine Ri.step_plain rfl rfl (fun K' hK => ?_)
        go_simp
        exact hK _ _ ⟨_, _, rfl, rfl, hb, q0, q1, fun _ => rfl, q3, q4, q5, q6, q7, q8, q9⟩
      · have l0 : L 2 = true := by have := hd _ rfl; simp [Region.binds] at this; simp [this]
        have f2 := (hv 2 45 rfl l0).trans (q2 l0)
        exact Ri.step_unwanted (b := true) rfl rfl rfl f2 ⟨_, _, rfl, rfl, hb, q0, q1, q2, fun _ => rfl, q4, q5, q6, q7, q8, q9⟩
      · have l0 : L 2 = true := by have := hd _ rfl; simp [Region.binds] at this; simp [this]
        have f2 := (hv 2 45 rfl l0).trans (q2 l0)
        exact Ri.step_unwanted (b := true) rfl rfl rfl f2 ⟨_, _, rfl, rfl, hb, q0, q1, q2, q3, fun _ => rfl, q5, q6, q7, q8, q9⟩
      · have l0 : L 2 = true := by have := hd _ rfl; simp [Region.binds] at this; simp [this]
        have f2 := (hv 2 45 rfl l0).trans (q2 l0)
        exact Ri.step_unwanted (b := true) rfl rfl rfl f2 ⟨_, _, rfl, rfl, hb, q0, q1, q2, q3, q4, fun _ => rfl, q6, q7, q8, q9⟩
      · have l0 : L 2 = true := by have := hd _ rfl; simp [Region.binds] at this; simp [this]
        have f2 := (hv 2 45 rfl l0).trans (q2 l0)
        exact Ri.step_unwanted (b := true) rfl rfl rfl f2 ⟨_, _, rfl, rfl, hb, q0, q1, q2, q3, q4, q5, fun _ => rfl, q7, q8, q9⟩
      · have l0 : L 2 = true := by have := hd _ rfl; simp [Region.binds] at this; simp [this]
        have f2 := (hv 2 45 rfl l0).trans (q2 l0)
        exact Ri.step_unwanted (b := true) rfl rfl rfl f2 ⟨_, _, rfl, rfl, hb, q0, q1, q2, q3, q4, q5, q6, fun _ => rfl, q8, q9⟩
      · have l0 : L 2 = true ∧ L 7 = true := by have := hd _ rfl; simp [Region.binds] at this; simp [this]
        have f2 := (hv 2 45 rfl l0.1).trans (q2 l0.1)
        have f7 := (hv 7 50 rfl l0.2).trans (q7 l0.2)
        refine Ri.step_plain rfl rfl (fun K' hK => ?_)
        go_simp
        exact hK _ _ ⟨_, _, rfl, rfl, hb, q0, q1, q2, q3, q4, q5, q6, q7, fun _ => rfl, q9⟩
      · have l0 : L 8 = true := by have := hd _ rfl; simp [Region.binds] at this; simp [this]
        have f8 := (hv 8 51 rfl l0).trans (q8 l0)
        refine Ri.step_plain rfl rfl (fun K' hK => ?_)
        go_simp
        exact hK _ _ ⟨_, _, rfl, rfl, hb, q0, q1, q2, q3, q4, q5, q6, q7, q8, fun _ => rfl⟩
    · rintro v w10 ⟨hb, -, -, -, -, -, -, -, -, -, q9⟩
      have q9' : v 9 = .bool true := q9 rfl
      simp only [Ri.frame, List.zipIdx, List.foldl_cons, List.foldl_nil, if_true, List.setIfInBounds_toArray, List.set_cons_zero, List.set_cons_succ, Nat.reduceAdd, q9']
      clear q9 q9'
      generalize v 0 = y0; generalize v 1 = y1; generalize v 2 = y2; generalize v 3 = y3; generalize v 4 = y4; generalize v 5 = y5; generalize v 6 = y6; generalize v 7 = y7; generalize v 8 = y8
      have HB5 := Lib.hid (HB4.out.trans (hb.mono HB4.out.size))
      clear hb
      go_wp2
      go_ret
      exact ⟨rfl, HB5.out⟩
set_option maxRecDepth 100000 in
set_option maxHeartbeats 4000000 in
theorem brreads_err (D : BrDoes) (A : Nat → Addr) (s : ByteArray) (at_ fl : Int) (w : World) (hE : BrEnv w A) (hT : ErrType w) (hs : s.size ≤ 4294967280) (h0 : IntKind.i64.min ≤ at_) (h1 : at_ ≤ IntKind.i64.max) (c : Nat) (p : Int) (hR : rdI s at_ (icB fl) (nlB fl) = .err c p) :
    Calls Tryd.prog 3 #[.string s, .int .i64 at_, .int .i64 fl] w fun e w' => e = .returned (.bool true) ∧ Below w.heap.size w w' := by
  have he := eq4
  have hread := fun w hE => D.read A s at_ fl w hE hs h0 h1
  have href := fun w => refread_any s (by omega) at_ (icB fl) (nlB fl) w
  rw [← and6] at href
  rw [hR] at href hread
  have HL := Lib.hid (brlives_any D A w hE hT)
  have HD := Lib.hid hread; have HF := Lib.hid href
  have HE := Lib.hid hE; have HT := Lib.hid hT
  clear hread href D hR hE hT h0 h1
  go_enter Tryd.func3, Tryd.ntmps3
  go_wp2_with fail
  refine HL.out.mono ?_; rintro e w1 ⟨rfl, hb1⟩
  have HB1 := Lib.hid hb1; have HE1 := Lib.hid (HE.out.below hb1); have HT1 := Lib.hid (HT.out.later hb1)
  clear hb1
  go_wp2_with fail
  refine (HD.out _ HE1.out).mono ?_
  intro e w2 he2
  obtain ⟨v, rfl, hv, hb2⟩ := he2.err rfl
  obtain ⟨t, q, rfl⟩ := hv.iface
  have hb2' := HB1.out.trans (hb2.mono HB1.out.size)
  have hbA := hb2'.alloc hb2'.size (.cells #[.int .u64 0, .int .u64 0, .int .u64 0, .int .u64 0] 25)
  have HB2 := Lib.hid hbA
  have hbB : Below w1.heap.size w1 (w2.alloc (.cells #[.int .u64 0, .int .u64 0, .int .u64 0, .int .u64 0] 25)) := hb2.alloc hb2.size _
  have HE2 := Lib.hid (HE1.out.below hbB); have HT2 := Lib.hid (HT1.out.later hbB)
  have HV2 := Lib.hid (hv.later ((Below.refl w2.heap.size w2).alloc (Nat.le_refl _) (.cells #[.int .u64 0, .int .u64 0, .int .u64 0, .int .u64 0] 25)))
  clear he2 hb2 hb2' hbA hbB hv
  go_wp2_with fail
  refine (HF.out _).mono ?_
  intro e w3 he3
  obtain ⟨rfl, hb3⟩ : e = .returned (.agg #[.int .u64 0, .int .u64 0, .int .u64 0, .int .u64 0, .int .i64 0, .int .i64 c, .int .i64 p]) ∧ Below (w2.alloc (.cells #[.int .u64 0, .int .u64 0, .int .u64 0, .int .u64 0] 25)).heap.size (w2.alloc (.cells #[.int .u64 0, .int .u64 0, .int .u64 0, .int .u64 0] 25)) w3 := he3
  have hb3' := HB2.out.trans (hb3.mono HB2.out.size)
  have Z7 : Hid ((w3.alloc (.cells #[.int .u64 0, .int .u64 0, .int .u64 0, .int .u64 0, .int .i64 0, .int .i64 c, .int .i64 p] 31)).heap[w2.heap.size]? = some (.cells #[.int .u64 0, .int .u64 0, .int .u64 0, .int .u64 0] 25)) := Lib.hid (heap_alloc_lt (keep_blk hb3 (heap_alloc_new w2 _)))
  have Z10 : Hid ((w3.alloc (.cells #[.int .u64 0, .int .u64 0, .int .u64 0, .int .u64 0, .int .i64 0, .int .i64 c, .int .i64 p] 31)).heap[w3.heap.size]? = some (.cells #[.int .u64 0, .int .u64 0, .int .u64 0, .int .u64 0, .int .i64 0, .int .i64 c, .int .i64 p] 31)) := Lib.hid (heap_alloc_new w3 _)
  have HB3 : Hid (Below w.heap.size w (w3.alloc (.cells #[.int .u64 0, .int .u64 0, .int .u64 0, .int .u64 0, .int .i64 0, .int .i64 c, .int .i64 p] 31))) := Lib.hid (hb3'.alloc hb3'.size _)
  have hbC : Below (w2.alloc (.cells #[.int .u64 0, .int .u64 0, .int .u64 0, .int .u64 0] 25)).heap.size (w2.alloc (.cells #[.int .u64 0, .int .u64 0, .int .u64 0, .int .u64 0] 25)) (w3.alloc (.cells #[.int .u64 0, .int .u64 0, .int .u64 0, .int .u64 0, .int .i64 0, .int .i64 c, .int .i64 p] 31)) := hb3.alloc hb3.size _
  have HE3 := Lib.hid (HE2.out.below hbC); have HT3 := Lib.hid (HT2.out.later hbC)
  have HV3 := Lib.hid (HV2.out.later hbC)
  clear hb3 hb3' hbC
  go_wp2_with fail
  generalize World.alloc w3 _ = W at *
  refine Ri.wp_region_frame (by kernel_rfl) (by kernel_rfl) (by kernel_rfl) (by kernel_rfl)
    (fun L v w' => Below W.heap.size W w' ∧ (L 0 = true → v 0 = .iface t q) ∧ (L 1 = true → v 1 = .int .i64 c) ∧ (L 2 = true → v 2 = .pointer (some ⟨w3.heap.size, 5, none⟩)) ∧ (L 3 = true → v 3 = .int .i64 c) ∧ (L 4 = true → v 4 = .bool false) ∧ (L 5 = true → v 5 = .bool false) ∧ (L 6 = true → v 6 = .agg #[.int .u64 0, .int .u64 0, .int .u64 0, .int .u64 0]) ∧ (L 7 = true → v 7 = .pointer (some ⟨w3.heap.size, 0, none⟩)) ∧ (L 8 = true → v 8 = .agg #[.int .u64 0, .int .u64 0, .int .u64 0, .int .u64 0]) ∧ (L 9 = true → v 9 = .bool false) ∧ (L 10 = true → v 10 = .bool false) ∧ (L 11 = true → v 11 = .bool false) ∧ (L 12 = true → v 12 = .int .i64 0) ∧ (L 13 = true → v 13 = .pointer (some ⟨w3.heap.size, 4, none⟩)) ∧ (L 14 = true → v 14 = .int .i64 0) ∧ (L 15 = true → v 15 = .bool false) ∧ (L 16 = true → v 16 = .bool false))
    ?_ ?_ ?_
  · exact ⟨(Below.refl _ _).drew, by simp, by simp, by simp, by simp, by simp, by simp, by simp, by simp, by simp, by simp, by simp, by simp, by simp, by simp, by simp, by simp, by simp⟩
  · intro i hi9 L v w9 xa hI hL hd hv ho
    have hi' : i = 0 ∨ i = 1 ∨ i = 2 ∨ i = 3 ∨ i = 4 ∨ i = 5 ∨ i = 6 ∨ i = 7 ∨ i = 8 ∨ i = 9 ∨ i = 10 ∨ i = 11 ∨ i = 12 ∨ i = 13 ∨ i = 14 ∨ i = 15 ∨ i = 16 := by simp at hi9; omega
    obtain ⟨hb, q0, q1, q2, q3, q4, q5, q6, q7, q8, q9, q10, q11, q12, q13, q14, q15, q16⟩ := hI
    rcases hi' with rfl | rfl | rfl | rfl | rfl | rfl | rfl | rfl | rfl | rfl | rfl | rfl | rfl | rfl | rfl | rfl | rfl
    · have e9 : xa.tmps.getD 9 undef = .iface t q := ho 9 (by kernel_rfl)
      refine Ri.step_plain rfl rfl (fun K' hK => ?_)
      go_simp
      exact hK _ _ ⟨_, _, rfl, rfl, hb, fun _ => rfl, q1, q2, q3, q4, q5, q6, q7, q8, q9, q10, q11, q12, q13, q14, q15, q16⟩
    · have l0 : L 0 = true := by have := hd _ rfl; simp [Region.binds] at this; simp [this]
      have f0 := (hv 0 26 rfl l0).trans (q0 l0)
      refine Ri.step_plain rfl rfl (fun K' hK => ?_)
      go_simp
      refine (HV3.out.later hb |>.num (HE3.out.below hb)).mono ?_
      rintro e w8 ⟨rfl, hb8⟩
      exact hK _ _ ⟨_, _, rfl, rfl, hb.trans (hb8.mono hb.size), q0, fun _ => rfl, q2, q3, q4, q5, q6, q7, q8, q9, q10, q11, q12, q13, q14, q15, q16⟩
    · have e10 : xa.tmps.getD 10 undef = .pointer (some ⟨w3.heap.size, 0, none⟩) := ho 10 (by kernel_rfl)
      refine Ri.step_plain rfl rfl (fun K' hK => ?_)
      go_simp
      exact hK _ _ ⟨_, _, rfl, rfl, hb, q0, q1, fun _ => rfl, q3, q4, q5, q6, q7, q8, q9, q10, q11, q12, q13, q14, q15, q16⟩
    · have l0 : L 2 = true := by have := hd _ rfl; simp [Region.binds] at this; simp [this]
      have f2 := (hv 2 28 rfl l0).trans (q2 l0)
      refine Ri.step_plain rfl rfl (fun K' hK => ?_)
      obtain ⟨c0, c1, c2, c3, c4, c5, c6⟩ := seven (keep_blk hb Z10.out)
      go_simp
      exact hK _ _ ⟨_, _, rfl, rfl, hb, q0, q1, q2, fun _ => rfl, q4, q5, q6, q7, q8, q9, q10, q11, q12, q13, q14, q15, q16⟩
    · have l0 : L 1 = true ∧ L 3 = true := by have := hd _ rfl; simp [Region.binds] at this; simp [this]
      have f1 := (hv 1 27 rfl l0.1).trans (q1 l0.1)
      have f3 := (hv 3 29 rfl l0.2).trans (q3 l0.2)
      refine Ri.step_plain rfl rfl (fun K' hK => ?_)
      go_simp
      exact hK _ _ ⟨_, _, rfl, rfl, hb, q0, q1, q2, q3, fun _ => rfl, q5, q6, q7, q8, q9, q10, q11, q12, q13, q14, q15, q16⟩
    · have l0 : L 4 = true := by have := hd _ rfl; simp [Region.binds] at this; simp [this]
      have f4 := (hv 4 30 rfl l0).trans (q4 l0)
      refine Ri.step_plain rfl rfl (fun K' hK => ?_)
      go_simp
      exact hK _ _ ⟨_, _, rfl, rfl, hb, q0, q1, q2, q3, q4, fun _ => rfl, q6, q7, q8, q9, q10, q11, q12, q13, q14, q15, q16⟩
    · have l0 : L 5 = true := by have := hd _ rfl; simp [Region.binds] at this; simp [this]
      have f5 := (hv 5 31 rfl l0).trans (q5 l0)
      have e7 : xa.tmps.getD 7 undef = .pointer (some ⟨w2.heap.size, 0, none⟩) := ho 7 (by kernel_rfl)
      refine Ri.step_wanted (b := false) rfl rfl rfl f5 (fun K' hK => ?_)
      refine wp_load_row _ _ rfl _ e7 _ _ _ _ (keep_blk hb Z7.out) Tryd.underlying25 rfl (by kernel_rfl) ?_
      exact hK _ _ ⟨_, _, rfl, rfl, hb, q0, q1, q2, q3, q4, q5, fun _ => rfl, q7, q8, q9, q10, q11, q12, q13, q14, q15, q16⟩
    · have l0 : L 5 = true := by have := hd _ rfl; simp [Region.binds] at this; simp [this]
      have f5 := (hv 5 31 rfl l0).trans (q5 l0)
      have e10 : xa.tmps.getD 10 undef = .pointer (some ⟨w3.heap.size, 0, none⟩) := ho 10 (by kernel_rfl)
      refine Ri.step_wanted (b := false) rfl rfl rfl f5 (fun K' hK => ?_)
      go_simp
      exact hK _ _ ⟨_, _, rfl, rfl, hb, q0, q1, q2, q3, q4, q5, q6, fun _ => rfl, q8, q9, q10, q11, q12, q13, q14, q15, q16⟩
    · have l0 : L 5 = true ∧ L 7 = true := by have := hd _ rfl; simp [Region.binds] at this; simp [this]
      have f5 := (hv 5 31 rfl l0.1).trans (q5 l0.1)
      have f7 := (hv 7 33 rfl l0.2).trans (q7 l0.2)
      refine Ri.step_wanted (b := false) rfl rfl rfl f5 (fun K' hK => ?_)
      obtain ⟨c0, c1, c2, c3, c4, c5, c6⟩ := seven (keep_blk hb Z10.out)
      go_simp
      exact hK _ _ ⟨_, _, rfl, rfl, hb, q0, q1, q2, q3, q4, q5, q6, q7, fun _ => rfl, q9, q10, q11, q12, q13, q14, q15, q16⟩
    · have l0 : L 5 = true ∧ L 6 = true ∧ L 8 = true := by have := hd _ rfl; simp [Region.binds] at this; simp [this]
      have f5 := (hv 5 31 rfl l0.1).trans (q5 l0.1)
      have f6 := (hv 6 32 rfl l0.2.1).trans (q6 l0.2.1)
      have f8 := (hv 8 34 rfl l0.2.2).trans (q8 l0.2.2)
      refine Ri.step_wanted (b := false) rfl rfl rfl f5 (fun K' hK => ?_)
      go_simp
      exact hK _ _ ⟨_, _, rfl, rfl, hb, q0, q1, q2, q3, q4, q5, q6, q7, q8, fun _ => rfl, q10, q11, q12, q13, q14, q15, q16⟩
    · have l0 : L 5 = true ∧ L 9 = true := by have := hd _ rfl; simp [Region.binds] at this; simp [this]
      have f5 := (hv 5 31 rfl l0.1).trans (q5 l0.1)
      have f9 := (hv 9 35 rfl l0.2).trans (q9 l0.2)
      refine Ri.step_plain rfl rfl (fun K' hK => ?_)
      go_simp
      exact hK _ _ ⟨_, _, rfl, rfl, hb, q0, q1, q2, q3, q4, q5, q6, q7, q8, q9, fun _ => rfl, q11, q12, q13, q14, q15, q16⟩
    · have l0 : L 10 = true := by have := hd _ rfl; simp [Region.binds] at this; simp [this]
      have f10 := (hv 10 36 rfl l0).trans (q10 l0)
      refine Ri.step_plain rfl rfl (fun K' hK => ?_)
      go_simp
      exact hK _ _ ⟨_, _, rfl, rfl, hb, q0, q1, q2, q3, q4, q5, q6, q7, q8, q9, q10, fun _ => rfl, q12, q13, q14, q15, q16⟩
    · have l0 : L 11 = true := by have := hd _ rfl; simp [Region.binds] at this; simp [this]
      have f11 := (hv 11 37 rfl l0).trans (q11 l0)
      have e8 : xa.tmps.getD 8 undef = .int .i64 0 := ho 8 (by kernel_rfl)
      refine Ri.step_wanted (b := false) rfl rfl rfl f11 (fun K' hK => ?_)
      go_simp
      exact hK _ _ ⟨_, _, rfl, rfl, hb, q0, q1, q2, q3, q4, q5, q6, q7, q8, q9, q10, q11, fun _ => rfl, q13, q14, q15, q16⟩
    · have l0 : L 11 = true := by have := hd _ rfl; simp [Region.binds] at this; simp [this]
      have f11 := (hv 11 37 rfl l0).trans (q11 l0)
      have e10 : xa.tmps.getD 10 undef = .pointer (some ⟨w3.heap.size, 0, none⟩) := ho 10 (by kernel_rfl)
      refine Ri.step_wanted (b := false) rfl rfl rfl f11 (fun K' hK => ?_)
      go_simp
      exact hK _ _ ⟨_, _, rfl, rfl, hb, q0, q1, q2, q3, q4, q5, q6, q7, q8, q9, q10, q11, q12, fun _ => rfl, q14, q15, q16⟩
    · have l0 : L 11 = true ∧ L 13 = true := by have := hd _ rfl; simp [Region.binds] at this; simp [this]
      have f11 := (hv 11 37 rfl l0.1).trans (q11 l0.1)
      have f13 := (hv 13 39 rfl l0.2).trans (q13 l0.2)
      refine Ri.step_wanted (b := false) rfl rfl rfl f11 (fun K' hK => ?_)
      obtain ⟨c0, c1, c2, c3, c4, c5, c6⟩ := seven (keep_blk hb Z10.out)
      go_simp
      exact hK _ _ ⟨_, _, rfl, rfl, hb, q0, q1, q2, q3, q4, q5, q6, q7, q8, q9, q10, q11, q12, q13, fun _ => rfl, q15, q16⟩
    · have l0 : L 11 = true ∧ L 12 = true ∧ L 14 = true := by have := hd _ rfl; simp [Region.binds] at this; simp [this]
      have f11 := (hv 11 37 rfl l0.1).trans (q11 l0.1)
      have f12 := (hv 12 38 rfl l0.2.1).trans (q12 l0.2.1)
      have f14 := (hv 14 40 rfl l0.2.2).trans (q14 l0.2.2)
      refine Ri.step_wanted (b := false) rfl rfl rfl f11 (fun K' hK => ?_)
      go_simp
      exact hK _ _ ⟨_, _, rfl, rfl, hb, q0, q1, q2, q3, q4, q5, q6, q7, q8, q9, q10, q11, q12, q13, q14, fun _ => rfl, q16⟩
    · have l0 : L 11 = true ∧ L 15 = true := by have := hd _ rfl; simp [Region.binds] at this; simp [this]
      have f11 := (hv 11 37 rfl l0.1).trans (q11 l0.1)
      have f15 := (hv 15 41 rfl l0.2).trans (q15 l0.2)
      refine Ri.step_plain rfl rfl (fun K' hK => ?_)
      go_simp
      exact hK _ _ ⟨_, _, rfl, rfl, hb, q0, q1, q2, q3, q4, q5, q6, q7, q8, q9, q10, q11, q12, q13, q14, q15, fun _ => rfl⟩
  · rintro v w9 ⟨hb, -, -, -, -, -, -, -, -, -, -, -, -, -, -, -, -, q16⟩
    have q16' : v 16 = .bool false := q16 rfl
    simp only [Ri.frame, List.zipIdx, List.foldl_cons, List.foldl_nil, if_true, List.setIfInBounds_toArray, List.set_cons_zero, List.set_cons_succ, Nat.reduceAdd, q16']
    clear q16 q16'
    generalize v 0 = y0; generalize v 1 = y1; generalize v 2 = y2; generalize v 3 = y3; generalize v 4 = y4; generalize v 5 = y5; generalize v 6 = y6; generalize v 7 = y7; generalize v 8 = y8; generalize v 9 = y9; generalize v 10 = y10; generalize v 11 = y11; generalize v 12 = y12; generalize v 13 = y13; generalize v 14 = y14; generalize v 15 = y15
    have HE4 := Lib.hid (HE3.out.below hb); have HT4 := Lib.hid (HT3.out.later hb); have Y10 := Lib.hid (keep_blk hb Z10.out); have HB4 := Lib.hid (HB3.out.trans (hb.mono HB3.out.size))
    have HV4 := Lib.hid (HV3.out.later hb)
    clear hb
    go_wp2_with fail
    refine Ri.wp_region_frame (by kernel_rfl) (by kernel_rfl) (by kernel_rfl) (by kernel_rfl)
      (fun L v w' => Below w9.heap.size w9 w' ∧ (L 0 = true → v 0 = .iface t q) ∧ (L 1 = true → v 1 = .bool false) ∧ (L 2 = true → v 2 = .bool false) ∧ (L 3 = true → v 3 = .iface t q) ∧ (L 4 = true → v 4 = .int .i64 p) ∧ (L 5 = true → v 5 = .pointer (some ⟨w3.heap.size, 6, none⟩)) ∧ (L 6 = true → v 6 = .int .i64 p) ∧ (L 7 = true → v 7 = .bool true) ∧ (L 8 = true → v 8 = .bool true) ∧ (L 9 = true → v 9 = .bool true))
      ?_ ?_ ?_
    · exact ⟨(Below.refl _ _).drew, by simp, by simp, by simp, by simp, by simp, by simp, by simp, by simp, by simp, by simp⟩
    · intro i hi9 L v w10 xa hI hL hd hv ho
      have hi' : i = 0 ∨ i = 1 ∨ i = 2 ∨ i = 3 ∨ i = 4 ∨ i = 5 ∨ i = 6 ∨ i = 7 ∨ i = 8 ∨ i = 9 := by simp at hi9; omega
      obtain ⟨hb, q0, q1, q2, q3, q4, q5, q6, q7, q8, q9⟩ := hI
      rcases hi' with rfl | rfl | rfl | rfl | rfl | rfl | rfl | rfl | rfl | rfl
      · have e9 : xa.tmps.getD 9 undef = .iface t q := ho 9 (by kernel_rfl)
        refine Ri.step_plain rfl rfl (fun K' hK => ?_)
        go_simp
        exact hK _ _ ⟨_, _, rfl, rfl, hb, fun _ => rfl, q1, q2, q3, q4, q5, q6, q7, q8, q9⟩
      · have l0 : L 0 = true := by have := hd _ rfl; simp [Region.binds] at this; simp [this]
        have f0 := (hv 0 43 rfl l0).trans (q0 l0)
        refine Ri.step_plain rfl rfl (fun K' hK => ?_)
        go_simp
        exact hK _ _ ⟨_, _, rfl, rfl, hb, q0, fun _ => rfl, q2, q3, q4, q5, q6, q7, q8, q9⟩
      · have l0 : L 1 = true := by have := hd _ rfl; simp [Region.binds] at this; simp [this]
        have f1 := (hv 1 44 rfl l0).trans (q1 l0)
        refine Ri.step_plain rfl rfl (fun K' hK => ?_)
        go_simp
        exact hK _ _ ⟨_, _, rfl, rfl, hb, q0, q1, fun _ => rfl, q3, q4, q5, q6, q7, q8, q9⟩
      · have l0 : L 2 = true := by have := hd _ rfl; simp [Region.binds] at this; simp [this]
        have f2 := (hv 2 45 rfl l0).trans (q2 l0)
        have e9 : xa.tmps.getD 9 undef = .iface t q := ho 9 (by kernel_rfl)
        refine Ri.step_wanted (b := false) rfl rfl rfl f2 (fun K' hK => ?_)
        go_simp
        exact hK _ _ ⟨_, _, rfl, rfl, hb, q0, q1, q2, fun _ => rfl, q4, q5, q6, q7, q8, q9⟩
      · have l0 : L 2 = true ∧ L 3 = true := by have := hd _ rfl; simp [Region.binds] at this; simp [this]
        have f2 := (hv 2 45 rfl l0.1).trans (q2 l0.1)
        have f3 := (hv 3 46 rfl l0.2).trans (q3 l0.2)
        refine Ri.step_wanted (b := false) rfl rfl rfl f2 (fun K' hK => ?_)
        go_simp
        refine (HV4.out.later hb |>.place (HT4.out.later hb)).mono ?_
        rintro e w8 ⟨rfl, hb8⟩
        exact hK _ _ ⟨_, _, rfl, rfl, hb.trans (hb8.mono hb.size), q0, q1, q2, q3, fun _ => rfl, q5, q6, q7, q8, q9⟩
      · have l0 : L 2 = true := by have := hd _ rfl; simp [Region.binds] at this; simp [this]
        have f2 := (hv 2 45 rfl l0).trans (q2 l0)
        have e10 : xa.tmps.getD 10 undef = .pointer (some ⟨w3.heap.size, 0, none⟩) := ho 10 (by kernel_rfl)
        refine Ri.step_wanted (b := false) rfl rfl rfl f2 (fun K' hK => ?_)
        go_simp
        exact hK _ _ ⟨_, _, rfl, rfl, hb, q0, q1, q2, q3, q4, fun _ => rfl, q6, q7, q8, q9⟩
      · have l0 : L 2 = true ∧ L 5 = true := by have := hd _ rfl; simp [Region.binds] at this; simp [this]
        have f2 := (hv 2 45 rfl l0.1).trans (q2 l0.1)
        have f5 := (hv 5 48 rfl l0.2).trans (q5 l0.2)
        refine Ri.step_wanted (b := false) rfl rfl rfl f2 (fun K' hK => ?_)
        obtain ⟨c0, c1, c2, c3, c4, c5, c6⟩ := seven (keep_blk hb Y10.out)
        go_simp
        exact hK _ _ ⟨_, _, rfl, rfl, hb, q0, q1, q2, q3, q4, q5, fun _ => rfl, q7, q8, q9⟩
      · have l0 : L 2 = true ∧ L 4 = true ∧ L 6 = true := by have := hd _ rfl; simp [Region.binds] at this; simp [this]
        have f2 := (hv 2 45 rfl l0.1).trans (q2 l0.1)
        have f4 := (hv 4 47 rfl l0.2.1).trans (q4 l0.2.1)
        have f6 := (hv 6 49 rfl l0.2.2).trans (q6 l0.2.2)
        refine Ri.step_wanted (b := false) rfl rfl rfl f2 (fun K' hK => ?_)
        go_simp
        exact hK _ _ ⟨_, _, rfl, rfl, hb, q0, q1, q2, q3, q4, q5, q6, fun _ => rfl, q8, q9⟩
      · have l0 : L 2 = true ∧ L 7 = true := by have := hd _ rfl; simp [Region.binds] at this; simp [this]
        have f2 := (hv 2 45 rfl l0.1).trans (q2 l0.1)
        have f7 := (hv 7 50 rfl l0.2).trans (q7 l0.2)
        refine Ri.step_plain rfl rfl (fun K' hK => ?_)
        go_simp
        exact hK _ _ ⟨_, _, rfl, rfl, hb, q0, q1, q2, q3, q4, q5, q6, q7, fun _ => rfl, q9⟩
      · have l0 : L 8 = true := by have := hd _ rfl; simp [Region.binds] at this; simp [this]
        have f8 := (hv 8 51 rfl l0).trans (q8 l0)
        refine Ri.step_plain rfl rfl (fun K' hK => ?_)
        go_simp
        exact hK _ _ ⟨_, _, rfl, rfl, hb, q0, q1, q2, q3, q4, q5, q6, q7, q8, fun _ => rfl⟩
    · rintro v w10 ⟨hb, -, -, -, -, -, -, -, -, -, q9⟩
      have q9' : v 9 = .bool true := q9 rfl
      simp only [Ri.frame, List.zipIdx, List.foldl_cons, List.foldl_nil, if_true, List.setIfInBounds_toArray, List.set_cons_zero, List.set_cons_succ, Nat.reduceAdd, q9']
      clear q9 q9'
      generalize v 0 = y0; generalize v 1 = y1; generalize v 2 = y2; generalize v 3 = y3; generalize v 4 = y4; generalize v 5 = y5; generalize v 6 = y6; generalize v 7 = y7; generalize v 8 = y8
      have HB5 := Lib.hid (HB4.out.trans (hb.mono HB4.out.size))
      clear hb
      go_wp2
      go_ret
      exact ⟨rfl, HB5.out⟩
theorem brreads_any (D : BrDoes) (A : Nat → Addr) (s : ByteArray) (at_ fl : Int) (w : World) (hE : BrEnv w A) (hT : ErrType w) (hs : s.size ≤ 4294967280) (h0 : IntKind.i64.min ≤ at_) (h1 : at_ ≤ IntKind.i64.max) :
    Calls Tryd.prog 3 #[.string s, .int .i64 at_, .int .i64 fl] w fun e w' => e = .returned (.bool true) ∧ Below w.heap.size w w' := by
  cases hR : rdI s at_ (icB fl) (nlB fl) with
  | ok P j => exact brreads_ok D A s at_ fl w hE hT hs h0 h1 P j hR
  | err c p => exact brreads_err D A s at_ fl w hE hT hs h0 h1 c p hR
end Go.Proofs.YtbpecijdmhablaaDoor
/- A set of bytes, and a list of sets, as they come in among the arguments. -/
namespace Go.Proofs.YtbpecijdmhablaaDoor
open Go.ChangeShapes Go.WideShapes Go.ChangeAt Go.RowKit
theorem Tryd.cellsSet : Tryd.prog.cellsOf 25 = 4 := by kernel_rfl
theorem Tryd.cellsU64 : Tryd.prog.cellsOf 23 = 1 := by kernel_rfl
theorem word_of {n : Int} (h : (Lit.int .u64 n).wf = true) : ∃ x : BitVec 64, n = Oc.U x := by
  simp only [Lit.wf, IntKind.min, IntKind.max, IntKind.signed, IntKind.bits, Bool.and_eq_true] at h
  refine ⟨BitVec.ofInt 64 n, ?_⟩
  unfold Oc.U; rw [BitVec.toNat_ofInt]
  have h1 := h.1; have h2 := h.2
  simp at h1 h2
  omega
/-- Four cells that read as a set. -/
theorem open_words {H : Type} {enc : TypeId × Value → H} {w : World} {base : Nat} {spare : Nat → Bool} {held : Bool} {fuel : Nat} {c0 c1 c2 c3 : Value} {x : DataW H × List MemPlace}
    (h : DataW.trod enc Tryd.prog w base spare held fuel 25 [c0, c1, c2, c3] = some x) : ∃ a b c d : BitVec 64, c0 = .int .u64 (Oc.U a) ∧ c1 = .int .u64 (Oc.U b) ∧ c2 = .int .u64 (Oc.U c) ∧ c3 = .int .u64 (Oc.U d) := by
  obtain ⟨y0, y1, y2, y3, n, _, h0, h1, h2, h3⟩ := trod_array4 Tryd.underlying25 Tryd.cellsU64 h
  obtain ⟨n0, e0, -, w0⟩ := DataW.trod_int Tryd.underlying23 h0
  obtain ⟨n1, e1, -, w1⟩ := DataW.trod_int Tryd.underlying23 h1
  obtain ⟨n2, e2, -, w2⟩ := DataW.trod_int Tryd.underlying23 h2
  obtain ⟨n3, e3, -, w3⟩ := DataW.trod_int Tryd.underlying23 h3
  obtain ⟨a, rfl⟩ := word_of w0
  obtain ⟨b, rfl⟩ := word_of w1
  obtain ⟨c, rfl⟩ := word_of w2
  obtain ⟨d, rfl⟩ := word_of w3
  simp only [List.cons.injEq, and_true] at e0 e1 e2 e3
  exact ⟨a, b, c, d, e0, e1, e2, e3⟩
set_option maxRecDepth 100000 in
/-- A set among the arguments. -/
theorem open_set {H : Type} {enc : TypeId × Value → H} {w : World} {base b0 : Nat} {spare : Nat → Bool} {held : Bool} {v : Value} {y : DataW H} {ps : List MemPlace} {r : Reach}
    (hv : Value.okWide Tryd.prog w r b0 25 v) (h : DataW.Trod enc Tryd.prog w base spare held 25 v y ps) : ∃ a b c d : BitVec 64, v = (.agg #[.int .u64 (Oc.U a), .int .u64 (Oc.U b), .int .u64 (Oc.U c), .int .u64 (Oc.U d)]) := by
  unfold Value.okWide at hv
  rw [Tryd.underlying25] at hv
  obtain ⟨cs, rfl, hsz, -⟩ := hv
  rw [Tryd.cellsSet] at hsz
  obtain ⟨c0, c1, c2, c3, rfl⟩ := Joins.array4 hsz
  obtain ⟨fuel, hf⟩ := h
  obtain ⟨a, b, c, d, rfl, rfl, rfl, rfl⟩ := open_words hf
  exact ⟨a, b, c, d, rfl⟩
set_option maxRecDepth 100000 in
/-- A list of sets among the arguments. -/
theorem open_sets {H : Type} {enc : TypeId × Value → H} {w : World} {base : Nat} {spare : Nat → Bool} {held : Bool} {p : Option Addr} {len cap : Nat} {y : DataW H} {ps : List MemPlace}
    (h : DataW.Trod enc Tryd.prog w base spare held 57 (.slice p len cap) y ps) : ∃ A B C D : Nat → BitVec 64, SetsAt w p len A B C D ∧ (p = none → len = 0 ∧ cap = 0) ∧ len ≤ maxLen := by
  obtain ⟨fuel, hf⟩ := h
  rcases Deep.open_slice Tryd.underlying57 hf with ⟨hcs, _⟩ | ⟨a, l, c, m, n, D, Pl, hcs, _, hl, hm, hmm, _, hall⟩
  · simp [Value.cells] at hcs
    obtain ⟨rfl, rfl, rfl⟩ := hcs
    exact ⟨fun _ => 0#64, fun _ => 0#64, fun _ => 0#64, fun _ => 0#64, (fun i hi => by omega), (fun _ => ⟨rfl, rfl⟩), by unfold maxLen; omega⟩
  · simp [Value.cells] at hcs
    obtain ⟨rfl, rfl, rfl⟩ := hcs
    have hlm : len ≤ m := by rw [hmm]; split <;> omega
    have key : ∀ i, i < len → ∃ x : BitVec 64 × BitVec 64 × BitVec 64 × BitVec 64, w.cell? ((a.add (i * 4)).add 0) = some (.int .u64 (Oc.U x.1)) ∧ w.cell? ((a.add (i * 4)).add 1) = some (.int .u64 (Oc.U x.2.1)) ∧
        w.cell? ((a.add (i * 4)).add 2) = some (.int .u64 (Oc.U x.2.2.1)) ∧ w.cell? ((a.add (i * 4)).add 3) = some (.int .u64 (Oc.U x.2.2.2)) := by
      intro i hi
      obtain ⟨cs', hc, hr⟩ := hall i (by omega)
      rw [Tryd.cellsSet] at hc
      unfold World.cells? at hc
      split at hc
      · rw [show List.range 4 = [0, 1, 2, 3] from rfl] at hc
        simp only [List.mapM_cons, List.mapM_nil, Option.bind_eq_bind, Option.bind_eq_some_iff, Option.pure_def, Option.some.injEq] at hc
        obtain ⟨v0, g0, t0, ⟨v1, g1, t1, ⟨v2, g2, t2, ⟨v3, g3, t3, rfl, rfl⟩, rfl⟩, rfl⟩, rfl⟩ := hc
        obtain ⟨x0, x1, x2, x3, rfl, rfl, rfl, rfl⟩ := open_words hr
        exact ⟨(x0, x1, x2, x3), g0, g1, g2, g3⟩
      · cases hc
    obtain ⟨f, hf⟩ := Deep.choose_lt key
    refine ⟨fun i => (f i).1, fun i => (f i).2.1, fun i => (f i).2.2.1, fun i => (f i).2.2.2, ?_, (fun h => by cases h), by omega⟩
    intro i hi
    have hs : a.spot = none := by simpa [Addr.add] using World.cell?_spot (hf 0 (by omega)).1
    obtain ⟨g0, g1, g2, g3⟩ := hf i hi
    obtain ⟨b, o, sp⟩ := a
    subst hs
    rw [Addr.add_mid, Addr.add_mid] at g0 g1 g2 g3
    rw [Nat.add_zero] at g0
    exact ⟨b, o, rfl, block_lt_of_cell g0, g0, g1, g2, g3⟩
theorem Tryd.own : ownKnob Tryd.prog.godebug = none := by kernel_rfl
theorem Tryd.laidOut : laidOutB Tryd.prog = true := by kernel_rfl
end Go.Proofs.YtbpecijdmhablaaDoor
/- What the laws of layer 3 take of the program's variables: the type error, and, where the code has them, the table of the words and the library's powers of ten. -/
namespace Go.Proofs.YtbpecijdmhablaaDoor
open Go.RowKit
structure FaEnv (w : World) : Prop where
  ty : ErrType w
theorem FaEnv.later {w w' : World} (h : FaEnv w) (hb : Below w.heap.size w w') : FaEnv w' where
  ty := h.ty.later hb
end Go.Proofs.YtbpecijdmhablaaDoor
/- What a listed handle beside listed data gives: package errors' variable of the type error. -/
namespace Go.Proofs.YtbpecijdmhablaaDoor
open Go.ChangeShapes Go.WideShapes Go.ChangeAt Go.RowKit
theorem laid_split {P : Program} {l : List (String × DataW Unit)} {W : World} (h : laidMetH P l W) : laidMet P (l.filter fun x => x.2.handleName?.isNone) W ∧ handlesMet P (l.filter fun x => x.2.handleName?.isSome) W := by
  unfold laidMetH at h
  generalize hfl : (l.filter fun x => x.2.handleName?.isSome) = fl at h
  cases fl with
  | nil =>
    have e : (l.filter fun x => x.2.handleName?.isNone) = l := by
      rw [List.filter_eq_self]
      intro x hx
      have := List.filter_eq_nil_iff.1 hfl x hx
      cases hh : x.2.handleName? with
      | none => rfl
      | some y => rw [hh] at this; simp at this
    rw [e]
    exact ⟨h, fun x hx => by cases hx⟩
  | cons x r => exact h
theorem Tryd.errorTypeG : Tryd.prog.globalNamed "errors.errorType" = some 21 := by kernel_rfl
theorem Tryd.rtypeT : (Tryd.prog.cutTypes.find? (·.1 == "internal/reflectlite.rtype")).map (·.2) = some 89 := by kernel_rfl
theorem Tryd.errorRow : ((List.range Tryd.prog.types.size).filter fun t => Tryd.prog.rowNamed t [101, 114, 114, 111, 114]) = [27] := by kernel_rfl
theorem Tryd.errorHandle : typeHandle Tryd.prog 27 = .pointer (some ⟨Tryd.prog.globals.size, 27, none⟩) := by kernel_rfl
theorem errtype_of {l : List (String × DataW Unit)} {W : World} (h : handlesMet Tryd.prog l W) (hl : ("errors.errorType", Rows.laid_errors_errorType) ∈ l) : ErrType W := by
  obtain ⟨name, u, ty, e1, e2, e3, e4, e5⟩ := h _ hl
  have en : name = [101, 114, 114, 111, 114] := (Option.some.inj e1).symm
  subst en
  obtain rfl := Option.some.inj (Tryd.rtypeT.symm.trans e2)
  have hm : ty ∈ (List.range Tryd.prog.types.size).filter fun t => Tryd.prog.rowNamed t [101, 114, 114, 111, 114] := List.mem_filter.2 ⟨List.mem_range.2 e3, e4⟩
  rw [Tryd.errorRow] at hm
  obtain rfl := List.mem_singleton.1 hm
  rw [Tryd.errorHandle] at e5
  unfold ErrType
  simpa using World.var?_cell Tryd.errorTypeG e5 0
theorem errList_plain : ∀ x, x ∈ errList → x.2.handleName?.isNone = true := by
  have h : (errList.all fun x => x.2.handleName?.isNone) = true := by kernel_rfl
  intro x hx
  exact List.all_eq_true.1 h x hx
/-- The sentinels and the handle out of one list. -/
theorem errs_handle_of {l : List (String × DataW Unit)} {W : World} (h : laidMetH Tryd.prog l W) (hl : ∀ x, x ∈ errList → x ∈ l) (hh : ("errors.errorType", Rows.laid_errors_errorType) ∈ l) : (∃ A, Errs W A) ∧ ErrType W := by
  obtain ⟨h1, h2⟩ := laid_split h
  exact ⟨errs_of h1 fun x hx => List.mem_filter.2 ⟨hl x hx, errList_plain x hx⟩, errtype_of h2 (List.mem_filter.2 ⟨hh, rfl⟩)⟩
end Go.Proofs.YtbpecijdmhablaaDoor
/- What the listed variables give: the sentinels, the type error, the table of the words, the powers of ten. -/
namespace Go.Proofs.YtbpecijdmhablaaDoor
open Go.ChangeShapes Go.WideShapes Go.ChangeAt Go.RowKit
/-- All that the laws take, out of one list. -/
theorem fault_env_of {l : List (String × DataW Unit)} {W : World} (h : laidMetH Tryd.prog l W) (hl : ∀ x, x ∈ errList → x ∈ l) (hh : ("errors.errorType", Rows.laid_errors_errorType) ∈ l)
    : (∃ A, Errs W A) ∧ FaEnv W := by
  obtain ⟨h1, h2⟩ := errs_handle_of h hl hh
  have h3 := (laid_split h).1
  exact ⟨h1, {
    ty := h2
    }⟩
end Go.Proofs.YtbpecijdmhablaaDoor
namespace Go.Proofs.YtbpecijdmhablaaDoor.bracketReads
open Go.ChangeShapes Go.WideShapes Go.ChangeAt Go.RowKit
set_option maxRecDepth 100000 in
theorem contract (H : Type) (enc : TypeId × Value → H) (W : World) (base : Nat) (args : Array Value) (ds gs : List (DataW H)) (before : List MemPlace)
    (hval0 : ∀ (j : Nat) t v, Tryd.f3.params[j]? = some t → args[j]? = some v → Value.okWide Tryd.prog W .any base t v)
    (hW : DataW.Whole enc Tryd.prog Tryd.f3.params.toList Rows.bracketReadsSpec.vars false W args.toList ds gs before)
    (hsz0 : (DataW.weightsEach Tryd.prog (Tryd.f3.params.toList ++ Rows.bracketReadsSpec.plain.varTypes Tryd.prog) (ds ++ gs)).all (· ≤ reachBytes) = true)
    (hk : Rows.uptoSmall H (ds ++ gs) = true)
    (hL : laidMetH Tryd.prog [("errors.errorType", Rows.laid_errors_errorType), ("trawl/api.ErrBracket", Rows.laid_trawl_api_ErrBracket), ("trawl/api.ErrParen", Rows.laid_trawl_api_ErrParen), ("trawl/api.ErrBrace", Rows.laid_trawl_api_ErrBrace), ("trawl/api.ErrCount", Rows.laid_trawl_api_ErrCount), ("trawl/api.ErrRange", Rows.laid_trawl_api_ErrRange), ("trawl/api.ErrClass", Rows.laid_trawl_api_ErrClass), ("trawl/api.ErrCollate", Rows.laid_trawl_api_ErrCollate), ("trawl/api.ErrEscape", Rows.laid_trawl_api_ErrEscape), ("trawl/api.ErrRepeat", Rows.laid_trawl_api_ErrRepeat), ("trawl/api.ErrTooBig", Rows.laid_trawl_api_ErrTooBig), ("trawl/api.ErrNest", Rows.laid_trawl_api_ErrNest), ("trawl/api.ErrLong", Rows.laid_trawl_api_ErrLong), ("trawl/api.ErrTree", Rows.laid_trawl_api_ErrTree), ("trawl/api.ErrDeep", Rows.laid_trawl_api_ErrDeep), ("trawl/api.ErrArgument", Rows.laid_trawl_api_ErrArgument), ("trawl/api.ErrNoMatch", Rows.laid_trawl_api_ErrNoMatch), ("trawl/api.ErrImage", Rows.laid_trawl_api_ErrImage), ("trawl/api.ErrMany", Rows.laid_trawl_api_ErrMany), ("trawl/api.ErrOption", Rows.laid_trawl_api_ErrOption), ("trawl/api.ErrCommand", Rows.laid_trawl_api_ErrCommand), ("trawl/api.ErrClosed", Rows.laid_trawl_api_ErrClosed)] W) (hSh : W.ShapedOpen Tryd.prog) :
    Calls Tryd.prog 3 args W fun e W' => ∃ v, e = .returned v ∧ Rows.bracketReadsSpec.post enc Tryd.prog Tryd.f3 false true false false W args v W' := by
  have hval : ∀ (j : Nat) t v, Tryd.f3.params[j]? = some t → args[j]? = some v → Value.okWide Tryd.prog W .any base t v := hval0
  have hW' := hW
  have hsz := hsz0
  obtain ⟨p, q, hA0, hV, rfl, hfz, hnd⟩ := hW
  have hA : DataW.TrodAll enc Tryd.prog W 0 (fun _ => true) true Tryd.f3.params.toList args.toList ds p := hA0
  rw [Tryd.params3] at hA hval
  obtain ⟨v0, vs0, d0, ds0, p0, q0, hargs, rfl, rfl, h0, r0⟩ := trodAll_cons hA
  obtain ⟨v1, vs1, d1, ds1, p1, q1, rfl, rfl, rfl, h1, r1⟩ := trodAll_cons r0
  obtain ⟨v2, vs2, d2, ds2, p2, q2, rfl, rfl, rfl, h2, r2⟩ := trodAll_cons r1
  obtain ⟨rfl, rfl, rfl⟩ := trodAll_nil r2
  obtain rfl : args = #[v0, v1, v2] := by cases args; simp_all
  obtain ⟨rfl, rfl⟩ := trodVars_none hV
  have lt0 : ∀ x ∈ p0, x.block < W.heap.size := by obtain ⟨m, hm⟩ := h0; exact DataW.trod_lt m _ _ _ hm
  have lt1 : ∀ x ∈ p1, x.block < W.heap.size := by obtain ⟨m, hm⟩ := h1; exact DataW.trod_lt m _ _ _ hm
  have lt2 : ∀ x ∈ p2, x.block < W.heap.size := by obtain ⟨m, hm⟩ := h2; exact DataW.trod_lt m _ _ _ hm
  obtain ⟨s, rfl, hd0, -, -⟩ := Go.ChangeMaps.open_string Tryd.underlying9 (hval 0 9 v0 rfl rfl) h0
  obtain ⟨at_, rfl, hd1, -, w1⟩ := open_int Tryd.underlying3 (hval 1 3 v1 rfl rfl) h1
  obtain ⟨fl, rfl, hd2, -, w2⟩ := open_int Tryd.underlying3 (hval 2 3 v2 rfl rfl) h2
  have hBulk := of_decide_eq_true hk
  simp only [hd0, hd1, hd2, List.append_nil, Rows.uptoBulkAll, Rows.uptoBulk] at hBulk
  rw [← show s.size = s.data.toList.length by simp] at hBulk
  have hs_s : s.size ≤ 140737488351232 := by
    have := sized_string (P := Tryd.prog) hsz (j := 0) (t := 9) (bytes := s.data.toList) (by rw [Tryd.params3]; rfl) (by rw [hd0]; rfl)
    simpa [reachBytes] using this
  obtain ⟨⟨E, hE⟩, hTy⟩ := fault_env_of hL (fun x h => by
    simp only [errList, List.mem_cons, List.not_mem_nil, or_false] at h
    rcases h with rfl | rfl | rfl | rfl | rfl | rfl | rfl | rfl | rfl | rfl | rfl | rfl | rfl | rfl | rfl | rfl | rfl | rfl | rfl | rfl | rfl
    · exact (List.mem_cons_of_mem _ List.mem_cons_self)
    · exact (List.mem_cons_of_mem _ (List.mem_cons_of_mem _ List.mem_cons_self))
    · exact (List.mem_cons_of_mem _ (List.mem_cons_of_mem _ (List.mem_cons_of_mem _ List.mem_cons_self)))
    · exact (List.mem_cons_of_mem _ (List.mem_cons_of_mem _ (List.mem_cons_of_mem _ (List.mem_cons_of_mem _ List.mem_cons_self))))
    · exact (List.mem_cons_of_mem _ (List.mem_cons_of_mem _ (List.mem_cons_of_mem _ (List.mem_cons_of_mem _ (List.mem_cons_of_mem _ List.mem_cons_self)))))
    · exact (List.mem_cons_of_mem _ (List.mem_cons_of_mem _ (List.mem_cons_of_mem _ (List.mem_cons_of_mem _ (List.mem_cons_of_mem _ (List.mem_cons_of_mem _ List.mem_cons_self))))))
    · exact (List.mem_cons_of_mem _ (List.mem_cons_of_mem _ (List.mem_cons_of_mem _ (List.mem_cons_of_mem _ (List.mem_cons_of_mem _ (List.mem_cons_of_mem _ (List.mem_cons_of_mem _ List.mem_cons_self)))))))
    · exact (List.mem_cons_of_mem _ (List.mem_cons_of_mem _ (List.mem_cons_of_mem _ (List.mem_cons_of_mem _ (List.mem_cons_of_mem _ (List.mem_cons_of_mem _ (List.mem_cons_of_mem _ (List.mem_cons_of_mem _ List.mem_cons_self))))))))
    · exact (List.mem_cons_of_mem _ (List.mem_cons_of_mem _ (List.mem_cons_of_mem _ (List.mem_cons_of_mem _ (List.mem_cons_of_mem _ (List.mem_cons_of_mem _ (List.mem_cons_of_mem _ (List.mem_cons_of_mem _ (List.mem_cons_of_mem _ List.mem_cons_self)))))))))
    · exact (List.mem_cons_of_mem _ (List.mem_cons_of_mem _ (List.mem_cons_of_mem _ (List.mem_cons_of_mem _ (List.mem_cons_of_mem _ (List.mem_cons_of_mem _ (List.mem_cons_of_mem _ (List.mem_cons_of_mem _ (List.mem_cons_of_mem _ (List.mem_cons_of_mem _ List.mem_cons_self))))))))))
    · exact (List.mem_cons_of_mem _ (List.mem_cons_of_mem _ (List.mem_cons_of_mem _ (List.mem_cons_of_mem _ (List.mem_cons_of_mem _ (List.mem_cons_of_mem _ (List.mem_cons_of_mem _ (List.mem_cons_of_mem _ (List.mem_cons_of_mem _ (List.mem_cons_of_mem _ (List.mem_cons_of_mem _ List.mem_cons_self)))))))))))
    · exact (List.mem_cons_of_mem _ (List.mem_cons_of_mem _ (List.mem_cons_of_mem _ (List.mem_cons_of_mem _ (List.mem_cons_of_mem _ (List.mem_cons_of_mem _ (List.mem_cons_of_mem _ (List.mem_cons_of_mem _ (List.mem_cons_of_mem _ (List.mem_cons_of_mem _ (List.mem_cons_of_mem _ (List.mem_cons_of_mem _ List.mem_cons_self))))))))))))
    · exact (List.mem_cons_of_mem _ (List.mem_cons_of_mem _ (List.mem_cons_of_mem _ (List.mem_cons_of_mem _ (List.mem_cons_of_mem _ (List.mem_cons_of_mem _ (List.mem_cons_of_mem _ (List.mem_cons_of_mem _ (List.mem_cons_of_mem _ (List.mem_cons_of_mem _ (List.mem_cons_of_mem _ (List.mem_cons_of_mem _ (List.mem_cons_of_mem _ List.mem_cons_self)))))))))))))
    · exact (List.mem_cons_of_mem _ (List.mem_cons_of_mem _ (List.mem_cons_of_mem _ (List.mem_cons_of_mem _ (List.mem_cons_of_mem _ (List.mem_cons_of_mem _ (List.mem_cons_of_mem _ (List.mem_cons_of_mem _ (List.mem_cons_of_mem _ (List.mem_cons_of_mem _ (List.mem_cons_of_mem _ (List.mem_cons_of_mem _ (List.mem_cons_of_mem _ (List.mem_cons_of_mem _ List.mem_cons_self))))))))))))))
    · exact (List.mem_cons_of_mem _ (List.mem_cons_of_mem _ (List.mem_cons_of_mem _ (List.mem_cons_of_mem _ (List.mem_cons_of_mem _ (List.mem_cons_of_mem _ (List.mem_cons_of_mem _ (List.mem_cons_of_mem _ (List.mem_cons_of_mem _ (List.mem_cons_of_mem _ (List.mem_cons_of_mem _ (List.mem_cons_of_mem _ (List.mem_cons_of_mem _ (List.mem_cons_of_mem _ (List.mem_cons_of_mem _ List.mem_cons_self)))))))))))))))
    · exact (List.mem_cons_of_mem _ (List.mem_cons_of_mem _ (List.mem_cons_of_mem _ (List.mem_cons_of_mem _ (List.mem_cons_of_mem _ (List.mem_cons_of_mem _ (List.mem_cons_of_mem _ (List.mem_cons_of_mem _ (List.mem_cons_of_mem _ (List.mem_cons_of_mem _ (List.mem_cons_of_mem _ (List.mem_cons_of_mem _ (List.mem_cons_of_mem _ (List.mem_cons_of_mem _ (List.mem_cons_of_mem _ (List.mem_cons_of_mem _ List.mem_cons_self))))))))))))))))
    · exact (List.mem_cons_of_mem _ (List.mem_cons_of_mem _ (List.mem_cons_of_mem _ (List.mem_cons_of_mem _ (List.mem_cons_of_mem _ (List.mem_cons_of_mem _ (List.mem_cons_of_mem _ (List.mem_cons_of_mem _ (List.mem_cons_of_mem _ (List.mem_cons_of_mem _ (List.mem_cons_of_mem _ (List.mem_cons_of_mem _ (List.mem_cons_of_mem _ (List.mem_cons_of_mem _ (List.mem_cons_of_mem _ (List.mem_cons_of_mem _ (List.mem_cons_of_mem _ List.mem_cons_self)))))))))))))))))
    · exact (List.mem_cons_of_mem _ (List.mem_cons_of_mem _ (List.mem_cons_of_mem _ (List.mem_cons_of_mem _ (List.mem_cons_of_mem _ (List.mem_cons_of_mem _ (List.mem_cons_of_mem _ (List.mem_cons_of_mem _ (List.mem_cons_of_mem _ (List.mem_cons_of_mem _ (List.mem_cons_of_mem _ (List.mem_cons_of_mem _ (List.mem_cons_of_mem _ (List.mem_cons_of_mem _ (List.mem_cons_of_mem _ (List.mem_cons_of_mem _ (List.mem_cons_of_mem _ (List.mem_cons_of_mem _ List.mem_cons_self))))))))))))))))))
    · exact (List.mem_cons_of_mem _ (List.mem_cons_of_mem _ (List.mem_cons_of_mem _ (List.mem_cons_of_mem _ (List.mem_cons_of_mem _ (List.mem_cons_of_mem _ (List.mem_cons_of_mem _ (List.mem_cons_of_mem _ (List.mem_cons_of_mem _ (List.mem_cons_of_mem _ (List.mem_cons_of_mem _ (List.mem_cons_of_mem _ (List.mem_cons_of_mem _ (List.mem_cons_of_mem _ (List.mem_cons_of_mem _ (List.mem_cons_of_mem _ (List.mem_cons_of_mem _ (List.mem_cons_of_mem _ (List.mem_cons_of_mem _ List.mem_cons_self)))))))))))))))))))
    · exact (List.mem_cons_of_mem _ (List.mem_cons_of_mem _ (List.mem_cons_of_mem _ (List.mem_cons_of_mem _ (List.mem_cons_of_mem _ (List.mem_cons_of_mem _ (List.mem_cons_of_mem _ (List.mem_cons_of_mem _ (List.mem_cons_of_mem _ (List.mem_cons_of_mem _ (List.mem_cons_of_mem _ (List.mem_cons_of_mem _ (List.mem_cons_of_mem _ (List.mem_cons_of_mem _ (List.mem_cons_of_mem _ (List.mem_cons_of_mem _ (List.mem_cons_of_mem _ (List.mem_cons_of_mem _ (List.mem_cons_of_mem _ (List.mem_cons_of_mem _ List.mem_cons_self))))))))))))))))))))
    · exact (List.mem_cons_of_mem _ (List.mem_cons_of_mem _ (List.mem_cons_of_mem _ (List.mem_cons_of_mem _ (List.mem_cons_of_mem _ (List.mem_cons_of_mem _ (List.mem_cons_of_mem _ (List.mem_cons_of_mem _ (List.mem_cons_of_mem _ (List.mem_cons_of_mem _ (List.mem_cons_of_mem _ (List.mem_cons_of_mem _ (List.mem_cons_of_mem _ (List.mem_cons_of_mem _ (List.mem_cons_of_mem _ (List.mem_cons_of_mem _ (List.mem_cons_of_mem _ (List.mem_cons_of_mem _ (List.mem_cons_of_mem _ (List.mem_cons_of_mem _ (List.mem_cons_of_mem _ List.mem_cons_self)))))))))))))))))))))) List.mem_cons_self
  have hI : BrEnv W E := ⟨hE, Tryd.laysM219.s1_3 W hSh⟩
  clear hA0 hval0 hsz hsz0
  refine (brreads_any readDoes E s at_ fl W hI hTy.ty (by omega) (lo64 w1) (hi64 w1)).mono fun e W' ⟨he, bel⟩ => ?_
  subst he
  exact ⟨_, rfl, _, _, _, [], _, [], hW', trodAll_mk1 (shut_bool Tryd.underlying4 _),
    (trodAll_cons_mk (Below.trod Tryd.laidOut (by kernel_rfl) (of_decide_eq_true (by kernel_rfl)) h0 bel lt0) (trodAll_cons_mk (Below.trod Tryd.laidOut (by kernel_rfl) (of_decide_eq_true (by kernel_rfl)) h1 bel lt1) (trodAll_cons_mk (Below.trod Tryd.laidOut (by kernel_rfl) (of_decide_eq_true (by kernel_rfl)) h2 bel lt2) trodAll_mk0))), rfl, bel.frame _, fun h => by cases h⟩
theorem reads (os : Os) {H : Type} (enc : TypeId × Value → H) : ∃ places, DataW.whole enc Tryd.prog ((World.doorLaid Tryd.prog 3000 os).forCall (fun _ _ => 0) ⟨#[], #[.string ⟨#[]⟩, .int .i64 0, .int .i64 0], []⟩).memory Tryd.f3.params.toList Rows.bracketReadsSpec.vars false (#[.string ⟨#[]⟩, .int .i64 0, .int .i64 0] : Array Value).toList 8 = some ([.lit (.string []), .lit (.int .i64 0), .lit (.int .i64 0)], [], places) :=
  ⟨[], by kernel_rfl⟩
set_option maxRecDepth 100000 in
theorem lifted (os : Os) (started : os.Started) (H : Type) (enc : TypeId × Value → H) (F : Stop.Interp) :
    ReturnsInHanded {} Tryd.checked os 3 .any ((Rows.OpenSpec.upto Rows.bracketReadsSpec).preRow enc Tryd.prog Tryd.f3 Rows.bracketReadsUptoRow.domain false Rows.bracketReadsUptoRow.laid) (((Rows.OpenSpec.upto Rows.bracketReadsSpec).at F).post enc Tryd.prog Tryd.f3 false true false false) := by
  obtain ⟨places, hx⟩ := reads os enc
  refine returnsInHanded_of_row (C := Tryd.checked) (s := (Rows.OpenSpec.upto Rows.bracketReadsSpec)) Tryd.own started (by kernel_rfl) Tryd.func3
    (witness_row_atRef (enc := enc) (C := Tryd.checked) false (World.doorLaid Tryd.prog 3000 os) #[.string ⟨#[]⟩, .int .i64 0, .int .i64 0] rfl (by kernel_rfl) (by kernel_rfl) (by kernel_rfl)
      (OpenSpec.preRow_of_cond 8 hx (by kernel_rfl) (fun k hk => by cases hk; kernel_rfl) (by kernel_rfl) (laidMetH_of_parts3 (fuel := 8) (laidMet_of_run' 8 (by kernel_rfl) (by kernel_rfl)) (by kernel_rfl) (by kernel_rfl)))) ?_
  intro W base args ds gs before hval hW _ hcond hsz hL hSh _
  exact contract H enc W base args ds gs before hval hW hsz (hcond _ rfl) hL hSh
theorem over : Rows.BracketReadsUptoSaid :=
  OpenClaim.holds_of_cond 3 Tryd.f3 rfl rfl rfl rfl rfl rfl rfl ⟨rfl, rfl, rfl, rfl, rfl⟩ rfl rfl rfl rfl rfl (by kernel_rfl) Tryd.func3 (by kernel_rfl)
    (of_decide_eq_true (by kernel_rfl)) (by unfold Func.isWrapper; first | (rw [if_pos (by decide +kernel)]; kernel_rfl) | (rw [if_neg (by decide +kernel)]; exact ⟨rfl, rfl⟩))
    (fun os started H enc _ F => by rw [OpenClaim.pre_eq_preRow]; exact lifted os started H enc F)
theorem proved : Rows.BracketReadsUptoCardSaid :=
  Claim7.holds_tied_plain_at .later [] [.handle, .sentinel, .sentinel, .sentinel, .sentinel, .sentinel, .sentinel, .sentinel, .sentinel, .sentinel, .sentinel, .sentinel, .sentinel, .sentinel, .sentinel, .sentinel, .sentinel, .sentinel, .sentinel, .sentinel, .sentinel, .sentinel] true Rows.bracketReadsUptoCard.stood.harness true
    over (fun _ h => by cases h) (by kernel_rfl) (fun _ h => by cases h) bracketReadsUpto_row_tie rfl ⟨rfl, rfl⟩ (by kernel_rfl) rfl
    (fun f fn hf hfn => by
      obtain rfl : f = 3 := Option.some.inj ((show Tryd.prog.funcNamed "trawl/trawllaw05.BracketReads" = some 3 by kernel_rfl).symm.trans hf) |>.symm
      obtain rfl : fn = Tryd.f3 := (Option.some.inj (Tryd.func3.symm.trans hfn)).symm
      exact ⟨by kernel_rfl, fun j t ht => by
        rw [Tryd.params3] at ht
        have hm : t ∈ ([9, 3, 3] : List Nat) := by simpa using Array.mem_of_getElem? ht
        have hall : (([9, 3, 3] : List Nat).all fun u => !Tryd.prog.wantsStandIn u) = true := by kernel_rfl
        exact (show Tryd.prog.wantsStandIn t = false by simpa using List.all_eq_true.1 hall t hm)⟩)
    (by kernel_rfl)
end Go.Proofs.YtbpecijdmhablaaDoor.bracketReads
