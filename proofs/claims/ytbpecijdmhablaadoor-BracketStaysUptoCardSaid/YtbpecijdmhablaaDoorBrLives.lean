/- The fixed facts that every statement of bracket begins with, out of what Read is to answer. -/
import Derived.Test.YtbpecijdmhablaaDoorBrSpec
import Derived.Test.YtbpecijdmhablaaDoorOcWalks
namespace Go.Proofs.YtbpecijdmhablaaDoor
open Go.RowKit
def brT1 : ByteArray := ⟨#[91, 97, 45, 99, 45, 101, 93]⟩
def brT2 : ByteArray := ⟨#[91, 98, 45, 97, 93]⟩
def brP1 : Nat → Bool := fun x => ((false || Br.rng 97 99 x) || x == 45) || x == 101
theorem rd1 : rdI brT1 0 (icB 0) (nlB 0) = .ok brP1 7 := by
  have h1 : icB 0 = false := by decide
  have h2 : nlB 0 = false := by decide
  rw [h1, h2]
  rfl
theorem rd2 : rdI brT2 0 (icB 0) (nlB 0) = .err 5 1 := by
  have h1 : icB 0 = false := by decide
  have h2 : nlB 0 = false := by decide
  rw [h1, h2]
  rfl
theorem cnt1 : Oc.cnt (Oc.mem (Oc.mk brP1 0) (Oc.mk brP1 1) (Oc.mk brP1 2) (Oc.mk brP1 3)) 256 = 5 := by decide +kernel
theorem mem1 : Oc.mem (Oc.mk brP1 0) (Oc.mk brP1 1) (Oc.mk brP1 2) (Oc.mk brP1 3) 45 = true := by decide +kernel
set_option maxRecDepth 100000 in
set_option maxHeartbeats 2000000 in
theorem brlives_any (D : BrDoes) (A : Nat → Addr) (w : World) (hE : BrEnv w A) (hT : ErrType w) : Calls Tryd.prog 6 #[] w fun e w' => e = .returned (.bool true) ∧ Below w.heap.size w w' := by
  have HE := Lib.hid hE; have HT := Lib.hid hT
  have HD := Lib.hid D.read
  have C1 := Lib.hid cnt1; have M1 := Lib.hid mem1
  clear hE hT D
  go_enter Tryd.func6, Tryd.ntmps6
  go_wp2_with fail
  refine (HD.out A brT1 0 0 _ HE.out (by decide) (by decide) (by decide)).mono ?_
  intro e w1 he
  obtain ⟨rfl, hb1⟩ := he.ok rd1
  clear he
  have HB1 := Lib.hid (hb1.alloc hb1.size (.cells #[.int .u64 (Oc.U (Oc.mk brP1 0)), .int .u64 (Oc.U (Oc.mk brP1 1)), .int .u64 (Oc.U (Oc.mk brP1 2)), .int .u64 (Oc.U (Oc.mk brP1 3))] 25))
  clear hb1
  go_wp2_with fail
  refine (HD.out A brT2 0 0 _ (HE.out.below HB1.out) (by decide) (by decide) (by decide)).mono ?_
  intro e w2 he
  obtain ⟨v, rfl, hv, hb2⟩ := he.err rd2
  clear he
  have Z2 := Lib.hid (heap_alloc_lt (o := .cells #[.int .u64 0, .int .u64 0, .int .u64 0, .int .u64 0] 25) (keep_blk hb2 (heap_alloc_new w1 _)))
  have hb2' := HB1.out.trans (hb2.mono HB1.out.size)
  have HB2 := Lib.hid (hb2'.alloc hb2'.size (.cells #[.int .u64 0, .int .u64 0, .int .u64 0, .int .u64 0] 25))
  have hv2 := hv.later ((Below.refl w2.heap.size w2).alloc (Nat.le_refl _) (.cells #[.int .u64 0, .int .u64 0, .int .u64 0, .int .u64 0] 25))
  obtain ⟨t, q, rfl⟩ := hv.iface
  have HV := Lib.hid hv2
  clear hb2 hb2' hv hv2
  have HE2 := Lib.hid (HE.out.below HB2.out); have HT2 := Lib.hid (HT.out.later HB2.out)
  obtain ⟨c0, c1, c2, c3, -⟩ := four Z2.out
  go_wp2_with fail
  refine (count_any _ _ _ _ _).mono ?_; rintro e w4 ⟨rfl, hb4⟩
  clear c0 c1 c2 c3
  have n5 : Oc.cnt (Oc.mem (Oc.mk brP1 0) (Oc.mk brP1 1) (Oc.mk brP1 2) (Oc.mk brP1 3)) 256 = 5 := C1.out
  obtain ⟨c0, c1, c2, c3, -⟩ := four (keep_blk hb4 Z2.out)
  have Z4 := Lib.hid (keep_blk hb4 Z2.out); have HB4 := Lib.hid (HB2.out.trans (hb4.mono HB2.out.size)); have HE4 := Lib.hid (HE2.out.below hb4); have HT4 := Lib.hid (HT2.out.later hb4); have HV4 := Lib.hid (HV.out.later hb4)
  clear hb4
  go_wp2_with fail
  refine (has_any _ _ _ _ 45 (by omega) _).mono ?_; rintro e w5 ⟨rfl, hb5⟩
  clear c0 c1 c2 c3 n5
  have m1 : Oc.mem (Oc.mk brP1 0) (Oc.mk brP1 1) (Oc.mk brP1 2) (Oc.mk brP1 3) 45 = true := M1.out
  rw [m1]
  have HB5 := Lib.hid (HB4.out.trans (hb5.mono HB4.out.size)); have HE5 := Lib.hid (HE4.out.below hb5); have HT5 := Lib.hid (HT4.out.later hb5); have HV5 := Lib.hid (HV4.out.later hb5)
  clear hb5 m1
  go_wp2_with fail
  refine (HV5.out.num HE5.out).mono ?_; rintro e w6 ⟨rfl, hb6⟩
  have HB6 := Lib.hid (HB5.out.trans (hb6.mono HB5.out.size)); have HT6 := Lib.hid (HT5.out.later hb6); have HV6 := Lib.hid (HV5.out.later hb6)
  clear hb6
  go_wp2_with fail
  refine (HV6.out.place HT6.out).mono ?_; rintro e w7 ⟨rfl, hb7⟩
  have HB7 := Lib.hid (HB6.out.trans (hb7.mono HB6.out.size))
  clear hb7
  go_wp2
  go_ret
  exact ⟨rfl, HB7.out⟩
end Go.Proofs.YtbpecijdmhablaaDoor
