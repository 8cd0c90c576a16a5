/- BracketStays: whatever stands ahead and behind, the law returns true, where Read does what chapter 5 promises. -/
import Derived.Test.YtbpecijdmhablaaDoorBrLives
import Derived.Test.YtbpecijdmhablaaDoorBrStay
namespace Go.Proofs.YtbpecijdmhablaaDoor
open Go.RowKit
theorem ReadEnd.any {A : Nat → Addr} {R : Br.Ans} {w : World} {e : Ending} {w' : World} (h : ReadEnd A R w e w') :
    ∃ (x0 x1 x2 x3 n : Int) (v : Value), e = .returned (.tuple #[.agg #[.int .u64 x0, .int .u64 x1, .int .u64 x2, .int .u64 x3], .int .i64 n, v]) ∧ Below w.heap.size w w' := by
  cases R with
  | ok P j => obtain ⟨h1, h2⟩ := h.ok rfl; exact ⟨_, _, _, _, _, _, h1, h2⟩
  | err c p => obtain ⟨v, h1, -, h2⟩ := h.err rfl; exact ⟨_, _, _, _, _, _, h1, h2⟩
set_option maxRecDepth 100000 in
set_option maxHeartbeats 4000000 in
theorem brstays_ok (D : BrDoes) (A : Nat → Addr) (p ahead behind : ByteArray) (fl : Int) (w : World) (hE : BrEnv w A) (hT : ErrType w) (hp : p.size ≤ 5000) (ha : ahead.size ≤ 5000) (hb : behind.size ≤ 4294957000) (P : Nat → Bool) (m : Nat) (hR : rdI p 0 (icB fl) (nlB fl) = .ok P (m + 1)) :
    Calls Tryd.prog 4 #[.string p, .string ahead, .string behind, .int .i64 fl] w fun e w' => e = .returned (.bool true) ∧ Below w.heap.size w w' := by
  obtain ⟨hR2, m3, mp, f0, fm⟩ := stays_ok (ahead := ahead) (behind := behind) hR
  have he := eq4
  have hsz : (ahead ++ p ++ behind).size = ahead.size + p.size + behind.size := by rw [ByteArray.size_append, ByteArray.size_append]
  have hread := fun w hE => D.read A p 0 fl w hE (by omega) (by decide) (by decide)
  have hread2 := fun w hE => D.read A (ahead ++ p ++ behind) ahead.size fl w hE (by omega) (by rw [show IntKind.i64.min = -9223372036854775808 by decide]; omega) (by rw [show IntKind.i64.max = 9223372036854775807 by decide]; omega)
  rw [hR] at hread
  rw [hR2] at hread2
  have HL := Lib.hid (brlives_any D A w hE hT)
  have HD1 := Lib.hid hread; have HD2 := Lib.hid hread2
  have HE := Lib.hid hE; have HT := Lib.hid hT
  have g1 : decide (ahead.size > 5000) = false := by simp; omega
  have g2 : decide (p.size > 5000) = false := by simp; omega
  have g3 : decide ((5000 : Int) < ahead.size) = false := by simp; omega
  have g4 : decide ((5000 : Int) < p.size) = false := by simp; omega
  clear hread hread2 D hE hT hsz
  have n1 : 0 < p.size := by omega
  have n2 : m < p.size := by omega
  have e0 : ((p[0].toNat : Int) == 91) = true := by rw [bt_at n1, f0]; rfl
  have em : ((p[m].toNat : Int) == 93) = true := by rw [bt_at n2, show bt p m = 93 by simpa using fm]; rfl
  have wa : IntKind.i64.wrap ((m : Int) + 1 + ahead.size) = (m : Int) + 1 + ahead.size := IntWalk.i64_in _ (by omega)
  have d3 : decide ((3 : Int) ≤ (m : Int) + 1) = true := by simp; omega
  have d4 : decide ((m : Int) + 1 ≤ p.size) = true := by simp; omega
  have dm : decide (m < p.size) = true := by simpa using n2
  clear f0 fm hR hR2
  go_enter Tryd.func4, Tryd.ntmps4
  go_wp2_with fail
  refine HL.out.mono ?_; rintro e w1 ⟨rfl, hb1⟩
  have HB1 := Lib.hid hb1; have HE1 := Lib.hid (HE.out.below hb1); have HT1 := Lib.hid (HT.out.later hb1)
  clear hb1
  go_wp2_with fail
  refine (HD1.out _ HE1.out).mono ?_
  intro e w2 he2
  obtain ⟨rfl, hb2⟩ := he2.ok rfl
  have hb2' := HB1.out.trans (hb2.mono HB1.out.size)
  have HB2 : Hid (Below w.heap.size w (w2.alloc (.cells #[.int .u64 (Oc.U (Oc.mk P 0)), .int .u64 (Oc.U (Oc.mk P 1)), .int .u64 (Oc.U (Oc.mk P 2)), .int .u64 (Oc.U (Oc.mk P 3))] 25))) := Lib.hid (hb2'.alloc hb2'.size _)
  have hbB : Below w1.heap.size w1 (w2.alloc (.cells #[.int .u64 (Oc.U (Oc.mk P 0)), .int .u64 (Oc.U (Oc.mk P 1)), .int .u64 (Oc.U (Oc.mk P 2)), .int .u64 (Oc.U (Oc.mk P 3))] 25)) := hb2.alloc hb2.size _
  have HE2 := Lib.hid (HE1.out.below hbB); have HT2 := Lib.hid (HT1.out.later hbB)
  have Z9 : Hid ((w2.alloc (.cells #[.int .u64 (Oc.U (Oc.mk P 0)), .int .u64 (Oc.U (Oc.mk P 1)), .int .u64 (Oc.U (Oc.mk P 2)), .int .u64 (Oc.U (Oc.mk P 3))] 25)).heap[w2.heap.size]? = some (.cells #[.int .u64 (Oc.U (Oc.mk P 0)), .int .u64 (Oc.U (Oc.mk P 1)), .int .u64 (Oc.U (Oc.mk P 2)), .int .u64 (Oc.U (Oc.mk P 3))] 25)) := Lib.hid (heap_alloc_new w2 _)
  clear he2 hb2 hb2' hbB
  go_wp2_with fail
  refine (HD2.out _ HE2.out).mono ?_
  intro e w3 he3
  obtain ⟨rfl, hb3⟩ := he3.ok rfl
  have hb3' := HB2.out.trans (hb3.mono HB2.out.size)
  have HB3 : Hid (Below w.heap.size w (w3.alloc (.cells #[.int .u64 (Oc.U (Oc.mk P 0)), .int .u64 (Oc.U (Oc.mk P 1)), .int .u64 (Oc.U (Oc.mk P 2)), .int .u64 (Oc.U (Oc.mk P 3))] 25))) := Lib.hid (hb3'.alloc hb3'.size _)
  have hbC : Below (w2.alloc (.cells #[.int .u64 (Oc.U (Oc.mk P 0)), .int .u64 (Oc.U (Oc.mk P 1)), .int .u64 (Oc.U (Oc.mk P 2)), .int .u64 (Oc.U (Oc.mk P 3))] 25)).heap.size (w2.alloc (.cells #[.int .u64 (Oc.U (Oc.mk P 0)), .int .u64 (Oc.U (Oc.mk P 1)), .int .u64 (Oc.U (Oc.mk P 2)), .int .u64 (Oc.U (Oc.mk P 3))] 25)) (w3.alloc (.cells #[.int .u64 (Oc.U (Oc.mk P 0)), .int .u64 (Oc.U (Oc.mk P 1)), .int .u64 (Oc.U (Oc.mk P 2)), .int .u64 (Oc.U (Oc.mk P 3))] 25)) := hb3.alloc hb3.size _
  have HE3 := Lib.hid (HE2.out.below hbC); have HT3 := Lib.hid (HT2.out.later hbC)
  have Z9c := Lib.hid (keep_blk hbC Z9.out)
  have Z12 : Hid ((w3.alloc (.cells #[.int .u64 (Oc.U (Oc.mk P 0)), .int .u64 (Oc.U (Oc.mk P 1)), .int .u64 (Oc.U (Oc.mk P 2)), .int .u64 (Oc.U (Oc.mk P 3))] 25)).heap[w3.heap.size]? = some (.cells #[.int .u64 (Oc.U (Oc.mk P 0)), .int .u64 (Oc.U (Oc.mk P 1)), .int .u64 (Oc.U (Oc.mk P 2)), .int .u64 (Oc.U (Oc.mk P 3))] 25)) := Lib.hid (heap_alloc_new w3 _)
  clear he3 hb3 hb3' hbC Z9
  obtain ⟨c0, c1, c2, c3, -⟩ := four Z9c.out
  obtain ⟨b0, b1, b2, b3, -⟩ := four Z12.out
  go_wp2
  go_ret
  exact ⟨rfl, HB3.out⟩
set_option maxRecDepth 100000 in
set_option maxHeartbeats 4000000 in
theorem brstays_open (D : BrDoes) (A : Nat → Addr) (p ahead behind : ByteArray) (fl : Int) (w : World) (hE : BrEnv w A) (hT : ErrType w) (hp : p.size ≤ 5000) (ha : ahead.size ≤ 5000) (hb : behind.size ≤ 4294957000) (hR : rdI p 0 (icB fl) (nlB fl) = .err 1 0) :
    Calls Tryd.prog 4 #[.string p, .string ahead, .string behind, .int .i64 fl] w fun e w' => e = .returned (.bool true) ∧ Below w.heap.size w w' := by
  have he := eq4
  have hsz : (ahead ++ p ++ behind).size = ahead.size + p.size + behind.size := by rw [ByteArray.size_append, ByteArray.size_append]
  have hread := fun w hE => D.read A p 0 fl w hE (by omega) (by decide) (by decide)
  have hread2 := fun w hE => D.read A (ahead ++ p ++ behind) ahead.size fl w hE (by omega) (by rw [show IntKind.i64.min = -9223372036854775808 by decide]; omega) (by rw [show IntKind.i64.max = 9223372036854775807 by decide]; omega)
  rw [hR] at hread
  have HL := Lib.hid (brlives_any D A w hE hT)
  have HD1 := Lib.hid hread; have HD2 := Lib.hid hread2
  have HE := Lib.hid hE; have HT := Lib.hid hT
  have g1 : decide (ahead.size > 5000) = false := by simp; omega
  have g2 : decide (p.size > 5000) = false := by simp; omega
  have g3 : decide ((5000 : Int) < ahead.size) = false := by simp; omega
  have g4 : decide ((5000 : Int) < p.size) = false := by simp; omega
  clear hread hread2 D hE hT hsz
  clear hR
  go_enter Tryd.func4, Tryd.ntmps4
  go_wp2_with fail
  refine HL.out.mono ?_; rintro e w1 ⟨rfl, hb1⟩
  have HB1 := Lib.hid hb1; have HE1 := Lib.hid (HE.out.below hb1); have HT1 := Lib.hid (HT.out.later hb1)
  clear hb1
  go_wp2_with fail
  refine (HD1.out _ HE1.out).mono ?_
  intro e w2 he2
  obtain ⟨v, rfl, hv, hb2⟩ := he2.err rfl
  obtain ⟨t, q, rfl⟩ := hv.iface
  have hb2' := HB1.out.trans (hb2.mono HB1.out.size)
  have HB2 : Hid (Below w.heap.size w (w2.alloc (.cells #[.int .u64 0, .int .u64 0, .int .u64 0, .int .u64 0] 25))) := Lib.hid (hb2'.alloc hb2'.size _)
  have hbB : Below w1.heap.size w1 (w2.alloc (.cells #[.int .u64 0, .int .u64 0, .int .u64 0, .int .u64 0] 25)) := hb2.alloc hb2.size _
  have HE2 := Lib.hid (HE1.out.below hbB); have HT2 := Lib.hid (HT1.out.later hbB)
  have Z9 : Hid ((w2.alloc (.cells #[.int .u64 0, .int .u64 0, .int .u64 0, .int .u64 0] 25)).heap[w2.heap.size]? = some (.cells #[.int .u64 0, .int .u64 0, .int .u64 0, .int .u64 0] 25)) := Lib.hid (heap_alloc_new w2 _)
  have HV2 : Hid (ErrAt A (w2.alloc (.cells #[.int .u64 0, .int .u64 0, .int .u64 0, .int .u64 0] 25)) (.iface t q) 1 0) := Lib.hid (hv.later ((Below.refl w2.heap.size w2).alloc (Nat.le_refl _) _))
  clear he2 hb2 hb2' hbB hv
  go_wp2_with fail
  refine (HD2.out _ HE2.out).mono ?_
  intro e w3 he3
  obtain ⟨x0, x1, x2, x3, n', v', rfl, hb3⟩ := he3.any
  have hb3' := HB2.out.trans (hb3.mono HB2.out.size)
  have HB3 : Hid (Below w.heap.size w (w3.alloc (.cells #[.int .u64 x0, .int .u64 x1, .int .u64 x2, .int .u64 x3] 25))) := Lib.hid (hb3'.alloc hb3'.size _)
  have hbC : Below (w2.alloc (.cells #[.int .u64 0, .int .u64 0, .int .u64 0, .int .u64 0] 25)).heap.size (w2.alloc (.cells #[.int .u64 0, .int .u64 0, .int .u64 0, .int .u64 0] 25)) (w3.alloc (.cells #[.int .u64 x0, .int .u64 x1, .int .u64 x2, .int .u64 x3] 25)) := hb3.alloc hb3.size _
  have HE3 := Lib.hid (HE2.out.below hbC); have HT3 := Lib.hid (HT2.out.later hbC)
  have Z9c := Lib.hid (keep_blk hbC Z9.out)
  have Z12 : Hid ((w3.alloc (.cells #[.int .u64 x0, .int .u64 x1, .int .u64 x2, .int .u64 x3] 25)).heap[w3.heap.size]? = some (.cells #[.int .u64 x0, .int .u64 x1, .int .u64 x2, .int .u64 x3] 25)) := Lib.hid (heap_alloc_new w3 _)
  have HV3 := Lib.hid (HV2.out.later hbC)
  clear he3 hb3 hb3' hbC Z9
  go_wp2_with fail
  refine (HV3.out.num HE3.out).mono ?_; rintro e w4 ⟨rfl, hb4⟩
  have HB4 := Lib.hid (HB3.out.trans (hb4.mono HB3.out.size)); have HE4 := Lib.hid (HE3.out.below hb4); have HT4 := Lib.hid (HT3.out.later hb4); have HV4 := Lib.hid (HV3.out.later hb4)
  clear hb4
  go_wp2_with fail
  refine (HV4.out.place HT4.out).mono ?_; rintro e w5 ⟨rfl, hb5⟩
  have HB5 := Lib.hid (HB4.out.trans (hb5.mono HB4.out.size)); have HE5 := Lib.hid (HE4.out.below hb5); have HT5 := Lib.hid (HT4.out.later hb5); have HV5 := Lib.hid (HV4.out.later hb5)
  clear hb5
  go_wp2
  go_ret
  exact ⟨rfl, HB5.out⟩
set_option maxRecDepth 100000 in
set_option maxHeartbeats 4000000 in
theorem brstays_none (D : BrDoes) (A : Nat → Addr) (p ahead behind : ByteArray) (fl : Int) (w : World) (hE : BrEnv w A) (hT : ErrType w) (hp : p.size ≤ 5000) (ha : ahead.size ≤ 5000) (hb : behind.size ≤ 4294957000) (hR : rdI p 0 (icB fl) (nlB fl) = .err 15 (-1)) (h0 : bt p 0 ≠ 91) :
    Calls Tryd.prog 4 #[.string p, .string ahead, .string behind, .int .i64 fl] w fun e w' => e = .returned (.bool true) ∧ Below w.heap.size w w' := by
  have he := eq4
  have hsz : (ahead ++ p ++ behind).size = ahead.size + p.size + behind.size := by rw [ByteArray.size_append, ByteArray.size_append]
  have hread := fun w hE => D.read A p 0 fl w hE (by omega) (by decide) (by decide)
  have hread2 := fun w hE => D.read A (ahead ++ p ++ behind) ahead.size fl w hE (by omega) (by rw [show IntKind.i64.min = -9223372036854775808 by decide]; omega) (by rw [show IntKind.i64.max = 9223372036854775807 by decide]; omega)
  rw [hR] at hread
  have HL := Lib.hid (brlives_any D A w hE hT)
  have HD1 := Lib.hid hread; have HD2 := Lib.hid hread2
  have HE := Lib.hid hE; have HT := Lib.hid hT
  have g1 : decide (ahead.size > 5000) = false := by simp; omega
  have g2 : decide (p.size > 5000) = false := by simp; omega
  have g3 : decide ((5000 : Int) < ahead.size) = false := by simp; omega
  have g4 : decide ((5000 : Int) < p.size) = false := by simp; omega
  clear hread hread2 D hE hT hsz
  clear hR
  have hcase : (p.size = 0 ∧ p.toList.isEmpty = true ∧ (p.toList == []) = true) ∨ (∃ h : 0 < p.size, ((p[0].toNat : Int) != 91) = true ∧ p.toList.isEmpty = false ∧ (p.toList == []) = false) := by
    by_cases hz : p.size = 0
    · have hl : p.toList = [] := by rw [toList_eq]; exact Array.toList_eq_nil_iff.2 (Array.size_eq_zero_iff.1 hz)
      exact .inl ⟨hz, by rw [hl]; rfl, by rw [hl]; rfl⟩
    · have hpos : 0 < p.size := by omega
      have hl : p.toList ≠ [] := by rw [toList_eq]; intro h; exact hz (by have := congrArg List.length h; simpa using this)
      refine .inr ⟨hpos, ?_, by simpa using hl, by simpa using hl⟩
      rw [bt_at hpos]; simp; omega
  clear h0
  go_enter Tryd.func4, Tryd.ntmps4
  go_wp2_with fail
  refine HL.out.mono ?_; rintro e w1 ⟨rfl, hb1⟩
  have HB1 := Lib.hid hb1; have HE1 := Lib.hid (HE.out.below hb1); have HT1 := Lib.hid (HT.out.later hb1)
  clear hb1
  go_wp2_with fail
  refine (HD1.out _ HE1.out).mono ?_
  intro e w2 he2
  obtain ⟨v, rfl, hv, hb2⟩ := he2.err rfl
  obtain ⟨t, q, rfl⟩ := hv.iface
  have hb2' := HB1.out.trans (hb2.mono HB1.out.size)
  have HB2 : Hid (Below w.heap.size w (w2.alloc (.cells #[.int .u64 0, .int .u64 0, .int .u64 0, .int .u64 0] 25))) := Lib.hid (hb2'.alloc hb2'.size _)
  have hbB : Below w1.heap.size w1 (w2.alloc (.cells #[.int .u64 0, .int .u64 0, .int .u64 0, .int .u64 0] 25)) := hb2.alloc hb2.size _
  have HE2 := Lib.hid (HE1.out.below hbB); have HT2 := Lib.hid (HT1.out.later hbB)
  have Z9 : Hid ((w2.alloc (.cells #[.int .u64 0, .int .u64 0, .int .u64 0, .int .u64 0] 25)).heap[w2.heap.size]? = some (.cells #[.int .u64 0, .int .u64 0, .int .u64 0, .int .u64 0] 25)) := Lib.hid (heap_alloc_new w2 _)
  have HV2 : Hid (ErrAt A (w2.alloc (.cells #[.int .u64 0, .int .u64 0, .int .u64 0, .int .u64 0] 25)) (.iface t q) 15 (-1)) := Lib.hid (hv.later ((Below.refl w2.heap.size w2).alloc (Nat.le_refl _) _))
  clear he2 hb2 hb2' hbB hv
  go_wp2_with fail
  refine (HD2.out _ HE2.out).mono ?_
  intro e w3 he3
  obtain ⟨x0, x1, x2, x3, n', v', rfl, hb3⟩ := he3.any
  have hb3' := HB2.out.trans (hb3.mono HB2.out.size)
  have HB3 : Hid (Below w.heap.size w (w3.alloc (.cells #[.int .u64 x0, .int .u64 x1, .int .u64 x2, .int .u64 x3] 25))) := Lib.hid (hb3'.alloc hb3'.size _)
  have hbC : Below (w2.alloc (.cells #[.int .u64 0, .int .u64 0, .int .u64 0, .int .u64 0] 25)).heap.size (w2.alloc (.cells #[.int .u64 0, .int .u64 0, .int .u64 0, .int .u64 0] 25)) (w3.alloc (.cells #[.int .u64 x0, .int .u64 x1, .int .u64 x2, .int .u64 x3] 25)) := hb3.alloc hb3.size _
  have HE3 := Lib.hid (HE2.out.below hbC); have HT3 := Lib.hid (HT2.out.later hbC)
  have Z9c := Lib.hid (keep_blk hbC Z9.out)
  have Z12 : Hid ((w3.alloc (.cells #[.int .u64 x0, .int .u64 x1, .int .u64 x2, .int .u64 x3] 25)).heap[w3.heap.size]? = some (.cells #[.int .u64 x0, .int .u64 x1, .int .u64 x2, .int .u64 x3] 25)) := Lib.hid (heap_alloc_new w3 _)
  have HV3 := Lib.hid (HV2.out.later hbC)
  clear he3 hb3 hb3' hbC Z9
  go_wp2_with fail
  refine (HV3.out.num HE3.out).mono ?_; rintro e w4 ⟨rfl, hb4⟩
  have HB4 := Lib.hid (HB3.out.trans (hb4.mono HB3.out.size)); have HE4 := Lib.hid (HE3.out.below hb4); have HT4 := Lib.hid (HT3.out.later hb4); have HV4 := Lib.hid (HV3.out.later hb4)
  clear hb4
  go_wp2_with fail
  refine (HV4.out.place HT4.out).mono ?_; rintro e w5 ⟨rfl, hb5⟩
  have HB5 := Lib.hid (HB4.out.trans (hb5.mono HB4.out.size)); have HE5 := Lib.hid (HE4.out.below hb5); have HT5 := Lib.hid (HT4.out.later hb5); have HV5 := Lib.hid (HV4.out.later hb5)
  clear hb5
  rcases hcase with ⟨h1, h2, h3⟩ | ⟨h1, h2, h3, h4⟩
  · go_wp2
    go_ret
    exact ⟨rfl, HB5.out⟩
  · go_wp2
    go_ret
    exact ⟨rfl, HB5.out⟩
set_option maxRecDepth 100000 in
set_option maxHeartbeats 4000000 in
theorem brstays_special (D : BrDoes) (A : Nat → Addr) (p ahead behind : ByteArray) (fl : Int) (w : World) (hE : BrEnv w A) (hT : ErrType w) (hp : p.size ≤ 5000) (ha : ahead.size ≤ 5000) (hb : behind.size ≤ 4294957000) (hR : rdI p 0 (icB fl) (nlB fl) = .err 5 ((p.size : Int) - 3)) (h2 : 2 < p.size) (h91 : bt p (p.size - 1) = 91) (hb0 : 0 < behind.size) (hb1 : bt behind 0 = 46 ∨ bt behind 0 = 61) (hR2 : rdI (ahead ++ p ++ behind) ahead.size (icB fl) (nlB fl) = .err 7 ((p.size : Int) - 1 + ahead.size)) :
    Calls Tryd.prog 4 #[.string p, .string ahead, .string behind, .int .i64 fl] w fun e w' => e = .returned (.bool true) ∧ Below w.heap.size w w' := by
  have he := eq4
  have hsz : (ahead ++ p ++ behind).size = ahead.size + p.size + behind.size := by rw [ByteArray.size_append, ByteArray.size_append]
  have hread := fun w hE => D.read A p 0 fl w hE (by omega) (by decide) (by decide)
  have hread2 := fun w hE => D.read A (ahead ++ p ++ behind) ahead.size fl w hE (by omega) (by rw [show IntKind.i64.min = -9223372036854775808 by decide]; omega) (by rw [show IntKind.i64.max = 9223372036854775807 by decide]; omega)
  rw [hR] at hread
  rw [hR2] at hread2
  have HL := Lib.hid (brlives_any D A w hE hT)
  have HD1 := Lib.hid hread; have HD2 := Lib.hid hread2
  have HE := Lib.hid hE; have HT := Lib.hid hT
  have g1 : decide (ahead.size > 5000) = false := by simp; omega
  have g2 : decide (p.size > 5000) = false := by simp; omega
  have g3 : decide ((5000 : Int) < ahead.size) = false := by simp; omega
  have g4 : decide ((5000 : Int) < p.size) = false := by simp; omega
  clear hread hread2 D hE hT hsz
  have p1 : (1 : Int) ≤ p.size := by omega
  have p2 : ((p.size : Int) - 1).toNat = p.size - 1 := by omega
  have p3 : p.size - 1 < p.size := by omega
  have p4 : (0 : Int) ≤ (p.size : Int) - 1 := by omega
  have wm1 : IntKind.i64.wrap ((p.size : Int) - 1) = (p.size : Int) - 1 := IntWalk.i64_in _ (by omega)
  have wm3 : IntKind.i64.wrap ((p.size : Int) - 3) = (p.size : Int) - 3 := IntWalk.i64_in _ (by omega)
  have wm4 : IntKind.i64.wrap ((p.size : Int) - 1 + ahead.size) = (p.size : Int) - 1 + ahead.size := IntWalk.i64_in _ (by omega)
  have g5 : decide (p.size > 2) = true := by simpa using h2
  have g6 : decide ((2 : Int) < p.size) = true := by simp; omega
  have e91 : ((p[p.size - 1].toNat : Int) == 91) = true := by rw [bt_at p3, h91]; rfl
  have hl := toList_pos hb0
  have l1 : behind.toList.isEmpty = false := by simpa using hl
  have l2 : (behind.toList == []) = false := by simpa using hl
  have l3 : (behind.toList != []) = true := by simp [hl]
  have hbb : ((behind[0].toNat : Int) == 46) = true ∨ (((behind[0].toNat : Int) == 46) = false ∧ ((behind[0].toNat : Int) == 61) = true) := by
    rw [bt_at hb0]; rcases hb1 with h | h <;> rw [h] <;> decide
  clear h91 hb1 hR hR2 hl h2
  go_enter Tryd.func4, Tryd.ntmps4
  go_wp2_with fail
  refine HL.out.mono ?_; rintro e w1 ⟨rfl, hb1⟩
  have HB1 := Lib.hid hb1; have HE1 := Lib.hid (HE.out.below hb1); have HT1 := Lib.hid (HT.out.later hb1)
  clear hb1
  go_wp2_with fail
  refine (HD1.out _ HE1.out).mono ?_
  intro e w2 he2
  obtain ⟨v, rfl, hv, hb2⟩ := he2.err rfl
  obtain ⟨t, q, rfl⟩ := hv.iface
  have hb2' := HB1.out.trans (hb2.mono HB1.out.size)
  have HB2 : Hid (Below w.heap.size w (w2.alloc (.cells #[.int .u64 0, .int .u64 0, .int .u64 0, .int .u64 0] 25))) := Lib.hid (hb2'.alloc hb2'.size _)
  have hbB : Below w1.heap.size w1 (w2.alloc (.cells #[.int .u64 0, .int .u64 0, .int .u64 0, .int .u64 0] 25)) := hb2.alloc hb2.size _
  have HE2 := Lib.hid (HE1.out.below hbB); have HT2 := Lib.hid (HT1.out.later hbB)
  have Z9 : Hid ((w2.alloc (.cells #[.int .u64 0, .int .u64 0, .int .u64 0, .int .u64 0] 25)).heap[w2.heap.size]? = some (.cells #[.int .u64 0, .int .u64 0, .int .u64 0, .int .u64 0] 25)) := Lib.hid (heap_alloc_new w2 _)
  have HV2 : Hid (ErrAt A (w2.alloc (.cells #[.int .u64 0, .int .u64 0, .int .u64 0, .int .u64 0] 25)) (.iface t q) 5 ((p.size : Int) - 3)) := Lib.hid (hv.later ((Below.refl w2.heap.size w2).alloc (Nat.le_refl _) _))
  clear he2 hb2 hb2' hbB hv
  go_wp2_with fail
  refine (HD2.out _ HE2.out).mono ?_
  intro e w3 he3
  obtain ⟨v', rfl, hv', hb3⟩ := he3.err rfl
  obtain ⟨t', q', rfl⟩ := hv'.iface
  have hb3' := HB2.out.trans (hb3.mono HB2.out.size)
  have HB3 : Hid (Below w.heap.size w (w3.alloc (.cells #[.int .u64 0, .int .u64 0, .int .u64 0, .int .u64 0] 25))) := Lib.hid (hb3'.alloc hb3'.size _)
  have hbC : Below (w2.alloc (.cells #[.int .u64 0, .int .u64 0, .int .u64 0, .int .u64 0] 25)).heap.size (w2.alloc (.cells #[.int .u64 0, .int .u64 0, .int .u64 0, .int .u64 0] 25)) (w3.alloc (.cells #[.int .u64 0, .int .u64 0, .int .u64 0, .int .u64 0] 25)) := hb3.alloc hb3.size _
  have HE3 := Lib.hid (HE2.out.below hbC); have HT3 := Lib.hid (HT2.out.later hbC)
  have Z9c := Lib.hid (keep_blk hbC Z9.out)
  have Z12 : Hid ((w3.alloc (.cells #[.int .u64 0, .int .u64 0, .int .u64 0, .int .u64 0] 25)).heap[w3.heap.size]? = some (.cells #[.int .u64 0, .int .u64 0, .int .u64 0, .int .u64 0] 25)) := Lib.hid (heap_alloc_new w3 _)
  have HV3 := Lib.hid (HV2.out.later hbC)
  have HU3 : Hid (ErrAt A (w3.alloc (.cells #[.int .u64 0, .int .u64 0, .int .u64 0, .int .u64 0] 25)) (.iface t' q') 7 ((p.size : Int) - 1 + ahead.size)) := Lib.hid (hv'.later ((Below.refl w3.heap.size w3).alloc (Nat.le_refl _) _))
  clear he3 hb3 hb3' hbC Z9 hv'
  go_wp2_with fail
  refine (HV3.out.num HE3.out).mono ?_; rintro e w4 ⟨rfl, hb4⟩
  have HB4 := Lib.hid (HB3.out.trans (hb4.mono HB3.out.size)); have HE4 := Lib.hid (HE3.out.below hb4); have HT4 := Lib.hid (HT3.out.later hb4); have HV4 := Lib.hid (HV3.out.later hb4)
  have HU4 := Lib.hid (HU3.out.later hb4)
  clear hb4
  go_wp2_with fail
  refine (HV4.out.place HT4.out).mono ?_; rintro e w5 ⟨rfl, hb5⟩
  have HB5 := Lib.hid (HB4.out.trans (hb5.mono HB4.out.size)); have HE5 := Lib.hid (HE4.out.below hb5); have HT5 := Lib.hid (HT4.out.later hb5); have HV5 := Lib.hid (HV4.out.later hb5)
  have HU5 := Lib.hid (HU4.out.later hb5)
  clear hb5
  rcases hbb with hbb | ⟨hbb, hbc⟩
  · go_wp2_with fail
    refine (HU5.out.num HE5.out).mono ?_; rintro e w6 ⟨rfl, hb6⟩
    have HB6 := Lib.hid (HB5.out.trans (hb6.mono HB5.out.size)); have HE6 := Lib.hid (HE5.out.below hb6); have HT6 := Lib.hid (HT5.out.later hb6); have HV6 := Lib.hid (HV5.out.later hb6)
    have HU6 := Lib.hid (HU5.out.later hb6)
    clear hb6
    go_wp2_with fail
    refine (HU6.out.place HT6.out).mono ?_; rintro e w7 ⟨rfl, hb7⟩
    have HB7 := Lib.hid (HB6.out.trans (hb7.mono HB6.out.size)); have HE7 := Lib.hid (HE6.out.below hb7); have HT7 := Lib.hid (HT6.out.later hb7)
    clear hb7
    go_wp2
    go_ret
    exact ⟨rfl, HB7.out⟩
  · go_wp2_with fail
    refine (HU5.out.num HE5.out).mono ?_; rintro e w6 ⟨rfl, hb6⟩
    have HB6 := Lib.hid (HB5.out.trans (hb6.mono HB5.out.size)); have HE6 := Lib.hid (HE5.out.below hb6); have HT6 := Lib.hid (HT5.out.later hb6); have HV6 := Lib.hid (HV5.out.later hb6)
    have HU6 := Lib.hid (HU5.out.later hb6)
    clear hb6
    go_wp2_with fail
    refine (HU6.out.place HT6.out).mono ?_; rintro e w7 ⟨rfl, hb7⟩
    have HB7 := Lib.hid (HB6.out.trans (hb7.mono HB6.out.size)); have HE7 := Lib.hid (HE6.out.below hb7); have HT7 := Lib.hid (HT6.out.later hb7)
    clear hb7
    go_wp2
    go_ret
    exact ⟨rfl, HB7.out⟩
set_option maxRecDepth 100000 in
set_option maxHeartbeats 4000000 in
theorem brstays_6 (D : BrDoes) (A : Nat → Addr) (p ahead behind : ByteArray) (fl : Int) (w : World) (hE : BrEnv w A) (hT : ErrType w) (hp : p.size ≤ 5000) (ha : ahead.size ≤ 5000) (hb : behind.size ≤ 4294957000) (pl : Int) (hpl0 : 0 ≤ pl) (hpl1 : pl ≤ 5010) (hR : rdI p 0 (icB fl) (nlB fl) = .err 6 pl) (hR2 : rdI (ahead ++ p ++ behind) ahead.size (icB fl) (nlB fl) = .err 6 (pl + ahead.size)) :
    Calls Tryd.prog 4 #[.string p, .string ahead, .string behind, .int .i64 fl] w fun e w' => e = .returned (.bool true) ∧ Below w.heap.size w w' := by
  have he := eq4
  have hsz : (ahead ++ p ++ behind).size = ahead.size + p.size + behind.size := by rw [ByteArray.size_append, ByteArray.size_append]
  have hread := fun w hE => D.read A p 0 fl w hE (by omega) (by decide) (by decide)
  have hread2 := fun w hE => D.read A (ahead ++ p ++ behind) ahead.size fl w hE (by omega) (by rw [show IntKind.i64.min = -9223372036854775808 by decide]; omega) (by rw [show IntKind.i64.max = 9223372036854775807 by decide]; omega)
  rw [hR] at hread
  rw [hR2] at hread2
  have HL := Lib.hid (brlives_any D A w hE hT)
  have HD1 := Lib.hid hread; have HD2 := Lib.hid hread2
  have HE := Lib.hid hE; have HT := Lib.hid hT
  have g1 : decide (ahead.size > 5000) = false := by simp; omega
  have g2 : decide (p.size > 5000) = false := by simp; omega
  have g3 : decide ((5000 : Int) < ahead.size) = false := by simp; omega
  have g4 : decide ((5000 : Int) < p.size) = false := by simp; omega
  clear hread hread2 D hE hT hsz
  clear hR hR2
  have wpl : IntKind.i64.wrap (pl + ahead.size) = pl + ahead.size := IntWalk.i64_in _ (by omega)
  go_enter Tryd.func4, Tryd.ntmps4
  go_wp2_with fail
  refine HL.out.mono ?_; rintro e w1 ⟨rfl, hb1⟩
  have HB1 := Lib.hid hb1; have HE1 := Lib.hid (HE.out.below hb1); have HT1 := Lib.hid (HT.out.later hb1)
  clear hb1
  go_wp2_with fail
  refine (HD1.out _ HE1.out).mono ?_
  intro e w2 he2
  obtain ⟨v, rfl, hv, hb2⟩ := he2.err rfl
  obtain ⟨t, q, rfl⟩ := hv.iface
  have hb2' := HB1.out.trans (hb2.mono HB1.out.size)
  have HB2 : Hid (Below w.heap.size w (w2.alloc (.cells #[.int .u64 0, .int .u64 0, .int .u64 0, .int .u64 0] 25))) := Lib.hid (hb2'.alloc hb2'.size _)
  have hbB : Below w1.heap.size w1 (w2.alloc (.cells #[.int .u64 0, .int .u64 0, .int .u64 0, .int .u64 0] 25)) := hb2.alloc hb2.size _
  have HE2 := Lib.hid (HE1.out.below hbB); have HT2 := Lib.hid (HT1.out.later hbB)
  have Z9 : Hid ((w2.alloc (.cells #[.int .u64 0, .int .u64 0, .int .u64 0, .int .u64 0] 25)).heap[w2.heap.size]? = some (.cells #[.int .u64 0, .int .u64 0, .int .u64 0, .int .u64 0] 25)) := Lib.hid (heap_alloc_new w2 _)
  have HV2 : Hid (ErrAt A (w2.alloc (.cells #[.int .u64 0, .int .u64 0, .int .u64 0, .int .u64 0] 25)) (.iface t q) 6 pl) := Lib.hid (hv.later ((Below.refl w2.heap.size w2).alloc (Nat.le_refl _) _))
  clear he2 hb2 hb2' hbB hv
  go_wp2_with fail
  refine (HD2.out _ HE2.out).mono ?_
  intro e w3 he3
  obtain ⟨v', rfl, hv', hb3⟩ := he3.err rfl
  obtain ⟨t', q', rfl⟩ := hv'.iface
  have hb3' := HB2.out.trans (hb3.mono HB2.out.size)
  have HB3 : Hid (Below w.heap.size w (w3.alloc (.cells #[.int .u64 0, .int .u64 0, .int .u64 0, .int .u64 0] 25))) := Lib.hid (hb3'.alloc hb3'.size _)
  have hbC : Below (w2.alloc (.cells #[.int .u64 0, .int .u64 0, .int .u64 0, .int .u64 0] 25)).heap.size (w2.alloc (.cells #[.int .u64 0, .int .u64 0, .int .u64 0, .int .u64 0] 25)) (w3.alloc (.cells #[.int .u64 0, .int .u64 0, .int .u64 0, .int .u64 0] 25)) := hb3.alloc hb3.size _
  have HE3 := Lib.hid (HE2.out.below hbC); have HT3 := Lib.hid (HT2.out.later hbC)
  have Z9c := Lib.hid (keep_blk hbC Z9.out)
  have Z12 : Hid ((w3.alloc (.cells #[.int .u64 0, .int .u64 0, .int .u64 0, .int .u64 0] 25)).heap[w3.heap.size]? = some (.cells #[.int .u64 0, .int .u64 0, .int .u64 0, .int .u64 0] 25)) := Lib.hid (heap_alloc_new w3 _)
  have HV3 := Lib.hid (HV2.out.later hbC)
  have HU3 : Hid (ErrAt A (w3.alloc (.cells #[.int .u64 0, .int .u64 0, .int .u64 0, .int .u64 0] 25)) (.iface t' q') 6 (pl + ahead.size)) := Lib.hid (hv'.later ((Below.refl w3.heap.size w3).alloc (Nat.le_refl _) _))
  clear he3 hb3 hb3' hbC Z9 hv'
  go_wp2_with fail
  refine (HV3.out.num HE3.out).mono ?_; rintro e w4 ⟨rfl, hb4⟩
  have HB4 := Lib.hid (HB3.out.trans (hb4.mono HB3.out.size)); have HE4 := Lib.hid (HE3.out.below hb4); have HT4 := Lib.hid (HT3.out.later hb4); have HV4 := Lib.hid (HV3.out.later hb4)
  have HU4 := Lib.hid (HU3.out.later hb4)
  clear hb4
  go_wp2_with fail
  refine (HU4.out.num HE4.out).mono ?_; rintro e w5 ⟨rfl, hb5⟩
  have HB5 := Lib.hid (HB4.out.trans (hb5.mono HB4.out.size)); have HE5 := Lib.hid (HE4.out.below hb5); have HT5 := Lib.hid (HT4.out.later hb5); have HV5 := Lib.hid (HV4.out.later hb5)
  have HU5 := Lib.hid (HU4.out.later hb5)
  clear hb5
  go_wp2_with fail
  refine (HU5.out.place HT5.out).mono ?_; rintro e w6 ⟨rfl, hb6⟩
  have HB6 := Lib.hid (HB5.out.trans (hb6.mono HB5.out.size)); have HE6 := Lib.hid (HE5.out.below hb6); have HT6 := Lib.hid (HT5.out.later hb6); have HV6 := Lib.hid (HV5.out.later hb6)
  have HU6 := Lib.hid (HU5.out.later hb6)
  clear hb6
  go_wp2_with fail
  refine (HV6.out.place HT6.out).mono ?_; rintro e w7 ⟨rfl, hb7⟩
  have HB7 := Lib.hid (HB6.out.trans (hb7.mono HB6.out.size)); have HE7 := Lib.hid (HE6.out.below hb7); have HT7 := Lib.hid (HT6.out.later hb7); have HV7 := Lib.hid (HV6.out.later hb7)
  clear hb7
  go_wp2
  go_ret
  exact ⟨rfl, HB7.out⟩
set_option maxRecDepth 100000 in
set_option maxHeartbeats 4000000 in
theorem brstays_7 (D : BrDoes) (A : Nat → Addr) (p ahead behind : ByteArray) (fl : Int) (w : World) (hE : BrEnv w A) (hT : ErrType w) (hp : p.size ≤ 5000) (ha : ahead.size ≤ 5000) (hb : behind.size ≤ 4294957000) (pl : Int) (hpl0 : 0 ≤ pl) (hpl1 : pl ≤ 5010) (hR : rdI p 0 (icB fl) (nlB fl) = .err 7 pl) (hR2 : rdI (ahead ++ p ++ behind) ahead.size (icB fl) (nlB fl) = .err 7 (pl + ahead.size)) :
    Calls Tryd.prog 4 #[.string p, .string ahead, .string behind, .int .i64 fl] w fun e w' => e = .returned (.bool true) ∧ Below w.heap.size w w' := by
  have he := eq4
  have hsz : (ahead ++ p ++ behind).size = ahead.size + p.size + behind.size := by rw [ByteArray.size_append, ByteArray.size_append]
  have hread := fun w hE => D.read A p 0 fl w hE (by omega) (by decide) (by decide)
  have hread2 := fun w hE => D.read A (ahead ++ p ++ behind) ahead.size fl w hE (by omega) (by rw [show IntKind.i64.min = -9223372036854775808 by decide]; omega) (by rw [show IntKind.i64.max = 9223372036854775807 by decide]; omega)
  rw [hR] at hread
  rw [hR2] at hread2
  have HL := Lib.hid (brlives_any D A w hE hT)
  have HD1 := Lib.hid hread; have HD2 := Lib.hid hread2
  have HE := Lib.hid hE; have HT := Lib.hid hT
  have g1 : decide (ahead.size > 5000) = false := by simp; omega
  have g2 : decide (p.size > 5000) = false := by simp; omega
  have g3 : decide ((5000 : Int) < ahead.size) = false := by simp; omega
  have g4 : decide ((5000 : Int) < p.size) = false := by simp; omega
  clear hread hread2 D hE hT hsz
  clear hR hR2
  have wpl : IntKind.i64.wrap (pl + ahead.size) = pl + ahead.size := IntWalk.i64_in _ (by omega)
  go_enter Tryd.func4, Tryd.ntmps4
  go_wp2_with fail
  refine HL.out.mono ?_; rintro e w1 ⟨rfl, hb1⟩
  have HB1 := Lib.hid hb1; have HE1 := Lib.hid (HE.out.below hb1); have HT1 := Lib.hid (HT.out.later hb1)
  clear hb1
  go_wp2_with fail
  refine (HD1.out _ HE1.out).mono ?_
  intro e w2 he2
  obtain ⟨v, rfl, hv, hb2⟩ := he2.err rfl
  obtain ⟨t, q, rfl⟩ := hv.iface
  have hb2' := HB1.out.trans (hb2.mono HB1.out.size)
  have HB2 : Hid (Below w.heap.size w (w2.alloc (.cells #[.int .u64 0, .int .u64 0, .int .u64 0, .int .u64 0] 25))) := Lib.hid (hb2'.alloc hb2'.size _)
  have hbB : Below w1.heap.size w1 (w2.alloc (.cells #[.int .u64 0, .int .u64 0, .int .u64 0, .int .u64 0] 25)) := hb2.alloc hb2.size _
  have HE2 := Lib.hid (HE1.out.below hbB); have HT2 := Lib.hid (HT1.out.later hbB)
  have Z9 : Hid ((w2.alloc (.cells #[.int .u64 0, .int .u64 0, .int .u64 0, .int .u64 0] 25)).heap[w2.heap.size]? = some (.cells #[.int .u64 0, .int .u64 0, .int .u64 0, .int .u64 0] 25)) := Lib.hid (heap_alloc_new w2 _)
  have HV2 : Hid (ErrAt A (w2.alloc (.cells #[.int .u64 0, .int .u64 0, .int .u64 0, .int .u64 0] 25)) (.iface t q) 7 pl) := Lib.hid (hv.later ((Below.refl w2.heap.size w2).alloc (Nat.le_refl _) _))
  clear he2 hb2 hb2' hbB hv
  go_wp2_with fail
  refine (HD2.out _ HE2.out).mono ?_
  intro e w3 he3
  obtain ⟨v', rfl, hv', hb3⟩ := he3.err rfl
  obtain ⟨t', q', rfl⟩ := hv'.iface
  have hb3' := HB2.out.trans (hb3.mono HB2.out.size)
  have HB3 : Hid (Below w.heap.size w (w3.alloc (.cells #[.int .u64 0, .int .u64 0, .int .u64 0, .int .u64 0] 25))) := Lib.hid (hb3'.alloc hb3'.size _)
  have hbC : Below (w2.alloc (.cells #[.int .u64 0, .int .u64 0, .int .u64 0, .int .u64 0] 25)).heap.size (w2.alloc (.cells #[.int .u64 0, .int .u64 0, .int .u64 0, .int .u64 0] 25)) (w3.alloc (.cells #[.int .u64 0, .int .u64 0, .int .u64 0, .int .u64 0] 25)) := hb3.alloc hb3.size _
  have HE3 := Lib.hid (HE2.out.below hbC); have HT3 := Lib.hid (HT2.out.later hbC)
  have Z9c := Lib.hid (keep_blk hbC Z9.out)
  have Z12 : Hid ((w3.alloc (.cells #[.int .u64 0, .int .u64 0, .int .u64 0, .int .u64 0] 25)).heap[w3.heap.size]? = some (.cells #[.int .u64 0, .int .u64 0, .int .u64 0, .int .u64 0] 25)) := Lib.hid (heap_alloc_new w3 _)
  have HV3 := Lib.hid (HV2.out.later hbC)
  have HU3 : Hid (ErrAt A (w3.alloc (.cells #[.int .u64 0, .int .u64 0, .int .u64 0, .int .u64 0] 25)) (.iface t' q') 7 (pl + ahead.size)) := Lib.hid (hv'.later ((Below.refl w3.heap.size w3).alloc (Nat.le_refl _) _))
  clear he3 hb3 hb3' hbC Z9 hv'
  go_wp2_with fail
  refine (HV3.out.num HE3.out).mono ?_; rintro e w4 ⟨rfl, hb4⟩
  have HB4 := Lib.hid (HB3.out.trans (hb4.mono HB3.out.size)); have HE4 := Lib.hid (HE3.out.below hb4); have HT4 := Lib.hid (HT3.out.later hb4); have HV4 := Lib.hid (HV3.out.later hb4)
  have HU4 := Lib.hid (HU3.out.later hb4)
  clear hb4
  go_wp2_with fail
  refine (HU4.out.num HE4.out).mono ?_; rintro e w5 ⟨rfl, hb5⟩
  have HB5 := Lib.hid (HB4.out.trans (hb5.mono HB4.out.size)); have HE5 := Lib.hid (HE4.out.below hb5); have HT5 := Lib.hid (HT4.out.later hb5); have HV5 := Lib.hid (HV4.out.later hb5)
  have HU5 := Lib.hid (HU4.out.later hb5)
  clear hb5
  go_wp2_with fail
  refine (HU5.out.place HT5.out).mono ?_; rintro e w6 ⟨rfl, hb6⟩
  have HB6 := Lib.hid (HB5.out.trans (hb6.mono HB5.out.size)); have HE6 := Lib.hid (HE5.out.below hb6); have HT6 := Lib.hid (HT5.out.later hb6); have HV6 := Lib.hid (HV5.out.later hb6)
  have HU6 := Lib.hid (HU5.out.later hb6)
  clear hb6
  go_wp2_with fail
  refine (HV6.out.place HT6.out).mono ?_; rintro e w7 ⟨rfl, hb7⟩
  have HB7 := Lib.hid (HB6.out.trans (hb7.mono HB6.out.size)); have HE7 := Lib.hid (HE6.out.below hb7); have HT7 := Lib.hid (HT6.out.later hb7); have HV7 := Lib.hid (HV6.out.later hb7)
  clear hb7
  go_wp2
  go_ret
  exact ⟨rfl, HB7.out⟩
set_option maxRecDepth 100000 in
set_option maxHeartbeats 4000000 in
theorem brstays_5a (D : BrDoes) (A : Nat → Addr) (p ahead behind : ByteArray) (fl : Int) (w : World) (hE : BrEnv w A) (hT : ErrType w) (hp : p.size ≤ 5000) (ha : ahead.size ≤ 5000) (hb : behind.size ≤ 4294957000) (pl : Int) (hpl0 : 0 ≤ pl) (hpl1 : pl ≤ 5010) (hR : rdI p 0 (icB fl) (nlB fl) = .err 5 pl) (hR2 : rdI (ahead ++ p ++ behind) ahead.size (icB fl) (nlB fl) = .err 5 (pl + ahead.size)) (hx : ¬ 2 < p.size) :
    Calls Tryd.prog 4 #[.string p, .string ahead, .string behind, .int .i64 fl] w fun e w' => e = .returned (.bool true) ∧ Below w.heap.size w w' := by
  have he := eq4
  have hsz : (ahead ++ p ++ behind).size = ahead.size + p.size + behind.size := by rw [ByteArray.size_append, ByteArray.size_append]
  have hread := fun w hE => D.read A p 0 fl w hE (by omega) (by decide) (by decide)
  have hread2 := fun w hE => D.read A (ahead ++ p ++ behind) ahead.size fl w hE (by omega) (by rw [show IntKind.i64.min = -9223372036854775808 by decide]; omega) (by rw [show IntKind.i64.max = 9223372036854775807 by decide]; omega)
  rw [hR] at hread
  rw [hR2] at hread2
  have HL := Lib.hid (brlives_any D A w hE hT)
  have HD1 := Lib.hid hread; have HD2 := Lib.hid hread2
  have HE := Lib.hid hE; have HT := Lib.hid hT
  have g1 : decide (ahead.size > 5000) = false := by simp; omega
  have g2 : decide (p.size > 5000) = false := by simp; omega
  have g3 : decide ((5000 : Int) < ahead.size) = false := by simp; omega
  have g4 : decide ((5000 : Int) < p.size) = false := by simp; omega
  clear hread hread2 D hE hT hsz
  have _ := hpl0; have _ := hpl1
  have wpl : IntKind.i64.wrap (pl + ahead.size) = pl + ahead.size := IntWalk.i64_in _ (by omega)
  have g5 : decide (p.size > 2) = false := by simpa using hx
  have g6 : decide ((2 : Int) < p.size) = false := by simp; omega
  clear hR hR2
  clear hx
  go_enter Tryd.func4, Tryd.ntmps4
  go_wp2_with fail
  refine HL.out.mono ?_; rintro e w1 ⟨rfl, hb1⟩
  have HB1 := Lib.hid hb1; have HE1 := Lib.hid (HE.out.below hb1); have HT1 := Lib.hid (HT.out.later hb1)
  clear hb1
  go_wp2_with fail
  refine (HD1.out _ HE1.out).mono ?_
  intro e w2 he2
  obtain ⟨v, rfl, hv, hb2⟩ := he2.err rfl
  obtain ⟨t, q, rfl⟩ := hv.iface
  have hb2' := HB1.out.trans (hb2.mono HB1.out.size)
  have HB2 : Hid (Below w.heap.size w (w2.alloc (.cells #[.int .u64 0, .int .u64 0, .int .u64 0, .int .u64 0] 25))) := Lib.hid (hb2'.alloc hb2'.size _)
  have hbB : Below w1.heap.size w1 (w2.alloc (.cells #[.int .u64 0, .int .u64 0, .int .u64 0, .int .u64 0] 25)) := hb2.alloc hb2.size _
  have HE2 := Lib.hid (HE1.out.below hbB); have HT2 := Lib.hid (HT1.out.later hbB)
  have Z9 : Hid ((w2.alloc (.cells #[.int .u64 0, .int .u64 0, .int .u64 0, .int .u64 0] 25)).heap[w2.heap.size]? = some (.cells #[.int .u64 0, .int .u64 0, .int .u64 0, .int .u64 0] 25)) := Lib.hid (heap_alloc_new w2 _)
  have HV2 : Hid (ErrAt A (w2.alloc (.cells #[.int .u64 0, .int .u64 0, .int .u64 0, .int .u64 0] 25)) (.iface t q) 5 pl) := Lib.hid (hv.later ((Below.refl w2.heap.size w2).alloc (Nat.le_refl _) _))
  clear he2 hb2 hb2' hbB hv
  go_wp2_with fail
  refine (HD2.out _ HE2.out).mono ?_
  intro e w3 he3
  obtain ⟨v', rfl, hv', hb3⟩ := he3.err rfl
  obtain ⟨t', q', rfl⟩ := hv'.iface
  have hb3' := HB2.out.trans (hb3.mono HB2.out.size)
  have HB3 : Hid (Below w.heap.size w (w3.alloc (.cells #[.int .u64 0, .int .u64 0, .int .u64 0, .int .u64 0] 25))) := Lib.hid (hb3'.alloc hb3'.size _)
  have hbC : Below (w2.alloc (.cells #[.int .u64 0, .int .u64 0, .int .u64 0, .int .u64 0] 25)).heap.size (w2.alloc (.cells #[.int .u64 0, .int .u64 0, .int .u64 0, .int .u64 0] 25)) (w3.alloc (.cells #[.int .u64 0, .int .u64 0, .int .u64 0, .int .u64 0] 25)) := hb3.alloc hb3.size _
  have HE3 := Lib.hid (HE2.out.below hbC); have HT3 := Lib.hid (HT2.out.later hbC)
  have Z9c := Lib.hid (keep_blk hbC Z9.out)
  have Z12 : Hid ((w3.alloc (.cells #[.int .u64 0, .int .u64 0, .int .u64 0, .int .u64 0] 25)).heap[w3.heap.size]? = some (.cells #[.int .u64 0, .int .u64 0, .int .u64 0, .int .u64 0] 25)) := Lib.hid (heap_alloc_new w3 _)
  have HV3 := Lib.hid (HV2.out.later hbC)
  have HU3 : Hid (ErrAt A (w3.alloc (.cells #[.int .u64 0, .int .u64 0, .int .u64 0, .int .u64 0] 25)) (.iface t' q') 5 (pl + ahead.size)) := Lib.hid (hv'.later ((Below.refl w3.heap.size w3).alloc (Nat.le_refl _) _))
  clear he3 hb3 hb3' hbC Z9 hv'
  go_wp2_with fail
  refine (HV3.out.num HE3.out).mono ?_; rintro e w4 ⟨rfl, hb4⟩
  have HB4 := Lib.hid (HB3.out.trans (hb4.mono HB3.out.size)); have HE4 := Lib.hid (HE3.out.below hb4); have HT4 := Lib.hid (HT3.out.later hb4); have HV4 := Lib.hid (HV3.out.later hb4)
  have HU4 := Lib.hid (HU3.out.later hb4)
  clear hb4
  go_wp2_with fail
  refine (HU4.out.num HE4.out).mono ?_; rintro e w5 ⟨rfl, hb5⟩
  have HB5 := Lib.hid (HB4.out.trans (hb5.mono HB4.out.size)); have HE5 := Lib.hid (HE4.out.below hb5); have HT5 := Lib.hid (HT4.out.later hb5); have HV5 := Lib.hid (HV4.out.later hb5)
  have HU5 := Lib.hid (HU4.out.later hb5)
  clear hb5
  go_wp2_with fail
  refine (HU5.out.place HT5.out).mono ?_; rintro e w6 ⟨rfl, hb6⟩
  have HB6 := Lib.hid (HB5.out.trans (hb6.mono HB5.out.size)); have HE6 := Lib.hid (HE5.out.below hb6); have HT6 := Lib.hid (HT5.out.later hb6); have HV6 := Lib.hid (HV5.out.later hb6)
  have HU6 := Lib.hid (HU5.out.later hb6)
  clear hb6
  go_wp2_with fail
  refine (HV6.out.place HT6.out).mono ?_; rintro e w7 ⟨rfl, hb7⟩
  have HB7 := Lib.hid (HB6.out.trans (hb7.mono HB6.out.size)); have HE7 := Lib.hid (HE6.out.below hb7); have HT7 := Lib.hid (HT6.out.later hb7); have HV7 := Lib.hid (HV6.out.later hb7)
  clear hb7
  go_wp2
  go_ret
  exact ⟨rfl, HB7.out⟩
set_option maxRecDepth 100000 in
set_option maxHeartbeats 4000000 in
theorem brstays_5b (D : BrDoes) (A : Nat → Addr) (p ahead behind : ByteArray) (fl : Int) (w : World) (hE : BrEnv w A) (hT : ErrType w) (hp : p.size ≤ 5000) (ha : ahead.size ≤ 5000) (hb : behind.size ≤ 4294957000) (pl : Int) (hpl0 : 0 ≤ pl) (hpl1 : pl ≤ 5010) (hR : rdI p 0 (icB fl) (nlB fl) = .err 5 pl) (hR2 : rdI (ahead ++ p ++ behind) ahead.size (icB fl) (nlB fl) = .err 5 (pl + ahead.size)) (h2 : 2 < p.size) (hx : bt p (p.size - 1) ≠ 91) :
    Calls Tryd.prog 4 #[.string p, .string ahead, .string behind, .int .i64 fl] w fun e w' => e = .returned (.bool true) ∧ Below w.heap.size w w' := by
  have he := eq4
  have hsz : (ahead ++ p ++ behind).size = ahead.size + p.size + behind.size := by rw [ByteArray.size_append, ByteArray.size_append]
  have hread := fun w hE => D.read A p 0 fl w hE (by omega) (by decide) (by decide)
  have hread2 := fun w hE => D.read A (ahead ++ p ++ behind) ahead.size fl w hE (by omega) (by rw [show IntKind.i64.min = -9223372036854775808 by decide]; omega) (by rw [show IntKind.i64.max = 9223372036854775807 by decide]; omega)
  rw [hR] at hread
  rw [hR2] at hread2
  have HL := Lib.hid (brlives_any D A w hE hT)
  have HD1 := Lib.hid hread; have HD2 := Lib.hid hread2
  have HE := Lib.hid hE; have HT := Lib.hid hT
  have g1 : decide (ahead.size > 5000) = false := by simp; omega
  have g2 : decide (p.size > 5000) = false := by simp; omega
  have g3 : decide ((5000 : Int) < ahead.size) = false := by simp; omega
  have g4 : decide ((5000 : Int) < p.size) = false := by simp; omega
  clear hread hread2 D hE hT hsz
  have _ := hpl0; have _ := hpl1
  have wpl : IntKind.i64.wrap (pl + ahead.size) = pl + ahead.size := IntWalk.i64_in _ (by omega)
  have p1 : (1 : Int) ≤ p.size := by omega
  have p2 : ((p.size : Int) - 1).toNat = p.size - 1 := by omega
  have p3 : p.size - 1 < p.size := by omega
  have p4 : (0 : Int) ≤ (p.size : Int) - 1 := by omega
  have wm1 : IntKind.i64.wrap ((p.size : Int) - 1) = (p.size : Int) - 1 := IntWalk.i64_in _ (by omega)
  have wm3 : IntKind.i64.wrap ((p.size : Int) - 3) = (p.size : Int) - 3 := IntWalk.i64_in _ (by omega)
  have wm4 : IntKind.i64.wrap ((p.size : Int) - 1 + ahead.size) = (p.size : Int) - 1 + ahead.size := IntWalk.i64_in _ (by omega)
  have g5 : decide (p.size > 2) = true := by simpa using h2
  have g6 : decide ((2 : Int) < p.size) = true := by simp; omega
  have e91 : ((p[p.size - 1].toNat : Int) == 91) = false := by rw [bt_at p3]; simp; omega
  clear hR hR2 h2
  clear hx
  go_enter Tryd.func4, Tryd.ntmps4
  go_wp2_with fail
  refine HL.out.mono ?_; rintro e w1 ⟨rfl, hb1⟩
  have HB1 := Lib.hid hb1; have HE1 := Lib.hid (HE.out.below hb1); have HT1 := Lib.hid (HT.out.later hb1)
  clear hb1
  go_wp2_with fail
  refine (HD1.out _ HE1.out).mono ?_
  intro e w2 he2
  obtain ⟨v, rfl, hv, hb2⟩ := he2.err rfl
  obtain ⟨t, q, rfl⟩ := hv.iface
  have hb2' := HB1.out.trans (hb2.mono HB1.out.size)
  have HB2 : Hid (Below w.heap.size w (w2.alloc (.cells #[.int .u64 0, .int .u64 0, .int .u64 0, .int .u64 0] 25))) := Lib.hid (hb2'.alloc hb2'.size _)
  have hbB : Below w1.heap.size w1 (w2.alloc (.cells #[.int .u64 0, .int .u64 0, .int .u64 0, .int .u64 0] 25)) := hb2.alloc hb2.size _
  have HE2 := Lib.hid (HE1.out.below hbB); have HT2 := Lib.hid (HT1.out.later hbB)
  have Z9 : Hid ((w2.alloc (.cells #[.int .u64 0, .int .u64 0, .int .u64 0, .int .u64 0] 25)).heap[w2.heap.size]? = some (.cells #[.int .u64 0, .int .u64 0, .int .u64 0, .int .u64 0] 25)) := Lib.hid (heap_alloc_new w2 _)
  have HV2 : Hid (ErrAt A (w2.alloc (.cells #[.int .u64 0, .int .u64 0, .int .u64 0, .int .u64 0] 25)) (.iface t q) 5 pl) := Lib.hid (hv.later ((Below.refl w2.heap.size w2).alloc (Nat.le_refl _) _))
  clear he2 hb2 hb2' hbB hv
  go_wp2_with fail
  refine (HD2.out _ HE2.out).mono ?_
  intro e w3 he3
  obtain ⟨v', rfl, hv', hb3⟩ := he3.err rfl
  obtain ⟨t', q', rfl⟩ := hv'.iface
  have hb3' := HB2.out.trans (hb3.mono HB2.out.size)
  have HB3 : Hid (Below w.heap.size w (w3.alloc (.cells #[.int .u64 0, .int .u64 0, .int .u64 0, .int .u64 0] 25))) := Lib.hid (hb3'.alloc hb3'.size _)
  have hbC : Below (w2.alloc (.cells #[.int .u64 0, .int .u64 0, .int .u64 0, .int .u64 0] 25)).heap.size (w2.alloc (.cells #[.int .u64 0, .int .u64 0, .int .u64 0, .int .u64 0] 25)) (w3.alloc (.cells #[.int .u64 0, .int .u64 0, .int .u64 0, .int .u64 0] 25)) := hb3.alloc hb3.size _
  have HE3 := Lib.hid (HE2.out.below hbC); have HT3 := Lib.hid (HT2.out.later hbC)
  have Z9c := Lib.hid (keep_blk hbC Z9.out)
  have Z12 : Hid ((w3.alloc (.cells #[.int .u64 0, .int .u64 0, .int .u64 0, .int .u64 0] 25)).heap[w3.heap.size]? = some (.cells #[.int .u64 0, .int .u64 0, .int .u64 0, .int .u64 0] 25)) := Lib.hid (heap_alloc_new w3 _)
  have HV3 := Lib.hid (HV2.out.later hbC)
  have HU3 : Hid (ErrAt A (w3.alloc (.cells #[.int .u64 0, .int .u64 0, .int .u64 0, .int .u64 0] 25)) (.iface t' q') 5 (pl + ahead.size)) := Lib.hid (hv'.later ((Below.refl w3.heap.size w3).alloc (Nat.le_refl _) _))
  clear he3 hb3 hb3' hbC Z9 hv'
  go_wp2_with fail
  refine (HV3.out.num HE3.out).mono ?_; rintro e w4 ⟨rfl, hb4⟩
  have HB4 := Lib.hid (HB3.out.trans (hb4.mono HB3.out.size)); have HE4 := Lib.hid (HE3.out.below hb4); have HT4 := Lib.hid (HT3.out.later hb4); have HV4 := Lib.hid (HV3.out.later hb4)
  have HU4 := Lib.hid (HU3.out.later hb4)
  clear hb4
  go_wp2_with fail
  refine (HU4.out.num HE4.out).mono ?_; rintro e w5 ⟨rfl, hb5⟩
  have HB5 := Lib.hid (HB4.out.trans (hb5.mono HB4.out.size)); have HE5 := Lib.hid (HE4.out.below hb5); have HT5 := Lib.hid (HT4.out.later hb5); have HV5 := Lib.hid (HV4.out.later hb5)
  have HU5 := Lib.hid (HU4.out.later hb5)
  clear hb5
  go_wp2_with fail
  refine (HU5.out.place HT5.out).mono ?_; rintro e w6 ⟨rfl, hb6⟩
  have HB6 := Lib.hid (HB5.out.trans (hb6.mono HB5.out.size)); have HE6 := Lib.hid (HE5.out.below hb6); have HT6 := Lib.hid (HT5.out.later hb6); have HV6 := Lib.hid (HV5.out.later hb6)
  have HU6 := Lib.hid (HU5.out.later hb6)
  clear hb6
  go_wp2_with fail
  refine (HV6.out.place HT6.out).mono ?_; rintro e w7 ⟨rfl, hb7⟩
  have HB7 := Lib.hid (HB6.out.trans (hb7.mono HB6.out.size)); have HE7 := Lib.hid (HE6.out.below hb7); have HT7 := Lib.hid (HT6.out.later hb7); have HV7 := Lib.hid (HV6.out.later hb7)
  clear hb7
  go_wp2
  go_ret
  exact ⟨rfl, HB7.out⟩
set_option maxRecDepth 100000 in
set_option maxHeartbeats 4000000 in
theorem brstays_5c (D : BrDoes) (A : Nat → Addr) (p ahead behind : ByteArray) (fl : Int) (w : World) (hE : BrEnv w A) (hT : ErrType w) (hp : p.size ≤ 5000) (ha : ahead.size ≤ 5000) (hb : behind.size ≤ 4294957000) (pl : Int) (hpl0 : 0 ≤ pl) (hpl1 : pl ≤ 5010) (hR : rdI p 0 (icB fl) (nlB fl) = .err 5 pl) (hR2 : rdI (ahead ++ p ++ behind) ahead.size (icB fl) (nlB fl) = .err 5 (pl + ahead.size)) (h2 : 2 < p.size) (h91 : bt p (p.size - 1) = 91) (hx : pl ≠ (p.size : Int) - 3) :
    Calls Tryd.prog 4 #[.string p, .string ahead, .string behind, .int .i64 fl] w fun e w' => e = .returned (.bool true) ∧ Below w.heap.size w w' := by
  have he := eq4
  have hsz : (ahead ++ p ++ behind).size = ahead.size + p.size + behind.size := by rw [ByteArray.size_append, ByteArray.size_append]
  have hread := fun w hE => D.read A p 0 fl w hE (by omega) (by decide) (by decide)
  have hread2 := fun w hE => D.read A (ahead ++ p ++ behind) ahead.size fl w hE (by omega) (by rw [show IntKind.i64.min = -9223372036854775808 by decide]; omega) (by rw [show IntKind.i64.max = 9223372036854775807 by decide]; omega)
  rw [hR] at hread
  rw [hR2] at hread2
  have HL := Lib.hid (brlives_any D A w hE hT)
  have HD1 := Lib.hid hread; have HD2 := Lib.hid hread2
  have HE := Lib.hid hE; have HT := Lib.hid hT
  have g1 : decide (ahead.size > 5000) = false := by simp; omega
  have g2 : decide (p.size > 5000) = false := by simp; omega
  have g3 : decide ((5000 : Int) < ahead.size) = false := by simp; omega
  have g4 : decide ((5000 : Int) < p.size) = false := by simp; omega
  clear hread hread2 D hE hT hsz
  have _ := hpl0; have _ := hpl1
  have wpl : IntKind.i64.wrap (pl + ahead.size) = pl + ahead.size := IntWalk.i64_in _ (by omega)
  have p1 : (1 : Int) ≤ p.size := by omega
  have p2 : ((p.size : Int) - 1).toNat = p.size - 1 := by omega
  have p3 : p.size - 1 < p.size := by omega
  have p4 : (0 : Int) ≤ (p.size : Int) - 1 := by omega
  have wm1 : IntKind.i64.wrap ((p.size : Int) - 1) = (p.size : Int) - 1 := IntWalk.i64_in _ (by omega)
  have wm3 : IntKind.i64.wrap ((p.size : Int) - 3) = (p.size : Int) - 3 := IntWalk.i64_in _ (by omega)
  have wm4 : IntKind.i64.wrap ((p.size : Int) - 1 + ahead.size) = (p.size : Int) - 1 + ahead.size := IntWalk.i64_in _ (by omega)
  have g5 : decide (p.size > 2) = true := by simpa using h2
  have g6 : decide ((2 : Int) < p.size) = true := by simp; omega
  have e91 : ((p[p.size - 1].toNat : Int) == 91) = true := by rw [bt_at p3, h91]; rfl
  have e3 : (pl == (p.size : Int) - 3) = false := by simpa using hx
  clear hR hR2 h2 h91
  clear hx
  go_enter Tryd.func4, Tryd.ntmps4
  go_wp2_with fail
  refine HL.out.mono ?_; rintro e w1 ⟨rfl, hb1⟩
  have HB1 := Lib.hid hb1; have HE1 := Lib.hid (HE.out.below hb1); have HT1 := Lib.hid (HT.out.later hb1)
  clear hb1
  go_wp2_with fail
  refine (HD1.out _ HE1.out).mono ?_
  intro e w2 he2
  obtain ⟨v, rfl, hv, hb2⟩ := he2.err rfl
  obtain ⟨t, q, rfl⟩ := hv.iface
  have hb2' := HB1.out.trans (hb2.mono HB1.out.size)
  have HB2 : Hid (Below w.heap.size w (w2.alloc (.cells #[.int .u64 0, .int .u64 0, .int .u64 0, .int .u64 0] 25))) := Lib.hid (hb2'.alloc hb2'.size _)
  have hbB : Below w1.heap.size w1 (w2.alloc (.cells #[.int .u64 0, .int .u64 0, .int .u64 0, .int .u64 0] 25)) := hb2.alloc hb2.size _
  have HE2 := Lib.hid (HE1.out.below hbB); have HT2 := Lib.hid (HT1.out.later hbB)
  have Z9 : Hid ((w2.alloc (.cells #[.int .u64 0, .int .u64 0, .int .u64 0, .int .u64 0] 25)).heap[w2.heap.size]? = some (.cells #[.int .u64 0, .int .u64 0, .int .u64 0, .int .u64 0] 25)) := Lib.hid (heap_alloc_new w2 _)
  have HV2 : Hid (ErrAt A (w2.alloc (.cells #[.int .u64 0, .int .u64 0, .int .u64 0, .int .u64 0] 25)) (.iface t q) 5 pl) := Lib.hid (hv.later ((Below.refl w2.heap.size w2).alloc (Nat.le_refl _) _))
  clear he2 hb2 hb2' hbB hv
  go_wp2_with fail
  refine (HD2.out _ HE2.out).mono ?_
  intro e w3 he3
  obtain ⟨v', rfl, hv', hb3⟩ := he3.err rfl
  obtain ⟨t', q', rfl⟩ := hv'.iface
  have hb3' := HB2.out.trans (hb3.mono HB2.out.size)
  have HB3 : Hid (Below w.heap.size w (w3.alloc (.cells #[.int .u64 0, .int .u64 0, .int .u64 0, .int .u64 0] 25))) := Lib.hid (hb3'.alloc hb3'.size _)
  have hbC : Below (w2.alloc (.cells #[.int .u64 0, .int .u64 0, .int .u64 0, .int .u64 0] 25)).heap.size (w2.alloc (.cells #[.int .u64 0, .int .u64 0, .int .u64 0, .int .u64 0] 25)) (w3.alloc (.cells #[.int .u64 0, .int .u64 0, .int .u64 0, .int .u64 0] 25)) := hb3.alloc hb3.size _
  have HE3 := Lib.hid (HE2.out.below hbC); have HT3 := Lib.hid (HT2.out.later hbC)
  have Z9c := Lib.hid (keep_blk hbC Z9.out)
  have Z12 : Hid ((w3.alloc (.cells #[.int .u64 0, .int .u64 0, .int .u64 0, .int .u64 0] 25)).heap[w3.heap.size]? = some (.cells #[.int .u64 0, .int .u64 0, .int .u64 0, .int .u64 0] 25)) := Lib.hid (heap_alloc_new w3 _)
  have HV3 := Lib.hid (HV2.out.later hbC)
  have HU3 : Hid (ErrAt A (w3.alloc (.cells #[.int .u64 0, .int .u64 0, .int .u64 0, .int .u64 0] 25)) (.iface t' q') 5 (pl + ahead.size)) := Lib.hid (hv'.later ((Below.refl w3.heap.size w3).alloc (Nat.le_refl _) _))
  clear he3 hb3 hb3' hbC Z9 hv'
  go_wp2_with fail
  refine (HV3.out.num HE3.out).mono ?_; rintro e w4 ⟨rfl, hb4⟩
  have HB4 := Lib.hid (HB3.out.trans (hb4.mono HB3.out.size)); have HE4 := Lib.hid (HE3.out.below hb4); have HT4 := Lib.hid (HT3.out.later hb4); have HV4 := Lib.hid (HV3.out.later hb4)
  have HU4 := Lib.hid (HU3.out.later hb4)
  clear hb4
  go_wp2_with fail
  refine (HV4.out.place HT4.out).mono ?_; rintro e w5 ⟨rfl, hb5⟩
  have HB5 := Lib.hid (HB4.out.trans (hb5.mono HB4.out.size)); have HE5 := Lib.hid (HE4.out.below hb5); have HT5 := Lib.hid (HT4.out.later hb5); have HV5 := Lib.hid (HV4.out.later hb5)
  have HU5 := Lib.hid (HU4.out.later hb5)
  clear hb5
  go_wp2_with fail
  refine (HU5.out.num HE5.out).mono ?_; rintro e w6 ⟨rfl, hb6⟩
  have HB6 := Lib.hid (HB5.out.trans (hb6.mono HB5.out.size)); have HE6 := Lib.hid (HE5.out.below hb6); have HT6 := Lib.hid (HT5.out.later hb6); have HV6 := Lib.hid (HV5.out.later hb6)
  have HU6 := Lib.hid (HU5.out.later hb6)
  clear hb6
  go_wp2_with fail
  refine (HU6.out.place HT6.out).mono ?_; rintro e w7 ⟨rfl, hb7⟩
  have HB7 := Lib.hid (HB6.out.trans (hb7.mono HB6.out.size)); have HE7 := Lib.hid (HE6.out.below hb7); have HT7 := Lib.hid (HT6.out.later hb7); have HV7 := Lib.hid (HV6.out.later hb7)
  have HU7 := Lib.hid (HU6.out.later hb7)
  clear hb7
  go_wp2_with fail
  refine (HV7.out.place HT7.out).mono ?_; rintro e w8 ⟨rfl, hb8⟩
  have HB8 := Lib.hid (HB7.out.trans (hb8.mono HB7.out.size)); have HE8 := Lib.hid (HE7.out.below hb8); have HT8 := Lib.hid (HT7.out.later hb8); have HV8 := Lib.hid (HV7.out.later hb8)
  clear hb8
  go_wp2
  go_ret
  exact ⟨rfl, HB8.out⟩
set_option maxRecDepth 100000 in
set_option maxHeartbeats 4000000 in
theorem brstays_5d (D : BrDoes) (A : Nat → Addr) (p ahead behind : ByteArray) (fl : Int) (w : World) (hE : BrEnv w A) (hT : ErrType w) (hp : p.size ≤ 5000) (ha : ahead.size ≤ 5000) (hb : behind.size ≤ 4294957000) (pl : Int) (hpl0 : 0 ≤ pl) (hpl1 : pl ≤ 5010) (hR : rdI p 0 (icB fl) (nlB fl) = .err 5 pl) (hR2 : rdI (ahead ++ p ++ behind) ahead.size (icB fl) (nlB fl) = .err 5 (pl + ahead.size)) (h2 : 2 < p.size) (h91 : bt p (p.size - 1) = 91) (h3 : pl = (p.size : Int) - 3) (hx : behind.size = 0) :
    Calls Tryd.prog 4 #[.string p, .string ahead, .string behind, .int .i64 fl] w fun e w' => e = .returned (.bool true) ∧ Below w.heap.size w w' := by
  have he := eq4
  have hsz : (ahead ++ p ++ behind).size = ahead.size + p.size + behind.size := by rw [ByteArray.size_append, ByteArray.size_append]
  have hread := fun w hE => D.read A p 0 fl w hE (by omega) (by decide) (by decide)
  have hread2 := fun w hE => D.read A (ahead ++ p ++ behind) ahead.size fl w hE (by omega) (by rw [show IntKind.i64.min = -9223372036854775808 by decide]; omega) (by rw [show IntKind.i64.max = 9223372036854775807 by decide]; omega)
  rw [hR] at hread
  rw [hR2] at hread2
  have HL := Lib.hid (brlives_any D A w hE hT)
  have HD1 := Lib.hid hread; have HD2 := Lib.hid hread2
  have HE := Lib.hid hE; have HT := Lib.hid hT
  have g1 : decide (ahead.size > 5000) = false := by simp; omega
  have g2 : decide (p.size > 5000) = false := by simp; omega
  have g3 : decide ((5000 : Int) < ahead.size) = false := by simp; omega
  have g4 : decide ((5000 : Int) < p.size) = false := by simp; omega
  clear hread hread2 D hE hT hsz
  have _ := hpl0; have _ := hpl1
  have wpl : IntKind.i64.wrap (pl + ahead.size) = pl + ahead.size := IntWalk.i64_in _ (by omega)
  have p1 : (1 : Int) ≤ p.size := by omega
  have p2 : ((p.size : Int) - 1).toNat = p.size - 1 := by omega
  have p3 : p.size - 1 < p.size := by omega
  have p4 : (0 : Int) ≤ (p.size : Int) - 1 := by omega
  have wm1 : IntKind.i64.wrap ((p.size : Int) - 1) = (p.size : Int) - 1 := IntWalk.i64_in _ (by omega)
  have wm3 : IntKind.i64.wrap ((p.size : Int) - 3) = (p.size : Int) - 3 := IntWalk.i64_in _ (by omega)
  have wm4 : IntKind.i64.wrap ((p.size : Int) - 1 + ahead.size) = (p.size : Int) - 1 + ahead.size := IntWalk.i64_in _ (by omega)
  have g5 : decide (p.size > 2) = true := by simpa using h2
  have g6 : decide ((2 : Int) < p.size) = true := by simp; omega
  have e91 : ((p[p.size - 1].toNat : Int) == 91) = true := by rw [bt_at p3, h91]; rfl
  have e3 : (pl == (p.size : Int) - 3) = true := by simpa using h3
  have hl : behind.toList = [] := by rw [toList_eq]; exact Array.toList_eq_nil_iff.2 (Array.size_eq_zero_iff.1 hx)
  have l1 : behind.toList.isEmpty = true := by rw [hl]; rfl
  have l2 : (behind.toList == []) = true := by rw [hl]; rfl
  have l3 : (behind.toList != []) = false := by rw [hl]; rfl
  clear hR hR2 h2 h91 h3
  clear hx
  clear hl
  go_enter Tryd.func4, Tryd.ntmps4
  go_wp2_with fail
  refine HL.out.mono ?_; rintro e w1 ⟨rfl, hb1⟩
  have HB1 := Lib.hid hb1; have HE1 := Lib.hid (HE.out.below hb1); have HT1 := Lib.hid (HT.out.later hb1)
  clear hb1
  go_wp2_with fail
  refine (HD1.out _ HE1.out).mono ?_
  intro e w2 he2
  obtain ⟨v, rfl, hv, hb2⟩ := he2.err rfl
  obtain ⟨t, q, rfl⟩ := hv.iface
  have hb2' := HB1.out.trans (hb2.mono HB1.out.size)
  have HB2 : Hid (Below w.heap.size w (w2.alloc (.cells #[.int .u64 0, .int .u64 0, .int .u64 0, .int .u64 0] 25))) := Lib.hid (hb2'.alloc hb2'.size _)
  have hbB : Below w1.heap.size w1 (w2.alloc (.cells #[.int .u64 0, .int .u64 0, .int .u64 0, .int .u64 0] 25)) := hb2.alloc hb2.size _
  have HE2 := Lib.hid (HE1.out.below hbB); have HT2 := Lib.hid (HT1.out.later hbB)
  have Z9 : Hid ((w2.alloc (.cells #[.int .u64 0, .int .u64 0, .int .u64 0, .int .u64 0] 25)).heap[w2.heap.size]? = some (.cells #[.int .u64 0, .int .u64 0, .int .u64 0, .int .u64 0] 25)) := Lib.hid (heap_alloc_new w2 _)
  have HV2 : Hid (ErrAt A (w2.alloc (.cells #[.int .u64 0, .int .u64 0, .int .u64 0, .int .u64 0] 25)) (.iface t q) 5 pl) := Lib.hid (hv.later ((Below.refl w2.heap.size w2).alloc (Nat.le_refl _) _))
  clear he2 hb2 hb2' hbB hv
  go_wp2_with fail
  refine (HD2.out _ HE2.out).mono ?_
  intro e w3 he3
  obtain ⟨v', rfl, hv', hb3⟩ := he3.err rfl
  obtain ⟨t', q', rfl⟩ := hv'.iface
  have hb3' := HB2.out.trans (hb3.mono HB2.out.size)
  have HB3 : Hid (Below w.heap.size w (w3.alloc (.cells #[.int .u64 0, .int .u64 0, .int .u64 0, .int .u64 0] 25))) := Lib.hid (hb3'.alloc hb3'.size _)
  have hbC : Below (w2.alloc (.cells #[.int .u64 0, .int .u64 0, .int .u64 0, .int .u64 0] 25)).heap.size (w2.alloc (.cells #[.int .u64 0, .int .u64 0, .int .u64 0, .int .u64 0] 25)) (w3.alloc (.cells #[.int .u64 0, .int .u64 0, .int .u64 0, .int .u64 0] 25)) := hb3.alloc hb3.size _
  have HE3 := Lib.hid (HE2.out.below hbC); have HT3 := Lib.hid (HT2.out.later hbC)
  have Z9c := Lib.hid (keep_blk hbC Z9.out)
  have Z12 : Hid ((w3.alloc (.cells #[.int .u64 0, .int .u64 0, .int .u64 0, .int .u64 0] 25)).heap[w3.heap.size]? = some (.cells #[.int .u64 0, .int .u64 0, .int .u64 0, .int .u64 0] 25)) := Lib.hid (heap_alloc_new w3 _)
  have HV3 := Lib.hid (HV2.out.later hbC)
  have HU3 : Hid (ErrAt A (w3.alloc (.cells #[.int .u64 0, .int .u64 0, .int .u64 0, .int .u64 0] 25)) (.iface t' q') 5 (pl + ahead.size)) := Lib.hid (hv'.later ((Below.refl w3.heap.size w3).alloc (Nat.le_refl _) _))
  clear he3 hb3 hb3' hbC Z9 hv'
  go_wp2_with fail
  refine (HV3.out.num HE3.out).mono ?_; rintro e w4 ⟨rfl, hb4⟩
  have HB4 := Lib.hid (HB3.out.trans (hb4.mono HB3.out.size)); have HE4 := Lib.hid (HE3.out.below hb4); have HT4 := Lib.hid (HT3.out.later hb4); have HV4 := Lib.hid (HV3.out.later hb4)
  have HU4 := Lib.hid (HU3.out.later hb4)
  clear hb4
  go_wp2_with fail
  refine (HV4.out.place HT4.out).mono ?_; rintro e w5 ⟨rfl, hb5⟩
  have HB5 := Lib.hid (HB4.out.trans (hb5.mono HB4.out.size)); have HE5 := Lib.hid (HE4.out.below hb5); have HT5 := Lib.hid (HT4.out.later hb5); have HV5 := Lib.hid (HV4.out.later hb5)
  have HU5 := Lib.hid (HU4.out.later hb5)
  clear hb5
  go_wp2_with fail
  refine (HU5.out.num HE5.out).mono ?_; rintro e w6 ⟨rfl, hb6⟩
  have HB6 := Lib.hid (HB5.out.trans (hb6.mono HB5.out.size)); have HE6 := Lib.hid (HE5.out.below hb6); have HT6 := Lib.hid (HT5.out.later hb6); have HV6 := Lib.hid (HV5.out.later hb6)
  have HU6 := Lib.hid (HU5.out.later hb6)
  clear hb6
  go_wp2_with fail
  refine (HU6.out.place HT6.out).mono ?_; rintro e w7 ⟨rfl, hb7⟩
  have HB7 := Lib.hid (HB6.out.trans (hb7.mono HB6.out.size)); have HE7 := Lib.hid (HE6.out.below hb7); have HT7 := Lib.hid (HT6.out.later hb7); have HV7 := Lib.hid (HV6.out.later hb7)
  have HU7 := Lib.hid (HU6.out.later hb7)
  clear hb7
  go_wp2_with fail
  refine (HV7.out.place HT7.out).mono ?_; rintro e w8 ⟨rfl, hb8⟩
  have HB8 := Lib.hid (HB7.out.trans (hb8.mono HB7.out.size)); have HE8 := Lib.hid (HE7.out.below hb8); have HT8 := Lib.hid (HT7.out.later hb8); have HV8 := Lib.hid (HV7.out.later hb8)
  clear hb8
  go_wp2
  go_ret
  exact ⟨rfl, HB8.out⟩
set_option maxRecDepth 100000 in
set_option maxHeartbeats 4000000 in
theorem brstays_5e (D : BrDoes) (A : Nat → Addr) (p ahead behind : ByteArray) (fl : Int) (w : World) (hE : BrEnv w A) (hT : ErrType w) (hp : p.size ≤ 5000) (ha : ahead.size ≤ 5000) (hb : behind.size ≤ 4294957000) (pl : Int) (hpl0 : 0 ≤ pl) (hpl1 : pl ≤ 5010) (hR : rdI p 0 (icB fl) (nlB fl) = .err 5 pl) (hR2 : rdI (ahead ++ p ++ behind) ahead.size (icB fl) (nlB fl) = .err 5 (pl + ahead.size)) (h2 : 2 < p.size) (h91 : bt p (p.size - 1) = 91) (h3 : pl = (p.size : Int) - 3) (hb0 : 0 < behind.size) (hx : ¬ (bt behind 0 = 46 ∨ bt behind 0 = 61)) :
    Calls Tryd.prog 4 #[.string p, .string ahead, .string behind, .int .i64 fl] w fun e w' => e = .returned (.bool true) ∧ Below w.heap.size w w' := by
  have he := eq4
  have hsz : (ahead ++ p ++ behind).size = ahead.size + p.size + behind.size := by rw [ByteArray.size_append, ByteArray.size_append]
  have hread := fun w hE => D.read A p 0 fl w hE (by omega) (by decide) (by decide)
  have hread2 := fun w hE => D.read A (ahead ++ p ++ behind) ahead.size fl w hE (by omega) (by rw [show IntKind.i64.min = -9223372036854775808 by decide]; omega) (by rw [show IntKind.i64.max = 9223372036854775807 by decide]; omega)
  rw [hR] at hread
  rw [hR2] at hread2
  have HL := Lib.hid (brlives_any D A w hE hT)
  have HD1 := Lib.hid hread; have HD2 := Lib.hid hread2
  have HE := Lib.hid hE; have HT := Lib.hid hT
  have g1 : decide (ahead.size > 5000) = false := by simp; omega
  have g2 : decide (p.size > 5000) = false := by simp; omega
  have g3 : decide ((5000 : Int) < ahead.size) = false := by simp; omega
  have g4 : decide ((5000 : Int) < p.size) = false := by simp; omega
  clear hread hread2 D hE hT hsz
  have _ := hpl0; have _ := hpl1
  have wpl : IntKind.i64.wrap (pl + ahead.size) = pl + ahead.size := IntWalk.i64_in _ (by omega)
  have p1 : (1 : Int) ≤ p.size := by omega
  have p2 : ((p.size : Int) - 1).toNat = p.size - 1 := by omega
  have p3 : p.size - 1 < p.size := by omega
  have p4 : (0 : Int) ≤ (p.size : Int) - 1 := by omega
  have wm1 : IntKind.i64.wrap ((p.size : Int) - 1) = (p.size : Int) - 1 := IntWalk.i64_in _ (by omega)
  have wm3 : IntKind.i64.wrap ((p.size : Int) - 3) = (p.size : Int) - 3 := IntWalk.i64_in _ (by omega)
  have wm4 : IntKind.i64.wrap ((p.size : Int) - 1 + ahead.size) = (p.size : Int) - 1 + ahead.size := IntWalk.i64_in _ (by omega)
  have g5 : decide (p.size > 2) = true := by simpa using h2
  have g6 : decide ((2 : Int) < p.size) = true := by simp; omega
  have e91 : ((p[p.size - 1].toNat : Int) == 91) = true := by rw [bt_at p3, h91]; rfl
  have e3 : (pl == (p.size : Int) - 3) = true := by simpa using h3
  have hl := toList_pos hb0
  have l1 : behind.toList.isEmpty = false := by simpa using hl
  have l2 : (behind.toList == []) = false := by simpa using hl
  have l3 : (behind.toList != []) = true := by simp [hl]
  have e46 : ((behind[0].toNat : Int) == 46) = false := by rw [bt_at hb0]; simp; omega
  have e61 : ((behind[0].toNat : Int) == 61) = false := by rw [bt_at hb0]; simp; omega
  clear hR hR2 h2 h91 h3
  clear hx
  clear hl
  go_enter Tryd.func4, Tryd.ntmps4
  go_wp2_with fail
  refine HL.out.mono ?_; rintro e w1 ⟨rfl, hb1⟩
  have HB1 := Lib.hid hb1; have HE1 := Lib.hid (HE.out.below hb1); have HT1 := Lib.hid (HT.out.later hb1)
  clear hb1
  go_wp2_with fail
  refine (HD1.out _ HE1.out).mono ?_
  intro e w2 he2
  obtain ⟨v, rfl, hv, hb2⟩ := he2.err rfl
  obtain ⟨t, q, rfl⟩ := hv.iface
  have hb2' := HB1.out.trans (hb2.mono HB1.out.size)
  have HB2 : Hid (Below w.heap.size w (w2.alloc (.cells #[.int .u64 0, .int .u64 0, .int .u64 0, .int .u64 0] 25))) := Lib.hid (hb2'.alloc hb2'.size _)
  have hbB : Below w1.heap.size w1 (w2.alloc (.cells #[.int .u64 0, .int .u64 0, .int .u64 0, .int .u64 0] 25)) := hb2.alloc hb2.size _
  have HE2 := Lib.hid (HE1.out.below hbB); have HT2 := Lib.hid (HT1.out.later hbB)
  have Z9 : Hid ((w2.alloc (.cells #[.int .u64 0, .int .u64 0, .int .u64 0, .int .u64 0] 25)).heap[w2.heap.size]? = some (.cells #[.int .u64 0, .int .u64 0, .int .u64 0, .int .u64 0] 25)) := Lib.hid (heap_alloc_new w2 _)
  have HV2 : Hid (ErrAt A (w2.alloc (.cells #[.int .u64 0, .int .u64 0, .int .u64 0, .int .u64 0] 25)) (.iface t q) 5 pl) := Lib.hid (hv.later ((Below.refl w2.heap.size w2).alloc (Nat.le_refl _) _))
  clear he2 hb2 hb2' hbB hv
  go_wp2_with fail
  refine (HD2.out _ HE2.out).mono ?_
  intro e w3 he3
  obtain ⟨v', rfl, hv', hb3⟩ := he3.err rfl
  obtain ⟨t', q', rfl⟩ := hv'.iface
  have hb3' := HB2.out.trans (hb3.mono HB2.out.size)
  have HB3 : Hid (Below w.heap.size w (w3.alloc (.cells #[.int .u64 0, .int .u64 0, .int .u64 0, .int .u64 0] 25))) := Lib.hid (hb3'.alloc hb3'.size _)
  have hbC : Below (w2.alloc (.cells #[.int .u64 0, .int .u64 0, .int .u64 0, .int .u64 0] 25)).heap.size (w2.alloc (.cells #[.int .u64 0, .int .u64 0, .int .u64 0, .int .u64 0] 25)) (w3.alloc (.cells #[.int .u64 0, .int .u64 0, .int .u64 0, .int .u64 0] 25)) := hb3.alloc hb3.size _
  have HE3 := Lib.hid (HE2.out.below hbC); have HT3 := Lib.hid (HT2.out.later hbC)
  have Z9c := Lib.hid (keep_blk hbC Z9.out)
  have Z12 : Hid ((w3.alloc (.cells #[.int .u64 0, .int .u64 0, .int .u64 0, .int .u64 0] 25)).heap[w3.heap.size]? = some (.cells #[.int .u64 0, .int .u64 0, .int .u64 0, .int .u64 0] 25)) := Lib.hid (heap_alloc_new w3 _)
  have HV3 := Lib.hid (HV2.out.later hbC)
  have HU3 : Hid (ErrAt A (w3.alloc (.cells #[.int .u64 0, .int .u64 0, .int .u64 0, .int .u64 0] 25)) (.iface t' q') 5 (pl + ahead.size)) := Lib.hid (hv'.later ((Below.refl w3.heap.size w3).alloc (Nat.le_refl _) _))
  clear he3 hb3 hb3' hbC Z9 hv'
  go_wp2_with fail
  refine (HV3.out.num HE3.out).mono ?_; rintro e w4 ⟨rfl, hb4⟩
  have HB4 := Lib.hid (HB3.out.trans (hb4.mono HB3.out.size)); have HE4 := Lib.hid (HE3.out.below hb4); have HT4 := Lib.hid (HT3.out.later hb4); have HV4 := Lib.hid (HV3.out.later hb4)
  have HU4 := Lib.hid (HU3.out.later hb4)
  clear hb4
  go_wp2_with fail
  refine (HV4.out.place HT4.out).mono ?_; rintro e w5 ⟨rfl, hb5⟩
  have HB5 := Lib.hid (HB4.out.trans (hb5.mono HB4.out.size)); have HE5 := Lib.hid (HE4.out.below hb5); have HT5 := Lib.hid (HT4.out.later hb5); have HV5 := Lib.hid (HV4.out.later hb5)
  have HU5 := Lib.hid (HU4.out.later hb5)
  clear hb5
  go_wp2_with fail
  refine (HU5.out.num HE5.out).mono ?_; rintro e w6 ⟨rfl, hb6⟩
  have HB6 := Lib.hid (HB5.out.trans (hb6.mono HB5.out.size)); have HE6 := Lib.hid (HE5.out.below hb6); have HT6 := Lib.hid (HT5.out.later hb6); have HV6 := Lib.hid (HV5.out.later hb6)
  have HU6 := Lib.hid (HU5.out.later hb6)
  clear hb6
  go_wp2_with fail
  refine (HU6.out.place HT6.out).mono ?_; rintro e w7 ⟨rfl, hb7⟩
  have HB7 := Lib.hid (HB6.out.trans (hb7.mono HB6.out.size)); have HE7 := Lib.hid (HE6.out.below hb7); have HT7 := Lib.hid (HT6.out.later hb7); have HV7 := Lib.hid (HV6.out.later hb7)
  have HU7 := Lib.hid (HU6.out.later hb7)
  clear hb7
  go_wp2_with fail
  refine (HV7.out.place HT7.out).mono ?_; rintro e w8 ⟨rfl, hb8⟩
  have HB8 := Lib.hid (HB7.out.trans (hb8.mono HB7.out.size)); have HE8 := Lib.hid (HE7.out.below hb8); have HT8 := Lib.hid (HT7.out.later hb8); have HV8 := Lib.hid (HV7.out.later hb8)
  clear hb8
  go_wp2
  go_ret
  exact ⟨rfl, HB8.out⟩
set_option maxRecDepth 100000 in
set_option maxHeartbeats 4000000 in
theorem brstays_biga (D : BrDoes) (A : Nat → Addr) (p ahead behind : ByteArray) (fl : Int) (w : World) (hE : BrEnv w A) (hT : ErrType w) (hx : 5000 < ahead.size) :
    Calls Tryd.prog 4 #[.string p, .string ahead, .string behind, .int .i64 fl] w fun e w' => e = .returned (.bool true) ∧ Below w.heap.size w w' := by
  have HL := Lib.hid (brlives_any D A w hE hT)
  have g1 : decide (ahead.size > 5000) = true := by simpa using hx
  have g3 : decide ((5000 : Int) < ahead.size) = true := by simp; omega
  clear hx D hE hT
  go_enter Tryd.func4, Tryd.ntmps4
  go_wp2_with fail
  refine HL.out.mono ?_; rintro e w1 ⟨rfl, hb1⟩
  have HB1 := Lib.hid hb1
  clear hb1
  go_wp2
  go_ret
  exact ⟨rfl, HB1.out⟩
set_option maxRecDepth 100000 in
set_option maxHeartbeats 4000000 in
theorem brstays_bigp (D : BrDoes) (A : Nat → Addr) (p ahead behind : ByteArray) (fl : Int) (w : World) (hE : BrEnv w A) (hT : ErrType w) (hy : ahead.size ≤ 5000) (hx : 5000 < p.size) :
    Calls Tryd.prog 4 #[.string p, .string ahead, .string behind, .int .i64 fl] w fun e w' => e = .returned (.bool true) ∧ Below w.heap.size w w' := by
  have HL := Lib.hid (brlives_any D A w hE hT)
  have g1 : decide (ahead.size > 5000) = false := by simp; omega
  have g3 : decide ((5000 : Int) < ahead.size) = false := by simp; omega
  have g2 : decide (p.size > 5000) = true := by simpa using hx
  have g4 : decide ((5000 : Int) < p.size) = true := by simp; omega
  clear hx D hE hT
  go_enter Tryd.func4, Tryd.ntmps4
  go_wp2_with fail
  refine HL.out.mono ?_; rintro e w1 ⟨rfl, hb1⟩
  have HB1 := Lib.hid hb1
  clear hb1
  go_wp2
  go_ret
  exact ⟨rfl, HB1.out⟩
theorem brstays_any (D : BrDoes) (A : Nat → Addr) (p ahead behind : ByteArray) (fl : Int) (w : World) (hE : BrEnv w A) (hT : ErrType w) (hb : behind.size ≤ 4294957000) :
    Calls Tryd.prog 4 #[.string p, .string ahead, .string behind, .int .i64 fl] w fun e w' => e = .returned (.bool true) ∧ Below w.heap.size w w' := by
  by_cases ha : ahead.size ≤ 5000
  · by_cases hp : p.size ≤ 5000
    · cases hR : rdI p 0 (icB fl) (nlB fl) with
      | ok P m =>
        obtain ⟨-, h3, -⟩ := stays_ok (ahead := ahead) (behind := behind) hR
        obtain ⟨m, rfl⟩ : ∃ k, m = k + 1 := ⟨m - 1, by omega⟩
        exact brstays_ok D A p ahead behind fl w hE hT hp ha hb P m hR
      | err c pl =>
        have hpl := fun hc => Br.read_place (f := bt p) (n := p.size) (ic := icB fl) (nl := nlB fl) hR hc
        rcases stays_err (ahead := ahead) (behind := behind) hR with ⟨rfl, rfl⟩ | ⟨rfl, rfl, h0⟩ | ⟨hc, ⟨hS, h2⟩ | ⟨hS, h2⟩⟩
        · exact brstays_open D A p ahead behind fl w hE hT hp ha hb hR
        · exact brstays_none D A p ahead behind fl w hE hT hp ha hb hR h0
        · obtain ⟨rfl, s1, s2, rfl, s3, s4⟩ := hS
          exact brstays_special D A p ahead behind fl w hE hT hp ha hb hR s1 s2 s3 s4 h2
        · obtain ⟨q0, q1⟩ := hpl (by omega)
          rcases hc with rfl | rfl | rfl
          · by_cases s1 : 2 < p.size
            · by_cases s2 : bt p (p.size - 1) = 91
              · by_cases s3 : pl = (p.size : Int) - 3
                · by_cases s4 : 0 < behind.size
                  · exact brstays_5e D A p ahead behind fl w hE hT hp ha hb pl q0 (by omega) hR h2 s1 s2 s3 s4 (fun h => hS ⟨rfl, s1, s2, s3, s4, h⟩)
                  · exact brstays_5d D A p ahead behind fl w hE hT hp ha hb pl q0 (by omega) hR h2 s1 s2 s3 (by omega)
                · exact brstays_5c D A p ahead behind fl w hE hT hp ha hb pl q0 (by omega) hR h2 s1 s2 s3
              · exact brstays_5b D A p ahead behind fl w hE hT hp ha hb pl q0 (by omega) hR h2 s1 s2
            · exact brstays_5a D A p ahead behind fl w hE hT hp ha hb pl q0 (by omega) hR h2 s1
          · exact brstays_6 D A p ahead behind fl w hE hT hp ha hb pl q0 (by omega) hR h2
          · exact brstays_7 D A p ahead behind fl w hE hT hp ha hb pl q0 (by omega) hR h2
    · exact brstays_bigp D A p ahead behind fl w hE hT ha (by omega)
  · exact brstays_biga D A p ahead behind fl w hE hT (by omega)
end Go.Proofs.YtbpecijdmhablaaDoor
