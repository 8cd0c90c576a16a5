/- The fixed facts that every statement of octet begins with. -/
import Derived.Test.YtdlcnhelkjlglaaDoorOcRef
namespace Go.Proofs.YtdlcnhelkjlglaaDoor
open Go.RowKit
def acs : Nat → Nat := fun i => if i = 1 then 99 else 97
theorem of_acs (w : World) (t : TypeId) :
    Calls Tryd.prog 8 #[.slice (some ⟨w.heap.size, 0, none⟩) 3 3] (w.alloc (.cells #[.int .u8 97, .int .u8 99, .int .u8 97] t))
      fun e w' => e = .returned (.agg #[.int .u64 0, .int .u64 42949672960, .int .u64 0, .int .u64 0]) ∧ Below (w.heap.size + 1) (w.alloc (.cells #[.int .u8 97, .int .u8 99, .int .u8 97] t)) w' := by
  refine (of_any (some ⟨w.heap.size, 0, none⟩) 3 3 acs (by omega) _ ?_ ?_).mono ?_
  · intro i _; unfold acs; split <;> omega
  · intro i hi
    have : i = 0 ∨ i = 1 ∨ i = 2 := by omega
    refine ⟨w.heap.size, 0, rfl, by simp, ?_⟩
    rcases this with rfl | rfl | rfl <;> (rw [cell_new]; rfl)
  · rintro e w' ⟨rfl, hb⟩
    refine ⟨?_, by simpa using hb⟩
    have e0 : Oc.U (Oc.mk (Oc.anyB acs 3) 0) = 0 := by decide +kernel
    have e1 : Oc.U (Oc.mk (Oc.anyB acs 3) 1) = 42949672960 := by decide +kernel
    have e2 : Oc.U (Oc.mk (Oc.anyB acs 3) 2) = 0 := by decide +kernel
    have e3 : Oc.U (Oc.mk (Oc.anyB acs 3) 3) = 0 := by decide +kernel
    rw [e0, e1, e2, e3]
theorem count_acs (w : World) :
    Calls Tryd.prog 12 #[.agg #[.int .u64 0, .int .u64 42949672960, .int .u64 0, .int .u64 0]] w fun e w' => e = .returned (.int .i64 2) ∧ Below w.heap.size w w' := by
  have e0 : Oc.U 0#64 = 0 := by decide
  have e1 : Oc.U 42949672960#64 = 42949672960 := by decide
  have h := count_any 0#64 42949672960#64 0#64 0#64 w
  rw [e0, e1, show Oc.cnt (Oc.mem 0#64 42949672960#64 0#64 0#64) 256 = 2 by decide +kernel] at h
  exact h
theorem has_acs (w : World) :
    Calls Tryd.prog 14 #[.agg #[.int .u64 0, .int .u64 42949672960, .int .u64 0, .int .u64 0], .int .u8 99] w fun e w' => e = .returned (.bool true) ∧ Below w.heap.size w w' := by
  have e0 : Oc.U 0#64 = 0 := by decide
  have e1 : Oc.U 42949672960#64 = 42949672960 := by decide
  have h := has_any 0#64 42949672960#64 0#64 0#64 99 (by omega) w
  rw [e0, e1, show Oc.mem 0#64 42949672960#64 0#64 0#64 99 = true by decide +kernel] at h
  exact h
theorem meet_none (w : World) :
    Calls Tryd.prog 24 #[.slice none 0 0] w fun e w' => e = .returned (.agg #[.int .u64 (Oc.U (BitVec.allOnes 64)), .int .u64 (Oc.U (BitVec.allOnes 64)), .int .u64 (Oc.U (BitVec.allOnes 64)), .int .u64 (Oc.U (BitVec.allOnes 64))]) ∧ Below w.heap.size w w' :=
  meet_any none 0 0 (fun _ => 0#64) (fun _ => 0#64) (fun _ => 0#64) (fun _ => 0#64) (by omega) w (fun i hi => by omega)
theorem count_full (w : World) :
    Calls Tryd.prog 12 #[(.agg #[.int .u64 (Oc.U (BitVec.allOnes 64)), .int .u64 (Oc.U (BitVec.allOnes 64)), .int .u64 (Oc.U (BitVec.allOnes 64)), .int .u64 (Oc.U (BitVec.allOnes 64))])] w fun e w' => e = .returned (.int .i64 256) ∧ Below w.heap.size w w' := by
  have h := count_any (BitVec.allOnes 64) (BitVec.allOnes 64) (BitVec.allOnes 64) (BitVec.allOnes 64) w
  rw [show Oc.cnt (Oc.mem (BitVec.allOnes 64) (BitVec.allOnes 64) (BitVec.allOnes 64) (BitVec.allOnes 64)) 256 = 256 by decide +kernel] at h
  exact h
theorem part0 (a b c d : Value) (w : World) : (Go.part 22 #[a, b, c, d] 0).run Tryd.prog w = .ok a w := by kernel_rfl
theorem part1 (a b c d : Value) (w : World) : (Go.part 22 #[a, b, c, d] 1).run Tryd.prog w = .ok b w := by kernel_rfl
theorem part2 (a b c d : Value) (w : World) : (Go.part 22 #[a, b, c, d] 2).run Tryd.prog w = .ok c w := by kernel_rfl
theorem part3 (a b c d : Value) (w : World) : (Go.part 22 #[a, b, c, d] 3).run Tryd.prog w = .ok d w := by kernel_rfl
theorem eqi (a b : Int) (w : World) : (Op.equalIn 9999 22 (.int .u64 a) (.int .u64 b)).run Tryd.prog w = .ok (a == b) w := run_equalIn_int w 9998 22 .u64 .u64 a b Tryd.underlying22
theorem eq4 (a b c d a' b' c' d' : Int) (w : World) : (Op.equalIn 10000 24 (.agg #[.int .u64 a, .int .u64 b, .int .u64 c, .int .u64 d]) (.agg #[.int .u64 a', .int .u64 b', .int .u64 c', .int .u64 d'])).run Tryd.prog w = .ok (a == a' && (b == b' && (c == c' && d == d'))) w := by
  have h0 := run_underlying (P := Tryd.prog) (w := w) Tryd.underlying24
  unfold Op.equalIn
  simp only [Sem.run_bind, h0, Result.andThen_ok]
  simp
  rw [show List.range' 0 4 = [0, 1, 2, 3] from rfl]
  simp only [List.forIn_cons, List.forIn_nil, Sem.run_bind, part0, eqi, Result.andThen_ok]
  by_cases h1 : a = a'
  · by_cases h2 : b = b'
    · by_cases h3 : c = c'
      · by_cases h4 : d = d' <;> simp [h1, h2, h3, h4, part1, part2, part3, eqi]
      · simp [h1, h2, h3, part1, part2, eqi]
    · simp [h1, h2, part1, eqi]
  · simp [h1]
set_option maxHeartbeats 1000000 in
theorem lives_any (w : World) : Calls Tryd.prog 7 #[] w fun e w' => e = .returned (.bool true) ∧ Below w.heap.size w w' := by
  have he := eq4
  go_enter Tryd.func7, Tryd.ntmps7
  go_wp2_with fail
  refine (of_acs _ _).mono ?_
  rintro e w1 ⟨rfl, hb1⟩
  have h1 : Below w.heap.size w w1 := ((Below.refl _ _).alloc (Nat.le_refl _) _).trans (hb1.mono (by omega))
  clear hb1
  go_wp2_with fail
  refine (count_acs _).mono ?_
  rintro e w2 ⟨rfl, hb2⟩
  have z2 := keep_blk hb2 (heap_alloc_new _ _)
  obtain ⟨c0, c1, c2, c3, -⟩ := four z2
  have h2 : Below w.heap.size w w2 := (h1.alloc h1.size _).trans (hb2.mono (by simp; have := h1.size; omega))
  clear hb2
  have Z2 := Lib.hid z2
  clear z2
  go_wp2_with fail
  refine (has_acs _).mono ?_
  rintro e w3 ⟨rfl, hb3⟩
  have h3 : Below w.heap.size w w3 := h2.trans (hb3.mono h2.size)
  clear hb3
  go_wp2_with fail
  refine (meet_none _).mono ?_
  rintro e w4 ⟨rfl, hb4⟩
  have h4 : Below w.heap.size w w4 := h3.trans (hb4.mono h3.size)
  clear hb4
  go_wp2_with fail
  refine (count_full _).mono ?_
  rintro e w5 ⟨rfl, hb5⟩
  have h5 : Below w.heap.size w w5 := h4.trans (hb5.mono h4.size)
  clear hb5
  go_wp2
  go_ret
  exact ⟨rfl, h5⟩
end Go.Proofs.YtdlcnhelkjlglaaDoor
