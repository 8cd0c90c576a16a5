/- Not of the reference of octet. -/
import Derived.Test.YtlbhbjmobcikfaaGreatDoorOcRef2
namespace Go.Proofs.YtlbhbjmobcikfaaGreatDoor
open Go.RowKit
/-- A set turned byte by byte, up to k. -/
def flip (f : Nat → Bool) (k : Nat) : Nat → Bool := fun j => if j < k then !f j else f j
theorem flip_zero (f : Nat → Bool) : flip f 0 = f := by funext j; simp [flip]
theorem flip_at (f : Nat → Bool) (k : Nat) : flip f k k = f k := by simp [flip]
theorem flip_new (f : Nat → Bool) (k : Nat) : flip f (k + 1) k = !f k := by simp [flip]
theorem flip_old (f : Nat → Bool) (k j : Nat) (h : j ≠ k) : flip f (k + 1) j = flip f k j := by
  unfold flip; have : (j < k + 1) = (j < k) := by rw [eq_iff_iff]; omega
  simp only [this]
theorem flip_words (a b c d : BitVec 64) : Oc.mk (flip (Oc.mem a b c d) 256) 0 = ~~~a ∧ Oc.mk (flip (Oc.mem a b c d) 256) 1 = ~~~b ∧ Oc.mk (flip (Oc.mem a b c d) 256) 2 = ~~~c ∧ Oc.mk (flip (Oc.mem a b c d) 256) 3 = ~~~d := by
  have e := mk_same4 (p := flip (Oc.mem a b c d) 256) (q := Oc.mem (~~~a) (~~~b) (~~~c) (~~~d)) fun i hi => by unfold flip; rw [if_pos hi, Oc.mem_not]
  have m := mk_mem (~~~a) (~~~b) (~~~c) (~~~d)
  exact ⟨e.1.trans m.1, e.2.1.trans m.2.1, e.2.2.1.trans m.2.2.1, e.2.2.2.trans m.2.2.2⟩
set_option maxRecDepth 100000 in
set_option maxHeartbeats 1000000 in
theorem refnot_any (a b c d : BitVec 64) (w : World) :
    Calls Tryz.prog 104 #[(.agg #[.int .u64 (Oc.U a), .int .u64 (Oc.U b), .int .u64 (Oc.U c), .int .u64 (Oc.U d)])] w fun e w' => e = .returned (.agg #[.int .u64 (Oc.U (~~~a)), .int .u64 (Oc.U (~~~b)), .int .u64 (Oc.U (~~~c)), .int .u64 (Oc.U (~~~d))]) ∧ Below w.heap.size w w' := by
  have hz : ∀ w, (zeroValue 72).run Tryz.prog w = .ok (.agg (bools fun _ => false)) w := fun _ => by kernel_rfl
  go_enter Tryz.func104, Tryz.ntmps104
  go_wp2_with fail
  refine (bits_any _ _ _ _ _).mono ?_
  rintro e w1 ⟨rfl, hb1⟩
  have hr : w1.heap[w.heap.size + 1]? = some (.cells #[.int .u64 0, .int .u64 0, .int .u64 0, .int .u64 0] 25) := (hb1.block _ (by simp)).trans (two_new _ _ _).2
  have hsz1 : w.heap.size + 2 ≤ w1.heap.size := by have := hb1.size; simp at this; omega
  have hb0 : Below w.heap.size w w1 := (((Below.refl _ _).alloc (Nat.le_refl _) _).alloc (by simp) _).trans (hb1.mono (by simp; omega))
  have HR := Lib.hid hr
  clear hr hb1
  go_wp2_with (first
    | (refine wpList_store_row rfl 72 (.tmp 3) (.tmp 6) rfl w1.heap.size (bools (Oc.mem a b c d)) rfl rfl 72 (bools fun _ => false) (heap_alloc_new _ _) (by rw [bools_size]; kernel_rfl) (by rw [bools_size, bools_size]) (bools_one _) ?_)
    | fail)
  go_loopw [4] (fun i wr => ∃ k : Nat, k ≤ 256 ∧ i = .int .i64 k ∧ Below w.heap.size w wr ∧ wr.heap[w.heap.size + 1]? = some (.cells #[.int .u64 0, .int .u64 0, .int .u64 0, .int .u64 0] 25) ∧
      wr.heap[w1.heap.size]? = some (.cells (bools (flip (Oc.mem a b c d) k)) 72)) (fun i _ => 256 - (intOf i).toNat)
  case atStart => exact ⟨0, Nat.zero_le _, rfl, below_setRow (hb0.alloc (by omega) _) (by omega) _, (heap_setRow_other _ _ _ (by omega)).trans (heap_alloc_lt HR.out), by rw [flip_zero]; exact heap_setRow (heap_alloc_new _ _)⟩
  case round =>
    clear hb0 HR
    obtain ⟨k, hk, rfl, hbel, hz0, hz1⟩ := hrel
    by_cases hlt : k < 256
    · obtain ⟨l0, f0⟩ := one_cell hlt hz1
      rw [flip_at] at l0
      have hnew := flip_new (Oc.mem a b c d) k
      generalize Oc.mem a b c d k = x at *
      have HN := Lib.hid hnew
      have HZ0 := Lib.hid hz0
      have HZ1 := Lib.hid hz1
      clear hnew hz0 hz1
      go_wp2
      exact ⟨⟨k + 1, by omega, by go_num, hbel.setCell (by show w.heap.size ≤ w1.heap.size; omega) _, by rw [Below.heap_setCell _ _ _ _ (by show w.heap.size + 1 ≠ w1.heap.size; omega)]; exact HZ0.out, one_set hlt HZ1.out HN.out (fun j hj => flip_old _ _ _ hj)⟩, by simp [intOf]; omega⟩
    · obtain rfl : k = 256 := by omega
      have hw := flip_words a b c d
      have HW := Lib.hid hw
      have HZ0 := Lib.hid hz0
      have HZ1 := Lib.hid hz1
      clear hw hz0 hz1
      go_wp2_with (first
        | (refine wpList_load_row rfl _ _ rfl w1.heap.size rfl 72 (bools (flip (Oc.mem a b c d) 256)) (0, 0) _ HZ1.out Tryz.underlying72 rfl (by rw [bools_size]; kernel_rfl) ?_)
        | fail)
      refine (made_any _ _).mono ?_
      rintro e w2 ⟨rfl, hb2⟩
      rw [HW.out.1, HW.out.2.1, HW.out.2.2.1, HW.out.2.2.2]
      obtain ⟨d0, e0, d1, e1, d2, e2, d3, e3, r0, r1, r2, r3⟩ := four_st (keep_blk hb2 HZ0.out)
      have hbw2 := hbel.trans (hb2.mono hbel.size)
      go_wp2
      refine bodyPost_ret (v := (.agg #[.int .u64 (Oc.U (~~~a)), .int .u64 (Oc.U (~~~b)), .int .u64 (Oc.U (~~~c)), .int .u64 (Oc.U (~~~d))])) (by simp [results, Tryz.results104, go_sem, r0, r1, r2, r3]) rfl ⟨rfl, ?_⟩
      go_grown
end Go.Proofs.YtlbhbjmobcikfaaGreatDoor
