/- Range, First of octet; Of, Range, Has, Count, First of its reference. -/
import Derived.Test.YtlbhbjmobcikfaaGreatDoorOcNext
import Derived.Test.YtlbhbjmobcikfaaGreatDoorOcRange
namespace Go.Proofs.YtlbhbjmobcikfaaGreatDoor
open Go.RowKit
set_option maxHeartbeats 1000000 in
theorem refhas_any (a b c d : BitVec 64) (n : Nat) (hn : n < 256) (w : World) :
    Calls Tryz.prog 107 #[(.agg #[.int .u64 (Oc.U a), .int .u64 (Oc.U b), .int .u64 (Oc.U c), .int .u64 (Oc.U d)]), .int .u8 n] w fun e w' => e = .returned (.bool (Oc.mem a b c d n)) ∧ Below w.heap.size w w' := by
  have ha := Oc.U_nonneg a; have hb := Oc.U_nonneg b; have hc := Oc.U_nonneg c; have hd := Oc.U_nonneg d
  have hq : n / 64 = 0 ∨ n / 64 = 1 ∨ n / 64 = 2 ∨ n / 64 = 3 := by omega
  have h2 : ∀ x : BitVec 64, (Oc.U x / (2 : Int) ^ (n % 64) % 2 == 1) = x.getLsbD (n % 64) := fun x => by
    rw [← bit_of]; unfold pw; congr 3
  have H2 := Lib.hid h2
  clear h2
  rcases hq with hq | hq | hq | hq
  all_goals
    have hs := shr_word a (n % 64); have hs1 := shr_word b (n % 64); have hs2 := shr_word c (n % 64); have hs3 := shr_word d (n % 64)
    have ht := Oc.U_nonneg (a >>> (n % 64)); have ht1 := Oc.U_nonneg (b >>> (n % 64)); have ht2 := Oc.U_nonneg (c >>> (n % 64)); have ht3 := Oc.U_nonneg (d >>> (n % 64))
    go_enter Tryz.func107, Tryz.ntmps107
    go_wp2
    go_returns
    refine ⟨ret_bool ?_, by go_grown⟩
    rw [← shr_word, H2.out]
    unfold Oc.mem Oc.w4
    rw [hq]
    rfl
/-- The least byte, -1: none. -/
def least (p : Nat → Bool) : Int := if Oc.nx p 0 < 256 then (Oc.nx p 0 : Int) else -1
/-- Bits of a set, laid in a variable. -/
theorem lay_bits {w w1 : World} {f : Nat → Bool} (hb1 : Below w.heap.size w w1) : Below w.heap.size w ((w1.alloc (.cells (bools fun _ => false) 72)).setRow w1.heap.size (bools f)) ∧ ((w1.alloc (.cells (bools fun _ => false) 72)).setRow w1.heap.size (bools f)).heap[w1.heap.size]? = some (.cells (bools f) 72) :=
  ⟨below_setRow (hb1.alloc hb1.size _) hb1.size _, heap_setRow (heap_alloc_new _ _)⟩
/-- Byte i of a text. -/
def byteAt (s : ByteArray) (i : Nat) : Nat := (s.data.getD i 0).toNat
theorem byteAt_lt (s : ByteArray) (i : Nat) : byteAt s i < 256 := by unfold byteAt; exact UInt8.toNat_lt _
set_option maxRecDepth 100000 in
set_option maxHeartbeats 1000000 in
theorem refof_any (s : ByteArray) (hs : s.size ≤ maxLen) (w : World) :
    Calls Tryz.prog 22 #[.string s] w fun e w' => e = .returned (.agg #[.int .u64 (Oc.U (Oc.mk (Oc.anyB (byteAt s) s.size) 0)), .int .u64 (Oc.U (Oc.mk (Oc.anyB (byteAt s) s.size) 1)), .int .u64 (Oc.U (Oc.mk (Oc.anyB (byteAt s) s.size) 2)), .int .u64 (Oc.U (Oc.mk (Oc.anyB (byteAt s) s.size) 3))]) ∧ Below w.heap.size w w' := by
  unfold maxLen at hs
  have hz : ∀ w, (zeroValue 72).run Tryz.prog w = .ok (.agg (bools fun _ => false)) w := fun _ => by kernel_rfl
  go_enter Tryz.func22, Tryz.ntmps22
  go_wp2
  go_loopw [4] (fun i wr => ∃ k : Nat, k ≤ s.size ∧ i = .int .i64 k ∧ Below w.heap.size w wr ∧ w.heap.size + 1 < wr.heap.size ∧ wr.heap[w.heap.size]? = some (.cells #[.int .u64 0, .int .u64 0, .int .u64 0, .int .u64 0] 25) ∧
    wr.heap[w.heap.size + 1]? = some (.cells (bools (Oc.anyB (byteAt s) k)) 72)) (fun i _ => s.size - (intOf i).toNat)
  case atStart => exact ⟨0, Nat.zero_le _, rfl, by go_grown, by simp, (two_new _ _ _).1, (two_new _ _ _).2.trans (by rfl)⟩
  case round =>
    obtain ⟨k, hk, rfl, hbel, hsz, hz0, hz1⟩ := hrel
    by_cases hlt : k < s.size
    · have hb := byteAt_lt s k
      have he : s[k].toNat = byteAt s k := by unfold byteAt; simp [ByteArray.getElem_eq_getElem_data, hlt]
      obtain ⟨v0, l0, f0⟩ : ∃ v, wr.cell? ⟨w.heap.size + 1, byteAt s k, none⟩ = some v ∧ wr.frozen? ⟨w.heap.size + 1, byteAt s k, none⟩ = false := ⟨_, one_cell hb hz1⟩
      have HZ0 := Lib.hid hz0
      have HZ1 := Lib.hid hz1
      clear hz0 hz1
      go_wp2
      exact ⟨⟨k + 1, by omega, by go_num, by go_grown, by simpa using hsz, by rw [Below.heap_setCell _ _ _ _ (by simp)]; exact HZ0.out, one_set hb HZ1.out (by simp [Oc.anyB]) (fun j hj => by simp [Oc.anyB, hj])⟩, by simp [intOf]; omega⟩
    · obtain rfl : k = s.size := by omega
      have HZ0 := Lib.hid hz0
      have HZ1 := Lib.hid hz1
      clear hz0 hz1
      go_wp2_with (first
        | (refine wpList_load_row rfl 72 (.tmp 3) rfl (w.heap.size + 1) rfl 72 (bools (Oc.anyB (byteAt s) s.size)) (0, 0) _ HZ1.out Tryz.underlying72 rfl (by rw [bools_size]; kernel_rfl) ?_)
        | fail)
      refine (made_any _ _).mono ?_
      rintro e w2 ⟨rfl, hb2⟩
      obtain ⟨d0, e0, d1, e1, d2, e2, d3, e3, r0, r1, r2, r3⟩ := four_st (keep_blk hb2 HZ0.out)
      have hbw2 := hbel.trans (hb2.mono hbel.size)
      go_wp2
      refine bodyPost_ret (v := (.agg #[.int .u64 (Oc.U (Oc.mk (Oc.anyB (byteAt s) s.size) 0)), .int .u64 (Oc.U (Oc.mk (Oc.anyB (byteAt s) s.size) 1)), .int .u64 (Oc.U (Oc.mk (Oc.anyB (byteAt s) s.size) 2)), .int .u64 (Oc.U (Oc.mk (Oc.anyB (byteAt s) s.size) 3))])) (by simp [results, Tryz.results22, go_sem, r0, r1, r2, r3]) rfl ⟨rfl, ?_⟩
      go_grown
end Go.Proofs.YtlbhbjmobcikfaaGreatDoor
