/- Join, Meet and Less of sets. -/
import Derived.Test.YtlbhbjmobcikfaaGreatDoorOcWalks
import Derived.Deep.RegionWith
import Derived.Deep.RegionHeld3
import Derived.StillTailTactics
import Derived.Deep.QuietTactic
import Derived.BigQuiet
namespace Go.Proofs.YtlbhbjmobcikfaaGreatDoor
open Go.RowKit
/-- The sets that lie in memory behind p, one behind the other. -/
def SetsAt (w : World) (p : Option Addr) (len : Nat) (A B C D : Nat → BitVec 64) : Prop :=
  ∀ i, i < len → ∃ b o, p = some ⟨b, o, none⟩ ∧ b < w.heap.size ∧ w.cell? ⟨b, o + i * 4, none⟩ = some (.int .u64 (Oc.U (A i))) ∧ w.cell? ⟨b, o + i * 4 + 1, none⟩ = some (.int .u64 (Oc.U (B i))) ∧
    w.cell? ⟨b, o + i * 4 + 2, none⟩ = some (.int .u64 (Oc.U (C i))) ∧ w.cell? ⟨b, o + i * 4 + 3, none⟩ = some (.int .u64 (Oc.U (D i)))
theorem SetsAt.below {w w' : World} {p : Option Addr} {len : Nat} {A B C D : Nat → BitVec 64} (h : SetsAt w p len A B C D) (hb : Below w.heap.size w w') : SetsAt w' p len A B C D := by
  intro i hi
  obtain ⟨b, o, e, hlt, h0, h1, h2, h3⟩ := h i hi
  exact ⟨b, o, e, Nat.lt_of_lt_of_le hlt hb.size, (hb.cell (p := ⟨b, _, none⟩) hlt).trans h0, (hb.cell (p := ⟨b, _, none⟩) hlt).trans h1, (hb.cell (p := ⟨b, _, none⟩) hlt).trans h2, (hb.cell (p := ⟨b, _, none⟩) hlt).trans h3⟩

set_option maxHeartbeats 1000000 in
theorem join_any (p : Option Addr) (len cap : Nat) (A B C D : Nat → BitVec 64) (hlen : len ≤ 9223372036854775807) (w : World) (hs : SetsAt w p len A B C D) :
    Calls Tryz.prog 143 #[.slice p len cap] w fun e w' => e = .returned (.agg #[.int .u64 (Oc.U (Oc.orAll A len)), .int .u64 (Oc.U (Oc.orAll B len)), .int .u64 (Oc.U (Oc.orAll C len)), .int .u64 (Oc.U (Oc.orAll D len))]) ∧ Below w.heap.size w w' := by
  go_enter Tryz.func143, Tryz.ntmps143
  go_wp2
  go_loopw [10] (fun i wr => ∃ k : Nat, k ≤ len ∧ i = .int .i64 k ∧ Below w.heap.size w wr ∧ w.heap.size + 1 < wr.heap.size ∧ wr.heap[w.heap.size]? = some (.cells #[.int .u64 0, .int .u64 0, .int .u64 0, .int .u64 0] 25) ∧ wr.heap[w.heap.size + 1]? = some (.cells #[.int .u64 (Oc.U (Oc.orAll A k)), .int .u64 (Oc.U (Oc.orAll B k)), .int .u64 (Oc.U (Oc.orAll C k)), .int .u64 (Oc.U (Oc.orAll D k))] 25)) (fun i _ => len - (intOf i).toNat)
  case atStart =>
    exact ⟨0, Nat.zero_le _, rfl, by go_grown, by simp, (two_new _ _ _).1, (two_new _ _ _).2⟩
  case round =>
    obtain ⟨k, hk, rfl, hbel, hsz, hz0, hz1⟩ := hrel
    by_cases hlt : k < len
    · obtain ⟨b, o, rfl, hbs, h0, h1, h2, h3⟩ := hs.below hbel k hlt
      have i0 := at0; have i1 := at1; have i2 := at2; have i3 := at3
      obtain ⟨c0, f0, c1, f1, c2, f2, c3, f3⟩ := four_on hz1
      have HZ0 := Lib.hid hz0
      have HZ1 := Lib.hid hz1
      clear hs hz0 hz1
      go_wp2
      go_rounds 5
      refine ⟨⟨k + 1, by omega, by go_num, ?_, ?_, ?_, ?_⟩, by simp [intOf]; omega⟩
      · go_grown
      · simp; omega
      · exact heap_alloc_lt (set4_other _ _ _ _ HZ0.out (by omega))
      · rw [Oc.orU, Oc.orU, Oc.orU, Oc.orU]; exact heap_alloc_lt (set4 _ _ _ _ HZ1.out)
    · obtain rfl : k = len := by omega
      obtain ⟨c0, c1, c2, c3, -, -, -, -⟩ := four hz1
      obtain ⟨d0, e0, d1, e1, d2, e2, d3, e3, r0, r1, r2, r3⟩ := four_st hz0
      clear hs
      go_wp2
      refine bodyPost_ret (v := (.agg #[.int .u64 (Oc.U (Oc.orAll A k)), .int .u64 (Oc.U (Oc.orAll B k)), .int .u64 (Oc.U (Oc.orAll C k)), .int .u64 (Oc.U (Oc.orAll D k))])) (by simp [results, Tryz.results143, go_sem, r0, r1, r2, r3]) rfl ⟨rfl, ?_⟩
      go_grown
set_option maxHeartbeats 1000000 in
theorem meet_any (p : Option Addr) (len cap : Nat) (A B C D : Nat → BitVec 64) (hlen : len ≤ 9223372036854775807) (w : World) (hs : SetsAt w p len A B C D) :
    Calls Tryz.prog 142 #[.slice p len cap] w fun e w' => e = .returned (.agg #[.int .u64 (Oc.U (Oc.andAll A len)), .int .u64 (Oc.U (Oc.andAll B len)), .int .u64 (Oc.U (Oc.andAll C len)), .int .u64 (Oc.U (Oc.andAll D len))]) ∧ Below w.heap.size w w' := by
  go_enter Tryz.func142, Tryz.ntmps142
  go_wp2_with fail
  refine (not_any 0#64 0#64 0#64 0#64 _).mono ?_
  rintro e w1 ⟨rfl, hb1⟩
  have z0 : w1.heap[w.heap.size]? = some (.cells #[.int .u64 0, .int .u64 0, .int .u64 0, .int .u64 0] 25) := by
    rw [hb1.block _ (by simp)]; show (w.heap.push _)[w.heap.size]? = _; simp
  have hsz1 : w.heap.size < w1.heap.size := by have := hb1.size; simp at this; omega
  have hbw : Below w.heap.size w w1 := ((Below.refl _ _).alloc (Nat.le_refl _) _).trans (hb1.mono (by simp))
  have HZ := Lib.hid z0
  clear z0
  go_wp2
  go_loopw [12] (fun i wr => ∃ k : Nat, k ≤ len ∧ i = .int .i64 k ∧ Below w.heap.size w wr ∧ w1.heap.size < wr.heap.size ∧ wr.heap[w.heap.size]? = some (.cells #[.int .u64 0, .int .u64 0, .int .u64 0, .int .u64 0] 25) ∧ wr.heap[w1.heap.size]? = some (.cells #[.int .u64 (Oc.U (Oc.andAll A k)), .int .u64 (Oc.U (Oc.andAll B k)), .int .u64 (Oc.U (Oc.andAll C k)), .int .u64 (Oc.U (Oc.andAll D k))] 25)) (fun i _ => len - (intOf i).toNat)
  case atStart =>
    refine ⟨0, Nat.zero_le _, rfl, hbw.alloc (by omega) _, by simp, ?_, ?_⟩
    · rw [Below.heap_alloc _ _ _ hsz1]; exact HZ.out
    · show (w1.heap.push _)[w1.heap.size]? = _; simp; exact ⟨rfl, rfl, rfl, rfl⟩
  case round =>
    obtain ⟨k, hk, rfl, hbel, hsz, hz0, hz1⟩ := hrel
    by_cases hlt : k < len
    · obtain ⟨b, o, rfl, hbs, h0, h1, h2, h3⟩ := hs.below hbel k hlt
      have i0 := at0; have i1 := at1; have i2 := at2; have i3 := at3
      obtain ⟨c0, f0, c1, f1, c2, f2, c3, f3⟩ := four_on hz1
      have HZ0 := Lib.hid hz0
      have HZ1 := Lib.hid hz1
      clear hs hz0 hz1
      go_wp2
      go_rounds 5
      refine ⟨⟨k + 1, by omega, by go_num, ?_, ?_, ?_, ?_⟩, by simp [intOf]; omega⟩
      · go_grown
      · simp; omega
      · exact heap_alloc_lt (set4_other _ _ _ _ HZ0.out (by omega))
      · rw [Oc.andU, Oc.andU, Oc.andU, Oc.andU]; exact heap_alloc_lt (set4 _ _ _ _ HZ1.out)
    · obtain rfl : k = len := by omega
      obtain ⟨c0, c1, c2, c3, -, -, -, -⟩ := four hz1
      obtain ⟨d0, e0, d1, e1, d2, e2, d3, e3, r0, r1, r2, r3⟩ := four_st hz0
      clear hs
      go_wp2
      refine bodyPost_ret (v := (.agg #[.int .u64 (Oc.U (Oc.andAll A k)), .int .u64 (Oc.U (Oc.andAll B k)), .int .u64 (Oc.U (Oc.andAll C k)), .int .u64 (Oc.U (Oc.andAll D k))])) (by simp [results, Tryz.results142, go_sem, r0, r1, r2, r3]) rfl ⟨rfl, ?_⟩
      go_grown

/-- Meet of two sets that a list was just made of. -/
theorem meet2 (a b c d a' b' c' d' : BitVec 64) (t : TypeId) (w : World) :
    Calls Tryz.prog 142 #[.slice (some ⟨w.heap.size, 0, none⟩) 2 2]
      (w.alloc (.cells #[.int .u64 (Oc.U a), .int .u64 (Oc.U b), .int .u64 (Oc.U c), .int .u64 (Oc.U d), .int .u64 (Oc.U a'), .int .u64 (Oc.U b'), .int .u64 (Oc.U c'), .int .u64 (Oc.U d')] t))
      fun e w' => e = .returned (.agg #[.int .u64 (Oc.U (a &&& a')), .int .u64 (Oc.U (b &&& b')), .int .u64 (Oc.U (c &&& c')), .int .u64 (Oc.U (d &&& d'))]) ∧ Below (w.heap.size + 1) (w.alloc (.cells #[.int .u64 (Oc.U a), .int .u64 (Oc.U b), .int .u64 (Oc.U c), .int .u64 (Oc.U d), .int .u64 (Oc.U a'), .int .u64 (Oc.U b'), .int .u64 (Oc.U c'), .int .u64 (Oc.U d')] t)) w' := by
  have hs : SetsAt (w.alloc (.cells #[.int .u64 (Oc.U a), .int .u64 (Oc.U b), .int .u64 (Oc.U c), .int .u64 (Oc.U d), .int .u64 (Oc.U a'), .int .u64 (Oc.U b'), .int .u64 (Oc.U c'), .int .u64 (Oc.U d')] t))
      (some ⟨w.heap.size, 0, none⟩) 2 (fun i => if i = 0 then a else a') (fun i => if i = 0 then b else b') (fun i => if i = 0 then c else c') (fun i => if i = 0 then d else d') := by
    intro i hi
    have : i = 0 ∨ i = 1 := by omega
    refine ⟨w.heap.size, 0, rfl, by simp, ?_⟩
    rcases this with rfl | rfl <;> simp only [cell_new] <;> exact ⟨rfl, rfl, rfl, rfl⟩
  refine (meet_any _ 2 2 _ _ _ _ (by omega) _ hs).mono ?_
  rintro e w' ⟨rfl, hb⟩
  refine ⟨?_, by simpa using hb⟩
  have one : ∀ x y : BitVec 64, BitVec.allOnes 64 &&& x &&& y = x &&& y := fun x y => by rw [BitVec.allOnes_and]
  simp only [Oc.andAll, one, if_true, if_false, Nat.succ_ne_zero]
theorem less_z {w w0 w1 w2 : World} {k : Nat} {x o : Obj} (hz : w0.heap[k]? = some x) (hb1 : Below w0.heap.size w0 w1) (hb2 : Below (w1.heap.size + 1) (w1.alloc o) w2) (_ : w.heap.size = k) : w2.heap[k]? = some x := by
  have hk : k < w0.heap.size := (Array.getElem?_eq_some_iff.1 hz).1
  rw [hb2.block k (by have := hb1.size; omega), Below.heap_alloc _ _ _ (by have := hb1.size; omega), hb1.block k hk, hz]
theorem less_b {w w0 w1 w2 : World} {o : Obj} (h0 : Below w.heap.size w w0) (hb1 : Below w0.heap.size w0 w1) (hb2 : Below (w1.heap.size + 1) (w1.alloc o) w2) : Below w.heap.size w w2 :=
  ((h0.trans (hb1.mono h0.size)).alloc (Nat.le_trans h0.size hb1.size) _).trans (hb2.mono (Nat.le_succ_of_le (Nat.le_trans h0.size hb1.size)))

end Go.Proofs.YtlbhbjmobcikfaaGreatDoor
