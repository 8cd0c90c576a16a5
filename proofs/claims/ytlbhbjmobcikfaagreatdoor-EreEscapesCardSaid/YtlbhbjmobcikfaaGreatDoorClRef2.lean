/- The reference's Named and Fold. -/
import Derived.Test.YtlbhbjmobcikfaaGreatDoorClMore
import Derived.Test.YtlbhbjmobcikfaaGreatDoorOcRange
import Derived.Deep.CutBlock
namespace Go.Proofs.YtlbhbjmobcikfaaGreatDoor
open Go.RowKit
/-- Does one of the first n say yes? -/
def Cl.any (p : Nat → Bool) : Nat → Bool
  | 0 => false
  | n + 1 => Cl.any p n || p n
theorem Cl.any_none {p : Nat → Bool} : ∀ n, (∀ i, i < n → p i = false) → Cl.any p n = false
  | 0, _ => rfl
  | n + 1, h => by simp only [Cl.any]; rw [Cl.any_none n (fun i hi => h i (by omega)), h n (by omega)]; rfl
set_option maxRecDepth 100000 in
set_option maxHeartbeats 2000000 in
theorem refnamed_any (s : ByteArray) (P : Nat → Bool) (hm : ∀ (b : Nat) (w : World), Calls Tryz.prog 130 #[.string s, .int .i64 b] w fun e w' => e = .returned (.bool (P b)) ∧ w = w') (w : World) :
    Calls Tryz.prog 106 #[.string s] w fun e w' => e = .returned (.tuple #[(.agg #[.int .u64 (Oc.U (Oc.mk P 0)), .int .u64 (Oc.U (Oc.mk P 1)), .int .u64 (Oc.U (Oc.mk P 2)), .int .u64 (Oc.U (Oc.mk P 3))]), .bool (Cl.any P 256)]) ∧ Below w.heap.size w w' := by
  have hz : ∀ w, (zeroValue 72).run Tryz.prog w = .ok (.agg (bools fun _ => false)) w := fun _ => by kernel_rfl
  have HM := Lib.hid hm; clear hm
  go_enter Tryz.func106, Tryz.ntmps106
  go_wp2
  go_loopw [6, 5] (fun i so wr => ∃ k : Nat, k ≤ 256 ∧ i = .int .i64 k ∧ so = .bool (Cl.any P k) ∧ Below w.heap.size w wr ∧ w.heap.size + 1 < wr.heap.size ∧ wr.heap[w.heap.size]? = some (.cells #[.int .u64 0, .int .u64 0, .int .u64 0, .int .u64 0] 25) ∧
    wr.heap[w.heap.size + 1]? = some (.cells (bools fun j => decide (j < k) && P j) 72)) (fun i _ _ => 256 - (intOf i).toNat)
  case atStart => exact ⟨0, Nat.zero_le _, rfl, rfl, by go_grown, by simp, (two_new _ _ _).1, (two_new _ _ _).2.trans (by simp)⟩
  case round =>
    obtain ⟨k, hk, rfl, rfl, hbel, hsz, hz0, hz1⟩ := hrel
    by_cases hlt : k < 256
    · obtain ⟨v0, l0, f0⟩ : ∃ v, wr.cell? ⟨w.heap.size + 1, k, none⟩ = some v ∧ wr.frozen? ⟨w.heap.size + 1, k, none⟩ = false := ⟨_, one_cell hlt hz1⟩
      have HZ0 := Lib.hid hz0
      have HZ1 := Lib.hid hz1
      have hmk := HM.out k
      have key : ∀ b : Bool, P k = b → (wr.setCell ⟨w.heap.size + 1, k, none⟩ (.bool b)).heap[w.heap.size + 1]? = some (.cells (bools fun j => decide (j < k + 1) && P j) 72) := fun b hb =>
        one_set hlt HZ1.out (by simp [hb]) fun j hj => by
          have : decide (j < k + 1) = decide (j < k) := by simp; omega
          simp only [this]
      have nxt : Cl.any P (k + 1) = (Cl.any P k || P k) := rfl
      have KEY := Lib.hid key
      have NX := Lib.hid nxt
      have HMK := Lib.hid hmk
      have same : ∀ v, (wr.setCell ⟨w.heap.size + 1, k, none⟩ v).cell? ⟨w.heap.size + 1, k, none⟩ = some v := fun v => by
        have := one_cell hlt hz1
        unfold World.setCell World.cell?
        simp [Array.getElem?_modify, hz1, bools_size, hlt]
      clear hz0 hz1 key nxt hmk hz
      generalize hx : Cl.any P k = x at *
      generalize hy : P k = y at *
      have HX := Lib.hid hx; have HY := Lib.hid hy
      clear hx hy
      cases x <;> cases y
      all_goals
        go_wp2_with (go_at_call 130; refine (HMK.out _).mono ?_; rintro e w' ⟨rfl, rfl⟩)
        exact ⟨⟨k + 1, by omega, by go_num, by rw [NX.out]; rfl, by go_grown, by simpa using hsz, by rw [Below.heap_setCell _ _ _ _ (by simp)]; exact HZ0.out, KEY.out _ rfl⟩, by simp [intOf]; omega⟩
    · obtain rfl : k = 256 := by omega
      have HZ0 := Lib.hid hz0
      have HZ1 := Lib.hid hz1
      clear hz0 hz1
      have hw := mk_same4 (p := fun j => decide (j < 256) && P j) (q := P) fun i hi => by simp [hi]
      have HW := Lib.hid hw
      clear hw
      go_wp2_with (first
        | (refine wpList_load_row rfl 72 (.tmp 4) rfl (w.heap.size + 1) rfl 72 (bools fun j => decide (j < 256) && P j) (0, 0) _ HZ1.out Tryz.underlying72 rfl (by rw [bools_size]; kernel_rfl) ?_)
        | fail)
      refine (made_any _ _).mono ?_
      rintro e w2 ⟨rfl, hb2⟩
      rw [HW.out.1, HW.out.2.1, HW.out.2.2.1, HW.out.2.2.2]
      obtain ⟨d0, e0, d1, e1, d2, e2, d3, e3, r0, r1, r2, r3⟩ := four_st (keep_blk hb2 HZ0.out)
      have hbw2 := hbel.trans (hb2.mono hbel.size)
      go_wp2
      refine bodyPost_ret (v := .tuple #[(.agg #[.int .u64 (Oc.U (Oc.mk P 0)), .int .u64 (Oc.U (Oc.mk P 1)), .int .u64 (Oc.U (Oc.mk P 2)), .int .u64 (Oc.U (Oc.mk P 3))]), .bool (Cl.any P 256)]) (by simp [results, Tryz.results106, go_sem, r0, r1, r2, r3]) rfl ⟨rfl, ?_⟩
      go_grown
namespace Cl
/-- The set p, with the other case of its first k bytes. -/
def foldTo (p : Nat → Bool) (k : Nat) : Nat → Bool := fun j => p j || (decide (oth j < k) && p (oth j))
theorem foldTo_zero (p : Nat → Bool) : foldTo p 0 = p := by funext j; simp [foldTo]
theorem foldTo_end (p : Nat → Bool) {j : Nat} (h : j < 256) : foldTo p 256 j = fold p j := by
  have := oth_lt h
  simp [foldTo, fold, this]
theorem foldTo_old {p : Nat → Bool} {k j : Nat} (h : j ≠ oth k) : foldTo p (k + 1) j = foldTo p k j := by
  have : decide (oth j < k + 1) = decide (oth j < k) := by
    have : oth j ≠ k := fun e => h (by rw [← e, oth_oth])
    rw [decide_eq_decide]; omega
  unfold foldTo; rw [this]
theorem foldTo_new {p : Nat → Bool} {k : Nat} (h : p k = true) : foldTo p (k + 1) (oth k) = true := by
  unfold foldTo; rw [oth_oth]; simp [h]
theorem foldTo_no {p : Nat → Bool} {k : Nat} (h : p k = false) : foldTo p (k + 1) = foldTo p k := by
  funext j
  by_cases e : j = oth k
  · subst e; unfold foldTo; rw [oth_oth]; simp [h]
  · exact foldTo_old e
end Cl
set_option maxRecDepth 100000 in
set_option maxHeartbeats 2000000 in
theorem reffold_any (a b c d : BitVec 64) (w : World) :
    Calls Tryz.prog 108 #[(.agg #[.int .u64 (Oc.U a), .int .u64 (Oc.U b), .int .u64 (Oc.U c), .int .u64 (Oc.U d)])] w fun e w' => e = .returned (.agg #[.int .u64 (Oc.U (Oc.mk (Cl.fold (Oc.mem a b c d)) 0)), .int .u64 (Oc.U (Oc.mk (Cl.fold (Oc.mem a b c d)) 1)), .int .u64 (Oc.U (Oc.mk (Cl.fold (Oc.mem a b c d)) 2)), .int .u64 (Oc.U (Oc.mk (Cl.fold (Oc.mem a b c d)) 3))]) ∧ Below w.heap.size w w' := by
  have hz : ∀ w, (zeroValue 72).run Tryz.prog w = .ok (.agg (bools fun _ => false)) w := fun _ => by kernel_rfl
  go_enter Tryz.func108, Tryz.ntmps108
  go_wp2_with fail
  refine (bits_any _ _ _ _ _).mono ?_
  rintro e w1 ⟨rfl, hb1⟩
  have hr : w1.heap[w.heap.size + 1]? = some (.cells #[.int .u64 0, .int .u64 0, .int .u64 0, .int .u64 0] 25) := (hb1.block _ (by simp)).trans (two_new _ _ _).2
  have hsz1 : w.heap.size + 2 ≤ w1.heap.size := by have := hb1.size; simp at this; omega
  have hb0 : Below w.heap.size w w1 := (((Below.refl _ _).alloc (Nat.le_refl _) _).alloc (by simp) _).trans (hb1.mono (by simp; omega))
  have HR := Lib.hid hr; have HB := Lib.hid hb0
  clear hr hb1 hb0
  go_upto_region 2 with (first
    | (refine wpList_store_row rfl 72 (.tmp 3) (.tmp 7) rfl w1.heap.size (bools (Oc.mem a b c d)) rfl rfl 72 (bools fun _ => false) (heap_alloc_new _ _) (by rw [bools_size]; kernel_rfl) (by rw [bools_size, bools_size]) (bools_one _) ?_)
    | fail)
  have hw2 : ((w1.alloc (.cells (bools fun _ => false) 72)).setRow w1.heap.size (bools (Oc.mem a b c d))).heap[w1.heap.size]? = some (.cells (bools (Oc.mem a b c d)) 72) := heap_setRow (heap_alloc_new _ _)
  have hb2 := below_setRow (HB.out.alloc HB.out.size (.cells (bools fun _ => false) 72)) (show w.heap.size ≤ w1.heap.size by omega) (bools (Oc.mem a b c d))
  have hr2 := (heap_setRow_other (w1.alloc (.cells (bools fun _ => false) 72)) w1.heap.size (bools (Oc.mem a b c d)) (show w.heap.size + 1 ≠ w1.heap.size by omega)).trans (heap_alloc_lt HR.out)
  have hs2 : ((w1.alloc (.cells (bools fun _ => false) 72)).setRow w1.heap.size (bools (Oc.mem a b c d))).heap.size = w1.heap.size + 1 := by simp
  generalize World.setRow _ _ _ = W2 at *
  have H2 := Lib.hid hw2; have B2 := Lib.hid hb2; have R2 := Lib.hid hr2; have S2 := Lib.hid hs2
  clear hw2 hb2 hr2 hs2 HR HB
  go_upto_region 3 with (first
    | (refine wpList_load_row rfl 72 (.tmp 3) rfl w1.heap.size rfl 72 (bools (Oc.mem a b c d)) (0, 0) _ H2.out Tryz.underlying72 rfl (by rw [bools_size]; kernel_rfl) ?_)
    | (refine wpList_store_row rfl 72 (.tmp 4) (.tmp 8) rfl W2.heap.size (bools (Oc.mem a b c d)) rfl rfl 72 (bools fun _ => false) (heap_alloc_new _ _) (by rw [bools_size]; kernel_rfl) (by rw [bools_size, bools_size]) (bools_one _) ?_)
    | fail)
  have hw3 : ((W2.alloc (.cells (bools fun _ => false) 72)).setRow W2.heap.size (bools (Oc.mem a b c d))).heap[W2.heap.size]? = some (.cells (bools (Oc.mem a b c d)) 72) := heap_setRow (heap_alloc_new _ _)
  have hb3 := below_setRow (B2.out.alloc B2.out.size (.cells (bools fun _ => false) 72)) B2.out.size (bools (Oc.mem a b c d))
  have hr3 := (heap_setRow_other (W2.alloc (.cells (bools fun _ => false) 72)) W2.heap.size (bools (Oc.mem a b c d)) (show w.heap.size + 1 ≠ W2.heap.size by rw [S2.out]; omega)).trans (heap_alloc_lt R2.out)
  have ho3 := (heap_setRow_other (W2.alloc (.cells (bools fun _ => false) 72)) W2.heap.size (bools (Oc.mem a b c d)) (show w1.heap.size ≠ W2.heap.size by rw [S2.out]; omega)).trans (heap_alloc_lt H2.out)
  generalize World.setRow _ _ _ = W3 at *
  have hlt2 : w1.heap.size < W2.heap.size := by rw [S2.out]; omega
  have hlw : w.heap.size + 1 < W2.heap.size := by omega
  rw [← Cl.foldTo_zero (Oc.mem a b c d)] at hw3
  have H3 := Lib.hid hw3; have B3 := Lib.hid hb3; have R3 := Lib.hid hr3; have O3 := Lib.hid ho3
  clear hw3 hb3 hr3 ho3 H2 B2 R2 S2 hz
  go_wp2
  go_loopw [5] (fun i wr => ∃ k : Nat, k ≤ 256 ∧ i = .int .i64 k ∧ Below w.heap.size w wr ∧ wr.heap[w.heap.size + 1]? = some (.cells #[.int .u64 0, .int .u64 0, .int .u64 0, .int .u64 0] 25) ∧ wr.heap[w1.heap.size]? = some (.cells (bools (Oc.mem a b c d)) 72) ∧
    wr.heap[W2.heap.size]? = some (.cells (bools (Cl.foldTo (Oc.mem a b c d) k)) 72)) (fun i _ => 256 - (intOf i).toNat)
  case atStart => exact ⟨0, Nat.zero_le _, rfl, B3.out, R3.out, O3.out, H3.out⟩
  case round =>
    clear B3 R3 O3 H3
    obtain ⟨k, hk, rfl, hbel, hz0, hz1, hz2⟩ := hrel
    by_cases hlt : k < 256
    · obtain ⟨l0, -⟩ := one_cell hlt hz1
      have hol := Cl.oth_lt hlt
      obtain ⟨v0, l2, f2⟩ : ∃ v, wr.cell? ⟨W2.heap.size, Cl.oth k, none⟩ = some v ∧ wr.frozen? ⟨W2.heap.size, Cl.oth k, none⟩ = false := ⟨_, one_cell hol hz2⟩
      have HB := Lib.hid hbel; have Z0 := Lib.hid hz0; have Z1 := Lib.hid hz1; have Z2 := Lib.hid hz2
      clear hbel hz0 hz1 hz2
      have hcv : IntKind.u8.wrap (k : Int) = (k : Int) := by rw [IntKind.wrap_u8]; omega
      cases hm : Oc.mem a b c d k with
      | true =>
        rw [hm] at l0
        have hn := one_set hol Z2.out (Cl.foldTo_new hm) (fun j hj => Cl.foldTo_old hj)
        have HN := Lib.hid hn
        clear hn hm
        go_wp2_with fail
        refine (refother_any k hlt _).mono ?_
        rintro e w' ⟨rfl, rfl⟩
        go_wp2
        refine ⟨⟨k + 1, by omega, by go_num, ?_, ?_, ?_, HN.out⟩, by simp [intOf]; omega⟩
        · exact HB.out.setCell (by show w.heap.size ≤ W2.heap.size; omega) _
        · rw [Below.heap_setCell _ _ _ _ (by show w.heap.size + 1 ≠ W2.heap.size; omega)]; exact Z0.out
        · rw [Below.heap_setCell _ _ _ _ (by show w1.heap.size ≠ W2.heap.size; omega)]; exact Z1.out
      | false =>
        rw [hm] at l0
        have hn := Cl.foldTo_no hm
        have HN := Lib.hid hn
        clear hn hm
        go_wp2
        refine ⟨⟨k + 1, by omega, by go_num, HB.out, Z0.out, Z1.out, ?_⟩, by simp [intOf]; omega⟩
        rw [HN.out]; exact Z2.out
    · obtain rfl : k = 256 := by omega
      have hw := mk_same4 (p := Cl.foldTo (Oc.mem a b c d) 256) (q := Cl.fold (Oc.mem a b c d)) fun i hi => Cl.foldTo_end _ hi
      have HW := Lib.hid hw
      have HB := Lib.hid hbel; have Z0 := Lib.hid hz0; have Z2 := Lib.hid hz2
      clear hw hbel hz0 hz1 hz2
      go_wp2_with (first
        | (refine wpList_load_row rfl 72 (.tmp 4) rfl W2.heap.size rfl 72 (bools (Cl.foldTo (Oc.mem a b c d) 256)) (0, 0) _ Z2.out Tryz.underlying72 rfl (by rw [bools_size]; kernel_rfl) ?_)
        | fail)
      refine (made_any _ _).mono ?_
      rintro e w4 ⟨rfl, hb4⟩
      rw [HW.out.1, HW.out.2.1, HW.out.2.2.1, HW.out.2.2.2]
      obtain ⟨d0, e0, d1, e1, d2, e2, d3, e3, r0, r1, r2, r3⟩ := four_st (keep_blk hb4 Z0.out)
      have hbw := HB.out.trans (hb4.mono HB.out.size)
      clear hb4
      go_wp2
      refine bodyPost_ret (v := (.agg #[.int .u64 (Oc.U (Oc.mk (Cl.fold (Oc.mem a b c d)) 0)), .int .u64 (Oc.U (Oc.mk (Cl.fold (Oc.mem a b c d)) 1)), .int .u64 (Oc.U (Oc.mk (Cl.fold (Oc.mem a b c d)) 2)), .int .u64 (Oc.U (Oc.mk (Cl.fold (Oc.mem a b c d)) 3))])) (by simp [results, Tryz.results108, go_sem, r0, r1, r2, r3]) rfl ⟨rfl, ?_⟩
      go_grown
end Go.Proofs.YtlbhbjmobcikfaaGreatDoor
