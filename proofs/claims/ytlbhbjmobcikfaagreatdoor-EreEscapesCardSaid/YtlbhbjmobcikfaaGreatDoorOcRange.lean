/- Range, and that of the reference. -/
import Derived.Test.YtlbhbjmobcikfaaGreatDoorOcRef
namespace Go.Proofs.YtlbhbjmobcikfaaGreatDoor
open Go.RowKit
/-- From lo on, up to k. -/
def upto (lo : Nat) (k : Nat) : Nat → Bool := fun j => decide (lo ≤ j) && decide (j < k)
theorem upto_step {lo k : Nat} (h : lo ≤ k) : ∀ j, upto lo (k + 1) j = (upto lo k j || j == k) := by
  intro j; unfold upto
  rw [Bool.eq_iff_iff]; simp; omega
theorem upto_none (lo : Nat) : upto lo lo = fun _ => false := by
  funext j; unfold upto; rw [Bool.eq_false_iff]; simp
theorem upto_low {lo k : Nat} (h : k ≤ lo) : upto lo k = fun _ => false := by
  funext j; unfold upto; rw [Bool.eq_false_iff]; simp; omega
/-- What a round of Range leaves. -/
theorem range_rel {w wr : World} {lo k q : Nat} {x : Obj} (hlo : lo ≤ k) (hq : k / 64 = q) (hlt : k < 256) (hbel : Below w.heap.size w wr) (hsz : w.heap.size + 1 < wr.heap.size) (h0 : wr.heap[w.heap.size]? = some x)
    (h2 : wr.heap[w.heap.size + 1]? = some (.cells #[.int .u64 (Oc.U (Oc.mk (upto lo k) 0)), .int .u64 (Oc.U (Oc.mk (upto lo k) 1)), .int .u64 (Oc.U (Oc.mk (upto lo k) 2)), .int .u64 (Oc.U (Oc.mk (upto lo k) 3))] 25)) :
    Below w.heap.size w (wr.setCell ⟨w.heap.size + 1, q, none⟩ (.int .u64 (Oc.U (Oc.mk (upto lo k) q ||| (1#64 <<< (k % 64)))))).drew ∧ w.heap.size + 1 < (wr.setCell ⟨w.heap.size + 1, q, none⟩ (.int .u64 (Oc.U (Oc.mk (upto lo k) q ||| (1#64 <<< (k % 64)))))).drew.heap.size ∧
    (wr.setCell ⟨w.heap.size + 1, q, none⟩ (.int .u64 (Oc.U (Oc.mk (upto lo k) q ||| (1#64 <<< (k % 64)))))).drew.heap[w.heap.size]? = some x ∧
    (wr.setCell ⟨w.heap.size + 1, q, none⟩ (.int .u64 (Oc.U (Oc.mk (upto lo k) q ||| (1#64 <<< (k % 64)))))).drew.heap[w.heap.size + 1]? = some (.cells #[.int .u64 (Oc.U (Oc.mk (upto lo (k + 1)) 0)), .int .u64 (Oc.U (Oc.mk (upto lo (k + 1)) 1)), .int .u64 (Oc.U (Oc.mk (upto lo (k + 1)) 2)), .int .u64 (Oc.U (Oc.mk (upto lo (k + 1)) 3))] 25) := by
  rw [← Oc.mk_turn (upto_step hlo) hq]
  refine ⟨by go_grown, ?_, ?_, ?_⟩
  · show w.heap.size + 1 < (wr.setCell _ _).heap.size; simpa using hsz
  · show (wr.setCell _ _).heap[w.heap.size]? = _; rw [Below.heap_setCell _ _ _ _ (by simp)]; exact h0
  · show (wr.setCell _ _).heap[w.heap.size + 1]? = _
    rw [set_one h2]
    have hs := fun j (hj : k / 64 ≠ j) => Oc.mk_same (k := j) (upto_step hlo) hj
    have : q = 0 ∨ q = 1 ∨ q = 2 ∨ q = 3 := by omega
    rcases this with rfl | rfl | rfl | rfl
    · rw [hs 1 (by omega), hs 2 (by omega), hs 3 (by omega)]; rfl
    · rw [hs 0 (by omega), hs 2 (by omega), hs 3 (by omega)]; rfl
    · rw [hs 0 (by omega), hs 1 (by omega), hs 3 (by omega)]; rfl
    · rw [hs 0 (by omega), hs 1 (by omega), hs 2 (by omega)]; rfl
set_option maxRecDepth 100000 in
set_option maxHeartbeats 1000000 in
theorem range_any (lo hi : Nat) (hlo : lo < 256) (hhi : hi < 256) (w : World) :
    Calls Tryz.prog 167 #[.int .u8 lo, .int .u8 hi] w fun e w' => e = .returned (.agg #[.int .u64 (Oc.U (Oc.mk (upto lo (hi + 1)) 0)), .int .u64 (Oc.U (Oc.mk (upto lo (hi + 1)) 1)), .int .u64 (Oc.U (Oc.mk (upto lo (hi + 1)) 2)), .int .u64 (Oc.U (Oc.mk (upto lo (hi + 1)) 3))]) ∧ Below w.heap.size w w' := by
  go_enter Tryz.func167, Tryz.ntmps167
  go_wp2
  go_loopw [6] (fun i wr => ∃ k : Nat, lo ≤ k ∧ (k ≤ hi + 1 ∨ k = lo) ∧ i = .int .i64 k ∧ Below w.heap.size w wr ∧ w.heap.size + 1 < wr.heap.size ∧ wr.heap[w.heap.size]? = some (.cells #[.int .u64 0, .int .u64 0, .int .u64 0, .int .u64 0] 25) ∧
    wr.heap[w.heap.size + 1]? = some (.cells #[.int .u64 (Oc.U (Oc.mk (upto lo k) 0)), .int .u64 (Oc.U (Oc.mk (upto lo k) 1)), .int .u64 (Oc.U (Oc.mk (upto lo k) 2)), .int .u64 (Oc.U (Oc.mk (upto lo k) 3))] 25)) (fun i _ => hi + 1 - (intOf i).toNat)
  case atStart => exact ⟨lo, Nat.le_refl _, .inr rfl, rfl, by go_grown, by simp, (two_new _ _ _).1, (two_new _ _ _).2.trans (by rw [upto_none, Oc.mk_none, Oc.mk_none, Oc.mk_none, Oc.mk_none]; rfl)⟩
  case round =>
    obtain ⟨k, hlk, hk, rfl, hbel, hsz, hz0, hz1⟩ := hrel
    by_cases hlt : k ≤ hi
    · obtain ⟨c0, c1, c2, c3, f0, f1, f2, f3⟩ := four hz1
      have HZ0 := Lib.hid hz0
      have HZ1 := Lib.hid hz1
      have HK := Lib.hid hk
      clear hz0 hz1 hk
      have t2 : (k : Int).tmod 64 = (k : Int) % 64 := Int.tmod_eq_emod_of_nonneg (by omega)
      have t4 : IntKind.i64.wrap ((k : Int) % 64) = (k : Int) % 64 := IntWalk.i64_in _ (by omega)
      have t5 : (0 : Int) ≤ (k : Int) % 64 := by omega
      have d0 := Int.tdiv_eq_ediv_of_nonneg (a := (k : Int)) (b := 64) (by omega)
      have hk256 : k < 256 := by omega
      have hq : k / 64 = 0 ∨ k / 64 = 1 ∨ k / 64 = 2 ∨ k / 64 = 3 := by omega
      rcases hq with hq | hq | hq | hq
      · have t1 : (k : Int).tdiv 64 = 0 := by rw [d0]; omega
        have t3 : IntKind.i64.wrap 0 = 0 := by decide
        clear d0
        go_wp2_with fail
        refine wp_region_still_tail 9 (by kernel_rfl) (by kernel_rfl) ?_
        simp only [List.take_succ_cons, List.take_zero, List.drop_succ_cons, List.drop_zero]
        change wpStill _ _ wr.drew (fun a' => wpList _ _ _ _ a' wr.drew) _ _
        iterate 9 still_step
        refine wpStill_nil ?_
        go_wp2
        rw [Oc.shlBit, Oc.orU]
        exact ⟨⟨k + 1, by omega, .inl (by omega), by go_num, range_rel hlk hq hk256 hbel hsz HZ0.out HZ1.out⟩, by simp [intOf]; omega⟩
      · have t1 : (k : Int).tdiv 64 = 1 := by rw [d0]; omega
        have t3 : IntKind.i64.wrap 1 = 1 := by decide
        clear d0
        go_wp2_with fail
        refine wp_region_still_tail 9 (by kernel_rfl) (by kernel_rfl) ?_
        simp only [List.take_succ_cons, List.take_zero, List.drop_succ_cons, List.drop_zero]
        change wpStill _ _ wr.drew (fun a' => wpList _ _ _ _ a' wr.drew) _ _
        iterate 9 still_step
        refine wpStill_nil ?_
        go_wp2
        rw [Oc.shlBit, Oc.orU]
        exact ⟨⟨k + 1, by omega, .inl (by omega), by go_num, range_rel hlk hq hk256 hbel hsz HZ0.out HZ1.out⟩, by simp [intOf]; omega⟩
      · have t1 : (k : Int).tdiv 64 = 2 := by rw [d0]; omega
        have t3 : IntKind.i64.wrap 2 = 2 := by decide
        clear d0
        go_wp2_with fail
        refine wp_region_still_tail 9 (by kernel_rfl) (by kernel_rfl) ?_
        simp only [List.take_succ_cons, List.take_zero, List.drop_succ_cons, List.drop_zero]
        change wpStill _ _ wr.drew (fun a' => wpList _ _ _ _ a' wr.drew) _ _
        iterate 9 still_step
        refine wpStill_nil ?_
        go_wp2
        rw [Oc.shlBit, Oc.orU]
        exact ⟨⟨k + 1, by omega, .inl (by omega), by go_num, range_rel hlk hq hk256 hbel hsz HZ0.out HZ1.out⟩, by simp [intOf]; omega⟩
      · have t1 : (k : Int).tdiv 64 = 3 := by rw [d0]; omega
        have t3 : IntKind.i64.wrap 3 = 3 := by decide
        clear d0
        go_wp2_with fail
        refine wp_region_still_tail 9 (by kernel_rfl) (by kernel_rfl) ?_
        simp only [List.take_succ_cons, List.take_zero, List.drop_succ_cons, List.drop_zero]
        change wpStill _ _ wr.drew (fun a' => wpList _ _ _ _ a' wr.drew) _ _
        iterate 9 still_step
        refine wpStill_nil ?_
        go_wp2
        rw [Oc.shlBit, Oc.orU]
        exact ⟨⟨k + 1, by omega, .inl (by omega), by go_num, range_rel hlk hq hk256 hbel hsz HZ0.out HZ1.out⟩, by simp [intOf]; omega⟩
    · have hfin : upto lo k = upto lo (hi + 1) := by
        rcases hk with hk | hk
        · obtain rfl : k = hi + 1 := by omega
          rfl
        · subst hk; rw [upto_none, upto_low (by omega)]
      rw [hfin] at hz1
      obtain ⟨c0, c1, c2, c3, -⟩ := four hz1
      obtain ⟨d0, e0, d1, e1, d2, e2, d3, e3, r0, r1, r2, r3⟩ := four_st hz0
      have hlt' : (hi : Int) < (k : Int) := by omega
      clear hz0 hz1 hfin hk
      go_wp2
      refine bodyPost_ret (v := (.agg #[.int .u64 (Oc.U (Oc.mk (upto lo (hi + 1)) 0)), .int .u64 (Oc.U (Oc.mk (upto lo (hi + 1)) 1)), .int .u64 (Oc.U (Oc.mk (upto lo (hi + 1)) 2)), .int .u64 (Oc.U (Oc.mk (upto lo (hi + 1)) 3))])) (by simp [results, Tryz.results167, go_sem, r0, r1, r2, r3]) rfl ⟨rfl, ?_⟩
      go_grown
set_option maxRecDepth 100000 in
set_option maxHeartbeats 1000000 in
theorem refrange_any (lo hi : Nat) (hlo : lo < 256) (hhi : hi < 256) (w : World) :
    Calls Tryz.prog 152 #[.int .u8 lo, .int .u8 hi] w fun e w' => e = .returned (.agg #[.int .u64 (Oc.U (Oc.mk (upto lo (hi + 1)) 0)), .int .u64 (Oc.U (Oc.mk (upto lo (hi + 1)) 1)), .int .u64 (Oc.U (Oc.mk (upto lo (hi + 1)) 2)), .int .u64 (Oc.U (Oc.mk (upto lo (hi + 1)) 3))]) ∧ Below w.heap.size w w' := by
  have hz : ∀ w, (zeroValue 72).run Tryz.prog w = .ok (.agg (bools fun _ => false)) w := fun _ => by kernel_rfl
  go_enter Tryz.func152, Tryz.ntmps152
  go_wp2
  go_loopw [6] (fun i wr => ∃ k : Nat, k ≤ 256 ∧ i = .int .i64 k ∧ Below w.heap.size w wr ∧ w.heap.size + 1 < wr.heap.size ∧ wr.heap[w.heap.size]? = some (.cells #[.int .u64 0, .int .u64 0, .int .u64 0, .int .u64 0] 25) ∧
    wr.heap[w.heap.size + 1]? = some (.cells (bools fun j => decide (j < k) && upto lo (hi + 1) j) 72)) (fun i _ => 256 - (intOf i).toNat)
  case atStart => exact ⟨0, Nat.zero_le _, rfl, by go_grown, by simp, (two_new _ _ _).1, (two_new _ _ _).2.trans (by simp)⟩
  case round =>
    obtain ⟨k, hk, rfl, hbel, hsz, hz0, hz1⟩ := hrel
    by_cases hlt : k < 256
    · obtain ⟨v0, l0, f0⟩ : ∃ v, wr.cell? ⟨w.heap.size + 1, k, none⟩ = some v ∧ wr.frozen? ⟨w.heap.size + 1, k, none⟩ = false := ⟨_, one_cell hlt hz1⟩
      have HZ0 := Lib.hid hz0
      have HZ1 := Lib.hid hz1
      clear hz0 hz1
      have key : ∀ b : Bool, b = upto lo (hi + 1) k → (wr.setCell ⟨w.heap.size + 1, k, none⟩ (.bool b)).heap[w.heap.size + 1]? = some (.cells (bools fun j => decide (j < k + 1) && upto lo (hi + 1) j) 72) := fun b hb =>
        one_set hlt HZ1.out (by simp [hb]) fun j hj => by
          have : decide (j < k + 1) = decide (j < k) := by simp; omega
          simp only [this]
      have KEY := Lib.hid key
      clear key
      by_cases h1 : lo ≤ k
      · by_cases h2 : k ≤ hi
        all_goals
          have i1 : (lo : Int) ≤ (k : Int) := by omega
          first
            | (have i2 : (k : Int) ≤ (hi : Int) := by omega)
            | (have i2 : decide ((k : Int) ≤ (hi : Int)) = false := by simp; omega)
          go_wp2
          exact ⟨⟨k + 1, by omega, by go_num, by go_grown, by simpa using hsz, by rw [Below.heap_setCell _ _ _ _ (by simp)]; exact HZ0.out, KEY.out _ (by unfold upto; simp; omega)⟩, by simp [intOf]; omega⟩
      · have i1 : decide ((lo : Int) ≤ (k : Int)) = false := by simp; omega
        go_wp2
        exact ⟨⟨k + 1, by omega, by go_num, by go_grown, by simpa using hsz, by rw [Below.heap_setCell _ _ _ _ (by simp)]; exact HZ0.out, KEY.out _ (by unfold upto; simp; omega)⟩, by simp [intOf]; omega⟩
    · obtain rfl : k = 256 := by omega
      have HZ0 := Lib.hid hz0
      have HZ1 := Lib.hid hz1
      clear hz0 hz1
      have hw := mk_same4 (p := fun j => decide (j < 256) && upto lo (hi + 1) j) (q := upto lo (hi + 1)) fun i hi => by simp [hi]
      have HW := Lib.hid hw
      clear hw
      go_wp2_with (first
        | (refine wpList_load_row rfl 72 (.tmp 5) rfl (w.heap.size + 1) rfl 72 (bools fun j => decide (j < 256) && upto lo (hi + 1) j) (0, 0) _ HZ1.out Tryz.underlying72 rfl (by rw [bools_size]; kernel_rfl) ?_)
        | fail)
      refine (made_any _ _).mono ?_
      rintro e w2 ⟨rfl, hb2⟩
      rw [HW.out.1, HW.out.2.1, HW.out.2.2.1, HW.out.2.2.2]
      obtain ⟨d0, e0, d1, e1, d2, e2, d3, e3, r0, r1, r2, r3⟩ := four_st (keep_blk hb2 HZ0.out)
      have hbw2 := hbel.trans (hb2.mono hbel.size)
      go_wp2
      refine bodyPost_ret (v := (.agg #[.int .u64 (Oc.U (Oc.mk (upto lo (hi + 1)) 0)), .int .u64 (Oc.U (Oc.mk (upto lo (hi + 1)) 1)), .int .u64 (Oc.U (Oc.mk (upto lo (hi + 1)) 2)), .int .u64 (Oc.U (Oc.mk (upto lo (hi + 1)) 3))])) (by simp [results, Tryz.results152, go_sem, r0, r1, r2, r3]) rfl ⟨rfl, ?_⟩
      go_grown
end Go.Proofs.YtlbhbjmobcikfaaGreatDoor
