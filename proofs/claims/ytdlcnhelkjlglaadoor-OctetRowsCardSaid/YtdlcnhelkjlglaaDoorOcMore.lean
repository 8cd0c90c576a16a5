/- Range, First of octet; Of, Range, Has, Count, First of its reference. -/
import Derived.Test.YtdlcnhelkjlglaaDoorOcNext
namespace Go.Proofs.YtdlcnhelkjlglaaDoor
open Go.RowKit
set_option maxHeartbeats 1000000 in
theorem first_any (a b c d : BitVec 64) (w : World) (hT : TabAt 21 Lib.deBruijn64tab w) (hg : 21 < w.heap.size) :
    Calls Tryd.prog 16 #[(.agg #[.int .u64 (Oc.U a), .int .u64 (Oc.U b), .int .u64 (Oc.U c), .int .u64 (Oc.U d)])] w fun e w' => e = .returned (if Oc.nx (Oc.mem a b c d) 0 < 256 then .tuple #[.int .u8 (Oc.nx (Oc.mem a b c d) 0), .bool true] else .tuple #[.int .u8 0, .bool false]) ∧ Below w.heap.size w w' := by
  have hsp := Oc.nx_spec (Oc.mem a b c d) 0 (by omega)
  have hle := hsp.2.1
  have hT1 : ∀ o, TabAt 21 Lib.deBruijn64tab (w.alloc o) := fun o j hj => (((Below.refl w.heap.size w).alloc (Nat.le_refl _) o).cell (p := ⟨_, j, none⟩) hg).trans (hT j hj)
  have HT := Lib.hid hT1
  clear hT hT1 hsp
  by_cases h : Oc.nx (Oc.mem a b c d) 0 < 256
  · rw [if_pos h]
    have hne : ((Oc.nx (Oc.mem a b c d) 0 : Int) == 256) = false := by simp; omega
    go_enter Tryd.func16, Tryd.ntmps16
    go_wp2_with fail
    refine (next_any a b c d 0 (by omega) _ (HT.out _) (by simp; omega)).mono ?_
    rintro e w1 ⟨rfl, hb1⟩
    go_wp2
    go_ret2
    exact ⟨rfl, ((Below.refl _ _).alloc (Nat.le_refl _) _).trans (hb1.mono (by simp))⟩
  · rw [if_neg h]
    have hne : Oc.nx (Oc.mem a b c d) 0 = 256 := by omega
    have HE := Lib.hid hne
    clear hne
    go_enter Tryd.func16, Tryd.ntmps16
    go_wp2_with fail
    refine (next_any a b c d 0 (by omega) _ (HT.out _) (by simp; omega)).mono ?_
    rintro e w1 ⟨rfl, hb1⟩
    rw [HE.out]
    go_wp2
    go_ret2
    exact ⟨rfl, ((Below.refl _ _).alloc (Nat.le_refl _) _).trans (hb1.mono (by simp))⟩
set_option maxHeartbeats 1000000 in
theorem refhas_any (a b c d : BitVec 64) (n : Nat) (hn : n < 256) (w : World) :
    Calls Tryd.prog 15 #[(.agg #[.int .u64 (Oc.U a), .int .u64 (Oc.U b), .int .u64 (Oc.U c), .int .u64 (Oc.U d)]), .int .u8 n] w fun e w' => e = .returned (.bool (Oc.mem a b c d n)) ∧ Below w.heap.size w w' := by
  have ha := Oc.U_nonneg a; have hb := Oc.U_nonneg b; have hc := Oc.U_nonneg c; have hd := Oc.U_nonneg d
  have hq : n / 64 = 0 ∨ n / 64 = 1 ∨ n / 64 = 2 ∨ n / 64 = 3 := by omega
  have h2 : ∀ x : BitVec 64, (Oc.U x / (2 : Int) ^ (n % 64) % 2 == 1) = x.getLsbD (n % 64) := fun x => by
    rw [← bit_of]; unfold pw; congr 3
  have H2 := Lib.hid h2
  clear h2
  rcases hq with hq | hq | hq | hq
  all_goals
    have hs := shr_word a (n % 64); have hs1 := shr_word b (n % 64); have hs2 := shr_word c (n % 64); have hs3 := shr_word d (n % 64)
    have ht := Oc.U_nonneg (a >>> (n % 64)); have ht1 := Oc.U_nonneg (b >>> (n % 64)); have ht2 := Oc.U_nonneg (c >>> (n % 64)); have ht3 := Oc.U_nonneg (d >>> (n % 64))
    go_enter Tryd.func15, Tryd.ntmps15
    go_wp2
    go_returns
    refine ⟨ret_bool ?_, by go_grown⟩
    rw [← shr_word, H2.out]
    unfold Oc.mem Oc.w4
    rw [hq]
    rfl
/-- The least byte, -1: none. -/
def least (p : Nat → Bool) : Int := if Oc.nx p 0 < 256 then (Oc.nx p 0 : Int) else -1
/-- Bits of a set, laid in a variable. -/
theorem lay_bits {w w1 : World} {f : Nat → Bool} (hb1 : Below w.heap.size w w1) : Below w.heap.size w ((w1.alloc (.cells (bools fun _ => false) 49)).setRow w1.heap.size (bools f)) ∧ ((w1.alloc (.cells (bools fun _ => false) 49)).setRow w1.heap.size (bools f)).heap[w1.heap.size]? = some (.cells (bools f) 49) :=
  ⟨below_setRow (hb1.alloc hb1.size _) hb1.size _, heap_setRow (heap_alloc_new _ _)⟩
set_option maxRecDepth 100000 in
set_option maxHeartbeats 1000000 in
theorem refcount_any (a b c d : BitVec 64) (w : World) :
    Calls Tryd.prog 13 #[(.agg #[.int .u64 (Oc.U a), .int .u64 (Oc.U b), .int .u64 (Oc.U c), .int .u64 (Oc.U d)])] w fun e w' => e = .returned (.int .i64 (Oc.cnt (Oc.mem a b c d) 256)) ∧ Below w.heap.size w w' := by
  have hz : ∀ w, (zeroValue 49).run Tryd.prog w = .ok (.agg (bools fun _ => false)) w := fun _ => by kernel_rfl
  go_enter Tryd.func13, Tryd.ntmps13
  go_wp2_with fail
  refine (bits_any _ _ _ _ _).mono ?_
  rintro e w1 ⟨rfl, hb1⟩
  have hbw1 : Below w.heap.size w w1 := ((Below.refl _ _).alloc (Nat.le_refl _) _).trans (hb1.mono (by simp))
  clear hb1
  obtain ⟨hbw2, hl⟩ := lay_bits (f := Oc.mem a b c d) hbw1
  have HL := Lib.hid hl
  clear hl
  go_wp2_with (first
    | (refine wpList_store_row rfl 49 (.tmp 3) (.tmp 7) rfl w1.heap.size (bools (Oc.mem a b c d)) rfl rfl 49 (bools fun _ => false) (heap_alloc_new _ _) (by rw [bools_size]; kernel_rfl) (by rw [bools_size, bools_size]) (bools_one _) ?_)
    | fail)
  go_loop [4, 5] (fun n i => ∃ k : Nat, k ≤ 256 ∧ i = .int .i64 k ∧ n = .int .i64 (Oc.cnt (Oc.mem a b c d) k)) (fun _ i => 256 - (intOf i).toNat)
  case atStart => exact ⟨0, Nat.zero_le _, rfl, rfl⟩
  case round =>
    obtain ⟨k, hk, rfl, rfl⟩ := hrel
    by_cases hlt : k < 256
    · have l0 := (one_cell hlt HL.out).1
      have hc := Oc.cnt_le (Oc.mem a b c d) k
      have hs : Oc.cnt (Oc.mem a b c d) (k + 1) = Oc.cnt (Oc.mem a b c d) k + (Oc.mem a b c d k).toNat := rfl
      have HS := Lib.hid hs
      clear hs
      cases hm : Oc.mem a b c d k with
      | false =>
        rw [hm] at l0
        have HM := Lib.hid hm
        clear hm
        go_wp2
        go_round
        case rel => exact ⟨k + 1, by omega, by go_num, by rw [HS.out, HM.out]; rfl⟩
        case measure => simp [intOf]; omega
      | true =>
        rw [hm] at l0
        have HM := Lib.hid hm
        clear hm
        go_wp2
        go_round
        case rel => exact ⟨k + 1, by omega, by go_num, by rw [HS.out, HM.out]; rfl⟩
        case measure => simp [intOf]; omega
    · obtain rfl : k = 256 := by omega
      go_wp2
      go_ret
      exact ⟨rfl, hbw2⟩
set_option maxRecDepth 100000 in
set_option maxHeartbeats 1000000 in
theorem reffirst_any (a b c d : BitVec 64) (w : World) :
    Calls Tryd.prog 17 #[(.agg #[.int .u64 (Oc.U a), .int .u64 (Oc.U b), .int .u64 (Oc.U c), .int .u64 (Oc.U d)])] w fun e w' => e = .returned (.int .i64 (least (Oc.mem a b c d))) ∧ Below w.heap.size w w' := by
  have hz : ∀ w, (zeroValue 49).run Tryd.prog w = .ok (.agg (bools fun _ => false)) w := fun _ => by kernel_rfl
  go_enter Tryd.func17, Tryd.ntmps17
  go_wp2_with fail
  refine (bits_any _ _ _ _ _).mono ?_
  rintro e w1 ⟨rfl, hb1⟩
  have hbw1 : Below w.heap.size w w1 := ((Below.refl _ _).alloc (Nat.le_refl _) _).trans (hb1.mono (by simp))
  clear hb1
  obtain ⟨hbw2, hl⟩ := lay_bits (f := Oc.mem a b c d) hbw1
  have HL := Lib.hid hl
  clear hl
  go_wp2_with (first
    | (refine wpList_store_row rfl 49 (.tmp 3) (.tmp 6) rfl w1.heap.size (bools (Oc.mem a b c d)) rfl rfl 49 (bools fun _ => false) (heap_alloc_new _ _) (by rw [bools_size]; kernel_rfl) (by rw [bools_size, bools_size]) (bools_one _) ?_)
    | fail)
  go_loop [4] (fun i => ∃ k : Nat, k ≤ 256 ∧ i = .int .i64 k ∧ Hid (∀ j, j < k → Oc.mem a b c d j = false)) (fun i => 256 - (intOf i).toNat)
  case atStart => exact ⟨0, Nat.zero_le _, rfl, fun j hj => by omega⟩
  case round =>
    obtain ⟨k, hk, rfl, HN⟩ := hrel
    by_cases hlt : k < 256
    · have l0 := (one_cell hlt HL.out).1
      cases hm : Oc.mem a b c d k with
      | false =>
        rw [hm] at l0
        have HM := Lib.hid hm
        clear hm
        go_wp2
        go_round
        case rel => exact ⟨k + 1, by omega, by go_num, fun j hj => by by_cases e : j = k; (· subst e; exact HM.out); exact HN.out j (by omega)⟩
        case measure => simp [intOf]; omega
      | true =>
        rw [hm] at l0
        have hf : Oc.nx (Oc.mem a b c d) 0 = k := Oc.nx_eq (by omega) (by omega) (fun i _ hi => HN.out i hi) (fun _ => hm)
        have HF := Lib.hid hf
        clear hm hf
        go_wp2
        go_ret
        exact ⟨ret_int (by unfold least; rw [HF.out, if_pos hlt]), hbw2⟩
    · obtain rfl : k = 256 := by omega
      have hf : Oc.nx (Oc.mem a b c d) 0 = 256 := Oc.nx_eq (by omega) (by omega) (fun i _ hi => HN.out i hi) (fun h => by omega)
      have HF := Lib.hid hf
      clear hf
      go_wp2
      go_ret
      exact ⟨ret_int (by unfold least; rw [HF.out, if_neg (by omega)]), hbw2⟩
/-- From lo on, up to k. -/
def upto (lo : Nat) (k : Nat) : Nat → Bool := fun j => decide (lo ≤ j) && decide (j < k)
theorem upto_step {lo k : Nat} (h : lo ≤ k) : ∀ j, upto lo (k + 1) j = (upto lo k j || j == k) := by
  intro j; unfold upto
  rw [Bool.eq_iff_iff]; simp; omega
theorem upto_none (lo : Nat) : upto lo lo = fun _ => false := by
  funext j; unfold upto; rw [Bool.eq_false_iff]; simp
theorem upto_low {lo k : Nat} (h : k ≤ lo) : upto lo k = fun _ => false := by
  funext j; unfold upto; rw [Bool.eq_false_iff]; simp; omega
/-- What a round of Range leaves. -/
theorem range_rel {w wr : World} {lo k q : Nat} {x : Obj} (hlo : lo ≤ k) (hq : k / 64 = q) (hlt : k < 256) (hbel : Below w.heap.size w wr) (hsz : w.heap.size + 1 < wr.heap.size) (h0 : wr.heap[w.heap.size]? = some x)
    (h2 : wr.heap[w.heap.size + 1]? = some (.cells #[.int .u64 (Oc.U (Oc.mk (upto lo k) 0)), .int .u64 (Oc.U (Oc.mk (upto lo k) 1)), .int .u64 (Oc.U (Oc.mk (upto lo k) 2)), .int .u64 (Oc.U (Oc.mk (upto lo k) 3))] 24)) :
    Below w.heap.size w (wr.setCell ⟨w.heap.size + 1, q, none⟩ (.int .u64 (Oc.U (Oc.mk (upto lo k) q ||| (1#64 <<< (k % 64)))))).drew ∧ w.heap.size + 1 < (wr.setCell ⟨w.heap.size + 1, q, none⟩ (.int .u64 (Oc.U (Oc.mk (upto lo k) q ||| (1#64 <<< (k % 64)))))).drew.heap.size ∧
    (wr.setCell ⟨w.heap.size + 1, q, none⟩ (.int .u64 (Oc.U (Oc.mk (upto lo k) q ||| (1#64 <<< (k % 64)))))).drew.heap[w.heap.size]? = some x ∧
    (wr.setCell ⟨w.heap.size + 1, q, none⟩ (.int .u64 (Oc.U (Oc.mk (upto lo k) q ||| (1#64 <<< (k % 64)))))).drew.heap[w.heap.size + 1]? = some (.cells #[.int .u64 (Oc.U (Oc.mk (upto lo (k + 1)) 0)), .int .u64 (Oc.U (Oc.mk (upto lo (k + 1)) 1)), .int .u64 (Oc.U (Oc.mk (upto lo (k + 1)) 2)), .int .u64 (Oc.U (Oc.mk (upto lo (k + 1)) 3))] 24) := by
  rw [← Oc.mk_turn (upto_step hlo) hq]
  refine ⟨by go_grown, ?_, ?_, ?_⟩
  · show w.heap.size + 1 < (wr.setCell _ _).heap.size; simpa using hsz
  · show (wr.setCell _ _).heap[w.heap.size]? = _; rw [Below.heap_setCell _ _ _ _ (by simp)]; exact h0
  · show (wr.setCell _ _).heap[w.heap.size + 1]? = _
    rw [set_one h2]
    have hs := fun j (hj : k / 64 ≠ j) => Oc.mk_same (k := j) (upto_step hlo) hj
    have : q = 0 ∨ q = 1 ∨ q = 2 ∨ q = 3 := by omega
    rcases this with rfl | rfl | rfl | rfl
    · rw [hs 1 (by omega), hs 2 (by omega), hs 3 (by omega)]; rfl
    · rw [hs 0 (by omega), hs 2 (by omega), hs 3 (by omega)]; rfl
    · rw [hs 0 (by omega), hs 1 (by omega), hs 3 (by omega)]; rfl
    · rw [hs 0 (by omega), hs 1 (by omega), hs 2 (by omega)]; rfl
set_option maxRecDepth 100000 in
set_option maxHeartbeats 1000000 in
theorem range_any (lo hi : Nat) (hlo : lo < 256) (hhi : hi < 256) (w : World) :
    Calls Tryd.prog 10 #[.int .u8 lo, .int .u8 hi] w fun e w' => e = .returned (.agg #[.int .u64 (Oc.U (Oc.mk (upto lo (hi + 1)) 0)), .int .u64 (Oc.U (Oc.mk (upto lo (hi + 1)) 1)), .int .u64 (Oc.U (Oc.mk (upto lo (hi + 1)) 2)), .int .u64 (Oc.U (Oc.mk (upto lo (hi + 1)) 3))]) ∧ Below w.heap.size w w' := by
  go_enter Tryd.func10, Tryd.ntmps10
  go_wp2
  go_loopw [6] (fun i wr => ∃ k : Nat, lo ≤ k ∧ (k ≤ hi + 1 ∨ k = lo) ∧ i = .int .i64 k ∧ Below w.heap.size w wr ∧ w.heap.size + 1 < wr.heap.size ∧ wr.heap[w.heap.size]? = some (.cells #[.int .u64 0, .int .u64 0, .int .u64 0, .int .u64 0] 24) ∧
    wr.heap[w.heap.size + 1]? = some (.cells #[.int .u64 (Oc.U (Oc.mk (upto lo k) 0)), .int .u64 (Oc.U (Oc.mk (upto lo k) 1)), .int .u64 (Oc.U (Oc.mk (upto lo k) 2)), .int .u64 (Oc.U (Oc.mk (upto lo k) 3))] 24)) (fun i _ => hi + 1 - (intOf i).toNat)
  case atStart => exact ⟨lo, Nat.le_refl _, .inr rfl, rfl, by go_grown, by simp, (two_new _ _ _).1, (two_new _ _ _).2.trans (by rw [upto_none, Oc.mk_none, Oc.mk_none, Oc.mk_none, Oc.mk_none]; rfl)⟩
  case round =>
    obtain ⟨k, hlk, hk, rfl, hbel, hsz, hz0, hz1⟩ := hrel
    by_cases hlt : k ≤ hi
    · obtain ⟨c0, c1, c2, c3, f0, f1, f2, f3⟩ := four hz1
      have HZ0 := Lib.hid hz0
      have HZ1 := Lib.hid hz1
      have HK := Lib.hid hk
      clear hz0 hz1 hk
      have t2 : (k : Int).tmod 64 = (k : Int) % 64 := Int.tmod_eq_emod_of_nonneg (by omega)
      have t4 : IntKind.i64.wrap ((k : Int) % 64) = (k : Int) % 64 := IntWalk.i64_in _ (by omega)
      have t5 : (0 : Int) ≤ (k : Int) % 64 := by omega
      have d0 := Int.tdiv_eq_ediv_of_nonneg (a := (k : Int)) (b := 64) (by omega)
      have hk256 : k < 256 := by omega
      have hq : k / 64 = 0 ∨ k / 64 = 1 ∨ k / 64 = 2 ∨ k / 64 = 3 := by omega
      rcases hq with hq | hq | hq | hq
      · have t1 : (k : Int).tdiv 64 = 0 := by rw [d0]; omega
        have t3 : IntKind.i64.wrap 0 = 0 := by decide
        clear d0
        go_wp2_with fail
        refine wp_region_still_tail 9 (by kernel_rfl) (by kernel_rfl) ?_
        simp only [List.take_succ_cons, List.take_zero, List.drop_succ_cons, List.drop_zero]
        change wpStill _ _ wr.drew (fun a' => wpList _ _ _ _ a' wr.drew) _ _
        iterate 9 still_step
        refine wpStill_nil ?_
        go_wp2
        rw [Oc.shlBit, Oc.orU]
        exact ⟨⟨k + 1, by omega, .inl (by omega), by go_num, range_rel hlk hq hk256 hbel hsz HZ0.out HZ1.out⟩, by simp [intOf]; omega⟩
      · have t1 : (k : Int).tdiv 64 = 1 := by rw [d0]; omega
        have t3 : IntKind.i64.wrap 1 = 1 := by decide
        clear d0
        go_wp2_with fail
        refine wp_region_still_tail 9 (by kernel_rfl) (by kernel_rfl) ?_
        simp only [List.take_succ_cons, List.take_zero, List.drop_succ_cons, List.drop_zero]
        change wpStill _ _ wr.drew (fun a' => wpList _ _ _ _ a' wr.drew) _ _
        iterate 9 still_step
        refine wpStill_nil ?_
        go_wp2
        rw [Oc.shlBit, Oc.orU]
        exact ⟨⟨k + 1, by omega, .inl (by omega), by go_num, range_rel hlk hq hk256 hbel hsz HZ0.out HZ1.out⟩, by simp [intOf]; omega⟩
      · have t1 : (k : Int).tdiv 64 = 2 := by rw [d0]; omega
        have t3 : IntKind.i64.wrap 2 = 2 := by decide
        clear d0
        go_wp2_with fail
        refine wp_region_still_tail 9 (by kernel_rfl) (by kernel_rfl) ?_
        simp only [List.take_succ_cons, List.take_zero, List.drop_succ_cons, List.drop_zero]
        change wpStill _ _ wr.drew (fun a' => wpList _ _ _ _ a' wr.drew) _ _
        iterate 9 still_step
        refine wpStill_nil ?_
        go_wp2
        rw [Oc.shlBit, Oc.orU]
        exact ⟨⟨k + 1, by omega, .inl (by omega), by go_num, range_rel hlk hq hk256 hbel hsz HZ0.out HZ1.out⟩, by simp [intOf]; omega⟩
      · have t1 : (k : Int).tdiv 64 = 3 := by rw [d0]; omega
        have t3 : IntKind.i64.wrap 3 = 3 := by decide
        clear d0
        go_wp2_with fail
        refine wp_region_still_tail 9 (by kernel_rfl) (by kernel_rfl) ?_
        simp only [List.take_succ_cons, List.take_zero, List.drop_succ_cons, List.drop_zero]
        change wpStill _ _ wr.drew (fun a' => wpList _ _ _ _ a' wr.drew) _ _
        iterate 9 still_step
        refine wpStill_nil ?_
        go_wp2
        rw [Oc.shlBit, Oc.orU]
        exact ⟨⟨k + 1, by omega, .inl (by omega), by go_num, range_rel hlk hq hk256 hbel hsz HZ0.out HZ1.out⟩, by simp [intOf]; omega⟩
    · have hfin : upto lo k = upto lo (hi + 1) := by
        rcases hk with hk | hk
        · obtain rfl : k = hi + 1 := by omega
          rfl
        · subst hk; rw [upto_none, upto_low (by omega)]
      rw [hfin] at hz1
      obtain ⟨c0, c1, c2, c3, -⟩ := four hz1
      obtain ⟨d0, e0, d1, e1, d2, e2, d3, e3, r0, r1, r2, r3⟩ := four_st hz0
      have hlt' : (hi : Int) < (k : Int) := by omega
      clear hz0 hz1 hfin hk
      go_wp2
      refine bodyPost_ret (v := (.agg #[.int .u64 (Oc.U (Oc.mk (upto lo (hi + 1)) 0)), .int .u64 (Oc.U (Oc.mk (upto lo (hi + 1)) 1)), .int .u64 (Oc.U (Oc.mk (upto lo (hi + 1)) 2)), .int .u64 (Oc.U (Oc.mk (upto lo (hi + 1)) 3))])) (by simp [results, Tryd.results10, go_sem, r0, r1, r2, r3]) rfl ⟨rfl, ?_⟩
      go_grown
set_option maxRecDepth 100000 in
set_option maxHeartbeats 1000000 in
theorem refrange_any (lo hi : Nat) (hlo : lo < 256) (hhi : hi < 256) (w : World) :
    Calls Tryd.prog 11 #[.int .u8 lo, .int .u8 hi] w fun e w' => e = .returned (.agg #[.int .u64 (Oc.U (Oc.mk (upto lo (hi + 1)) 0)), .int .u64 (Oc.U (Oc.mk (upto lo (hi + 1)) 1)), .int .u64 (Oc.U (Oc.mk (upto lo (hi + 1)) 2)), .int .u64 (Oc.U (Oc.mk (upto lo (hi + 1)) 3))]) ∧ Below w.heap.size w w' := by
  have hz : ∀ w, (zeroValue 49).run Tryd.prog w = .ok (.agg (bools fun _ => false)) w := fun _ => by kernel_rfl
  go_enter Tryd.func11, Tryd.ntmps11
  go_wp2
  go_loopw [6] (fun i wr => ∃ k : Nat, k ≤ 256 ∧ i = .int .i64 k ∧ Below w.heap.size w wr ∧ w.heap.size + 1 < wr.heap.size ∧ wr.heap[w.heap.size]? = some (.cells #[.int .u64 0, .int .u64 0, .int .u64 0, .int .u64 0] 24) ∧
    wr.heap[w.heap.size + 1]? = some (.cells (bools fun j => decide (j < k) && upto lo (hi + 1) j) 49)) (fun i _ => 256 - (intOf i).toNat)
  case atStart => exact ⟨0, Nat.zero_le _, rfl, by go_grown, by simp, (two_new _ _ _).1, (two_new _ _ _).2.trans (by simp)⟩
  case round =>
    obtain ⟨k, hk, rfl, hbel, hsz, hz0, hz1⟩ := hrel
    by_cases hlt : k < 256
    · obtain ⟨v0, l0, f0⟩ : ∃ v, wr.cell? ⟨w.heap.size + 1, k, none⟩ = some v ∧ wr.frozen? ⟨w.heap.size + 1, k, none⟩ = false := ⟨_, one_cell hlt hz1⟩
      have HZ0 := Lib.hid hz0
      have HZ1 := Lib.hid hz1
      clear hz0 hz1
      have key : ∀ b : Bool, b = upto lo (hi + 1) k → (wr.setCell ⟨w.heap.size + 1, k, none⟩ (.bool b)).heap[w.heap.size + 1]? = some (.cells (bools fun j => decide (j < k + 1) && upto lo (hi + 1) j) 49) := fun b hb =>
        one_set hlt HZ1.out (by simp [hb]) fun j hj => by
          have : decide (j < k + 1) = decide (j < k) := by simp; omega
          simp only [this]
      have KEY := Lib.hid key
      clear key
      by_cases h1 : lo ≤ k
      · by_cases h2 : k ≤ hi
        all_goals
          have i1 : (lo : Int) ≤ (k : Int) := by omega
          first
            | (have i2 : (k : Int) ≤ (hi : Int) := by omega)
            | (have i2 : decide ((k : Int) ≤ (hi : Int)) = false := by simp; omega)
          go_wp2
          exact ⟨⟨k + 1, by omega, by go_num, by go_grown, by simpa using hsz, by rw [Below.heap_setCell _ _ _ _ (by simp)]; exact HZ0.out, KEY.out _ (by unfold upto; simp; omega)⟩, by simp [intOf]; omega⟩
      · have i1 : decide ((lo : Int) ≤ (k : Int)) = false := by simp; omega
        go_wp2
        exact ⟨⟨k + 1, by omega, by go_num, by go_grown, by simpa using hsz, by rw [Below.heap_setCell _ _ _ _ (by simp)]; exact HZ0.out, KEY.out _ (by unfold upto; simp; omega)⟩, by simp [intOf]; omega⟩
    · obtain rfl : k = 256 := by omega
      have HZ0 := Lib.hid hz0
      have HZ1 := Lib.hid hz1
      clear hz0 hz1
      have hw := mk_same4 (p := fun j => decide (j < 256) && upto lo (hi + 1) j) (q := upto lo (hi + 1)) fun i hi => by simp [hi]
      have HW := Lib.hid hw
      clear hw
      go_wp2_with (first
        | (refine wpList_load_row rfl 49 (.tmp 5) rfl (w.heap.size + 1) rfl 49 (bools fun j => decide (j < 256) && upto lo (hi + 1) j) (0, 0) _ HZ1.out Tryd.underlying49 rfl (by rw [bools_size]; kernel_rfl) ?_)
        | fail)
      refine (made_any _ _).mono ?_
      rintro e w2 ⟨rfl, hb2⟩
      rw [HW.out.1, HW.out.2.1, HW.out.2.2.1, HW.out.2.2.2]
      obtain ⟨d0, e0, d1, e1, d2, e2, d3, e3, r0, r1, r2, r3⟩ := four_st (keep_blk hb2 HZ0.out)
      have hbw2 := hbel.trans (hb2.mono hbel.size)
      go_wp2
      refine bodyPost_ret (v := (.agg #[.int .u64 (Oc.U (Oc.mk (upto lo (hi + 1)) 0)), .int .u64 (Oc.U (Oc.mk (upto lo (hi + 1)) 1)), .int .u64 (Oc.U (Oc.mk (upto lo (hi + 1)) 2)), .int .u64 (Oc.U (Oc.mk (upto lo (hi + 1)) 3))])) (by simp [results, Tryd.results11, go_sem, r0, r1, r2, r3]) rfl ⟨rfl, ?_⟩
      go_grown
/-- Byte i of a text. -/
def byteAt (s : ByteArray) (i : Nat) : Nat := (s.data.getD i 0).toNat
theorem byteAt_lt (s : ByteArray) (i : Nat) : byteAt s i < 256 := by unfold byteAt; exact UInt8.toNat_lt _
set_option maxRecDepth 100000 in
set_option maxHeartbeats 1000000 in
theorem refof_any (s : ByteArray) (hs : s.size ≤ maxLen) (w : World) :
    Calls Tryd.prog 9 #[.string s] w fun e w' => e = .returned (.agg #[.int .u64 (Oc.U (Oc.mk (Oc.anyB (byteAt s) s.size) 0)), .int .u64 (Oc.U (Oc.mk (Oc.anyB (byteAt s) s.size) 1)), .int .u64 (Oc.U (Oc.mk (Oc.anyB (byteAt s) s.size) 2)), .int .u64 (Oc.U (Oc.mk (Oc.anyB (byteAt s) s.size) 3))]) ∧ Below w.heap.size w w' := by
  unfold maxLen at hs
  have hz : ∀ w, (zeroValue 49).run Tryd.prog w = .ok (.agg (bools fun _ => false)) w := fun _ => by kernel_rfl
  go_enter Tryd.func9, Tryd.ntmps9
  go_wp2
  go_loopw [4] (fun i wr => ∃ k : Nat, k ≤ s.size ∧ i = .int .i64 k ∧ Below w.heap.size w wr ∧ w.heap.size + 1 < wr.heap.size ∧ wr.heap[w.heap.size]? = some (.cells #[.int .u64 0, .int .u64 0, .int .u64 0, .int .u64 0] 24) ∧
    wr.heap[w.heap.size + 1]? = some (.cells (bools (Oc.anyB (byteAt s) k)) 49)) (fun i _ => s.size - (intOf i).toNat)
  case atStart => exact ⟨0, Nat.zero_le _, rfl, by go_grown, by simp, (two_new _ _ _).1, (two_new _ _ _).2.trans (by rfl)⟩
  case round =>
    obtain ⟨k, hk, rfl, hbel, hsz, hz0, hz1⟩ := hrel
    by_cases hlt : k < s.size
    · have hb := byteAt_lt s k
      have he : s[k].toNat = byteAt s k := by unfold byteAt; simp [ByteArray.getElem_eq_getElem_data, hlt]
      obtain ⟨v0, l0, f0⟩ : ∃ v, wr.cell? ⟨w.heap.size + 1, byteAt s k, none⟩ = some v ∧ wr.frozen? ⟨w.heap.size + 1, byteAt s k, none⟩ = false := ⟨_, one_cell hb hz1⟩
      have HZ0 := Lib.hid hz0
      have HZ1 := Lib.hid hz1
      clear hz0 hz1
      go_wp2
      exact ⟨⟨k + 1, by omega, by go_num, by go_grown, by simpa using hsz, by rw [Below.heap_setCell _ _ _ _ (by simp)]; exact HZ0.out, one_set hb HZ1.out (by simp [Oc.anyB]) (fun j hj => by simp [Oc.anyB, hj])⟩, by simp [intOf]; omega⟩
    · obtain rfl : k = s.size := by omega
      have HZ0 := Lib.hid hz0
      have HZ1 := Lib.hid hz1
      clear hz0 hz1
      go_wp2_with (first
        | (refine wpList_load_row rfl 49 (.tmp 3) rfl (w.heap.size + 1) rfl 49 (bools (Oc.anyB (byteAt s) s.size)) (0, 0) _ HZ1.out Tryd.underlying49 rfl (by rw [bools_size]; kernel_rfl) ?_)
        | fail)
      refine (made_any _ _).mono ?_
      rintro e w2 ⟨rfl, hb2⟩
      obtain ⟨d0, e0, d1, e1, d2, e2, d3, e3, r0, r1, r2, r3⟩ := four_st (keep_blk hb2 HZ0.out)
      have hbw2 := hbel.trans (hb2.mono hbel.size)
      go_wp2
      refine bodyPost_ret (v := (.agg #[.int .u64 (Oc.U (Oc.mk (Oc.anyB (byteAt s) s.size) 0)), .int .u64 (Oc.U (Oc.mk (Oc.anyB (byteAt s) s.size) 1)), .int .u64 (Oc.U (Oc.mk (Oc.anyB (byteAt s) s.size) 2)), .int .u64 (Oc.U (Oc.mk (Oc.anyB (byteAt s) s.size) 3))])) (by simp [results, Tryd.results9, go_sem, r0, r1, r2, r3]) rfl ⟨rfl, ?_⟩
      go_grown
end Go.Proofs.YtdlcnhelkjlglaaDoor
