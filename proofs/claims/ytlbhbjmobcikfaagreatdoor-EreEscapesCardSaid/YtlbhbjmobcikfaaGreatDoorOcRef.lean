/- What each function of the reference of octet does. -/
import Derived.Test.YtlbhbjmobcikfaaGreatDoorOcWalks2
namespace Go.Proofs.YtlbhbjmobcikfaaGreatDoor
open Go.RowKit
/-- 2 to the n. -/
def pw (n : Nat) : Int := ((2 ^ n : Nat) : Int)
theorem pw_succ (n : Nat) (h : n < 63) : IntKind.u64.wrap (pw n * 2) = pw (n + 1) := by
  rw [IntKind.wrap_u64]; unfold pw
  have : 2 ^ (n + 1) ≤ 2 ^ 63 := Nat.pow_le_pow_right (by omega) (by omega)
  rw [Nat.pow_succ] at *
  omega
set_option maxRecDepth 100000 in
set_option maxHeartbeats 1000000 in
theorem power_any (n : Nat) (hn : n < 64) (w : World) :
    Calls Tryz.prog 61 #[.int .i64 n] w fun e w' => e = .returned (.int .u64 (pw n)) ∧ w = w' := by
  go_enter Tryz.func61, Tryz.ntmps61
  go_wp2
  go_loop [3, 4] (fun p i => ∃ k : Nat, k ≤ n ∧ i = .int .i64 k ∧ p = .int .u64 (pw k)) (fun _ i => n - (intOf i).toNat)
  case atStart => exact ⟨0, Nat.zero_le _, rfl, rfl⟩
  case round =>
    obtain ⟨k, hk, rfl, rfl⟩ := hrel
    by_cases hlt : k < n
    · have hs := pw_succ k (by omega)
      go_wp2
      go_round
      case rel => exact ⟨k + 1, by omega, by go_num, rfl⟩
      case measure => simp [intOf]; omega
    · obtain rfl : k = n := by omega
      go_wp2
      go_ret
      exact ⟨rfl, rfl⟩
theorem power_mod (k : Nat) (w : World) :
    Calls Tryz.prog 61 #[.int .i64 ((k : Int) % 64)] w fun e w' => e = .returned (.int .u64 (pw (k % 64))) ∧ w = w' := by
  rw [show ((k : Int) % 64) = ((k % 64 : Nat) : Int) by omega]; exact power_any (k % 64) (by omega) w
theorem pw_pos (n : Nat) : 1 ≤ pw n := by have := Nat.two_pow_pos n; unfold pw; omega
theorem bit_of (x : BitVec 64) (n : Nat) : (Oc.U x / pw n % 2 == 1) = x.getLsbD n := by
  have e : Oc.U x / pw n % 2 = ((x.toNat / 2 ^ n % 2 : Nat) : Int) := by
    show (x.toNat : Int) / ((2 ^ n : Nat) : Int) % 2 = _
    omega
  rw [e, show x.getLsbD n = x.toNat.testBit n from rfl, Nat.testBit_eq_decide_div_mod_eq]
  generalize x.toNat / 2 ^ n % 2 = m
  rw [Bool.eq_iff_iff, beq_iff_eq, decide_eq_true_iff]; omega
theorem quo_eq (x : BitVec 64) (n : Nat) : IntKind.u64.wrap ((Oc.U x).tdiv (pw n)) = Oc.U x / pw n := by
  have h0 := Oc.U_nonneg x; have h1 := Oc.U_lt x; have h2 := pw_pos n
  rw [Int.tdiv_eq_ediv_of_nonneg h0, IntKind.wrap_u64]
  have h3 : 0 ≤ Oc.U x / pw n := Int.ediv_nonneg h0 (by omega)
  have h4 : Oc.U x / pw n ≤ Oc.U x := Int.ediv_le_self _ h0
  omega
theorem rem_eq (x : BitVec 64) (n : Nat) : (Oc.U x / pw n).tmod 2 = Oc.U x / pw n % 2 :=
  Int.tmod_eq_emod_of_nonneg (Int.ediv_nonneg (Oc.U_nonneg x) (by have := pw_pos n; omega))
theorem pw_ne (n : Nat) : ¬ pw n = 0 := by have := pw_pos n; omega
/-- The 256 bools of a set. -/
def bools (f : Nat → Bool) : Array Value := Array.ofFn (n := 256) fun i => .bool (f i.val)
theorem bools_get (f : Nat → Bool) (k : Nat) (h : k < 256) : (bools f)[k]? = some (.bool (f k)) := by
  unfold bools; rw [Array.getElem?_eq_getElem (by simpa using h)]; simp
theorem bools_set {f g : Nat → Bool} {k : Nat} {v : Bool} (h : k < 256) (hk : g k = v) (ho : ∀ j, j ≠ k → g j = f j) : (bools f).setIfInBounds k (.bool v) = bools g := by
  apply Array.ext
  · simp [bools]
  · intro i h1 h2
    by_cases e : i = k
    · subst e; simp [bools, hk]
    · have := ho i e
      rw [Array.getElem_setIfInBounds_ne (by simpa using h1) (Ne.symm e)]
      simp [bools, this]
theorem bools_congr {f g : Nat → Bool} (h : ∀ i, i < 256 → f i = g i) : bools f = bools g := by
  unfold bools; congr 1; funext i; rw [h i.val i.isLt]
theorem one_cell {w : World} {b k : Nat} {f : Nat → Bool} {t : TypeId} (hk : k < 256) (h : w.heap[b]? = some (.cells (bools f) t)) :
    w.cell? ⟨b, k, none⟩ = some (.bool (f k)) ∧ w.frozen? ⟨b, k, none⟩ = false := by
  constructor
  · unfold World.cell?; rw [h]; exact bools_get f k hk
  · unfold World.frozen?; rw [h]; simp
theorem one_set {w : World} {b k : Nat} {f g : Nat → Bool} {v : Bool} {t : TypeId} (hk : k < 256) (h : w.heap[b]? = some (.cells (bools f) t)) (hv : g k = v) (ho : ∀ j, j ≠ k → g j = f j) :
    (w.setCell ⟨b, k, none⟩ (.bool v)).heap[b]? = some (.cells (bools g) t) := by
  simp [World.setCell, Array.getElem?_modify, h, bools_set hk hv ho]
theorem bools_size (f : Nat → Bool) : (bools f).size = 256 := by simp [bools]
theorem bools_one (f : Nat → Bool) : (bools f).all (·.oneCell') = true := by
  rw [Array.all_eq_true_iff_forall_mem]; intro v hv
  simp only [bools, Array.mem_ofFn] at hv
  obtain ⟨i, rfl⟩ := hv; rfl
/-- What a round of Bits leaves. -/
theorem bits_rel {w wr : World} {a b c d : BitVec 64} {k : Nat} {v : Bool} {x y : Obj} (hlt : k < 256) (hbel : Below w.heap.size w wr) (hsz : w.heap.size + 1 + 1 < wr.heap.size) (h0 : wr.heap[w.heap.size]? = some x) (h1 : wr.heap[w.heap.size + 1]? = some y)
    (h2 : wr.heap[w.heap.size + 1 + 1]? = some (.cells (bools fun j => decide (j < k) && Oc.mem a b c d j) 72)) (hv : v = Oc.mem a b c d k) :
    Below w.heap.size w (wr.setCell ⟨w.heap.size + 1 + 1, k, none⟩ (.bool v)).drew ∧ w.heap.size + 1 + 1 < (wr.setCell ⟨w.heap.size + 1 + 1, k, none⟩ (.bool v)).drew.heap.size ∧
    (wr.setCell ⟨w.heap.size + 1 + 1, k, none⟩ (.bool v)).drew.heap[w.heap.size]? = some x ∧ (wr.setCell ⟨w.heap.size + 1 + 1, k, none⟩ (.bool v)).drew.heap[w.heap.size + 1]? = some y ∧
    (wr.setCell ⟨w.heap.size + 1 + 1, k, none⟩ (.bool v)).drew.heap[w.heap.size + 1 + 1]? = some (.cells (bools fun j => decide (j < k + 1) && Oc.mem a b c d j) 72) := by
  refine ⟨by go_grown, ?_, ?_, ?_, ?_⟩
  · show w.heap.size + 1 + 1 < (wr.setCell _ _).heap.size; simpa using hsz
  · show (wr.setCell _ _).heap[w.heap.size]? = _; rw [Below.heap_setCell _ _ _ _ (by simp; omega)]; exact h0
  · show (wr.setCell _ _).heap[w.heap.size + 1]? = _; rw [Below.heap_setCell _ _ _ _ (by simp)]; exact h1
  · show (wr.setCell _ _).heap[w.heap.size + 1 + 1]? = _
    refine one_set hlt h2 (by simp [hv]) fun j hj => ?_
    have : decide (j < k + 1) = decide (j < k) := by simp; omega
    simp only [this]
set_option maxRecDepth 100000 in
set_option maxHeartbeats 1000000 in
theorem bits_any (a b c d : BitVec 64) (w : World) :
    Calls Tryz.prog 125 #[(.agg #[.int .u64 (Oc.U a), .int .u64 (Oc.U b), .int .u64 (Oc.U c), .int .u64 (Oc.U d)])] w fun e w' => e = .returned (.agg (bools (Oc.mem a b c d))) ∧ Below w.heap.size w w' := by
  have ha := Oc.U_nonneg a; have hb := Oc.U_nonneg b; have hc := Oc.U_nonneg c; have hd := Oc.U_nonneg d
  have hz : ∀ w, (zeroValue 72).run Tryz.prog w = .ok (.agg (bools fun _ => false)) w := fun _ => by kernel_rfl
  go_enter Tryz.func125, Tryz.ntmps125
  go_wp2
  go_loopw [4] (fun i wr => ∃ k : Nat, k ≤ 256 ∧ i = .int .i64 k ∧ Below w.heap.size w wr ∧ w.heap.size + 1 + 1 < wr.heap.size ∧ wr.heap[w.heap.size]? = some (.cells #[.int .u64 (Oc.U a), .int .u64 (Oc.U b), .int .u64 (Oc.U c), .int .u64 (Oc.U d)] 25) ∧ wr.heap[w.heap.size + 1]? = some (.cells (bools fun _ => false) 72) ∧ wr.heap[w.heap.size + 1 + 1]? = some (.cells (bools fun j => decide (j < k) && Oc.mem a b c d j) 72)) (fun i _ => 256 - (intOf i).toNat)
  case atStart =>
    exact ⟨0, Nat.zero_le _, rfl, by go_grown, by simp, (three_new _ _ _ _).1, (three_new _ _ _ _).2.1, (three_new _ _ _ _).2.2.trans (by simp)⟩
  case round =>
    obtain ⟨k, hk, rfl, hbel, hsz, hz0, hz1, hz2⟩ := hrel
    by_cases hlt : k < 256
    · obtain ⟨c0, c1, c2, c3, -⟩ := four hz0
      obtain ⟨v0, l0, l1⟩ : ∃ v, wr.cell? ⟨w.heap.size + 1 + 1, k, none⟩ = some v ∧ wr.frozen? ⟨w.heap.size + 1 + 1, k, none⟩ = false := ⟨_, one_cell hlt hz2⟩
      have HZ0 := Lib.hid hz0
      have HZ1 := Lib.hid hz1
      have HZ2 := Lib.hid hz2
      clear hz0 hz1 hz2
      have hq : k / 64 = 0 ∨ k / 64 = 1 ∨ k / 64 = 2 ∨ k / 64 = 3 := by omega
      have hp := pw_ne (k % 64)
      have t2 : (k : Int).tmod 64 = (k : Int) % 64 := Int.tmod_eq_emod_of_nonneg (by omega)
      have d0 := Int.tdiv_eq_ediv_of_nonneg (a := (k : Int)) (b := 64) (by omega)
      have e1 := quo_eq (Oc.w4 a b c d (k / 64)) (k % 64)
      have e2 := rem_eq (Oc.w4 a b c d (k / 64)) (k % 64)
      have e3 := bit_of (Oc.w4 a b c d (k / 64)) (k % 64)
      have hm : Oc.mem a b c d k = (Oc.w4 a b c d (k / 64)).getLsbD (k % 64) := rfl
      have HM := Lib.hid hm
      clear hm
      rcases hq with hq | hq | hq | hq
      · have t1 : (k : Int).tdiv 64 = 0 := by rw [d0]; omega
        have t3 : IntKind.i64.wrap 0 = 0 := by decide
        rw [hq] at e1 e2 e3 HM
        change IntKind.u64.wrap ((Oc.U a).tdiv (pw (k % 64))) = _ at e1
        change (Oc.U a / pw (k % 64)).tmod 2 = _ at e2
        change (Oc.U a / pw (k % 64) % 2 == 1) = _ at e3
        clear d0
        go_wp2_with fail
        refine wp_region_still_tail 12 (by kernel_rfl) (by kernel_rfl) ?_
        simp only [List.take_succ_cons, List.take_zero, List.drop_succ_cons, List.drop_zero]
        change wpStill _ _ wr.drew (fun a' => wpList _ _ _ _ a' wr.drew) _ _
        iterate 7 still_step
        still_call (power_mod _ _).mono (by rintro e w' ⟨rfl, rfl⟩; exact ⟨rfl, rfl⟩)
        iterate 4 still_step
        refine wpStill_nil ?_
        go_wp2
        refine ⟨⟨k + 1, by omega, by go_num, bits_rel hlt hbel hsz HZ0.out HZ1.out HZ2.out ?_⟩, by simp [intOf]; omega⟩
        rw [HM.out]
        first
          | exact (congrArg (fun z => z == 1) (rem_eq _ _)).trans e3
          | simp only [e3]
      · have t1 : (k : Int).tdiv 64 = 1 := by rw [d0]; omega
        have t3 : IntKind.i64.wrap 1 = 1 := by decide
        rw [hq] at e1 e2 e3 HM
        change IntKind.u64.wrap ((Oc.U b).tdiv (pw (k % 64))) = _ at e1
        change (Oc.U b / pw (k % 64)).tmod 2 = _ at e2
        change (Oc.U b / pw (k % 64) % 2 == 1) = _ at e3
        clear d0
        go_wp2_with fail
        refine wp_region_still_tail 12 (by kernel_rfl) (by kernel_rfl) ?_
        simp only [List.take_succ_cons, List.take_zero, List.drop_succ_cons, List.drop_zero]
        change wpStill _ _ wr.drew (fun a' => wpList _ _ _ _ a' wr.drew) _ _
        iterate 7 still_step
        still_call (power_mod _ _).mono (by rintro e w' ⟨rfl, rfl⟩; exact ⟨rfl, rfl⟩)
        iterate 4 still_step
        refine wpStill_nil ?_
        go_wp2
        refine ⟨⟨k + 1, by omega, by go_num, bits_rel hlt hbel hsz HZ0.out HZ1.out HZ2.out ?_⟩, by simp [intOf]; omega⟩
        rw [HM.out]
        first
          | exact (congrArg (fun z => z == 1) (rem_eq _ _)).trans e3
          | simp only [e3]
      · have t1 : (k : Int).tdiv 64 = 2 := by rw [d0]; omega
        have t3 : IntKind.i64.wrap 2 = 2 := by decide
        rw [hq] at e1 e2 e3 HM
        change IntKind.u64.wrap ((Oc.U c).tdiv (pw (k % 64))) = _ at e1
        change (Oc.U c / pw (k % 64)).tmod 2 = _ at e2
        change (Oc.U c / pw (k % 64) % 2 == 1) = _ at e3
        clear d0
        go_wp2_with fail
        refine wp_region_still_tail 12 (by kernel_rfl) (by kernel_rfl) ?_
        simp only [List.take_succ_cons, List.take_zero, List.drop_succ_cons, List.drop_zero]
        change wpStill _ _ wr.drew (fun a' => wpList _ _ _ _ a' wr.drew) _ _
        iterate 7 still_step
        still_call (power_mod _ _).mono (by rintro e w' ⟨rfl, rfl⟩; exact ⟨rfl, rfl⟩)
        iterate 4 still_step
        refine wpStill_nil ?_
        go_wp2
        refine ⟨⟨k + 1, by omega, by go_num, bits_rel hlt hbel hsz HZ0.out HZ1.out HZ2.out ?_⟩, by simp [intOf]; omega⟩
        rw [HM.out]
        first
          | exact (congrArg (fun z => z == 1) (rem_eq _ _)).trans e3
          | simp only [e3]
      · have t1 : (k : Int).tdiv 64 = 3 := by rw [d0]; omega
        have t3 : IntKind.i64.wrap 3 = 3 := by decide
        rw [hq] at e1 e2 e3 HM
        change IntKind.u64.wrap ((Oc.U d).tdiv (pw (k % 64))) = _ at e1
        change (Oc.U d / pw (k % 64)).tmod 2 = _ at e2
        change (Oc.U d / pw (k % 64) % 2 == 1) = _ at e3
        clear d0
        go_wp2_with fail
        refine wp_region_still_tail 12 (by kernel_rfl) (by kernel_rfl) ?_
        simp only [List.take_succ_cons, List.take_zero, List.drop_succ_cons, List.drop_zero]
        change wpStill _ _ wr.drew (fun a' => wpList _ _ _ _ a' wr.drew) _ _
        iterate 7 still_step
        still_call (power_mod _ _).mono (by rintro e w' ⟨rfl, rfl⟩; exact ⟨rfl, rfl⟩)
        iterate 4 still_step
        refine wpStill_nil ?_
        go_wp2
        refine ⟨⟨k + 1, by omega, by go_num, bits_rel hlt hbel hsz HZ0.out HZ1.out HZ2.out ?_⟩, by simp [intOf]; omega⟩
        rw [HM.out]
        first
          | exact (congrArg (fun z => z == 1) (rem_eq _ _)).trans e3
          | simp only [e3]
    · obtain rfl : k = 256 := by omega
      have HZ1 := Lib.hid hz1
      have hz3 : wr.heap[w.heap.size + 1 + 1]? = some (.cells (bools (Oc.mem a b c d)) 72) := by
        rw [hz2, bools_congr (g := Oc.mem a b c d) fun i hi => by simp [hi]]
      have HZ3 := Lib.hid hz3
      clear hz0 hz1 hz2 hz3 hz
      go_wp2_with (first
        | (refine wpList_load_row rfl _ _ rfl (w.heap.size + 1 + 1) rfl 72 (bools (Oc.mem a b c d)) (0, 0) _ HZ3.out Tryz.underlying72 rfl (by rw [bools_size]; kernel_rfl) ?_)
        | (refine wpList_store_row rfl _ _ _ rfl (w.heap.size + 1) (bools (Oc.mem a b c d)) rfl rfl 72 (bools fun _ => false) HZ1.out (by rw [bools_size]; kernel_rfl) (by rw [bools_size, bools_size]) (bools_one _) ?_))
      exact bodyPost_ret (results_cell_row rfl _ _ (w.heap.size + 1) 72 (bools (Oc.mem a b c d)) (0, 0) _ rfl (heap_setRow HZ1.out) Tryz.underlying72 rfl (by rw [bools_size]; kernel_rfl)) rfl ⟨rfl, below_setRow hbel (by omega) _⟩
/-- A word while it is being made: word q of the first n of the set that p tells. -/
def part (p : Nat → Bool) (q n : Nat) : BitVec 64 := BitVec.ofNat 64 (Oc.wn p q (min 64 (n - 64 * q)))
theorem part_zero (p : Nat → Bool) (q : Nat) : part p q 0 = 0#64 := by unfold part; simp [Oc.wn]
theorem part_whole (p : Nat → Bool) (q : Nat) (h : q < 4) : part p q 256 = Oc.mk p q := by
  unfold part Oc.mk; rw [show min 64 (256 - 64 * q) = 64 by omega]
theorem part_other (p : Nat → Bool) (q n : Nat) (h : n / 64 ≠ q) : part p q (n + 1) = part p q n := by
  unfold part
  rcases Nat.lt_or_gt_of_ne h with h' | h'
  · rw [show n + 1 - 64 * q = 0 by omega, show n - 64 * q = 0 by omega]
  · rw [show min 64 (n + 1 - 64 * q) = 64 by omega, show min 64 (n - 64 * q) = 64 by omega]
theorem part_no (p : Nat → Bool) (q n : Nat) (h : p n = false) : part p q (n + 1) = part p q n := by
  by_cases e : n / 64 = q
  · unfold part
    rw [show min 64 (n + 1 - 64 * q) = (n - 64 * q) + 1 by omega, show min 64 (n - 64 * q) = n - 64 * q by omega]
    simp only [Oc.wn]
    rw [show 64 * q + (n - 64 * q) = n by omega, h]; simp
  · exact part_other p q n e
theorem part_yes (p : Nat → Bool) (q n : Nat) (h : p n = true) (e : n / 64 = q) : IntKind.u64.wrap (Oc.U (part p q n) + pw (n % 64)) = Oc.U (part p q (n + 1)) := by
  unfold part
  rw [show min 64 (n + 1 - 64 * q) = n % 64 + 1 by omega, show min 64 (n - 64 * q) = n % 64 by omega]
  simp only [Oc.wn]
  rw [show 64 * q + n % 64 = n by omega, h, if_pos rfl]
  have h1 := Oc.wn_lt p q (n % 64)
  have h2 : 2 ^ (n % 64 + 1) ≤ 2 ^ 64 := Nat.pow_le_pow_right (by omega) (by omega)
  rw [Nat.pow_succ] at h2
  unfold Oc.U pw
  rw [IntKind.wrap_u64, BitVec.toNat_ofNat, BitVec.toNat_ofNat]
  omega
theorem set_one {w : World} {b q : Nat} {x0 x1 x2 x3 v : Value} {t : TypeId} (h : w.heap[b]? = some (.cells #[x0, x1, x2, x3] t)) :
    (w.setCell ⟨b, q, none⟩ v).heap[b]? = some (.cells (#[x0, x1, x2, x3].setIfInBounds q v) t) := by
  simp [World.setCell, Array.getElem?_modify, h]
/-- What a round of Made leaves, where the byte is in the set. -/
theorem made_rel {w wr : World} {p : Nat → Bool} {k q : Nat} {x y : Obj} (hq : k / 64 = q) (hlt : k < 256) (hp : p k = true) (hbel : Below w.heap.size w wr) (hsz : w.heap.size + 1 + 1 < wr.heap.size) (h0 : wr.heap[w.heap.size]? = some x) (h1 : wr.heap[w.heap.size + 1]? = some y)
    (h2 : wr.heap[w.heap.size + 1 + 1]? = some (.cells #[.int .u64 (Oc.U (part p 0 k)), .int .u64 (Oc.U (part p 1 k)), .int .u64 (Oc.U (part p 2 k)), .int .u64 (Oc.U (part p 3 k))] 25)) :
    Below w.heap.size w (wr.setCell ⟨w.heap.size + 1 + 1, q, none⟩ (.int .u64 (IntKind.u64.wrap (Oc.U (part p q k) + pw (k % 64))))).drew ∧ w.heap.size + 1 + 1 < (wr.setCell ⟨w.heap.size + 1 + 1, q, none⟩ (.int .u64 (IntKind.u64.wrap (Oc.U (part p q k) + pw (k % 64))))).drew.heap.size ∧
    (wr.setCell ⟨w.heap.size + 1 + 1, q, none⟩ (.int .u64 (IntKind.u64.wrap (Oc.U (part p q k) + pw (k % 64))))).drew.heap[w.heap.size]? = some x ∧ (wr.setCell ⟨w.heap.size + 1 + 1, q, none⟩ (.int .u64 (IntKind.u64.wrap (Oc.U (part p q k) + pw (k % 64))))).drew.heap[w.heap.size + 1]? = some y ∧
    (wr.setCell ⟨w.heap.size + 1 + 1, q, none⟩ (.int .u64 (IntKind.u64.wrap (Oc.U (part p q k) + pw (k % 64))))).drew.heap[w.heap.size + 1 + 1]? = some (.cells #[.int .u64 (Oc.U (part p 0 (k + 1))), .int .u64 (Oc.U (part p 1 (k + 1))), .int .u64 (Oc.U (part p 2 (k + 1))), .int .u64 (Oc.U (part p 3 (k + 1)))] 25) := by
  rw [part_yes p q k hp hq]
  refine ⟨by go_grown, ?_, ?_, ?_, ?_⟩
  · show w.heap.size + 1 + 1 < (wr.setCell _ _).heap.size; simpa using hsz
  · show (wr.setCell _ _).heap[w.heap.size]? = _; rw [Below.heap_setCell _ _ _ _ (by simp; omega)]; exact h0
  · show (wr.setCell _ _).heap[w.heap.size + 1]? = _; rw [Below.heap_setCell _ _ _ _ (by simp)]; exact h1
  · show (wr.setCell _ _).heap[w.heap.size + 1 + 1]? = _
    rw [set_one h2]
    have : q = 0 ∨ q = 1 ∨ q = 2 ∨ q = 3 := by omega
    rcases this with rfl | rfl | rfl | rfl
    · rw [part_other p 1 k (by omega), part_other p 2 k (by omega), part_other p 3 k (by omega)]; rfl
    · rw [part_other p 0 k (by omega), part_other p 2 k (by omega), part_other p 3 k (by omega)]; rfl
    · rw [part_other p 0 k (by omega), part_other p 1 k (by omega), part_other p 3 k (by omega)]; rfl
    · rw [part_other p 0 k (by omega), part_other p 1 k (by omega), part_other p 2 k (by omega)]; rfl
set_option maxRecDepth 100000 in
set_option maxHeartbeats 1000000 in
theorem made_any (p : Nat → Bool) (w : World) :
    Calls Tryz.prog 39 #[.agg (bools p)] w fun e w' => e = .returned (.agg #[.int .u64 (Oc.U (Oc.mk p 0)), .int .u64 (Oc.U (Oc.mk p 1)), .int .u64 (Oc.U (Oc.mk p 2)), .int .u64 (Oc.U (Oc.mk p 3))]) ∧ Below w.heap.size w w' := by
  go_enter Tryz.func39, Tryz.ntmps39
  go_wp2
  go_loopw [4] (fun i wr => ∃ k : Nat, k ≤ 256 ∧ i = .int .i64 k ∧ Below w.heap.size w wr ∧ w.heap.size + 1 + 1 < wr.heap.size ∧ wr.heap[w.heap.size]? = some (.cells (bools p) 72) ∧ wr.heap[w.heap.size + 1]? = some (.cells #[.int .u64 0, .int .u64 0, .int .u64 0, .int .u64 0] 25) ∧ wr.heap[w.heap.size + 1 + 1]? = some (.cells #[.int .u64 (Oc.U (part p 0 k)), .int .u64 (Oc.U (part p 1 k)), .int .u64 (Oc.U (part p 2 k)), .int .u64 (Oc.U (part p 3 k))] 25)) (fun i _ => 256 - (intOf i).toNat)
  case atStart =>
    exact ⟨0, Nat.zero_le _, rfl, by go_grown, by simp, (three_new _ _ _ _).1, (three_new _ _ _ _).2.1, (three_new _ _ _ _).2.2.trans (by rw [part_zero, part_zero, part_zero, part_zero]; rfl)⟩
  case round =>
    obtain ⟨k, hk, rfl, hbel, hsz, hz0, hz1, hz2⟩ := hrel
    by_cases hlt : k < 256
    · obtain ⟨c0, c1, c2, c3, f0, f1, f2, f3⟩ := four hz2
      have l0 := (one_cell hlt hz0).1
      have HZ0 := Lib.hid hz0
      have HZ1 := Lib.hid hz1
      have HZ2 := Lib.hid hz2
      clear hz0 hz1 hz2
      cases hp : p k with
      | false =>
        rw [hp] at l0
        have HP := Lib.hid hp
        clear hp
        go_wp2
        refine ⟨⟨k + 1, by omega, by go_num, hbel, hsz, HZ0.out, HZ1.out, ?_⟩, by simp [intOf]; omega⟩
        rw [part_no p 0 k HP.out, part_no p 1 k HP.out, part_no p 2 k HP.out, part_no p 3 k HP.out]
        exact HZ2.out
      | true =>
        rw [hp] at l0
        have HP := Lib.hid hp
        clear hp
        have t2 : (k : Int).tmod 64 = (k : Int) % 64 := Int.tmod_eq_emod_of_nonneg (by omega)
        have d0 := Int.tdiv_eq_ediv_of_nonneg (a := (k : Int)) (b := 64) (by omega)
        have hq : k / 64 = 0 ∨ k / 64 = 1 ∨ k / 64 = 2 ∨ k / 64 = 3 := by omega
        rcases hq with hq | hq | hq | hq
        · have t1 : (k : Int).tdiv 64 = 0 := by rw [d0]; omega
          have t3 : IntKind.i64.wrap 0 = 0 := by decide
          clear d0
          go_wp2_with fail
          refine wp_region_still_tail 11 (by kernel_rfl) (by kernel_rfl) ?_
          simp only [List.take_succ_cons, List.take_zero, List.drop_succ_cons, List.drop_zero]
          change wpStill _ _ wr.drew (fun a' => wpList _ _ _ _ a' wr.drew) _ _
          iterate 8 still_step
          still_call (power_mod _ _).mono (by rintro e w' ⟨rfl, rfl⟩; exact ⟨rfl, rfl⟩)
          iterate 2 still_step
          refine wpStill_nil ?_
          go_wp2
          exact ⟨⟨k + 1, by omega, by go_num, made_rel hq hlt HP.out hbel hsz HZ0.out HZ1.out HZ2.out⟩, by simp [intOf]; omega⟩
        · have t1 : (k : Int).tdiv 64 = 1 := by rw [d0]; omega
          have t3 : IntKind.i64.wrap 1 = 1 := by decide
          clear d0
          go_wp2_with fail
          refine wp_region_still_tail 11 (by kernel_rfl) (by kernel_rfl) ?_
          simp only [List.take_succ_cons, List.take_zero, List.drop_succ_cons, List.drop_zero]
          change wpStill _ _ wr.drew (fun a' => wpList _ _ _ _ a' wr.drew) _ _
          iterate 8 still_step
          still_call (power_mod _ _).mono (by rintro e w' ⟨rfl, rfl⟩; exact ⟨rfl, rfl⟩)
          iterate 2 still_step
          refine wpStill_nil ?_
          go_wp2
          exact ⟨⟨k + 1, by omega, by go_num, made_rel hq hlt HP.out hbel hsz HZ0.out HZ1.out HZ2.out⟩, by simp [intOf]; omega⟩
        · have t1 : (k : Int).tdiv 64 = 2 := by rw [d0]; omega
          have t3 : IntKind.i64.wrap 2 = 2 := by decide
          clear d0
          go_wp2_with fail
          refine wp_region_still_tail 11 (by kernel_rfl) (by kernel_rfl) ?_
          simp only [List.take_succ_cons, List.take_zero, List.drop_succ_cons, List.drop_zero]
          change wpStill _ _ wr.drew (fun a' => wpList _ _ _ _ a' wr.drew) _ _
          iterate 8 still_step
          still_call (power_mod _ _).mono (by rintro e w' ⟨rfl, rfl⟩; exact ⟨rfl, rfl⟩)
          iterate 2 still_step
          refine wpStill_nil ?_
          go_wp2
          exact ⟨⟨k + 1, by omega, by go_num, made_rel hq hlt HP.out hbel hsz HZ0.out HZ1.out HZ2.out⟩, by simp [intOf]; omega⟩
        · have t1 : (k : Int).tdiv 64 = 3 := by rw [d0]; omega
          have t3 : IntKind.i64.wrap 3 = 3 := by decide
          clear d0
          go_wp2_with fail
          refine wp_region_still_tail 11 (by kernel_rfl) (by kernel_rfl) ?_
          simp only [List.take_succ_cons, List.take_zero, List.drop_succ_cons, List.drop_zero]
          change wpStill _ _ wr.drew (fun a' => wpList _ _ _ _ a' wr.drew) _ _
          iterate 8 still_step
          still_call (power_mod _ _).mono (by rintro e w' ⟨rfl, rfl⟩; exact ⟨rfl, rfl⟩)
          iterate 2 still_step
          refine wpStill_nil ?_
          go_wp2
          exact ⟨⟨k + 1, by omega, by go_num, made_rel hq hlt HP.out hbel hsz HZ0.out HZ1.out HZ2.out⟩, by simp [intOf]; omega⟩
    · obtain rfl : k = 256 := by omega
      rw [part_whole p 0 (by omega), part_whole p 1 (by omega), part_whole p 2 (by omega), part_whole p 3 (by omega)] at hz2
      obtain ⟨c0, c1, c2, c3, -⟩ := four hz2
      obtain ⟨d0, e0, d1, e1, d2, e2, d3, e3, r0, r1, r2, r3⟩ := four_st hz1
      clear hz0 hz1 hz2
      go_wp2
      refine bodyPost_ret (v := (.agg #[.int .u64 (Oc.U (Oc.mk p 0)), .int .u64 (Oc.U (Oc.mk p 1)), .int .u64 (Oc.U (Oc.mk p 2)), .int .u64 (Oc.U (Oc.mk p 3))])) (by simp [results, Tryz.results39, go_sem, r0, r1, r2, r3]) rfl ⟨rfl, ?_⟩
      go_grown
/-- Words that are made of what a set of words tells are those words. -/
theorem mk_mem (a b c d : BitVec 64) : Oc.mk (Oc.mem a b c d) 0 = a ∧ Oc.mk (Oc.mem a b c d) 1 = b ∧ Oc.mk (Oc.mem a b c d) 2 = c ∧ Oc.mk (Oc.mem a b c d) 3 = d :=
  ⟨Oc.mk_eq fun i hi => by rw [show 64 * 0 + i = i by omega]; exact Oc.mem0 a b c d i hi, Oc.mk_eq fun i hi => Oc.mem1 a b c d i hi, Oc.mk_eq fun i hi => Oc.mem2 a b c d i hi, Oc.mk_eq fun i hi => Oc.mem3 a b c d i hi⟩
theorem mk_same4 {p q : Nat → Bool} (h : ∀ i, i < 256 → p i = q i) : Oc.mk p 0 = Oc.mk q 0 ∧ Oc.mk p 1 = Oc.mk q 1 ∧ Oc.mk p 2 = Oc.mk q 2 ∧ Oc.mk p 3 = Oc.mk q 3 :=
  ⟨Oc.mk_eq fun i hi => by rw [Oc.mk_bit q 0 i hi, h _ (by omega)], Oc.mk_eq fun i hi => by rw [Oc.mk_bit q 1 i hi, h _ (by omega)], Oc.mk_eq fun i hi => by rw [Oc.mk_bit q 2 i hi, h _ (by omega)], Oc.mk_eq fun i hi => by rw [Oc.mk_bit q 3 i hi, h _ (by omega)]⟩
end Go.Proofs.YtlbhbjmobcikfaaGreatDoor
