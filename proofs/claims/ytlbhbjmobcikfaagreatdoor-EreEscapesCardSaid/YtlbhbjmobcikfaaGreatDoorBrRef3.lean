/- What the reference of bracket answers of one item: ranges and single bytes. -/
import Derived.Test.YtlbhbjmobcikfaaGreatDoorBrRef2
import Derived.Test.YtlbhbjmobcikfaaGreatDoorRegInv
import Derived.Test.YtlbhbjmobcikfaaGreatDoorOcWalks2
namespace Go.Proofs.YtlbhbjmobcikfaaGreatDoor
open Go.RowKit
theorem below_drewN {B n : Nat} {a w : World} (h : Below B a w) : Below B a (w.drewN n) := ⟨h.os, h.tape, h.output, h.size, h.block⟩
theorem colon_q (s : ByteArray) (hs : s.size ≤ 1152921504606846976) (j : Int) (i : Nat) (hj : j = i) (hi : i ≤ s.size + 10) (b : Bool) (hb : Br.colon (bt s) i = b) (w : World) :
    Calls Tryz.prog 150 #[.string s, .int .i64 j] w fun e w' => e = .returned (.bool b) ∧ w' = w :=
  (colon_is s hs j i hj hi b hb w).mono fun _ _ h => ⟨h.1, h.2.symm⟩
set_option maxRecDepth 100000 in
set_option maxHeartbeats 2000000 in
theorem item_rbad (s : ByteArray) (hs : s.size ≤ 1152921504606846976) (i a : Nat) (h1 : Br.dotted (bt s) i = false) (h2 : Br.colon (bt s) i = false) (h3 : Br.isRange (bt s) s.size i = true) (h4 : Br.dotted (bt s) (i + 2) = false)
    (h5 : (Br.colon (bt s) (i + 2) || decide (bt s (i + 2) < bt s i)) = true) (w : World) :
    Calls Tryz.prog 127 #[.string s, .int .i64 i, .int .i64 a] w (ItemEnd (.err 5 i) w) := by
  unfold Br.isRange at h3
  simp only [Bool.and_eq_true, decide_eq_true_eq, bne_iff_ne, ne_eq] at h3
  obtain ⟨⟨h31, h32⟩, h33⟩ := h3
  have HD := Lib.hid (dotted_is s hs i i rfl (by omega) false h1)
  have HC := Lib.hid (colon_is s hs i i rfl (by omega) false h2)
  have HI := Lib.hid (ris_nat s hs ((i : Int) + 1) (i + 1) 45 (by omega) (by omega) true h31)
  have HD2 := Lib.hid (dotted_is s hs ((i : Int) + 2) (i + 2) (by omega) (by omega) false h4)
  have hw1 : IntKind.i64.wrap ((i : Int) + 1) = (i : Int) + 1 := IntWalk.i64_in _ (by omega)
  have hw : IntKind.i64.wrap ((i : Int) + 2) = (i : Int) + 2 := IntWalk.i64_in _ (by omega)
  have hd : decide ((i : Int) + 2 < s.size) = true := by simp; omega
  have h93 : ((s[i + 2].toNat : Int) != 93) = true := by rw [bt_at h32]; simp; omega
  have HW := Lib.hid (show IntKind.i64.wrap ((i : Int) + 2) = ((i + 2 : Nat) : Int) by rw [hw]; push_cast; rfl)
  cases hc : Br.colon (bt s) (i + 2) with
  | true =>
    have HC2 := Lib.hid (fun j hj => colon_q s hs j (i + 2) hj (by omega) true hc)
    clear h1 h2 h31 h33 h4 h5 hc
    go_enter Tryz.func127, Tryz.ntmps127
    go_wp2_with fail
    refine (HD.out _).mono ?_; rintro e w' ⟨rfl, rfl⟩
    go_wp2_with fail
    refine (HC.out _).mono ?_; rintro e w' ⟨rfl, rfl⟩
    go_wp2_with fail
    refine (HI.out _).mono ?_; rintro e w' ⟨rfl, rfl⟩
    go_wp2_with fail
    refine (HD2.out _).mono ?_; rintro e w' ⟨rfl, rfl⟩
    go_wp2
    go_quiet ((go_at_call 150; exact Calls.quiet_of_same (HC2.out _ (by first | rfl | exact HW.out) _)))
    go_wp2
    exact bodyPost_ret (v := ansV (.err 5 i)) (by simp [results, Tryz.results127, go_sem]; rfl) rfl ⟨rfl, by go_grown; exact below_drewN ((Below.refl _ _).alloc (Nat.le_refl _) _)⟩
  | false =>
    have HC2 := Lib.hid (fun j hj => colon_q s hs j (i + 2) hj (by omega) false hc)
    rw [hc, Bool.false_or, decide_eq_true_eq] at h5
    have n1 : 0 ≤ (i : Int) + 2 := by omega
    have n2 : ((i : Int) + 2).toNat = i + 2 := by omega
    have n3 : i < s.size := by omega
    have hlt : decide (s[i + 2].toNat < s[i].toNat) = true := by rw [bt_at h32, bt_at n3]; simp; omega
    clear h1 h2 h31 h33 h4 h5 hc
    go_enter Tryz.func127, Tryz.ntmps127
    go_wp2_with fail
    refine (HD.out _).mono ?_; rintro e w' ⟨rfl, rfl⟩
    go_wp2_with fail
    refine (HC.out _).mono ?_; rintro e w' ⟨rfl, rfl⟩
    go_wp2_with fail
    refine (HI.out _).mono ?_; rintro e w' ⟨rfl, rfl⟩
    go_wp2_with fail
    refine (HD2.out _).mono ?_; rintro e w' ⟨rfl, rfl⟩
    go_wp2
    go_quiet ((go_at_call 150; exact Calls.quiet_of_same (HC2.out _ (by first | rfl | exact HW.out) _)))
    go_wp2
    exact bodyPost_ret (v := ansV (.err 5 i)) (by simp [results, Tryz.results127, go_sem]; rfl) rfl ⟨rfl, by go_grown; exact below_drewN ((Below.refl _ _).alloc (Nat.le_refl _) _)⟩
theorem upto_rng (lo hi : Nat) : upto lo (hi + 1) = Br.rng lo hi := by
  funext b; unfold upto Br.rng; congr 1; rw [decide_eq_decide]; omega
set_option maxRecDepth 100000 in
set_option maxHeartbeats 2000000 in
theorem item_range (s : ByteArray) (hs : s.size ≤ 1152921504606846976) (i a : Nat) (h1 : Br.dotted (bt s) i = false) (h2 : Br.colon (bt s) i = false) (h3 : Br.isRange (bt s) s.size i = true) (h4 : Br.dotted (bt s) (i + 2) = false)
    (h5 : (Br.colon (bt s) (i + 2) || decide (bt s (i + 2) < bt s i)) = false) (w : World) :
    Calls Tryz.prog 127 #[.string s, .int .i64 i, .int .i64 a] w (ItemEnd (.ok (Br.rng (bt s i) (bt s (i + 2))) (i + 3)) w) := by
  unfold Br.isRange at h3
  simp only [Bool.and_eq_true, decide_eq_true_eq, bne_iff_ne, ne_eq] at h3
  obtain ⟨⟨h31, h32⟩, h33⟩ := h3
  have HD := Lib.hid (dotted_is s hs i i rfl (by omega) false h1)
  have HC := Lib.hid (colon_is s hs i i rfl (by omega) false h2)
  have HI := Lib.hid (ris_nat s hs ((i : Int) + 1) (i + 1) 45 (by omega) (by omega) true h31)
  have HD2 := Lib.hid (dotted_is s hs ((i : Int) + 2) (i + 2) (by omega) (by omega) false h4)
  have hw1 : IntKind.i64.wrap ((i : Int) + 1) = (i : Int) + 1 := IntWalk.i64_in _ (by omega)
  have hw : IntKind.i64.wrap ((i : Int) + 2) = (i : Int) + 2 := IntWalk.i64_in _ (by omega)
  have hw3 : IntKind.i64.wrap ((i : Int) + 3) = (i : Int) + 3 := IntWalk.i64_in _ (by omega)
  have hd : decide ((i : Int) + 2 < s.size) = true := by simp; omega
  have h93 : ((s[i + 2].toNat : Int) != 93) = true := by rw [bt_at h32]; simp; omega
  have HW := Lib.hid (show IntKind.i64.wrap ((i : Int) + 2) = ((i + 2 : Nat) : Int) by rw [hw]; push_cast; rfl)
  simp only [Bool.or_eq_false_iff] at h5
  have HC2 := Lib.hid (fun j hj => colon_q s hs j (i + 2) hj (by omega) false h5.1)
  have n1 : 0 ≤ (i : Int) + 2 := by omega
  have n2 : ((i : Int) + 2).toNat = i + 2 := by omega
  have n3 : i < s.size := by omega
  have hlt : decide (s[i + 2].toNat < s[i].toNat) = false := by rw [bt_at h32, bt_at n3]; exact h5.2
  have hr := fun w => refrange_any (bt s i) (bt s (i + 2)) ((bt_txt s).1 i n3) ((bt_txt s).1 (i + 2) h32) w
  rw [upto_rng] at hr
  have HR := Lib.hid hr
  have X1 := Lib.hid (bt_at n3); have X2 := Lib.hid (bt_at h32)
  clear h1 h2 h31 h33 h4 h5 hr
  go_enter Tryz.func127, Tryz.ntmps127
  go_wp2_with fail
  refine (HD.out _).mono ?_; rintro e w' ⟨rfl, rfl⟩
  go_wp2_with fail
  refine (HC.out _).mono ?_; rintro e w' ⟨rfl, rfl⟩
  go_wp2_with fail
  refine (HI.out _).mono ?_; rintro e w' ⟨rfl, rfl⟩
  go_wp2_with fail
  refine (HD2.out _).mono ?_; rintro e w' ⟨rfl, rfl⟩
  go_wp2
  go_quiet ((go_at_call 150; exact Calls.quiet_of_same (HC2.out _ (by first | rfl | exact HW.out) _)))
  go_wp2
  have Z0 := Lib.hid (heap_alloc_new w (.cells #[.int .u64 0, .int .u64 0, .int .u64 0, .int .u64 0, .int .i64 0, .int .i64 0, .int .i64 0] 140))
  have HB0 := Lib.hid (below_drewN (n := nq) ((Below.refl w.heap.size w).alloc (Nat.le_refl _) (.cells #[.int .u64 0, .int .u64 0, .int .u64 0, .int .u64 0, .int .i64 0, .int .i64 0, .int .i64 0] 140)))
  have Z0 : Hid (((w.alloc (.cells #[.int .u64 0, .int .u64 0, .int .u64 0, .int .u64 0, .int .i64 0, .int .i64 0, .int .i64 0] 140)).drewN nq).heap[w.heap.size]? = _) := Z0
  generalize World.drewN _ nq = W at *
  have x1 := X1.out; have x2 := X2.out
  refine Ri.wp_region_frame (by kernel_rfl) (by kernel_rfl) (by kernel_rfl) (by kernel_rfl)
    (fun L v w' => Below w.heap.size w w' ∧ W.heap.size ≤ w'.heap.size ∧ (L 11 = true → w'.heap[w.heap.size]? = some (.cells (ansC (.ok (Br.rng (bt s i) (bt s (i + 2))) (i + 3))) 140)) ∧ (L 11 = false → w'.heap[w.heap.size]? = some (.cells #[.int .u64 0, .int .u64 0, .int .u64 0, .int .u64 0, .int .i64 0, .int .i64 0, .int .i64 0] 140)) ∧ (L 0 = true → v 0 = .string s) ∧ (L 1 = true → v 1 = .int .i64 i) ∧ (L 2 = true → v 2 = .int .u8 (bt s i)) ∧ (L 3 = true → v 3 = .string s) ∧ (L 4 = true → v 4 = .int .i64 i) ∧ (L 5 = true → v 5 = .int .i64 ((i : Int) + 2)) ∧ (L 6 = true → v 6 = .int .u8 (bt s (i + 2))) ∧ (L 7 = true → v 7 = (.agg #[.int .u64 (Oc.U (Oc.mk (Br.rng (bt s i) (bt s (i + 2))) 0)), .int .u64 (Oc.U (Oc.mk (Br.rng (bt s i) (bt s (i + 2))) 1)), .int .u64 (Oc.U (Oc.mk (Br.rng (bt s i) (bt s (i + 2))) 2)), .int .u64 (Oc.U (Oc.mk (Br.rng (bt s i) (bt s (i + 2))) 3))])) ∧ (L 8 = true → v 8 = .int .i64 i) ∧ (L 9 = true → v 9 = .int .i64 ((i : Int) + 3)) ∧ (L 10 = true → v 10 = .agg #[.int .u64 (Oc.U (Oc.mk (Br.rng (bt s i) (bt s (i + 2))) 0)), .int .u64 (Oc.U (Oc.mk (Br.rng (bt s i) (bt s (i + 2))) 1)), .int .u64 (Oc.U (Oc.mk (Br.rng (bt s i) (bt s (i + 2))) 2)), .int .u64 (Oc.U (Oc.mk (Br.rng (bt s i) (bt s (i + 2))) 3)), .int .i64 ((i : Int) + 3), .int .i64 0, .int .i64 0]))
    ?_ ?_ ?_
  · exact ⟨HB0.out.drew, Nat.le_refl _, (by simp), (fun _ => Z0.out), by simp, by simp, by simp, by simp, by simp, by simp, by simp, by simp, by simp, by simp, by simp⟩
  · intro i hi9 L v w9 xa hI hL hd hv ho
    have hi' : i = 0 ∨ i = 1 ∨ i = 2 ∨ i = 3 ∨ i = 4 ∨ i = 5 ∨ i = 6 ∨ i = 7 ∨ i = 8 ∨ i = 9 ∨ i = 10 ∨ i = 11 := by simp at hi9; omega
    obtain ⟨hb, hz, qn, qo, q0, q1, q2, q3, q4, q5, q6, q7, q8, q9, q10⟩ := hI
    rcases hi' with rfl | rfl | rfl | rfl | rfl | rfl | rfl | rfl | rfl | rfl | rfl | rfl
    · have e0 : xa.tmps.getD 0 undef = .string s := ho 0 (by kernel_rfl)
      refine Ri.step_plain rfl rfl (fun K' hK => ?_)
      go_simp
      exact hK _ _ ⟨_, _, rfl, rfl, hb, hz, qn, qo, fun _ => rfl, q1, q2, q3, q4, q5, q6, q7, q8, q9, q10⟩
    · have e1 : xa.tmps.getD 1 undef = .int .i64 i := ho 1 (by kernel_rfl)
      refine Ri.step_plain rfl rfl (fun K' hK => ?_)
      go_simp
      exact hK _ _ ⟨_, _, rfl, rfl, hb, hz, qn, qo, q0, fun _ => rfl, q2, q3, q4, q5, q6, q7, q8, q9, q10⟩
    · have l0 : L 0 = true ∧ L 1 = true := by have := hd _ rfl; simp [Region.binds] at this; simp [this]
      have f0 := (hv 0 89 rfl l0.1).trans (q0 l0.1)
      have f1 := (hv 1 90 rfl l0.2).trans (q1 l0.2)
      refine Ri.step_plain rfl rfl (fun K' hK => ?_)
      go_simp
      exact hK _ _ ⟨_, _, rfl, rfl, hb, hz, qn, qo, q0, q1, fun _ => rfl, q3, q4, q5, q6, q7, q8, q9, q10⟩
    · have e0 : xa.tmps.getD 0 undef = .string s := ho 0 (by kernel_rfl)
      refine Ri.step_plain rfl rfl (fun K' hK => ?_)
      go_simp
      exact hK _ _ ⟨_, _, rfl, rfl, hb, hz, qn, qo, q0, q1, q2, fun _ => rfl, q4, q5, q6, q7, q8, q9, q10⟩
    · have e1 : xa.tmps.getD 1 undef = .int .i64 i := ho 1 (by kernel_rfl)
      refine Ri.step_plain rfl rfl (fun K' hK => ?_)
      go_simp
      exact hK _ _ ⟨_, _, rfl, rfl, hb, hz, qn, qo, q0, q1, q2, q3, fun _ => rfl, q5, q6, q7, q8, q9, q10⟩
    · have l0 : L 4 = true := by have := hd _ rfl; simp [Region.binds] at this; simp [this]
      have f4 := (hv 4 93 rfl l0).trans (q4 l0)
      refine Ri.step_plain rfl rfl (fun K' hK => ?_)
      go_simp
      exact hK _ _ ⟨_, _, rfl, rfl, hb, hz, qn, qo, q0, q1, q2, q3, q4, fun _ => rfl, q6, q7, q8, q9, q10⟩
    · have l0 : L 3 = true ∧ L 5 = true := by have := hd _ rfl; simp [Region.binds] at this; simp [this]
      have f3 := (hv 3 92 rfl l0.1).trans (q3 l0.1)
      have f5 := (hv 5 94 rfl l0.2).trans (q5 l0.2)
      refine Ri.step_plain rfl rfl (fun K' hK => ?_)
      go_simp
      exact hK _ _ ⟨_, _, rfl, rfl, hb, hz, qn, qo, q0, q1, q2, q3, q4, q5, fun _ => rfl, q7, q8, q9, q10⟩
    · have l0 : L 2 = true ∧ L 6 = true := by have := hd _ rfl; simp [Region.binds] at this; simp [this]
      have f2 := (hv 2 91 rfl l0.1).trans (q2 l0.1)
      have f6 := (hv 6 95 rfl l0.2).trans (q6 l0.2)
      refine Ri.step_plain rfl rfl (fun K' hK => ?_)
      go_simp
      refine (HR.out _).mono ?_
      rintro e w8 ⟨rfl, hb8⟩
      exact hK _ _ ⟨_, _, rfl, rfl, hb.trans (hb8.mono hb.size), Nat.le_trans hz hb8.size, (fun l => keep_blk hb8 (qn l)), (fun l => keep_blk hb8 (qo l)), q0, q1, q2, q3, q4, q5, q6, fun _ => rfl, q8, q9, q10⟩
    · have e1 : xa.tmps.getD 1 undef = .int .i64 i := ho 1 (by kernel_rfl)
      refine Ri.step_plain rfl rfl (fun K' hK => ?_)
      go_simp
      exact hK _ _ ⟨_, _, rfl, rfl, hb, hz, qn, qo, q0, q1, q2, q3, q4, q5, q6, q7, fun _ => rfl, q9, q10⟩
    · have l0 : L 8 = true := by have := hd _ rfl; simp [Region.binds] at this; simp [this]
      have f8 := (hv 8 97 rfl l0).trans (q8 l0)
      refine Ri.step_plain rfl rfl (fun K' hK => ?_)
      go_simp
      exact hK _ _ ⟨_, _, rfl, rfl, hb, hz, qn, qo, q0, q1, q2, q3, q4, q5, q6, q7, q8, fun _ => rfl, q10⟩
    · have l0 : L 7 = true ∧ L 9 = true := by have := hd _ rfl; simp [Region.binds] at this; simp [this]
      have f7 := (hv 7 96 rfl l0.1).trans (q7 l0.1)
      have f9 := (hv 9 98 rfl l0.2).trans (q9 l0.2)
      refine Ri.step_plain rfl rfl (fun K' hK => ?_)
      have g96 := (Array.getD_eq_getD_getElem? (xs := xa.tmps) (i := 96) (d := undef)).symm.trans f7
      have g98 := (Array.getD_eq_getD_getElem? (xs := xa.tmps) (i := 98) (d := undef)).symm.trans f9
      go_simp
      exact hK _ _ ⟨_, _, rfl, rfl, hb, hz, qn, qo, q0, q1, q2, q3, q4, q5, q6, q7, q8, q9, fun _ => rfl⟩
    · have l0 : L 10 = true := by have := hd _ rfl; simp [Region.binds] at this; simp [this]
      have f10 := (hv 10 99 rfl l0).trans (q10 l0)
      have e6 : xa.tmps.getD 6 undef = .pointer (some ⟨w.heap.size, 0, none⟩) := ho 6 (by kernel_rfl)
      refine Ri.step_plain rfl rfl (fun K' hK => ?_)
      refine wp_store_row _ _ _ rfl w.heap.size (ansC (.ok (Br.rng (bt s i) (bt s (i + 2))) (i + 3))) e6 f10 140 _ (qo hL) (by kernel_rfl) (by kernel_rfl) (ansC_one _) ?_
      exact hK _ _ ⟨_, undef, rfl, rfl, below_setRow hb (Nat.le_refl _) _, by simpa using hz, (fun _ => heap_setRow (qo hL)), (fun h => by cases h), q0, q1, q2, q3, q4, q5, q6, q7, q8, q9, q10⟩
  · rintro v w9 ⟨hb, hz, qn, -, -, -, -, -, -, -, -, -, -, -, -⟩
    have zN := qn rfl; clear qn
    simp only [Ri.frame, List.zipIdx, List.foldl_cons, List.foldl_nil, if_true, List.setIfInBounds_toArray, List.set_cons_zero, List.set_cons_succ, Nat.reduceAdd]
    generalize v 0 = y0; generalize v 1 = y1; generalize v 2 = y2; generalize v 3 = y3; generalize v 4 = y4; generalize v 5 = y5; generalize v 6 = y6; generalize v 7 = y7; generalize v 8 = y8; generalize v 9 = y9; generalize v 10 = y10
    go_wp2
    exact bodyPost_ret (results_cell_row rfl _ _ w.heap.size 140 (ansC (.ok (Br.rng (bt s i) (bt s (i + 2))) (i + 3))) (0, 0) _ rfl zN Tryz.underlying140 rfl (by kernel_rfl)) rfl ⟨rfl, hb⟩
/-- A text of one byte. -/
theorem of_byte (s : ByteArray) (i : Nat) (hi : i < s.size) (w : World) :
    Calls Tryz.prog 22 #[.string (s.extract i (i + 1))] w fun e w' => e = .returned (.agg #[.int .u64 (Oc.U (Oc.mk (fun b => b == bt s i) 0)), .int .u64 (Oc.U (Oc.mk (fun b => b == bt s i) 1)), .int .u64 (Oc.U (Oc.mk (fun b => b == bt s i) 2)), .int .u64 (Oc.U (Oc.mk (fun b => b == bt s i) 3))]) ∧ Below w.heap.size w w' := by
  have hsz : (s.extract i (i + 1)).size = 1 := by simp; omega
  have h := refof_any (s.extract i (i + 1)) (by rw [hsz]; unfold maxLen; omega) w
  have hb : Oc.anyB (byteAt (s.extract i (i + 1))) (s.extract i (i + 1)).size = fun b => b == bt s i := by
    rw [hsz]
    funext b
    have : byteAt (s.extract i (i + 1)) 0 = bt s i := by
      have hi' : i < s.data.size := hi
      have hx : (s.data.extract i (i + 1))[0]? = some s.data[i] := by
        rw [Array.getElem?_extract, if_pos (by omega)]; simp
      rw [bt_in hi]; unfold byteAt; congr 1; simp [hi, hx]
    simp [Oc.anyB, this]
  rw [hb] at h
  exact h
set_option maxRecDepth 100000 in
set_option maxHeartbeats 2000000 in
theorem item_byte (s : ByteArray) (hs : s.size ≤ 1152921504606846976) (i a : Nat) (hi : i < s.size) (h1 : Br.dotted (bt s) i = false) (h2 : Br.colon (bt s) i = false) (h3 : Br.isRange (bt s) s.size i = false) (w : World) :
    Calls Tryz.prog 127 #[.string s, .int .i64 i, .int .i64 a] w (ItemEnd (.ok (fun b => b == bt s i) (i + 1)) w) := by
  have HD := Lib.hid (dotted_is s hs i i rfl (by omega) false h1)
  have HC := Lib.hid (colon_is s hs i i rfl (by omega) false h2)
  have HI := Lib.hid (fun b hb => ris_nat s hs ((i : Int) + 1) (i + 1) 45 (by omega) (by omega) b hb)
  have hw1 : IntKind.i64.wrap ((i : Int) + 1) = (i : Int) + 1 := IntWalk.i64_in _ (by omega)
  have hw : IntKind.i64.wrap ((i : Int) + 2) = (i : Int) + 2 := IntWalk.i64_in _ (by omega)
  have hsp : (bt s (i + 1) == 45) = false ∨ ((bt s (i + 1) == 45) = true ∧ ¬ i + 2 < s.size) ∨ ((bt s (i + 1) == 45) = true ∧ i + 2 < s.size ∧ bt s (i + 2) = 93) := by
    unfold Br.isRange at h3
    cases hx : (bt s (i + 1) == 45) with
    | false => exact .inl rfl
    | true =>
      rw [hx] at h3
      by_cases hd : i + 2 < s.size
      · exact .inr (.inr ⟨rfl, hd, by simpa [hd] using h3⟩)
      · exact .inr (.inl ⟨rfl, hd⟩)
  have HO := Lib.hid (of_byte s i hi)
  have hle : i + 1 ≤ s.size := hi
  clear h1 h2 h3
  rcases hsp with hx | ⟨hx, hn⟩ | ⟨hx, hd, h93⟩
  · have HI1 := Lib.hid (HI.out false hx)
    clear hx HI
    go_enter Tryz.func127, Tryz.ntmps127
    go_wp2_with fail
    refine (HD.out _).mono ?_; rintro e w' ⟨rfl, rfl⟩
    go_wp2_with fail
    refine (HC.out _).mono ?_; rintro e w' ⟨rfl, rfl⟩
    go_wp2_with fail
    refine (HI1.out _).mono ?_; rintro e w' ⟨rfl, rfl⟩
    go_wp2_with fail
    refine (HO.out _).mono ?_; rintro e w1 ⟨rfl, hb1⟩
    have Z1 := Lib.hid (keep_blk hb1 (heap_alloc_new w _))
    have HB := Lib.hid (((Below.refl _ _).alloc (Nat.le_refl _) _).trans (hb1.mono (by simp)))
    clear hb1
    go_wp2_with (first
      | (refine wpList_store_row rfl 140 (.tmp 6) (.tmp 108) rfl w.heap.size (ansC (.ok (fun b => b == bt s i) (i + 1))) rfl rfl 140 _ Z1.out (by kernel_rfl) rfl (ansC_one _) ?_)
      | fail)
    exact bodyPost_ret (results_cell_row rfl _ _ w.heap.size 140 (ansC (.ok (fun b => b == bt s i) (i + 1))) (0, 0) _ rfl (heap_setRow Z1.out) Tryz.underlying140 rfl (by kernel_rfl)) rfl ⟨rfl, by exact below_setRow HB.out (Nat.le_refl _) _⟩
  · have HI1 := Lib.hid (HI.out true hx)
    have hd2 : decide ((i : Int) + 2 < s.size) = false := by simp; omega
    clear hx HI
    go_enter Tryz.func127, Tryz.ntmps127
    go_wp2_with fail
    refine (HD.out _).mono ?_; rintro e w' ⟨rfl, rfl⟩
    go_wp2_with fail
    refine (HC.out _).mono ?_; rintro e w' ⟨rfl, rfl⟩
    go_wp2_with fail
    refine (HI1.out _).mono ?_; rintro e w' ⟨rfl, rfl⟩
    go_wp2_with fail
    refine (HO.out _).mono ?_; rintro e w1 ⟨rfl, hb1⟩
    have Z1 := Lib.hid (keep_blk hb1 (heap_alloc_new w _))
    have HB := Lib.hid (((Below.refl _ _).alloc (Nat.le_refl _) _).trans (hb1.mono (by simp)))
    clear hb1
    go_wp2_with (first
      | (refine wpList_store_row rfl 140 (.tmp 6) (.tmp 108) rfl w.heap.size (ansC (.ok (fun b => b == bt s i) (i + 1))) rfl rfl 140 _ Z1.out (by kernel_rfl) rfl (ansC_one _) ?_)
      | fail)
    exact bodyPost_ret (results_cell_row rfl _ _ w.heap.size 140 (ansC (.ok (fun b => b == bt s i) (i + 1))) (0, 0) _ rfl (heap_setRow Z1.out) Tryz.underlying140 rfl (by kernel_rfl)) rfl ⟨rfl, by exact below_setRow HB.out (Nat.le_refl _) _⟩
  · have HI1 := Lib.hid (HI.out true hx)
    have hd2 : decide ((i : Int) + 2 < s.size) = true := by simp; omega
    have hx93 : ((s[i + 2].toNat : Int) != 93) = false := by rw [bt_at hd, h93]; rfl
    clear hx HI h93
    go_enter Tryz.func127, Tryz.ntmps127
    go_wp2_with fail
    refine (HD.out _).mono ?_; rintro e w' ⟨rfl, rfl⟩
    go_wp2_with fail
    refine (HC.out _).mono ?_; rintro e w' ⟨rfl, rfl⟩
    go_wp2_with fail
    refine (HI1.out _).mono ?_; rintro e w' ⟨rfl, rfl⟩
    go_wp2_with fail
    refine (HO.out _).mono ?_; rintro e w1 ⟨rfl, hb1⟩
    have Z1 := Lib.hid (keep_blk hb1 (heap_alloc_new w _))
    have HB := Lib.hid (((Below.refl _ _).alloc (Nat.le_refl _) _).trans (hb1.mono (by simp)))
    clear hb1
    go_wp2_with (first
      | (refine wpList_store_row rfl 140 (.tmp 6) (.tmp 108) rfl w.heap.size (ansC (.ok (fun b => b == bt s i) (i + 1))) rfl rfl 140 _ Z1.out (by kernel_rfl) rfl (ansC_one _) ?_)
      | fail)
    exact bodyPost_ret (results_cell_row rfl _ _ w.heap.size 140 (ansC (.ok (fun b => b == bt s i) (i + 1))) (0, 0) _ rfl (heap_setRow Z1.out) Tryz.underlying140 rfl (by kernel_rfl)) rfl ⟨rfl, by exact below_setRow HB.out (Nat.le_refl _) _⟩
/-- One item, whatever stands there. -/
theorem refitem_any (s : ByteArray) (hs : s.size ≤ 1152921504606846976) (i a : Nat) (hi : i < s.size) (w : World) :
    Calls Tryz.prog 127 #[.string s, .int .i64 i, .int .i64 a] w (ItemEnd (Br.item (bt s) s.size i a) w) := by
  unfold Br.item
  cases h1 : Br.dotted (bt s) i with
  | true => exact item_dotted s hs i a hi h1 w
  | false =>
    cases h2 : Br.colon (bt s) i with
    | true =>
      show Calls _ _ _ _ (ItemEnd (Br.classed (bt s) s.size i a) w)
      unfold Br.classed
      cases h3 : Br.clos (bt s) (s.size - (i + 3)) (i + 2) with
      | none => exact item_open s hs i a hi h1 h2 h3 w
      | some e => exact item_name s hs i a e hi h1 h2 h3 w
    | false =>
      cases h3 : Br.isRange (bt s) s.size i with
      | true =>
        show Calls _ _ _ _ (ItemEnd (Br.ranged (bt s) i) w)
        unfold Br.ranged
        cases h4 : Br.dotted (bt s) (i + 2) with
        | true => exact item_rdotted s hs i a h1 h2 h3 h4 w
        | false =>
          cases h5 : (Br.colon (bt s) (i + 2) || decide (bt s (i + 2) < bt s i)) with
          | true => exact item_rbad s hs i a h1 h2 h3 h4 h5 w
          | false => exact item_range s hs i a h1 h2 h3 h4 h5 w
      | false => exact item_byte s hs i a hi h1 h2 h3 w
end Go.Proofs.YtlbhbjmobcikfaaGreatDoor
