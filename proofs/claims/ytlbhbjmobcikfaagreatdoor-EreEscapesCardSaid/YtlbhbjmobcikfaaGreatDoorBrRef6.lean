/- What the reference of bracket reads of an expression that is not turned: the items, one behind the other. -/
import Derived.Test.YtlbhbjmobcikfaaGreatDoorBrRef4
namespace Go.Proofs.YtlbhbjmobcikfaaGreatDoor
open Go.RowKit
set_option maxRecDepth 100000 in
set_option maxHeartbeats 8000000 in
theorem refread_f (s : ByteArray) (hs : s.size ≤ 1152921504606846976) (a : Nat) (ic nl : Bool) (ha : bt s a = 91) (ht : (bt s (a + 1) == 94) = false) (R : Br.Ans) (hR : Br.items (bt s) s.size a (s.size + 1) (a + 1) (fun _ => false) false = R)
    (w : World) : Calls Tryz.prog 105 #[.string s, .int .i64 a, .int .i64 (flI ic nl)] w (RdEnd (Br.ends ic nl false R) w) := by
  have hal := (bt_txt s).lt ha (by omega)
  have HS := Lib.hid (ris_nat s hs a a 91 rfl (by omega) true (by rw [ha]; rfl))
  have HT := Lib.hid (ris_nat s hs ((a : Int) + 1) (a + 1) 94 (by omega) (by omega) false ht)
  have HI := Lib.hid (fun i c hc b hb => ris_nat s hs (i : Nat) i c rfl hc b hb)
  have HJ := Lib.hid refjoin_p
  have hw1 : IntKind.i64.wrap ((a : Int) + 1) = (a : Int) + 1 := IntWalk.i64_in _ (by omega)
  have hw2 : IntKind.i64.wrap ((a : Int) + 1 + 1) = (a : Int) + 1 + 1 := IntWalk.i64_in _ (by omega)
  have HR := Lib.hid hR
  clear ha ht hR
  go_enter Tryz.func105, Tryz.ntmps105
  go_wp2_with fail
  refine (HS.out _).mono ?_; rintro e w' ⟨rfl, rfl⟩
  go_wp2_with fail
  refine (HT.out _).mono ?_; rintro e w' ⟨rfl, rfl⟩
  go_wp2_with fail
  go_loopw [7, 10] (fun iv bv wr => ∃ (P : Nat → Bool) (b : Bool) (i k : Nat), iv = .int .i64 i ∧ bv = .bool b ∧ i ≤ s.size ∧ s.size < i + k ∧ Hid (Br.items (bt s) s.size a k i P b = R) ∧ Below w.heap.size w wr ∧ w.heap.size + 1 < wr.heap.size ∧
    wr.heap[w.heap.size]? = some (.cells #[.int .u64 0, .int .u64 0, .int .u64 0, .int .u64 0, .int .i64 0, .int .i64 0, .int .i64 0] 140) ∧
    wr.heap[w.heap.size + 1]? = some (.cells #[.int .u64 (Oc.U (Oc.mk (P) 0)), .int .u64 (Oc.U (Oc.mk (P) 1)), .int .u64 (Oc.U (Oc.mk (P) 2)), .int .u64 (Oc.U (Oc.mk (P) 3))] 25)) (fun iv _ _ => s.size - (intOf iv).toNat)
  case atStart => exact ⟨fun _ => false, false, a + 1, s.size + 1, by push_cast; rfl, rfl, by omega, by omega, HR, by go_grown, by simp, (two_new _ _ _).1, (two_new _ _ _).2.trans (by rw [Oc.mk_none, Oc.mk_none, Oc.mk_none, Oc.mk_none]; rfl)⟩
  case round =>
    obtain ⟨P, b, i, k, rfl, rfl, hi, hk, hit, hbel, hsz, z0, z1⟩ := hrel
    obtain ⟨k, rfl⟩ : ∃ k', k = k' + 1 := ⟨k - 1, by omega⟩
    have hit' := hit.out
    clear hit
    unfold Br.items at hit'
    have Z0 := Lib.hid z0; have Z1 := Lib.hid z1; have HB := Lib.hid hbel
    clear z0 z1 hbel
    by_cases hx : (b && bt s i == 93) = true
    · rw [if_pos hx] at hit'
      simp only [Bool.and_eq_true] at hx
      obtain ⟨rfl, h93⟩ := hx
      have H93 := Lib.hid (HI.out i 93 (by omega) true h93)
      have hwi : IntKind.i64.wrap ((i : Int) + 1) = (i : Int) + 1 := IntWalk.i64_in _ (by omega)
      subst hit'
      clear h93
      cases ic <;> cases nl
      · go_wp2_with fail
        refine (H93.out _).mono ?_; rintro e w' ⟨rfl, rfl⟩
        rw [show flI false false = 0 from rfl]
        go_wp2_with (first
          | (refine wpList_load_row rfl 25 (.tmp 9) rfl (w.heap.size + 1) rfl 25 _ (0, 0) _ Z1.out Tryz.underlying25 rfl (by kernel_rfl) ?_)
          | (refine wpList_store_row rfl 140 (.tmp 6) (.tmp 74) rfl w.heap.size (ansC (.ok (Br.fin false false false P) (i + 1))) rfl rfl 140 _ Z0.out (by kernel_rfl) rfl (ansC_one _) ?_)
          | fail)
        exact bodyPost_ret (results_cell_row rfl _ _ w.heap.size 140 (ansC (.ok (Br.fin false false false P) (i + 1))) (0, 0) _ rfl (heap_setRow Z0.out) Tryz.underlying140 rfl (by kernel_rfl)) rfl ⟨rfl, by exact below_setRow HB.out (Nat.le_refl _) _⟩
      · go_wp2_with fail
        refine (H93.out _).mono ?_; rintro e w' ⟨rfl, rfl⟩
        rw [show flI false true = 4 from rfl]
        go_wp2_with (first
          | (refine wpList_load_row rfl 25 (.tmp 9) rfl (w.heap.size + 1) rfl 25 _ (0, 0) _ Z1.out Tryz.underlying25 rfl (by kernel_rfl) ?_)
          | (refine wpList_store_row rfl 140 (.tmp 6) (.tmp 74) rfl w.heap.size (ansC (.ok (Br.fin false true false P) (i + 1))) rfl rfl 140 _ Z0.out (by kernel_rfl) rfl (ansC_one _) ?_)
          | fail)
        exact bodyPost_ret (results_cell_row rfl _ _ w.heap.size 140 (ansC (.ok (Br.fin false true false P) (i + 1))) (0, 0) _ rfl (heap_setRow Z0.out) Tryz.underlying140 rfl (by kernel_rfl)) rfl ⟨rfl, by exact below_setRow HB.out (Nat.le_refl _) _⟩
      · go_wp2_with fail
        refine (H93.out _).mono ?_; rintro e w' ⟨rfl, rfl⟩
        rw [show flI true false = 2 from rfl]
        go_wp2_with (first
          | (refine wpList_load_row rfl 25 (.tmp 9) rfl (w.heap.size + 1) rfl 25 _ (0, 0) _ Z1.out Tryz.underlying25 rfl (by kernel_rfl) ?_)
          | fail)
        refine (reffold_p P _).mono ?_; rintro e w1 ⟨rfl, hb1⟩
        have Y1 : Hid (w1.heap[w.heap.size]? = some (.cells #[.int .u64 0, .int .u64 0, .int .u64 0, .int .u64 0, .int .i64 0, .int .i64 0, .int .i64 0] 140)) := Lib.hid (keep_blk hb1 Z0.out)
        have Z1a : Hid (w1.heap[w.heap.size + 1]? = some (.cells #[.int .u64 (Oc.U (Oc.mk (P) 0)), .int .u64 (Oc.U (Oc.mk (P) 1)), .int .u64 (Oc.U (Oc.mk (P) 2)), .int .u64 (Oc.U (Oc.mk (P) 3))] 25)) := Lib.hid (keep_blk hb1 Z1.out)
        have HB1 : Hid (Below w.heap.size w w1) := Lib.hid ((HB.out).trans (hb1.mono (HB.out).size))
        have Y1s : Hid ((w1.setRow (w.heap.size + 1) #[.int .u64 (Oc.U (Oc.mk (Cl.fold P) 0)), .int .u64 (Oc.U (Oc.mk (Cl.fold P) 1)), .int .u64 (Oc.U (Oc.mk (Cl.fold P) 2)), .int .u64 (Oc.U (Oc.mk (Cl.fold P) 3))]).heap[w.heap.size]? = some (.cells #[.int .u64 0, .int .u64 0, .int .u64 0, .int .u64 0, .int .i64 0, .int .i64 0, .int .i64 0] 140)) := Lib.hid ((heap_setRow_other _ _ _ (Nat.ne_of_lt (Nat.lt_add_one _))).trans Y1.out)
        have Z1s : Hid ((w1.setRow (w.heap.size + 1) #[.int .u64 (Oc.U (Oc.mk (Cl.fold P) 0)), .int .u64 (Oc.U (Oc.mk (Cl.fold P) 1)), .int .u64 (Oc.U (Oc.mk (Cl.fold P) 2)), .int .u64 (Oc.U (Oc.mk (Cl.fold P) 3))]).heap[w.heap.size + 1]? = some (.cells #[.int .u64 (Oc.U (Oc.mk (Cl.fold P) 0)), .int .u64 (Oc.U (Oc.mk (Cl.fold P) 1)), .int .u64 (Oc.U (Oc.mk (Cl.fold P) 2)), .int .u64 (Oc.U (Oc.mk (Cl.fold P) 3))] 25)) := Lib.hid (heap_setRow Z1a.out)
        have HB1s : Hid (Below w.heap.size w (w1.setRow (w.heap.size + 1) #[.int .u64 (Oc.U (Oc.mk (Cl.fold P) 0)), .int .u64 (Oc.U (Oc.mk (Cl.fold P) 1)), .int .u64 (Oc.U (Oc.mk (Cl.fold P) 2)), .int .u64 (Oc.U (Oc.mk (Cl.fold P) 3))])) := Lib.hid (below_setRow HB1.out (Nat.le_succ _) _)
        clear hb1
        go_wp2_with (first
          | (refine wpList_store_row rfl 25 (.tmp 9) (.tmp 59) rfl (w.heap.size + 1) #[.int .u64 (Oc.U (Oc.mk (Cl.fold P) 0)), .int .u64 (Oc.U (Oc.mk (Cl.fold P) 1)), .int .u64 (Oc.U (Oc.mk (Cl.fold P) 2)), .int .u64 (Oc.U (Oc.mk (Cl.fold P) 3))] rfl rfl 25 _ Z1a.out (by kernel_rfl) rfl setC_one ?_)
          | (refine wpList_load_row rfl 25 (.tmp 9) rfl (w.heap.size + 1) rfl 25 _ (0, 0) _ Z1s.out Tryz.underlying25 rfl (by kernel_rfl) ?_)
          | (refine wpList_store_row rfl 140 (.tmp 6) (.tmp 74) rfl w.heap.size (ansC (.ok (Br.fin true false false P) (i + 1))) rfl rfl 140 _ Y1s.out (by kernel_rfl) rfl (ansC_one _) ?_)
          | fail)
        exact bodyPost_ret (results_cell_row rfl _ _ w.heap.size 140 (ansC (.ok (Br.fin true false false P) (i + 1))) (0, 0) _ rfl (heap_setRow Y1s.out) Tryz.underlying140 rfl (by kernel_rfl)) rfl ⟨rfl, by exact below_setRow HB1s.out (Nat.le_refl _) _⟩
      · go_wp2_with fail
        refine (H93.out _).mono ?_; rintro e w' ⟨rfl, rfl⟩
        rw [show flI true true = 6 from rfl]
        go_wp2_with (first
          | (refine wpList_load_row rfl 25 (.tmp 9) rfl (w.heap.size + 1) rfl 25 _ (0, 0) _ Z1.out Tryz.underlying25 rfl (by kernel_rfl) ?_)
          | fail)
        refine (reffold_p P _).mono ?_; rintro e w1 ⟨rfl, hb1⟩
        have Y1 : Hid (w1.heap[w.heap.size]? = some (.cells #[.int .u64 0, .int .u64 0, .int .u64 0, .int .u64 0, .int .i64 0, .int .i64 0, .int .i64 0] 140)) := Lib.hid (keep_blk hb1 Z0.out)
        have Z1a : Hid (w1.heap[w.heap.size + 1]? = some (.cells #[.int .u64 (Oc.U (Oc.mk (P) 0)), .int .u64 (Oc.U (Oc.mk (P) 1)), .int .u64 (Oc.U (Oc.mk (P) 2)), .int .u64 (Oc.U (Oc.mk (P) 3))] 25)) := Lib.hid (keep_blk hb1 Z1.out)
        have HB1 : Hid (Below w.heap.size w w1) := Lib.hid ((HB.out).trans (hb1.mono (HB.out).size))
        have Y1s : Hid ((w1.setRow (w.heap.size + 1) #[.int .u64 (Oc.U (Oc.mk (Cl.fold P) 0)), .int .u64 (Oc.U (Oc.mk (Cl.fold P) 1)), .int .u64 (Oc.U (Oc.mk (Cl.fold P) 2)), .int .u64 (Oc.U (Oc.mk (Cl.fold P) 3))]).heap[w.heap.size]? = some (.cells #[.int .u64 0, .int .u64 0, .int .u64 0, .int .u64 0, .int .i64 0, .int .i64 0, .int .i64 0] 140)) := Lib.hid ((heap_setRow_other _ _ _ (Nat.ne_of_lt (Nat.lt_add_one _))).trans Y1.out)
        have Z1s : Hid ((w1.setRow (w.heap.size + 1) #[.int .u64 (Oc.U (Oc.mk (Cl.fold P) 0)), .int .u64 (Oc.U (Oc.mk (Cl.fold P) 1)), .int .u64 (Oc.U (Oc.mk (Cl.fold P) 2)), .int .u64 (Oc.U (Oc.mk (Cl.fold P) 3))]).heap[w.heap.size + 1]? = some (.cells #[.int .u64 (Oc.U (Oc.mk (Cl.fold P) 0)), .int .u64 (Oc.U (Oc.mk (Cl.fold P) 1)), .int .u64 (Oc.U (Oc.mk (Cl.fold P) 2)), .int .u64 (Oc.U (Oc.mk (Cl.fold P) 3))] 25)) := Lib.hid (heap_setRow Z1a.out)
        have HB1s : Hid (Below w.heap.size w (w1.setRow (w.heap.size + 1) #[.int .u64 (Oc.U (Oc.mk (Cl.fold P) 0)), .int .u64 (Oc.U (Oc.mk (Cl.fold P) 1)), .int .u64 (Oc.U (Oc.mk (Cl.fold P) 2)), .int .u64 (Oc.U (Oc.mk (Cl.fold P) 3))])) := Lib.hid (below_setRow HB1.out (Nat.le_succ _) _)
        clear hb1
        go_wp2_with (first
          | (refine wpList_store_row rfl 25 (.tmp 9) (.tmp 59) rfl (w.heap.size + 1) #[.int .u64 (Oc.U (Oc.mk (Cl.fold P) 0)), .int .u64 (Oc.U (Oc.mk (Cl.fold P) 1)), .int .u64 (Oc.U (Oc.mk (Cl.fold P) 2)), .int .u64 (Oc.U (Oc.mk (Cl.fold P) 3))] rfl rfl 25 _ Z1a.out (by kernel_rfl) rfl setC_one ?_)
          | (refine wpList_load_row rfl 25 (.tmp 9) rfl (w.heap.size + 1) rfl 25 _ (0, 0) _ Z1s.out Tryz.underlying25 rfl (by kernel_rfl) ?_)
          | (refine wpList_store_row rfl 140 (.tmp 6) (.tmp 74) rfl w.heap.size (ansC (.ok (Br.fin true true false P) (i + 1))) rfl rfl 140 _ Y1s.out (by kernel_rfl) rfl (ansC_one _) ?_)
          | fail)
        exact bodyPost_ret (results_cell_row rfl _ _ w.heap.size 140 (ansC (.ok (Br.fin true true false P) (i + 1))) (0, 0) _ rfl (heap_setRow Y1s.out) Tryz.underlying140 rfl (by kernel_rfl)) rfl ⟨rfl, by exact below_setRow HB1s.out (Nat.le_refl _) _⟩
    · rw [if_neg hx] at hit'
      have HX : Hid (b = false ∨ (b = true ∧ (bt s i == 93) = false)) := Lib.hid (by cases b with | false => exact .inl rfl | true => exact .inr ⟨rfl, by simpa using hx⟩)
      clear hx
      by_cases hin : s.size ≤ i
      · rw [if_pos hin] at hit'
        subst hit'
        rcases HX.out with rfl | ⟨rfl, h93⟩
        · clear HX
          go_wp2_with (first
            | (refine wpList_store_row rfl 140 (.tmp 6) (.tmp 39) rfl w.heap.size (ansC (.err 1 a)) rfl rfl 140 _ Z0.out (by kernel_rfl) rfl (ansC_one _) ?_)
            | fail)
          exact bodyPost_ret (results_cell_row rfl _ _ w.heap.size 140 (ansC (.err 1 a)) (0, 0) _ rfl (heap_setRow Z0.out) Tryz.underlying140 rfl (by kernel_rfl)) rfl ⟨rfl, by exact below_setRow HB.out (Nat.le_refl _) _⟩
        · have H93 := Lib.hid (HI.out i 93 (by omega) false h93)
          clear HX h93
          go_wp2_with fail
          refine (H93.out _).mono ?_; rintro e w' ⟨rfl, rfl⟩
          go_wp2_with (first
            | (refine wpList_store_row rfl 140 (.tmp 6) (.tmp 39) rfl w.heap.size (ansC (.err 1 a)) rfl rfl 140 _ Z0.out (by kernel_rfl) rfl (ansC_one _) ?_)
            | fail)
          exact bodyPost_ret (results_cell_row rfl _ _ w.heap.size 140 (ansC (.err 1 a)) (0, 0) _ rfl (heap_setRow Z0.out) Tryz.underlying140 rfl (by kernel_rfl)) rfl ⟨rfl, by exact below_setRow HB.out (Nat.le_refl _) _⟩
      · rw [if_neg hin] at hit'
        have hlt : i < s.size := by omega
        cases hitem : Br.item (bt s) s.size i a with
        | err c p =>
          rw [hitem] at hit'
          have hit2 : Br.Ans.err c p = R := hit'
          subst hit2
          have hne : ((c : Int) != 0) = true := by
            have := Br.item_err hitem
            simp; omega
          have hI : ∀ w, Calls Tryz.prog 127 #[.string s, .int .i64 i, .int .i64 a] w fun e w' => e = .returned (.agg #[.int .u64 0, .int .u64 0, .int .u64 0, .int .u64 0, .int .i64 0, .int .i64 c, .int .i64 p]) ∧ Below w.heap.size w w' := fun w => by
            have := refitem_any s hs i a hlt w
            rw [hitem] at this; exact this
          have HIT := Lib.hid hI
          clear hI hitem hit'
          rcases HX.out with rfl | ⟨rfl, h93⟩
          · clear HX
            go_wp2_with fail
            refine (HIT.out _).mono ?_; rintro e w1 ⟨rfl, hb1⟩
            have Y1 : Hid ((w1.alloc (.cells #[.int .u64 0, .int .u64 0, .int .u64 0, .int .u64 0, .int .i64 0, .int .i64 c, .int .i64 p] 140)).heap[w.heap.size]? = some (.cells #[.int .u64 0, .int .u64 0, .int .u64 0, .int .u64 0, .int .i64 0, .int .i64 0, .int .i64 0] 140)) := Lib.hid (heap_alloc_lt (keep_blk hb1 Z0.out))
            have HB1 : Hid (Below w.heap.size w (w1.alloc (.cells #[.int .u64 0, .int .u64 0, .int .u64 0, .int .u64 0, .int .i64 0, .int .i64 c, .int .i64 p] 140))) := Lib.hid ((HB.out.trans (hb1.mono HB.out.size)).alloc (HB.out.trans (hb1.mono HB.out.size)).size _)
            clear hb1
            go_wp2_with (first
              | (refine wpList_store_row rfl 140 (.tmp 6) (.tmp 47) rfl w.heap.size (ansC (.err c p)) rfl rfl 140 _ Y1.out (by kernel_rfl) rfl (ansC_one _) ?_)
              | fail)
            exact bodyPost_ret (results_cell_row rfl _ _ w.heap.size 140 (ansC (.err c p)) (0, 0) _ rfl (heap_setRow Y1.out) Tryz.underlying140 rfl (by kernel_rfl)) rfl ⟨rfl, by exact below_setRow HB1.out (Nat.le_refl _) _⟩
          · have H93 := Lib.hid (HI.out i 93 (by omega) false h93)
            clear HX h93
            go_wp2_with fail
            refine (H93.out _).mono ?_; rintro e w' ⟨rfl, rfl⟩
            go_wp2_with fail
            refine (HIT.out _).mono ?_; rintro e w1 ⟨rfl, hb1⟩
            have Y1 : Hid ((w1.alloc (.cells #[.int .u64 0, .int .u64 0, .int .u64 0, .int .u64 0, .int .i64 0, .int .i64 c, .int .i64 p] 140)).heap[w.heap.size]? = some (.cells #[.int .u64 0, .int .u64 0, .int .u64 0, .int .u64 0, .int .i64 0, .int .i64 0, .int .i64 0] 140)) := Lib.hid (heap_alloc_lt (keep_blk hb1 Z0.out))
            have HB1 : Hid (Below w.heap.size w (w1.alloc (.cells #[.int .u64 0, .int .u64 0, .int .u64 0, .int .u64 0, .int .i64 0, .int .i64 c, .int .i64 p] 140))) := Lib.hid ((HB.out.trans (hb1.mono HB.out.size)).alloc (HB.out.trans (hb1.mono HB.out.size)).size _)
            clear hb1
            go_wp2_with (first
              | (refine wpList_store_row rfl 140 (.tmp 6) (.tmp 47) rfl w.heap.size (ansC (.err c p)) rfl rfl 140 _ Y1.out (by kernel_rfl) rfl (ansC_one _) ?_)
              | fail)
            exact bodyPost_ret (results_cell_row rfl _ _ w.heap.size 140 (ansC (.err c p)) (0, 0) _ rfl (heap_setRow Y1.out) Tryz.underlying140 rfl (by kernel_rfl)) rfl ⟨rfl, by exact below_setRow HB1.out (Nat.le_refl _) _⟩
        | ok Q j =>
          rw [hitem] at hit'
          have hit2 : Br.items (bt s) s.size a k j (fun x => P x || Q x) true = R := hit'
          have HN := Lib.hid hit2
          obtain ⟨j1, j2⟩ := Br.item_next hlt hitem
          have hI : ∀ w, Calls Tryz.prog 127 #[.string s, .int .i64 i, .int .i64 a] w fun e w' => e = .returned (.agg #[.int .u64 (Oc.U (Oc.mk Q 0)), .int .u64 (Oc.U (Oc.mk Q 1)), .int .u64 (Oc.U (Oc.mk Q 2)), .int .u64 (Oc.U (Oc.mk Q 3)), .int .i64 j, .int .i64 0, .int .i64 0]) ∧ Below w.heap.size w w' := fun w => by
            have := refitem_any s hs i a hlt w
            rw [hitem] at this; exact this
          have HIT := Lib.hid hI
          clear hI hitem hit' hit2
          rcases HX.out with rfl | ⟨rfl, h93⟩
          · clear HX
            go_wp2_with fail
            refine (HIT.out _).mono ?_; rintro e w1 ⟨rfl, hb1⟩
            have hsz1 : w.heap.size + 1 < w1.heap.size := by have := hb1.size; omega
            have Y1 : Hid ((w1.alloc (.cells #[.int .u64 (Oc.U (Oc.mk Q 0)), .int .u64 (Oc.U (Oc.mk Q 1)), .int .u64 (Oc.U (Oc.mk Q 2)), .int .u64 (Oc.U (Oc.mk Q 3)), .int .i64 j, .int .i64 0, .int .i64 0] 140)).heap[w.heap.size]? = some (.cells #[.int .u64 0, .int .u64 0, .int .u64 0, .int .u64 0, .int .i64 0, .int .i64 0, .int .i64 0] 140)) := Lib.hid (heap_alloc_lt (keep_blk hb1 Z0.out))
            have Z1a : Hid ((w1.alloc (.cells #[.int .u64 (Oc.U (Oc.mk Q 0)), .int .u64 (Oc.U (Oc.mk Q 1)), .int .u64 (Oc.U (Oc.mk Q 2)), .int .u64 (Oc.U (Oc.mk Q 3)), .int .i64 j, .int .i64 0, .int .i64 0] 140)).heap[w.heap.size + 1]? = some (.cells #[.int .u64 (Oc.U (Oc.mk (P) 0)), .int .u64 (Oc.U (Oc.mk (P) 1)), .int .u64 (Oc.U (Oc.mk (P) 2)), .int .u64 (Oc.U (Oc.mk (P) 3))] 25)) := Lib.hid (heap_alloc_lt (keep_blk hb1 Z1.out))
            have HB1 : Hid (Below w.heap.size w (w1.alloc (.cells #[.int .u64 (Oc.U (Oc.mk Q 0)), .int .u64 (Oc.U (Oc.mk Q 1)), .int .u64 (Oc.U (Oc.mk Q 2)), .int .u64 (Oc.U (Oc.mk Q 3)), .int .i64 j, .int .i64 0, .int .i64 0] 140))) := Lib.hid ((HB.out.trans (hb1.mono HB.out.size)).alloc (HB.out.trans (hb1.mono HB.out.size)).size _)
            clear hb1
            go_wp2_with (first
              | (refine wpList_load_row rfl 25 (.tmp 9) rfl (w.heap.size + 1) rfl 25 _ (0, 0) _ Z1a.out Tryz.underlying25 rfl (by kernel_rfl) ?_)
              | fail)
            refine (HJ.out P Q _).mono ?_; rintro e w2 ⟨rfl, hb2⟩
            have Y2 : Hid (w2.heap[w.heap.size]? = some (.cells #[.int .u64 0, .int .u64 0, .int .u64 0, .int .u64 0, .int .i64 0, .int .i64 0, .int .i64 0] 140)) := Lib.hid (keep_blk hb2 Y1.out)
            have Z2 : Hid (w2.heap[w.heap.size + 1]? = some (.cells #[.int .u64 (Oc.U (Oc.mk (P) 0)), .int .u64 (Oc.U (Oc.mk (P) 1)), .int .u64 (Oc.U (Oc.mk (P) 2)), .int .u64 (Oc.U (Oc.mk (P) 3))] 25)) := Lib.hid (keep_blk hb2 Z1a.out)
            have HB2 : Hid (Below w.heap.size w w2) := Lib.hid (HB1.out.trans (hb2.mono HB1.out.size))
            have A2 : Hid (w2.heap[w1.heap.size]? = some (.cells #[.int .u64 (Oc.U (Oc.mk Q 0)), .int .u64 (Oc.U (Oc.mk Q 1)), .int .u64 (Oc.U (Oc.mk Q 2)), .int .u64 (Oc.U (Oc.mk Q 3)), .int .i64 j, .int .i64 0, .int .i64 0] 140)) := Lib.hid (keep_blk hb2 (heap_alloc_new w1 _))
            have hsz2 : w1.heap.size < w2.heap.size := by have := hb2.size; simp at this; omega
            clear hb2
            have cj : (w2.setRow (w.heap.size + 1) #[.int .u64 (Oc.U (Oc.mk (fun x => P x || Q x) 0)), .int .u64 (Oc.U (Oc.mk (fun x => P x || Q x) 1)), .int .u64 (Oc.U (Oc.mk (fun x => P x || Q x) 2)), .int .u64 (Oc.U (Oc.mk (fun x => P x || Q x) 3))]).cell? ⟨w1.heap.size, 4, none⟩ = some (.int .i64 j) := by
              unfold World.cell?; rw [heap_setRow_other _ _ _ (Nat.ne_of_gt hsz1), A2.out]; rfl
            go_wp2_with (first
              | (refine wpList_store_row rfl 25 (.tmp 9) (.tmp 51) rfl (w.heap.size + 1) #[.int .u64 (Oc.U (Oc.mk (fun x => P x || Q x) 0)), .int .u64 (Oc.U (Oc.mk (fun x => P x || Q x) 1)), .int .u64 (Oc.U (Oc.mk (fun x => P x || Q x) 2)), .int .u64 (Oc.U (Oc.mk (fun x => P x || Q x) 3))] rfl rfl 25 _ Z2.out (by kernel_rfl) rfl setC_one ?_)
              | fail)
            exact ⟨⟨fun x => P x || Q x, true, j, k, rfl, rfl, j2, by omega, HN, below_setRow HB2.out (Nat.le_succ _) _, by simp; omega, (heap_setRow_other _ _ _ (Nat.ne_of_lt (Nat.lt_add_one _))).trans Y2.out, heap_setRow Z2.out⟩, by simp [intOf]; omega⟩
          · have H93 := Lib.hid (HI.out i 93 (by omega) false h93)
            clear HX h93
            go_wp2_with fail
            refine (H93.out _).mono ?_; rintro e w' ⟨rfl, rfl⟩
            go_wp2_with fail
            refine (HIT.out _).mono ?_; rintro e w1 ⟨rfl, hb1⟩
            have hsz1 : w.heap.size + 1 < w1.heap.size := by have := hb1.size; omega
            have Y1 : Hid ((w1.alloc (.cells #[.int .u64 (Oc.U (Oc.mk Q 0)), .int .u64 (Oc.U (Oc.mk Q 1)), .int .u64 (Oc.U (Oc.mk Q 2)), .int .u64 (Oc.U (Oc.mk Q 3)), .int .i64 j, .int .i64 0, .int .i64 0] 140)).heap[w.heap.size]? = some (.cells #[.int .u64 0, .int .u64 0, .int .u64 0, .int .u64 0, .int .i64 0, .int .i64 0, .int .i64 0] 140)) := Lib.hid (heap_alloc_lt (keep_blk hb1 Z0.out))
            have Z1a : Hid ((w1.alloc (.cells #[.int .u64 (Oc.U (Oc.mk Q 0)), .int .u64 (Oc.U (Oc.mk Q 1)), .int .u64 (Oc.U (Oc.mk Q 2)), .int .u64 (Oc.U (Oc.mk Q 3)), .int .i64 j, .int .i64 0, .int .i64 0] 140)).heap[w.heap.size + 1]? = some (.cells #[.int .u64 (Oc.U (Oc.mk (P) 0)), .int .u64 (Oc.U (Oc.mk (P) 1)), .int .u64 (Oc.U (Oc.mk (P) 2)), .int .u64 (Oc.U (Oc.mk (P) 3))] 25)) := Lib.hid (heap_alloc_lt (keep_blk hb1 Z1.out))
            have HB1 : Hid (Below w.heap.size w (w1.alloc (.cells #[.int .u64 (Oc.U (Oc.mk Q 0)), .int .u64 (Oc.U (Oc.mk Q 1)), .int .u64 (Oc.U (Oc.mk Q 2)), .int .u64 (Oc.U (Oc.mk Q 3)), .int .i64 j, .int .i64 0, .int .i64 0] 140))) := Lib.hid ((HB.out.trans (hb1.mono HB.out.size)).alloc (HB.out.trans (hb1.mono HB.out.size)).size _)
            clear hb1
            go_wp2_with (first
              | (refine wpList_load_row rfl 25 (.tmp 9) rfl (w.heap.size + 1) rfl 25 _ (0, 0) _ Z1a.out Tryz.underlying25 rfl (by kernel_rfl) ?_)
              | fail)
            refine (HJ.out P Q _).mono ?_; rintro e w2 ⟨rfl, hb2⟩
            have Y2 : Hid (w2.heap[w.heap.size]? = some (.cells #[.int .u64 0, .int .u64 0, .int .u64 0, .int .u64 0, .int .i64 0, .int .i64 0, .int .i64 0] 140)) := Lib.hid (keep_blk hb2 Y1.out)
            have Z2 : Hid (w2.heap[w.heap.size + 1]? = some (.cells #[.int .u64 (Oc.U (Oc.mk (P) 0)), .int .u64 (Oc.U (Oc.mk (P) 1)), .int .u64 (Oc.U (Oc.mk (P) 2)), .int .u64 (Oc.U (Oc.mk (P) 3))] 25)) := Lib.hid (keep_blk hb2 Z1a.out)
            have HB2 : Hid (Below w.heap.size w w2) := Lib.hid (HB1.out.trans (hb2.mono HB1.out.size))
            have A2 : Hid (w2.heap[w1.heap.size]? = some (.cells #[.int .u64 (Oc.U (Oc.mk Q 0)), .int .u64 (Oc.U (Oc.mk Q 1)), .int .u64 (Oc.U (Oc.mk Q 2)), .int .u64 (Oc.U (Oc.mk Q 3)), .int .i64 j, .int .i64 0, .int .i64 0] 140)) := Lib.hid (keep_blk hb2 (heap_alloc_new w1 _))
            have hsz2 : w1.heap.size < w2.heap.size := by have := hb2.size; simp at this; omega
            clear hb2
            have cj : (w2.setRow (w.heap.size + 1) #[.int .u64 (Oc.U (Oc.mk (fun x => P x || Q x) 0)), .int .u64 (Oc.U (Oc.mk (fun x => P x || Q x) 1)), .int .u64 (Oc.U (Oc.mk (fun x => P x || Q x) 2)), .int .u64 (Oc.U (Oc.mk (fun x => P x || Q x) 3))]).cell? ⟨w1.heap.size, 4, none⟩ = some (.int .i64 j) := by
              unfold World.cell?; rw [heap_setRow_other _ _ _ (Nat.ne_of_gt hsz1), A2.out]; rfl
            go_wp2_with (first
              | (refine wpList_store_row rfl 25 (.tmp 9) (.tmp 51) rfl (w.heap.size + 1) #[.int .u64 (Oc.U (Oc.mk (fun x => P x || Q x) 0)), .int .u64 (Oc.U (Oc.mk (fun x => P x || Q x) 1)), .int .u64 (Oc.U (Oc.mk (fun x => P x || Q x) 2)), .int .u64 (Oc.U (Oc.mk (fun x => P x || Q x) 3))] rfl rfl 25 _ Z2.out (by kernel_rfl) rfl setC_one ?_)
              | fail)
            exact ⟨⟨fun x => P x || Q x, true, j, k, rfl, rfl, j2, by omega, HN, below_setRow HB2.out (Nat.le_succ _) _, by simp; omega, (heap_setRow_other _ _ _ (Nat.ne_of_lt (Nat.lt_add_one _))).trans Y2.out, heap_setRow Z2.out⟩, by simp [intOf]; omega⟩
end Go.Proofs.YtlbhbjmobcikfaaGreatDoor
