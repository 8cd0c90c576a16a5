/- class.Named: each name's class; no name: ErrClass. -/
import Derived.Test.YtlbhbjmobcikfaaGreatDoorClNamed0
import Derived.Deep.CutBlock
import Derived.RegionTactic
import Derived.ChangeAlike
namespace Go.Proofs.YtlbhbjmobcikfaaGreatDoor
open Go.RowKit
theorem of_two_at (w : World) (v : Value) (h : BytesAt2 w v 9 32) : Calls Tryz.prog 118 #[v] w fun e w' => e = .returned (.agg #[.int .u64 (Oc.U (Cl.cw 2 0)), .int .u64 (Oc.U (Cl.cw 2 1)), .int .u64 (Oc.U (Cl.cw 2 2)), .int .u64 (Oc.U (Cl.cw 2 3))]) ∧ Below w.heap.size w w' := by
  obtain ⟨g, rfl, hg⟩ := h
  refine (of_any (some ⟨g, 0, none⟩) 2 2 (twoOf 9 32) (by omega) _ (fun i _ => by unfold twoOf; split <;> omega) ?_).mono ?_
  · intro i hi
    refine ⟨g, 0, rfl, (Array.getElem?_eq_some_iff.1 hg).1, ?_⟩
    rcases (show i = 0 ∨ i = 1 by omega) with rfl | rfl <;> (simp [World.cell?, hg]; rfl)
  · rintro e w' ⟨rfl, hb⟩
    refine ⟨?_, hb⟩
    rw [show Oc.mk (Oc.anyB (twoOf 9 32) 2) 0 = Cl.cw 2 0 by decide +kernel, show Oc.mk (Oc.anyB (twoOf 9 32) 2) 1 = Cl.cw 2 1 by decide +kernel, show Oc.mk (Oc.anyB (twoOf 9 32) 2) 2 = Cl.cw 2 2 by decide +kernel, show Oc.mk (Oc.anyB (twoOf 9 32) 2) 3 = Cl.cw 2 3 by decide +kernel]
theorem lower_w0 : Cl.rg 97 122 0 = Cl.cw 6 0 := by decide +kernel
theorem lower_w1 : Cl.rg 97 122 1 = Cl.cw 6 1 := by decide +kernel
theorem lower_w2 : Cl.rg 97 122 2 = Cl.cw 6 2 := by decide +kernel
theorem lower_w3 : Cl.rg 97 122 3 = Cl.cw 6 3 := by decide +kernel
set_option maxRecDepth 100000 in
set_option maxHeartbeats 2000000 in
theorem named_0 (w : World) : Calls Tryz.prog 159 #[.string ⟨#[97, 108, 110, 117, 109]⟩] w fun e w' => e = .returned (.tuple #[(.agg #[.int .u64 (Oc.U (Cl.cw 0 0)), .int .u64 (Oc.U (Cl.cw 0 1)), .int .u64 (Oc.U (Cl.cw 0 2)), .int .u64 (Oc.U (Cl.cw 0 3))]), .nilIface]) ∧ Below w.heap.size w w' := by
  go_enter Tryz.func159, Tryz.ntmps159
  go_upto_block 0 with (fail)
  refine wp_block_hid (fun _ _ => ?_)
  iterate 13 (go_step; refine wp_block_hid (fun _ _ => ?_))
  go_wp2_with fail
  have hb0 : Below w.heap.size w ((w.alloc (.cells #[.int .u64 0, .int .u64 0, .int .u64 0, .int .u64 0] 25)).alloc (.cells #[.int .u64 0, .int .u64 0, .int .u64 0, .int .u64 0] 25)) := by go_grown
  obtain ⟨za0, zb0⟩ := two_new w (.cells #[.int .u64 0, .int .u64 0, .int .u64 0, .int .u64 0] 25) (.cells #[.int .u64 0, .int .u64 0, .int .u64 0, .int .u64 0] 25)
  refine join_reg w.heap.size (w.heap.size + 1) w.heap.size (.cells #[.int .u64 0, .int .u64 0, .int .u64 0, .int .u64 0] 25) w 0#64 0#64 0#64 0#64 (Cl.rg 48 57 0) (Cl.rg 48 57 1) (Cl.rg 48 57 2) (Cl.rg 48 57 3) (Cl.cw 4 0) (Cl.cw 4 1) (Cl.cw 4 2) (Cl.cw 4 3)
    _ _ _ _ _ _ _ #[.int .u8 48, .int .u8 57] _ _ _ _ _ _ _ _ _ _ _ _ _ _ _ _ _ rfl (by kernel_rfl) (by kernel_rfl) (by kernel_rfl) (by kernel_rfl) (by kernel_rfl) (by kernel_rfl) (by kernel_rfl) (by kernel_rfl) (by kernel_rfl)
    rfl (fun _ => by simp [Act.eval]) (fun _ => by kernel_rfl) (fun w => range_at 48 57 _ _ rfl rfl (by omega) (by omega) w) (by decide +kernel) (by decide +kernel) (by decide +kernel) (by decide +kernel) hb0 (by omega) (by omega) za0 zb0 ?_
  clear hb0 za0 zb0
  intro v1 w1 hb1 _ za1 zb1
  simp only [Ri.frame, List.zipIdx, List.foldl_cons, List.foldl_nil, if_true, List.setIfInBounds_toArray, List.set_cons_zero, List.set_cons_succ]
  generalize v1 0 = y1_0
  generalize v1 (0 + 1) = y1_1
  generalize v1 (0 + 1 + 1) = y1_2
  generalize v1 (0 + 1 + 1 + 1) = y1_3
  clear v1
  have HB := Lib.hid hb1; have ZA := Lib.hid za1; have ZB := Lib.hid zb1; clear hb1 za1 zb1
  go_wp2_with fail
  have hb1 := HB.out; have za1 := ZA.out; have zb1 := ZB.out; clear HB ZA ZB
  refine join_reg w.heap.size (w.heap.size + 1) w.heap.size (.cells #[.int .u64 0, .int .u64 0, .int .u64 0, .int .u64 0] 25) w (Cl.cw 4 0) (Cl.cw 4 1) (Cl.cw 4 2) (Cl.cw 4 3) (Cl.rg 97 122 0) (Cl.rg 97 122 1) (Cl.rg 97 122 2) (Cl.rg 97 122 3) (Cl.pw 6 0) (Cl.pw 6 1) (Cl.pw 6 2) (Cl.pw 6 3)
    _ _ _ _ _ _ _ #[.int .u8 97, .int .u8 122] _ _ _ _ _ _ _ _ _ _ _ _ _ _ _ _ _ rfl (by kernel_rfl) (by kernel_rfl) (by kernel_rfl) (by kernel_rfl) (by kernel_rfl) (by kernel_rfl) (by kernel_rfl) (by kernel_rfl) (by kernel_rfl)
    rfl (fun _ => by simp [Act.eval]) (fun _ => by kernel_rfl) (fun w => range_at 97 122 _ _ rfl rfl (by omega) (by omega) w) (by decide +kernel) (by decide +kernel) (by decide +kernel) (by decide +kernel) hb1 (by omega) (by omega) za1 zb1 ?_
  clear hb1 za1 zb1
  intro v2 w2 hb2 _ za2 zb2
  simp only [Ri.frame, List.zipIdx, List.foldl_cons, List.foldl_nil, if_true, List.setIfInBounds_toArray, List.set_cons_zero, List.set_cons_succ]
  generalize v2 0 = y2_0
  generalize v2 (0 + 1) = y2_1
  generalize v2 (0 + 1 + 1) = y2_2
  generalize v2 (0 + 1 + 1 + 1) = y2_3
  clear v2
  have HB := Lib.hid hb2; have ZA := Lib.hid za2; have ZB := Lib.hid zb2; clear hb2 za2 zb2
  go_wp2_with fail
  have hb2 := HB.out; have za2 := ZA.out; have zb2 := ZB.out; clear HB ZA ZB
  refine join_reg w.heap.size (w.heap.size + 1) w.heap.size (.cells #[.int .u64 0, .int .u64 0, .int .u64 0, .int .u64 0] 25) w (Cl.pw 6 0) (Cl.pw 6 1) (Cl.pw 6 2) (Cl.pw 6 3) (Cl.rg 65 90 0) (Cl.rg 65 90 1) (Cl.rg 65 90 2) (Cl.rg 65 90 3) (Cl.cw 0 0) (Cl.cw 0 1) (Cl.cw 0 2) (Cl.cw 0 3)
    _ _ _ _ _ _ _ #[.int .u8 65, .int .u8 90] _ _ _ _ _ _ _ _ _ _ _ _ _ _ _ _ _ rfl (by kernel_rfl) (by kernel_rfl) (by kernel_rfl) (by kernel_rfl) (by kernel_rfl) (by kernel_rfl) (by kernel_rfl) (by kernel_rfl) (by kernel_rfl)
    rfl (fun _ => by simp [Act.eval]) (fun _ => by kernel_rfl) (fun w => range_at 65 90 _ _ rfl rfl (by omega) (by omega) w) (by decide +kernel) (by decide +kernel) (by decide +kernel) (by decide +kernel) hb2 (by omega) (by omega) za2 zb2 ?_
  clear hb2 za2 zb2
  intro v3 w3 hb3 _ za3 zb3
  simp only [Ri.frame, List.zipIdx, List.foldl_cons, List.foldl_nil, if_true, List.setIfInBounds_toArray, List.set_cons_zero, List.set_cons_succ]
  generalize v3 0 = y3_0
  generalize v3 (0 + 1) = y3_1
  generalize v3 (0 + 1 + 1) = y3_2
  generalize v3 (0 + 1 + 1 + 1) = y3_3
  clear v3
  obtain ⟨c0, c1, c2, c3, -⟩ := four zb3
  obtain ⟨d0, e0, d1, e1, d2, e2, d3, e3, r0, r1, r2, r3⟩ := four_st za3
  have HB := Lib.hid hb3
  clear hb3 za3 zb3
  go_wp2
  have hb := HB.out
  refine bodyPost_ret (v := .tuple #[(.agg #[.int .u64 (Oc.U (Cl.cw 0 0)), .int .u64 (Oc.U (Cl.cw 0 1)), .int .u64 (Oc.U (Cl.cw 0 2)), .int .u64 (Oc.U (Cl.cw 0 3))]), .nilIface]) (by simp [results, Tryz.results159, go_sem, r0, r1, r2, r3]) rfl ⟨rfl, ?_⟩
  go_grown
set_option maxRecDepth 100000 in
set_option maxHeartbeats 2000000 in
theorem named_1 (w : World) : Calls Tryz.prog 159 #[.string ⟨#[97, 108, 112, 104, 97]⟩] w fun e w' => e = .returned (.tuple #[(.agg #[.int .u64 (Oc.U (Cl.cw 1 0)), .int .u64 (Oc.U (Cl.cw 1 1)), .int .u64 (Oc.U (Cl.cw 1 2)), .int .u64 (Oc.U (Cl.cw 1 3))]), .nilIface]) ∧ Below w.heap.size w w' := by
  go_enter Tryz.func159, Tryz.ntmps159
  go_upto_block 0 with (fail)
  refine wp_block_hid (fun _ _ => ?_)
  iterate 13 (go_step; refine wp_block_hid (fun _ _ => ?_))
  go_wp2_with fail
  have hb0 : Below w.heap.size w ((w.alloc (.cells #[.int .u64 0, .int .u64 0, .int .u64 0, .int .u64 0] 25)).alloc (.cells #[.int .u64 0, .int .u64 0, .int .u64 0, .int .u64 0] 25)) := by go_grown
  obtain ⟨za0, zb0⟩ := two_new w (.cells #[.int .u64 0, .int .u64 0, .int .u64 0, .int .u64 0] 25) (.cells #[.int .u64 0, .int .u64 0, .int .u64 0, .int .u64 0] 25)
  refine join_reg w.heap.size (w.heap.size + 1) w.heap.size (.cells #[.int .u64 0, .int .u64 0, .int .u64 0, .int .u64 0] 25) w 0#64 0#64 0#64 0#64 (Cl.rg 97 122 0) (Cl.rg 97 122 1) (Cl.rg 97 122 2) (Cl.rg 97 122 3) (Cl.cw 6 0) (Cl.cw 6 1) (Cl.cw 6 2) (Cl.cw 6 3)
    _ _ _ _ _ _ _ #[.int .u8 97, .int .u8 122] _ _ _ _ _ _ _ _ _ _ _ _ _ _ _ _ _ rfl (by kernel_rfl) (by kernel_rfl) (by kernel_rfl) (by kernel_rfl) (by kernel_rfl) (by kernel_rfl) (by kernel_rfl) (by kernel_rfl) (by kernel_rfl)
    rfl (fun _ => by simp [Act.eval]) (fun _ => by kernel_rfl) (fun w => range_at 97 122 _ _ rfl rfl (by omega) (by omega) w) (by decide +kernel) (by decide +kernel) (by decide +kernel) (by decide +kernel) hb0 (by omega) (by omega) za0 zb0 ?_
  clear hb0 za0 zb0
  intro v1 w1 hb1 _ za1 zb1
  simp only [Ri.frame, List.zipIdx, List.foldl_cons, List.foldl_nil, if_true, List.setIfInBounds_toArray, List.set_cons_zero, List.set_cons_succ]
  generalize v1 0 = y1_0
  generalize v1 (0 + 1) = y1_1
  generalize v1 (0 + 1 + 1) = y1_2
  generalize v1 (0 + 1 + 1 + 1) = y1_3
  clear v1
  have HB := Lib.hid hb1; have ZA := Lib.hid za1; have ZB := Lib.hid zb1; clear hb1 za1 zb1
  go_wp2_with fail
  have hb1 := HB.out; have za1 := ZA.out; have zb1 := ZB.out; clear HB ZA ZB
  refine join_reg w.heap.size (w.heap.size + 1) w.heap.size (.cells #[.int .u64 0, .int .u64 0, .int .u64 0, .int .u64 0] 25) w (Cl.cw 6 0) (Cl.cw 6 1) (Cl.cw 6 2) (Cl.cw 6 3) (Cl.rg 65 90 0) (Cl.rg 65 90 1) (Cl.rg 65 90 2) (Cl.rg 65 90 3) (Cl.cw 1 0) (Cl.cw 1 1) (Cl.cw 1 2) (Cl.cw 1 3)
    _ _ _ _ _ _ _ #[.int .u8 65, .int .u8 90] _ _ _ _ _ _ _ _ _ _ _ _ _ _ _ _ _ rfl (by kernel_rfl) (by kernel_rfl) (by kernel_rfl) (by kernel_rfl) (by kernel_rfl) (by kernel_rfl) (by kernel_rfl) (by kernel_rfl) (by kernel_rfl)
    rfl (fun _ => by simp [Act.eval]) (fun _ => by kernel_rfl) (fun w => range_at 65 90 _ _ rfl rfl (by omega) (by omega) w) (by decide +kernel) (by decide +kernel) (by decide +kernel) (by decide +kernel) hb1 (by omega) (by omega) za1 zb1 ?_
  clear hb1 za1 zb1
  intro v2 w2 hb2 _ za2 zb2
  simp only [Ri.frame, List.zipIdx, List.foldl_cons, List.foldl_nil, if_true, List.setIfInBounds_toArray, List.set_cons_zero, List.set_cons_succ]
  generalize v2 0 = y2_0
  generalize v2 (0 + 1) = y2_1
  generalize v2 (0 + 1 + 1) = y2_2
  generalize v2 (0 + 1 + 1 + 1) = y2_3
  clear v2
  obtain ⟨c0, c1, c2, c3, -⟩ := four zb2
  obtain ⟨d0, e0, d1, e1, d2, e2, d3, e3, r0, r1, r2, r3⟩ := four_st za2
  have HB := Lib.hid hb2
  clear hb2 za2 zb2
  go_wp2
  have hb := HB.out
  refine bodyPost_ret (v := .tuple #[(.agg #[.int .u64 (Oc.U (Cl.cw 1 0)), .int .u64 (Oc.U (Cl.cw 1 1)), .int .u64 (Oc.U (Cl.cw 1 2)), .int .u64 (Oc.U (Cl.cw 1 3))]), .nilIface]) (by simp [results, Tryz.results159, go_sem, r0, r1, r2, r3]) rfl ⟨rfl, ?_⟩
  go_grown
set_option maxRecDepth 100000 in
set_option maxHeartbeats 2000000 in
theorem named_2 (w : World) : Calls Tryz.prog 159 #[.string ⟨#[98, 108, 97, 110, 107]⟩] w fun e w' => e = .returned (.tuple #[(.agg #[.int .u64 (Oc.U (Cl.cw 2 0)), .int .u64 (Oc.U (Cl.cw 2 1)), .int .u64 (Oc.U (Cl.cw 2 2)), .int .u64 (Oc.U (Cl.cw 2 3))]), .nilIface]) ∧ Below w.heap.size w w' := by
  go_enter Tryz.func159, Tryz.ntmps159
  go_upto_block 0 with (fail)
  refine wp_block_hid (fun _ _ => ?_)
  iterate 13 (go_step; refine wp_block_hid (fun _ _ => ?_))
  go_wp2_with fail
  have hb0 : Below w.heap.size w ((w.alloc (.cells #[.int .u64 0, .int .u64 0, .int .u64 0, .int .u64 0] 25)).alloc (.cells #[.int .u64 0, .int .u64 0, .int .u64 0, .int .u64 0] 25)) := by go_grown
  obtain ⟨za0, zb0⟩ := two_new w (.cells #[.int .u64 0, .int .u64 0, .int .u64 0, .int .u64 0] 25) (.cells #[.int .u64 0, .int .u64 0, .int .u64 0, .int .u64 0] 25)
  refine join_reg6 w.heap.size (w.heap.size + 1) w.heap.size (.cells #[.int .u64 0, .int .u64 0, .int .u64 0, .int .u64 0] 25) w 9 32 0#64 0#64 0#64 0#64 (Cl.cw 2 0) (Cl.cw 2 1) (Cl.cw 2 2) (Cl.cw 2 3) (Cl.cw 2 0) (Cl.cw 2 1) (Cl.cw 2 2) (Cl.cw 2 3)
    _ _ _ _ _ _ _ _ _ _ _ _ _ _ _ _ _ _ _ _ _ _ _ _ _ rfl (by kernel_rfl) (by kernel_rfl) (by kernel_rfl) (by kernel_rfl) (by kernel_rfl) (by kernel_rfl) (by kernel_rfl) (by kernel_rfl) (by kernel_rfl) (by kernel_rfl) (by kernel_rfl)
    rfl of_two_at (by decide +kernel) (by decide +kernel) (by decide +kernel) (by decide +kernel) hb0 (by omega) (by omega) za0 zb0 ?_
  clear hb0 za0 zb0
  intro v1 w1 hb1 _ za1 zb1
  simp only [Ri.frame, List.zipIdx, List.foldl_cons, List.foldl_nil, if_true, List.setIfInBounds_toArray, List.set_cons_zero, List.set_cons_succ]
  generalize v1 0 = y1_0
  generalize v1 (0 + 1) = y1_1
  generalize v1 (0 + 1 + 1) = y1_2
  generalize v1 (0 + 1 + 1 + 1) = y1_3
  generalize v1 (0 + 1 + 1 + 1 + 1) = y1_4
  clear v1
  obtain ⟨c0, c1, c2, c3, -⟩ := four zb1
  obtain ⟨d0, e0, d1, e1, d2, e2, d3, e3, r0, r1, r2, r3⟩ := four_st za1
  have HB := Lib.hid hb1
  clear hb1 za1 zb1
  go_wp2
  have hb := HB.out
  refine bodyPost_ret (v := .tuple #[(.agg #[.int .u64 (Oc.U (Cl.cw 2 0)), .int .u64 (Oc.U (Cl.cw 2 1)), .int .u64 (Oc.U (Cl.cw 2 2)), .int .u64 (Oc.U (Cl.cw 2 3))]), .nilIface]) (by simp [results, Tryz.results159, go_sem, r0, r1, r2, r3]) rfl ⟨rfl, ?_⟩
  go_grown
set_option maxRecDepth 100000 in
set_option maxHeartbeats 2000000 in
theorem named_3 (w : World) : Calls Tryz.prog 159 #[.string ⟨#[99, 110, 116, 114, 108]⟩] w fun e w' => e = .returned (.tuple #[(.agg #[.int .u64 (Oc.U (Cl.cw 3 0)), .int .u64 (Oc.U (Cl.cw 3 1)), .int .u64 (Oc.U (Cl.cw 3 2)), .int .u64 (Oc.U (Cl.cw 3 3))]), .nilIface]) ∧ Below w.heap.size w w' := by
  go_enter Tryz.func159, Tryz.ntmps159
  go_upto_block 0 with (fail)
  refine wp_block_hid (fun _ _ => ?_)
  iterate 13 (go_step; refine wp_block_hid (fun _ _ => ?_))
  go_wp2_with fail
  have hb0 : Below w.heap.size w ((w.alloc (.cells #[.int .u64 0, .int .u64 0, .int .u64 0, .int .u64 0] 25)).alloc (.cells #[.int .u64 0, .int .u64 0, .int .u64 0, .int .u64 0] 25)) := by go_grown
  obtain ⟨za0, zb0⟩ := two_new w (.cells #[.int .u64 0, .int .u64 0, .int .u64 0, .int .u64 0] 25) (.cells #[.int .u64 0, .int .u64 0, .int .u64 0, .int .u64 0] 25)
  have HB := Lib.hid hb0; have ZA := Lib.hid za0; have ZB := Lib.hid zb0; clear hb0 za0 zb0
  refine (range_at 0 31 _ _ rfl rfl (by omega) (by omega) _).mono ?_
  rintro e w1 ⟨rfl, hc⟩
  have hb1 := HB.out.trans (hc.mono HB.out.size); have za1 := keep_blk hc ZA.out; have zb1 := keep_blk hc ZB.out; clear hc HB ZA ZB
  have HB := Lib.hid hb1; have ZA := Lib.hid za1; have ZB := Lib.hid zb1; clear hb1 za1 zb1
  go_wp2_with fail
  have hb1 := HB.out; have za1 := ZA.out; have zb1 := ZB.out; clear HB ZA ZB
  have HB := Lib.hid hb1; have ZA := Lib.hid za1; have ZB := Lib.hid zb1; clear hb1 za1 zb1
  refine (of_one 127 (by omega) _ rfl _ _ rfl _ (Cl.pw 9 0) (Cl.pw 9 1) (Cl.pw 9 2) (Cl.pw 9 3) (by decide +kernel) (by decide +kernel) (by decide +kernel) (by decide +kernel)).mono ?_
  rintro e w2 ⟨rfl, hc⟩
  have hb2 := (HB.out.alloc HB.out.size _).trans (hc.mono (by have := HB.out.size; omega)); have za2 := keep_new hc ZA.out; have zb2 := keep_new hc ZB.out; clear hc HB ZA ZB
  have HB := Lib.hid hb2; have ZA := Lib.hid za2; have ZB := Lib.hid zb2; clear hb2 za2 zb2
  go_wp2_with fail
  have hb2 := HB.out; have za2 := ZA.out; have zb2 := ZB.out; clear HB ZA ZB
  have HB := Lib.hid hb2; have ZA := Lib.hid za2; have ZB := Lib.hid zb2; clear hb2 za2 zb2
  refine (join2_new _ _ _ _ _ _ _ _ (Cl.cw 3 0) (Cl.cw 3 1) (Cl.cw 3 2) (Cl.cw 3 3) _ (by decide +kernel) (by decide +kernel) (by decide +kernel) (by decide +kernel)).mono ?_
  rintro e w3 ⟨rfl, hc⟩
  have hb3 := (HB.out.alloc HB.out.size _).trans (hc.mono (by have := HB.out.size; omega)); have za3 := keep_new hc ZA.out; have zb3 := keep_new hc ZB.out; clear hc HB ZA ZB
  obtain ⟨c0, f0, c1, f1, c2, f2, c3, f3, -⟩ := four_st zb3
  have HB := Lib.hid hb3; have ZA := Lib.hid za3; have ZB := Lib.hid zb3; clear hb3 za3 zb3
  go_upto_region 28 with (fail)
  have zb4 := set4 (.int .u64 (Oc.U (Cl.cw 3 0))) (.int .u64 (Oc.U (Cl.cw 3 1))) (.int .u64 (Oc.U (Cl.cw 3 2))) (.int .u64 (Oc.U (Cl.cw 3 3))) ZB.out
  have za4 := set4_other (.int .u64 (Oc.U (Cl.cw 3 0))) (.int .u64 (Oc.U (Cl.cw 3 1))) (.int .u64 (Oc.U (Cl.cw 3 2))) (.int .u64 (Oc.U (Cl.cw 3 3))) (b := w.heap.size + 1) ZA.out (by omega)
  have hb4 := (((HB.out.setCell (show w.heap.size ≤ (⟨w.heap.size + 1, 0, none⟩ : Addr).block by simp) (.int .u64 (Oc.U (Cl.cw 3 0)))).setCell (show w.heap.size ≤ (⟨w.heap.size + 1, 1, none⟩ : Addr).block by simp) (.int .u64 (Oc.U (Cl.cw 3 1)))).setCell (show w.heap.size ≤ (⟨w.heap.size + 1, 2, none⟩ : Addr).block by simp) (.int .u64 (Oc.U (Cl.cw 3 2)))).setCell (show w.heap.size ≤ (⟨w.heap.size + 1, 3, none⟩ : Addr).block by simp) (.int .u64 (Oc.U (Cl.cw 3 3)))
  clear HB ZA ZB c0 f0 c1 f1 c2 f2 c3 f3
  generalize World.setCell (World.setCell (World.setCell (World.setCell _ _ _) _ _) _ _) _ _ = W at *
  obtain ⟨c0, c1, c2, c3, -⟩ := four zb4
  obtain ⟨d0, e0, d1, e1, d2, e2, d3, e3, r0, r1, r2, r3⟩ := four_st za4
  have HB := Lib.hid hb4
  clear hb4 za4 zb4
  go_wp2
  have hb := HB.out
  refine bodyPost_ret (v := .tuple #[(.agg #[.int .u64 (Oc.U (Cl.cw 3 0)), .int .u64 (Oc.U (Cl.cw 3 1)), .int .u64 (Oc.U (Cl.cw 3 2)), .int .u64 (Oc.U (Cl.cw 3 3))]), .nilIface]) (by simp [results, Tryz.results159, go_sem, r0, r1, r2, r3]) rfl ⟨rfl, ?_⟩
  go_grown
set_option maxRecDepth 100000 in
set_option maxHeartbeats 2000000 in
theorem named_4 (w : World) : Calls Tryz.prog 159 #[.string ⟨#[100, 105, 103, 105, 116]⟩] w fun e w' => e = .returned (.tuple #[(.agg #[.int .u64 (Oc.U (Cl.cw 4 0)), .int .u64 (Oc.U (Cl.cw 4 1)), .int .u64 (Oc.U (Cl.cw 4 2)), .int .u64 (Oc.U (Cl.cw 4 3))]), .nilIface]) ∧ Below w.heap.size w w' := by
  go_enter Tryz.func159, Tryz.ntmps159
  go_upto_block 0 with (fail)
  refine wp_block_hid (fun _ _ => ?_)
  iterate 13 (go_step; refine wp_block_hid (fun _ _ => ?_))
  go_wp2_with fail
  have hb0 : Below w.heap.size w ((w.alloc (.cells #[.int .u64 0, .int .u64 0, .int .u64 0, .int .u64 0] 25)).alloc (.cells #[.int .u64 0, .int .u64 0, .int .u64 0, .int .u64 0] 25)) := by go_grown
  obtain ⟨za0, zb0⟩ := two_new w (.cells #[.int .u64 0, .int .u64 0, .int .u64 0, .int .u64 0] 25) (.cells #[.int .u64 0, .int .u64 0, .int .u64 0, .int .u64 0] 25)
  refine join_reg w.heap.size (w.heap.size + 1) w.heap.size (.cells #[.int .u64 0, .int .u64 0, .int .u64 0, .int .u64 0] 25) w 0#64 0#64 0#64 0#64 (Cl.rg 48 57 0) (Cl.rg 48 57 1) (Cl.rg 48 57 2) (Cl.rg 48 57 3) (Cl.cw 4 0) (Cl.cw 4 1) (Cl.cw 4 2) (Cl.cw 4 3)
    _ _ _ _ _ _ _ #[.int .u8 48, .int .u8 57] _ _ _ _ _ _ _ _ _ _ _ _ _ _ _ _ _ rfl (by kernel_rfl) (by kernel_rfl) (by kernel_rfl) (by kernel_rfl) (by kernel_rfl) (by kernel_rfl) (by kernel_rfl) (by kernel_rfl) (by kernel_rfl)
    rfl (fun _ => by simp [Act.eval]) (fun _ => by kernel_rfl) (fun w => range_at 48 57 _ _ rfl rfl (by omega) (by omega) w) (by decide +kernel) (by decide +kernel) (by decide +kernel) (by decide +kernel) hb0 (by omega) (by omega) za0 zb0 ?_
  clear hb0 za0 zb0
  intro v1 w1 hb1 _ za1 zb1
  simp only [Ri.frame, List.zipIdx, List.foldl_cons, List.foldl_nil, if_true, List.setIfInBounds_toArray, List.set_cons_zero, List.set_cons_succ]
  generalize v1 0 = y1_0
  generalize v1 (0 + 1) = y1_1
  generalize v1 (0 + 1 + 1) = y1_2
  generalize v1 (0 + 1 + 1 + 1) = y1_3
  clear v1
  obtain ⟨c0, c1, c2, c3, -⟩ := four zb1
  obtain ⟨d0, e0, d1, e1, d2, e2, d3, e3, r0, r1, r2, r3⟩ := four_st za1
  have HB := Lib.hid hb1
  clear hb1 za1 zb1
  go_wp2
  have hb := HB.out
  refine bodyPost_ret (v := .tuple #[(.agg #[.int .u64 (Oc.U (Cl.cw 4 0)), .int .u64 (Oc.U (Cl.cw 4 1)), .int .u64 (Oc.U (Cl.cw 4 2)), .int .u64 (Oc.U (Cl.cw 4 3))]), .nilIface]) (by simp [results, Tryz.results159, go_sem, r0, r1, r2, r3]) rfl ⟨rfl, ?_⟩
  go_grown
set_option maxRecDepth 100000 in
set_option maxHeartbeats 2000000 in
theorem named_5 (w : World) : Calls Tryz.prog 159 #[.string ⟨#[103, 114, 97, 112, 104]⟩] w fun e w' => e = .returned (.tuple #[(.agg #[.int .u64 (Oc.U (Cl.cw 5 0)), .int .u64 (Oc.U (Cl.cw 5 1)), .int .u64 (Oc.U (Cl.cw 5 2)), .int .u64 (Oc.U (Cl.cw 5 3))]), .nilIface]) ∧ Below w.heap.size w w' := by
  go_enter Tryz.func159, Tryz.ntmps159
  go_upto_block 0 with (fail)
  refine wp_block_hid (fun _ _ => ?_)
  iterate 13 (go_step; refine wp_block_hid (fun _ _ => ?_))
  go_wp2_with fail
  have hb0 : Below w.heap.size w ((w.alloc (.cells #[.int .u64 0, .int .u64 0, .int .u64 0, .int .u64 0] 25)).alloc (.cells #[.int .u64 0, .int .u64 0, .int .u64 0, .int .u64 0] 25)) := by go_grown
  obtain ⟨za0, zb0⟩ := two_new w (.cells #[.int .u64 0, .int .u64 0, .int .u64 0, .int .u64 0] 25) (.cells #[.int .u64 0, .int .u64 0, .int .u64 0, .int .u64 0] 25)
  refine join_reg w.heap.size (w.heap.size + 1) w.heap.size (.cells #[.int .u64 0, .int .u64 0, .int .u64 0, .int .u64 0] 25) w 0#64 0#64 0#64 0#64 (Cl.cw 8 0) (Cl.cw 8 1) (Cl.cw 8 2) (Cl.cw 8 3) (Cl.cw 8 0) (Cl.cw 8 1) (Cl.cw 8 2) (Cl.cw 8 3)
    _ _ _ _ _ _ _ #[] _ _ _ _ _ _ _ _ _ _ _ _ _ _ _ _ _ rfl (by kernel_rfl) (by kernel_rfl) (by kernel_rfl) (by kernel_rfl) (by kernel_rfl) (by kernel_rfl) (by kernel_rfl) (by kernel_rfl) (by kernel_rfl)
    rfl (fun _ => by simp) (fun _ => by kernel_rfl) (fun w => marks_any w) (by decide +kernel) (by decide +kernel) (by decide +kernel) (by decide +kernel) hb0 (by omega) (by omega) za0 zb0 ?_
  clear hb0 za0 zb0
  intro v1 w1 hb1 _ za1 zb1
  simp only [Ri.frame, List.zipIdx, List.foldl_cons, List.foldl_nil, if_true, List.setIfInBounds_toArray, List.set_cons_zero, List.set_cons_succ]
  generalize v1 0 = y1_0
  generalize v1 (0 + 1) = y1_1
  generalize v1 (0 + 1 + 1) = y1_2
  generalize v1 (0 + 1 + 1 + 1) = y1_3
  clear v1
  have HB := Lib.hid hb1; have ZA := Lib.hid za1; have ZB := Lib.hid zb1; clear hb1 za1 zb1
  go_wp2_with fail
  have hb1 := HB.out; have za1 := ZA.out; have zb1 := ZB.out; clear HB ZA ZB
  refine join_reg w.heap.size (w.heap.size + 1) w.heap.size (.cells #[.int .u64 0, .int .u64 0, .int .u64 0, .int .u64 0] 25) w (Cl.cw 8 0) (Cl.cw 8 1) (Cl.cw 8 2) (Cl.cw 8 3) (Cl.rg 48 57 0) (Cl.rg 48 57 1) (Cl.rg 48 57 2) (Cl.rg 48 57 3) (Cl.pw 4 0) (Cl.pw 4 1) (Cl.pw 4 2) (Cl.pw 4 3)
    _ _ _ _ _ _ _ #[.int .u8 48, .int .u8 57] _ _ _ _ _ _ _ _ _ _ _ _ _ _ _ _ _ rfl (by kernel_rfl) (by kernel_rfl) (by kernel_rfl) (by kernel_rfl) (by kernel_rfl) (by kernel_rfl) (by kernel_rfl) (by kernel_rfl) (by kernel_rfl)
    rfl (fun _ => by simp [Act.eval]) (fun _ => by kernel_rfl) (fun w => range_at 48 57 _ _ rfl rfl (by omega) (by omega) w) (by decide +kernel) (by decide +kernel) (by decide +kernel) (by decide +kernel) hb1 (by omega) (by omega) za1 zb1 ?_
  clear hb1 za1 zb1
  intro v2 w2 hb2 _ za2 zb2
  simp only [Ri.frame, List.zipIdx, List.foldl_cons, List.foldl_nil, if_true, List.setIfInBounds_toArray, List.set_cons_zero, List.set_cons_succ]
  generalize v2 0 = y2_0
  generalize v2 (0 + 1) = y2_1
  generalize v2 (0 + 1 + 1) = y2_2
  generalize v2 (0 + 1 + 1 + 1) = y2_3
  clear v2
  have HB := Lib.hid hb2; have ZA := Lib.hid za2; have ZB := Lib.hid zb2; clear hb2 za2 zb2
  go_wp2_with fail
  have hb2 := HB.out; have za2 := ZA.out; have zb2 := ZB.out; clear HB ZA ZB
  refine join_reg w.heap.size (w.heap.size + 1) w.heap.size (.cells #[.int .u64 0, .int .u64 0, .int .u64 0, .int .u64 0] 25) w (Cl.pw 4 0) (Cl.pw 4 1) (Cl.pw 4 2) (Cl.pw 4 3) (Cl.rg 97 122 0) (Cl.rg 97 122 1) (Cl.rg 97 122 2) (Cl.rg 97 122 3) (Cl.pw 5 0) (Cl.pw 5 1) (Cl.pw 5 2) (Cl.pw 5 3)
    _ _ _ _ _ _ _ #[.int .u8 97, .int .u8 122] _ _ _ _ _ _ _ _ _ _ _ _ _ _ _ _ _ rfl (by kernel_rfl) (by kernel_rfl) (by kernel_rfl) (by kernel_rfl) (by kernel_rfl) (by kernel_rfl) (by kernel_rfl) (by kernel_rfl) (by kernel_rfl)
    rfl (fun _ => by simp [Act.eval]) (fun _ => by kernel_rfl) (fun w => range_at 97 122 _ _ rfl rfl (by omega) (by omega) w) (by decide +kernel) (by decide +kernel) (by decide +kernel) (by decide +kernel) hb2 (by omega) (by omega) za2 zb2 ?_
  clear hb2 za2 zb2
  intro v3 w3 hb3 _ za3 zb3
  simp only [Ri.frame, List.zipIdx, List.foldl_cons, List.foldl_nil, if_true, List.setIfInBounds_toArray, List.set_cons_zero, List.set_cons_succ]
  generalize v3 0 = y3_0
  generalize v3 (0 + 1) = y3_1
  generalize v3 (0 + 1 + 1) = y3_2
  generalize v3 (0 + 1 + 1 + 1) = y3_3
  clear v3
  have HB := Lib.hid hb3; have ZA := Lib.hid za3; have ZB := Lib.hid zb3; clear hb3 za3 zb3
  go_wp2_with fail
  have hb3 := HB.out; have za3 := ZA.out; have zb3 := ZB.out; clear HB ZA ZB
  refine join_reg w.heap.size (w.heap.size + 1) w.heap.size (.cells #[.int .u64 0, .int .u64 0, .int .u64 0, .int .u64 0] 25) w (Cl.pw 5 0) (Cl.pw 5 1) (Cl.pw 5 2) (Cl.pw 5 3) (Cl.rg 65 90 0) (Cl.rg 65 90 1) (Cl.rg 65 90 2) (Cl.rg 65 90 3) (Cl.cw 5 0) (Cl.cw 5 1) (Cl.cw 5 2) (Cl.cw 5 3)
    _ _ _ _ _ _ _ #[.int .u8 65, .int .u8 90] _ _ _ _ _ _ _ _ _ _ _ _ _ _ _ _ _ rfl (by kernel_rfl) (by kernel_rfl) (by kernel_rfl) (by kernel_rfl) (by kernel_rfl) (by kernel_rfl) (by kernel_rfl) (by kernel_rfl) (by kernel_rfl)
    rfl (fun _ => by simp [Act.eval]) (fun _ => by kernel_rfl) (fun w => range_at 65 90 _ _ rfl rfl (by omega) (by omega) w) (by decide +kernel) (by decide +kernel) (by decide +kernel) (by decide +kernel) hb3 (by omega) (by omega) za3 zb3 ?_
  clear hb3 za3 zb3
  intro v4 w4 hb4 _ za4 zb4
  simp only [Ri.frame, List.zipIdx, List.foldl_cons, List.foldl_nil, if_true, List.setIfInBounds_toArray, List.set_cons_zero, List.set_cons_succ]
  generalize v4 0 = y4_0
  generalize v4 (0 + 1) = y4_1
  generalize v4 (0 + 1 + 1) = y4_2
  generalize v4 (0 + 1 + 1 + 1) = y4_3
  clear v4
  obtain ⟨c0, c1, c2, c3, -⟩ := four zb4
  obtain ⟨d0, e0, d1, e1, d2, e2, d3, e3, r0, r1, r2, r3⟩ := four_st za4
  have HB := Lib.hid hb4
  clear hb4 za4 zb4
  go_wp2
  have hb := HB.out
  refine bodyPost_ret (v := .tuple #[(.agg #[.int .u64 (Oc.U (Cl.cw 5 0)), .int .u64 (Oc.U (Cl.cw 5 1)), .int .u64 (Oc.U (Cl.cw 5 2)), .int .u64 (Oc.U (Cl.cw 5 3))]), .nilIface]) (by simp [results, Tryz.results159, go_sem, r0, r1, r2, r3]) rfl ⟨rfl, ?_⟩
  go_grown
set_option maxRecDepth 100000 in
set_option maxHeartbeats 2000000 in
theorem named_6 (w : World) : Calls Tryz.prog 159 #[.string ⟨#[108, 111, 119, 101, 114]⟩] w fun e w' => e = .returned (.tuple #[(.agg #[.int .u64 (Oc.U (Cl.cw 6 0)), .int .u64 (Oc.U (Cl.cw 6 1)), .int .u64 (Oc.U (Cl.cw 6 2)), .int .u64 (Oc.U (Cl.cw 6 3))]), .nilIface]) ∧ Below w.heap.size w w' := by
  go_enter Tryz.func159, Tryz.ntmps159
  go_upto_block 0 with (fail)
  refine wp_block_hid (fun _ _ => ?_)
  iterate 13 (go_step; refine wp_block_hid (fun _ _ => ?_))
  go_wp2_with fail
  have hb0 : Below w.heap.size w ((w.alloc (.cells #[.int .u64 0, .int .u64 0, .int .u64 0, .int .u64 0] 25)).alloc (.cells #[.int .u64 0, .int .u64 0, .int .u64 0, .int .u64 0] 25)) := by go_grown
  obtain ⟨za0, zb0⟩ := two_new w (.cells #[.int .u64 0, .int .u64 0, .int .u64 0, .int .u64 0] 25) (.cells #[.int .u64 0, .int .u64 0, .int .u64 0, .int .u64 0] 25)
  have HB := Lib.hid hb0; have ZA := Lib.hid za0; have ZB := Lib.hid zb0; clear hb0 za0 zb0
  refine (range_at 97 122 _ _ rfl rfl (by omega) (by omega) _).mono ?_
  rintro e w1 ⟨rfl, hc⟩
  have hb1 := HB.out.trans (hc.mono HB.out.size); have za1 := keep_blk hc ZA.out; have zb1 := keep_blk hc ZB.out; clear hc HB ZA ZB
  obtain ⟨c0, f0, c1, f1, c2, f2, c3, f3, -⟩ := four_st zb1
  have HB := Lib.hid hb1; have ZA := Lib.hid za1; have ZB := Lib.hid zb1; clear hb1 za1 zb1
  rw [lower_w0, lower_w1, lower_w2, lower_w3]
  go_upto_region 28 with (fail)
  have zb2 := set4 (.int .u64 (Oc.U (Cl.cw 6 0))) (.int .u64 (Oc.U (Cl.cw 6 1))) (.int .u64 (Oc.U (Cl.cw 6 2))) (.int .u64 (Oc.U (Cl.cw 6 3))) ZB.out
  have za2 := set4_other (.int .u64 (Oc.U (Cl.cw 6 0))) (.int .u64 (Oc.U (Cl.cw 6 1))) (.int .u64 (Oc.U (Cl.cw 6 2))) (.int .u64 (Oc.U (Cl.cw 6 3))) (b := w.heap.size + 1) ZA.out (by omega)
  have hb2 := (((HB.out.setCell (show w.heap.size ≤ (⟨w.heap.size + 1, 0, none⟩ : Addr).block by simp) (.int .u64 (Oc.U (Cl.cw 6 0)))).setCell (show w.heap.size ≤ (⟨w.heap.size + 1, 1, none⟩ : Addr).block by simp) (.int .u64 (Oc.U (Cl.cw 6 1)))).setCell (show w.heap.size ≤ (⟨w.heap.size + 1, 2, none⟩ : Addr).block by simp) (.int .u64 (Oc.U (Cl.cw 6 2)))).setCell (show w.heap.size ≤ (⟨w.heap.size + 1, 3, none⟩ : Addr).block by simp) (.int .u64 (Oc.U (Cl.cw 6 3)))
  clear HB ZA ZB c0 f0 c1 f1 c2 f2 c3 f3
  generalize World.setCell (World.setCell (World.setCell (World.setCell _ _ _) _ _) _ _) _ _ = W at *
  obtain ⟨c0, c1, c2, c3, -⟩ := four zb2
  obtain ⟨d0, e0, d1, e1, d2, e2, d3, e3, r0, r1, r2, r3⟩ := four_st za2
  have HB := Lib.hid hb2
  clear hb2 za2 zb2
  go_wp2
  have hb := HB.out
  refine bodyPost_ret (v := .tuple #[(.agg #[.int .u64 (Oc.U (Cl.cw 6 0)), .int .u64 (Oc.U (Cl.cw 6 1)), .int .u64 (Oc.U (Cl.cw 6 2)), .int .u64 (Oc.U (Cl.cw 6 3))]), .nilIface]) (by simp [results, Tryz.results159, go_sem, r0, r1, r2, r3]) rfl ⟨rfl, ?_⟩
  go_grown
set_option maxRecDepth 100000 in
set_option maxHeartbeats 2000000 in
theorem named_7 (w : World) : Calls Tryz.prog 159 #[.string ⟨#[112, 114, 105, 110, 116]⟩] w fun e w' => e = .returned (.tuple #[(.agg #[.int .u64 (Oc.U (Cl.cw 7 0)), .int .u64 (Oc.U (Cl.cw 7 1)), .int .u64 (Oc.U (Cl.cw 7 2)), .int .u64 (Oc.U (Cl.cw 7 3))]), .nilIface]) ∧ Below w.heap.size w w' := by
  go_enter Tryz.func159, Tryz.ntmps159
  go_upto_block 0 with (fail)
  refine wp_block_hid (fun _ _ => ?_)
  iterate 13 (go_step; refine wp_block_hid (fun _ _ => ?_))
  go_wp2_with fail
  have hb0 : Below w.heap.size w ((w.alloc (.cells #[.int .u64 0, .int .u64 0, .int .u64 0, .int .u64 0] 25)).alloc (.cells #[.int .u64 0, .int .u64 0, .int .u64 0, .int .u64 0] 25)) := by go_grown
  obtain ⟨za0, zb0⟩ := two_new w (.cells #[.int .u64 0, .int .u64 0, .int .u64 0, .int .u64 0] 25) (.cells #[.int .u64 0, .int .u64 0, .int .u64 0, .int .u64 0] 25)
  have HB := Lib.hid hb0; have ZA := Lib.hid za0; have ZB := Lib.hid zb0; clear hb0 za0 zb0
  refine (of_one 32 (by omega) _ rfl _ (w.heap.size + 1 + 1) (by simp) _ (Cl.pw 0 0) (Cl.pw 0 1) (Cl.pw 0 2) (Cl.pw 0 3) (by decide +kernel) (by decide +kernel) (by decide +kernel) (by decide +kernel)).mono ?_
  rintro e w1 ⟨rfl, hc⟩
  have hb1 := (HB.out.alloc HB.out.size _).trans (hc.mono (by have := HB.out.size; omega)); have za1 := keep_new hc ZA.out; have zb1 := keep_new hc ZB.out; clear hc HB ZA ZB
  obtain ⟨c0, f0, c1, f1, c2, f2, c3, f3, -⟩ := four_st zb1
  have HB := Lib.hid hb1; have ZA := Lib.hid za1; have ZB := Lib.hid zb1; clear hb1 za1 zb1
  go_wp2_with fail
  have zb2 := set4 (.int .u64 (Oc.U (Cl.pw 0 0))) (.int .u64 (Oc.U (Cl.pw 0 1))) (.int .u64 (Oc.U (Cl.pw 0 2))) (.int .u64 (Oc.U (Cl.pw 0 3))) ZB.out
  have za2 := set4_other (.int .u64 (Oc.U (Cl.pw 0 0))) (.int .u64 (Oc.U (Cl.pw 0 1))) (.int .u64 (Oc.U (Cl.pw 0 2))) (.int .u64 (Oc.U (Cl.pw 0 3))) (b := w.heap.size + 1) ZA.out (by omega)
  have hb2 := (((HB.out.setCell (show w.heap.size ≤ (⟨w.heap.size + 1, 0, none⟩ : Addr).block by simp) (.int .u64 (Oc.U (Cl.pw 0 0)))).setCell (show w.heap.size ≤ (⟨w.heap.size + 1, 1, none⟩ : Addr).block by simp) (.int .u64 (Oc.U (Cl.pw 0 1)))).setCell (show w.heap.size ≤ (⟨w.heap.size + 1, 2, none⟩ : Addr).block by simp) (.int .u64 (Oc.U (Cl.pw 0 2)))).setCell (show w.heap.size ≤ (⟨w.heap.size + 1, 3, none⟩ : Addr).block by simp) (.int .u64 (Oc.U (Cl.pw 0 3)))
  clear HB ZA ZB c0 f0 c1 f1 c2 f2 c3 f3
  refine join_reg w.heap.size (w.heap.size + 1) w.heap.size (.cells #[.int .u64 0, .int .u64 0, .int .u64 0, .int .u64 0] 25) w (Cl.pw 0 0) (Cl.pw 0 1) (Cl.pw 0 2) (Cl.pw 0 3) (Cl.cw 8 0) (Cl.cw 8 1) (Cl.cw 8 2) (Cl.cw 8 3) (Cl.pw 1 0) (Cl.pw 1 1) (Cl.pw 1 2) (Cl.pw 1 3)
    _ _ _ _ _ _ _ #[] _ _ _ _ _ _ _ _ _ _ _ _ _ _ _ _ _ rfl (by kernel_rfl) (by kernel_rfl) (by kernel_rfl) (by kernel_rfl) (by kernel_rfl) (by kernel_rfl) (by kernel_rfl) (by kernel_rfl) (by kernel_rfl)
    rfl (fun _ => by simp) (fun _ => by kernel_rfl) (fun w => marks_any w) (by decide +kernel) (by decide +kernel) (by decide +kernel) (by decide +kernel) hb2 (by omega) (by omega) za2 zb2 ?_
  clear hb2 za2 zb2
  intro v3 w3 hb3 _ za3 zb3
  simp only [Ri.frame, List.zipIdx, List.foldl_cons, List.foldl_nil, if_true, List.setIfInBounds_toArray, List.set_cons_zero, List.set_cons_succ]
  generalize v3 0 = y3_0
  generalize v3 (0 + 1) = y3_1
  generalize v3 (0 + 1 + 1) = y3_2
  generalize v3 (0 + 1 + 1 + 1) = y3_3
  clear v3
  have HB := Lib.hid hb3; have ZA := Lib.hid za3; have ZB := Lib.hid zb3; clear hb3 za3 zb3
  go_wp2_with fail
  have hb3 := HB.out; have za3 := ZA.out; have zb3 := ZB.out; clear HB ZA ZB
  refine join_reg w.heap.size (w.heap.size + 1) w.heap.size (.cells #[.int .u64 0, .int .u64 0, .int .u64 0, .int .u64 0] 25) w (Cl.pw 1 0) (Cl.pw 1 1) (Cl.pw 1 2) (Cl.pw 1 3) (Cl.rg 48 57 0) (Cl.rg 48 57 1) (Cl.rg 48 57 2) (Cl.rg 48 57 3) (Cl.pw 2 0) (Cl.pw 2 1) (Cl.pw 2 2) (Cl.pw 2 3)
    _ _ _ _ _ _ _ #[.int .u8 48, .int .u8 57] _ _ _ _ _ _ _ _ _ _ _ _ _ _ _ _ _ rfl (by kernel_rfl) (by kernel_rfl) (by kernel_rfl) (by kernel_rfl) (by kernel_rfl) (by kernel_rfl) (by kernel_rfl) (by kernel_rfl) (by kernel_rfl)
    rfl (fun _ => by simp [Act.eval]) (fun _ => by kernel_rfl) (fun w => range_at 48 57 _ _ rfl rfl (by omega) (by omega) w) (by decide +kernel) (by decide +kernel) (by decide +kernel) (by decide +kernel) hb3 (by omega) (by omega) za3 zb3 ?_
  clear hb3 za3 zb3
  intro v4 w4 hb4 _ za4 zb4
  simp only [Ri.frame, List.zipIdx, List.foldl_cons, List.foldl_nil, if_true, List.setIfInBounds_toArray, List.set_cons_zero, List.set_cons_succ]
  generalize v4 0 = y4_0
  generalize v4 (0 + 1) = y4_1
  generalize v4 (0 + 1 + 1) = y4_2
  generalize v4 (0 + 1 + 1 + 1) = y4_3
  clear v4
  have HB := Lib.hid hb4; have ZA := Lib.hid za4; have ZB := Lib.hid zb4; clear hb4 za4 zb4
  go_wp2_with fail
  have hb4 := HB.out; have za4 := ZA.out; have zb4 := ZB.out; clear HB ZA ZB
  refine join_reg w.heap.size (w.heap.size + 1) w.heap.size (.cells #[.int .u64 0, .int .u64 0, .int .u64 0, .int .u64 0] 25) w (Cl.pw 2 0) (Cl.pw 2 1) (Cl.pw 2 2) (Cl.pw 2 3) (Cl.rg 97 122 0) (Cl.rg 97 122 1) (Cl.rg 97 122 2) (Cl.rg 97 122 3) (Cl.pw 3 0) (Cl.pw 3 1) (Cl.pw 3 2) (Cl.pw 3 3)
    _ _ _ _ _ _ _ #[.int .u8 97, .int .u8 122] _ _ _ _ _ _ _ _ _ _ _ _ _ _ _ _ _ rfl (by kernel_rfl) (by kernel_rfl) (by kernel_rfl) (by kernel_rfl) (by kernel_rfl) (by kernel_rfl) (by kernel_rfl) (by kernel_rfl) (by kernel_rfl)
    rfl (fun _ => by simp [Act.eval]) (fun _ => by kernel_rfl) (fun w => range_at 97 122 _ _ rfl rfl (by omega) (by omega) w) (by decide +kernel) (by decide +kernel) (by decide +kernel) (by decide +kernel) hb4 (by omega) (by omega) za4 zb4 ?_
  clear hb4 za4 zb4
  intro v5 w5 hb5 _ za5 zb5
  simp only [Ri.frame, List.zipIdx, List.foldl_cons, List.foldl_nil, if_true, List.setIfInBounds_toArray, List.set_cons_zero, List.set_cons_succ]
  generalize v5 0 = y5_0
  generalize v5 (0 + 1) = y5_1
  generalize v5 (0 + 1 + 1) = y5_2
  generalize v5 (0 + 1 + 1 + 1) = y5_3
  clear v5
  have HB := Lib.hid hb5; have ZA := Lib.hid za5; have ZB := Lib.hid zb5; clear hb5 za5 zb5
  go_wp2_with fail
  have hb5 := HB.out; have za5 := ZA.out; have zb5 := ZB.out; clear HB ZA ZB
  refine join_reg w.heap.size (w.heap.size + 1) w.heap.size (.cells #[.int .u64 0, .int .u64 0, .int .u64 0, .int .u64 0] 25) w (Cl.pw 3 0) (Cl.pw 3 1) (Cl.pw 3 2) (Cl.pw 3 3) (Cl.rg 65 90 0) (Cl.rg 65 90 1) (Cl.rg 65 90 2) (Cl.rg 65 90 3) (Cl.cw 7 0) (Cl.cw 7 1) (Cl.cw 7 2) (Cl.cw 7 3)
    _ _ _ _ _ _ _ #[.int .u8 65, .int .u8 90] _ _ _ _ _ _ _ _ _ _ _ _ _ _ _ _ _ rfl (by kernel_rfl) (by kernel_rfl) (by kernel_rfl) (by kernel_rfl) (by kernel_rfl) (by kernel_rfl) (by kernel_rfl) (by kernel_rfl) (by kernel_rfl)
    rfl (fun _ => by simp [Act.eval]) (fun _ => by kernel_rfl) (fun w => range_at 65 90 _ _ rfl rfl (by omega) (by omega) w) (by decide +kernel) (by decide +kernel) (by decide +kernel) (by decide +kernel) hb5 (by omega) (by omega) za5 zb5 ?_
  clear hb5 za5 zb5
  intro v6 w6 hb6 _ za6 zb6
  simp only [Ri.frame, List.zipIdx, List.foldl_cons, List.foldl_nil, if_true, List.setIfInBounds_toArray, List.set_cons_zero, List.set_cons_succ]
  generalize v6 0 = y6_0
  generalize v6 (0 + 1) = y6_1
  generalize v6 (0 + 1 + 1) = y6_2
  generalize v6 (0 + 1 + 1 + 1) = y6_3
  clear v6
  obtain ⟨c0, c1, c2, c3, -⟩ := four zb6
  obtain ⟨d0, e0, d1, e1, d2, e2, d3, e3, r0, r1, r2, r3⟩ := four_st za6
  have HB := Lib.hid hb6
  clear hb6 za6 zb6
  go_wp2
  have hb := HB.out
  refine bodyPost_ret (v := .tuple #[(.agg #[.int .u64 (Oc.U (Cl.cw 7 0)), .int .u64 (Oc.U (Cl.cw 7 1)), .int .u64 (Oc.U (Cl.cw 7 2)), .int .u64 (Oc.U (Cl.cw 7 3))]), .nilIface]) (by simp [results, Tryz.results159, go_sem, r0, r1, r2, r3]) rfl ⟨rfl, ?_⟩
  go_grown
set_option maxRecDepth 100000 in
set_option maxHeartbeats 2000000 in
theorem named_8 (w : World) : Calls Tryz.prog 159 #[.string ⟨#[112, 117, 110, 99, 116]⟩] w fun e w' => e = .returned (.tuple #[(.agg #[.int .u64 (Oc.U (Cl.cw 8 0)), .int .u64 (Oc.U (Cl.cw 8 1)), .int .u64 (Oc.U (Cl.cw 8 2)), .int .u64 (Oc.U (Cl.cw 8 3))]), .nilIface]) ∧ Below w.heap.size w w' := by
  go_enter Tryz.func159, Tryz.ntmps159
  go_upto_block 0 with (fail)
  refine wp_block_hid (fun _ _ => ?_)
  iterate 13 (go_step; refine wp_block_hid (fun _ _ => ?_))
  go_wp2_with fail
  have hb0 : Below w.heap.size w ((w.alloc (.cells #[.int .u64 0, .int .u64 0, .int .u64 0, .int .u64 0] 25)).alloc (.cells #[.int .u64 0, .int .u64 0, .int .u64 0, .int .u64 0] 25)) := by go_grown
  obtain ⟨za0, zb0⟩ := two_new w (.cells #[.int .u64 0, .int .u64 0, .int .u64 0, .int .u64 0] 25) (.cells #[.int .u64 0, .int .u64 0, .int .u64 0, .int .u64 0] 25)
  have HB := Lib.hid hb0; have ZA := Lib.hid za0; have ZB := Lib.hid zb0; clear hb0 za0 zb0
  refine (marks_any _).mono ?_
  rintro e w1 ⟨rfl, hc⟩
  have hb1 := HB.out.trans (hc.mono HB.out.size); have za1 := keep_blk hc ZA.out; have zb1 := keep_blk hc ZB.out; clear hc HB ZA ZB
  obtain ⟨c0, f0, c1, f1, c2, f2, c3, f3, -⟩ := four_st zb1
  have HB := Lib.hid hb1; have ZA := Lib.hid za1; have ZB := Lib.hid zb1; clear hb1 za1 zb1
  go_upto_region 28 with (fail)
  have zb2 := set4 (.int .u64 (Oc.U (Cl.cw 8 0))) (.int .u64 (Oc.U (Cl.cw 8 1))) (.int .u64 (Oc.U (Cl.cw 8 2))) (.int .u64 (Oc.U (Cl.cw 8 3))) ZB.out
  have za2 := set4_other (.int .u64 (Oc.U (Cl.cw 8 0))) (.int .u64 (Oc.U (Cl.cw 8 1))) (.int .u64 (Oc.U (Cl.cw 8 2))) (.int .u64 (Oc.U (Cl.cw 8 3))) (b := w.heap.size + 1) ZA.out (by omega)
  have hb2 := (((HB.out.setCell (show w.heap.size ≤ (⟨w.heap.size + 1, 0, none⟩ : Addr).block by simp) (.int .u64 (Oc.U (Cl.cw 8 0)))).setCell (show w.heap.size ≤ (⟨w.heap.size + 1, 1, none⟩ : Addr).block by simp) (.int .u64 (Oc.U (Cl.cw 8 1)))).setCell (show w.heap.size ≤ (⟨w.heap.size + 1, 2, none⟩ : Addr).block by simp) (.int .u64 (Oc.U (Cl.cw 8 2)))).setCell (show w.heap.size ≤ (⟨w.heap.size + 1, 3, none⟩ : Addr).block by simp) (.int .u64 (Oc.U (Cl.cw 8 3)))
  clear HB ZA ZB c0 f0 c1 f1 c2 f2 c3 f3
  generalize World.setCell (World.setCell (World.setCell (World.setCell _ _ _) _ _) _ _) _ _ = W at *
  obtain ⟨c0, c1, c2, c3, -⟩ := four zb2
  obtain ⟨d0, e0, d1, e1, d2, e2, d3, e3, r0, r1, r2, r3⟩ := four_st za2
  have HB := Lib.hid hb2
  clear hb2 za2 zb2
  go_wp2
  have hb := HB.out
  refine bodyPost_ret (v := .tuple #[(.agg #[.int .u64 (Oc.U (Cl.cw 8 0)), .int .u64 (Oc.U (Cl.cw 8 1)), .int .u64 (Oc.U (Cl.cw 8 2)), .int .u64 (Oc.U (Cl.cw 8 3))]), .nilIface]) (by simp [results, Tryz.results159, go_sem, r0, r1, r2, r3]) rfl ⟨rfl, ?_⟩
  go_grown
set_option maxRecDepth 100000 in
set_option maxHeartbeats 2000000 in
theorem named_9 (w : World) : Calls Tryz.prog 159 #[.string ⟨#[115, 112, 97, 99, 101]⟩] w fun e w' => e = .returned (.tuple #[(.agg #[.int .u64 (Oc.U (Cl.cw 9 0)), .int .u64 (Oc.U (Cl.cw 9 1)), .int .u64 (Oc.U (Cl.cw 9 2)), .int .u64 (Oc.U (Cl.cw 9 3))]), .nilIface]) ∧ Below w.heap.size w w' := by
  go_enter Tryz.func159, Tryz.ntmps159
  go_upto_block 0 with (fail)
  refine wp_block_hid (fun _ _ => ?_)
  iterate 13 (go_step; refine wp_block_hid (fun _ _ => ?_))
  go_wp2_with fail
  have hb0 : Below w.heap.size w ((w.alloc (.cells #[.int .u64 0, .int .u64 0, .int .u64 0, .int .u64 0] 25)).alloc (.cells #[.int .u64 0, .int .u64 0, .int .u64 0, .int .u64 0] 25)) := by go_grown
  obtain ⟨za0, zb0⟩ := two_new w (.cells #[.int .u64 0, .int .u64 0, .int .u64 0, .int .u64 0] 25) (.cells #[.int .u64 0, .int .u64 0, .int .u64 0, .int .u64 0] 25)
  have HB := Lib.hid hb0; have ZA := Lib.hid za0; have ZB := Lib.hid zb0; clear hb0 za0 zb0
  refine (range_at 10 13 _ _ rfl rfl (by omega) (by omega) _).mono ?_
  rintro e w1 ⟨rfl, hc⟩
  have hb1 := HB.out.trans (hc.mono HB.out.size); have za1 := keep_blk hc ZA.out; have zb1 := keep_blk hc ZB.out; clear hc HB ZA ZB
  obtain ⟨c0, f0, c1, f1, c2, f2, c3, f3, -⟩ := four_st zb1
  have HB := Lib.hid hb1; have ZA := Lib.hid za1; have ZB := Lib.hid zb1; clear hb1 za1 zb1
  go_wp2_with fail
  have zb2 := set4 (.int .u64 (Oc.U (Cl.rg 10 13 0))) (.int .u64 (Oc.U (Cl.rg 10 13 1))) (.int .u64 (Oc.U (Cl.rg 10 13 2))) (.int .u64 (Oc.U (Cl.rg 10 13 3))) ZB.out
  have za2 := set4_other (.int .u64 (Oc.U (Cl.rg 10 13 0))) (.int .u64 (Oc.U (Cl.rg 10 13 1))) (.int .u64 (Oc.U (Cl.rg 10 13 2))) (.int .u64 (Oc.U (Cl.rg 10 13 3))) (b := w.heap.size + 1) ZA.out (by omega)
  have hb2 := (((HB.out.setCell (show w.heap.size ≤ (⟨w.heap.size + 1, 0, none⟩ : Addr).block by simp) (.int .u64 (Oc.U (Cl.rg 10 13 0)))).setCell (show w.heap.size ≤ (⟨w.heap.size + 1, 1, none⟩ : Addr).block by simp) (.int .u64 (Oc.U (Cl.rg 10 13 1)))).setCell (show w.heap.size ≤ (⟨w.heap.size + 1, 2, none⟩ : Addr).block by simp) (.int .u64 (Oc.U (Cl.rg 10 13 2)))).setCell (show w.heap.size ≤ (⟨w.heap.size + 1, 3, none⟩ : Addr).block by simp) (.int .u64 (Oc.U (Cl.rg 10 13 3)))
  clear HB ZA ZB c0 f0 c1 f1 c2 f2 c3 f3
  refine join_reg6 w.heap.size (w.heap.size + 1) w.heap.size (.cells #[.int .u64 0, .int .u64 0, .int .u64 0, .int .u64 0] 25) w 9 32 (Cl.rg 10 13 0) (Cl.rg 10 13 1) (Cl.rg 10 13 2) (Cl.rg 10 13 3) (Cl.cw 2 0) (Cl.cw 2 1) (Cl.cw 2 2) (Cl.cw 2 3) (Cl.cw 9 0) (Cl.cw 9 1) (Cl.cw 9 2) (Cl.cw 9 3)
    _ _ _ _ _ _ _ _ _ _ _ _ _ _ _ _ _ _ _ _ _ _ _ _ _ rfl (by kernel_rfl) (by kernel_rfl) (by kernel_rfl) (by kernel_rfl) (by kernel_rfl) (by kernel_rfl) (by kernel_rfl) (by kernel_rfl) (by kernel_rfl) (by kernel_rfl) (by kernel_rfl)
    rfl of_two_at (by decide +kernel) (by decide +kernel) (by decide +kernel) (by decide +kernel) hb2 (by omega) (by omega) za2 zb2 ?_
  clear hb2 za2 zb2
  intro v3 w3 hb3 _ za3 zb3
  simp only [Ri.frame, List.zipIdx, List.foldl_cons, List.foldl_nil, if_true, List.setIfInBounds_toArray, List.set_cons_zero, List.set_cons_succ]
  generalize v3 0 = y3_0
  generalize v3 (0 + 1) = y3_1
  generalize v3 (0 + 1 + 1) = y3_2
  generalize v3 (0 + 1 + 1 + 1) = y3_3
  generalize v3 (0 + 1 + 1 + 1 + 1) = y3_4
  clear v3
  obtain ⟨c0, c1, c2, c3, -⟩ := four zb3
  obtain ⟨d0, e0, d1, e1, d2, e2, d3, e3, r0, r1, r2, r3⟩ := four_st za3
  have HB := Lib.hid hb3
  clear hb3 za3 zb3
  go_wp2
  have hb := HB.out
  refine bodyPost_ret (v := .tuple #[(.agg #[.int .u64 (Oc.U (Cl.cw 9 0)), .int .u64 (Oc.U (Cl.cw 9 1)), .int .u64 (Oc.U (Cl.cw 9 2)), .int .u64 (Oc.U (Cl.cw 9 3))]), .nilIface]) (by simp [results, Tryz.results159, go_sem, r0, r1, r2, r3]) rfl ⟨rfl, ?_⟩
  go_grown
set_option maxRecDepth 100000 in
set_option maxHeartbeats 2000000 in
theorem named_10 (w : World) : Calls Tryz.prog 159 #[.string ⟨#[117, 112, 112, 101, 114]⟩] w fun e w' => e = .returned (.tuple #[(.agg #[.int .u64 (Oc.U (Cl.cw 10 0)), .int .u64 (Oc.U (Cl.cw 10 1)), .int .u64 (Oc.U (Cl.cw 10 2)), .int .u64 (Oc.U (Cl.cw 10 3))]), .nilIface]) ∧ Below w.heap.size w w' := by
  go_enter Tryz.func159, Tryz.ntmps159
  go_upto_block 0 with (fail)
  refine wp_block_hid (fun _ _ => ?_)
  iterate 13 (go_step; refine wp_block_hid (fun _ _ => ?_))
  go_wp2_with fail
  have hb0 : Below w.heap.size w ((w.alloc (.cells #[.int .u64 0, .int .u64 0, .int .u64 0, .int .u64 0] 25)).alloc (.cells #[.int .u64 0, .int .u64 0, .int .u64 0, .int .u64 0] 25)) := by go_grown
  obtain ⟨za0, zb0⟩ := two_new w (.cells #[.int .u64 0, .int .u64 0, .int .u64 0, .int .u64 0] 25) (.cells #[.int .u64 0, .int .u64 0, .int .u64 0, .int .u64 0] 25)
  refine join_reg w.heap.size (w.heap.size + 1) w.heap.size (.cells #[.int .u64 0, .int .u64 0, .int .u64 0, .int .u64 0] 25) w 0#64 0#64 0#64 0#64 (Cl.rg 65 90 0) (Cl.rg 65 90 1) (Cl.rg 65 90 2) (Cl.rg 65 90 3) (Cl.cw 10 0) (Cl.cw 10 1) (Cl.cw 10 2) (Cl.cw 10 3)
    _ _ _ _ _ _ _ #[.int .u8 65, .int .u8 90] _ _ _ _ _ _ _ _ _ _ _ _ _ _ _ _ _ rfl (by kernel_rfl) (by kernel_rfl) (by kernel_rfl) (by kernel_rfl) (by kernel_rfl) (by kernel_rfl) (by kernel_rfl) (by kernel_rfl) (by kernel_rfl)
    rfl (fun _ => by simp [Act.eval]) (fun _ => by kernel_rfl) (fun w => range_at 65 90 _ _ rfl rfl (by omega) (by omega) w) (by decide +kernel) (by decide +kernel) (by decide +kernel) (by decide +kernel) hb0 (by omega) (by omega) za0 zb0 ?_
  clear hb0 za0 zb0
  intro v1 w1 hb1 _ za1 zb1
  simp only [Ri.frame, List.zipIdx, List.foldl_cons, List.foldl_nil, if_true, List.setIfInBounds_toArray, List.set_cons_zero, List.set_cons_succ]
  generalize v1 0 = y1_0
  generalize v1 (0 + 1) = y1_1
  generalize v1 (0 + 1 + 1) = y1_2
  generalize v1 (0 + 1 + 1 + 1) = y1_3
  clear v1
  obtain ⟨c0, c1, c2, c3, -⟩ := four zb1
  obtain ⟨d0, e0, d1, e1, d2, e2, d3, e3, r0, r1, r2, r3⟩ := four_st za1
  have HB := Lib.hid hb1
  clear hb1 za1 zb1
  go_wp2
  have hb := HB.out
  refine bodyPost_ret (v := .tuple #[(.agg #[.int .u64 (Oc.U (Cl.cw 10 0)), .int .u64 (Oc.U (Cl.cw 10 1)), .int .u64 (Oc.U (Cl.cw 10 2)), .int .u64 (Oc.U (Cl.cw 10 3))]), .nilIface]) (by simp [results, Tryz.results159, go_sem, r0, r1, r2, r3]) rfl ⟨rfl, ?_⟩
  go_grown
set_option maxRecDepth 100000 in
set_option maxHeartbeats 2000000 in
theorem named_11 (w : World) : Calls Tryz.prog 159 #[.string ⟨#[120, 100, 105, 103, 105, 116]⟩] w fun e w' => e = .returned (.tuple #[(.agg #[.int .u64 (Oc.U (Cl.cw 11 0)), .int .u64 (Oc.U (Cl.cw 11 1)), .int .u64 (Oc.U (Cl.cw 11 2)), .int .u64 (Oc.U (Cl.cw 11 3))]), .nilIface]) ∧ Below w.heap.size w w' := by
  go_enter Tryz.func159, Tryz.ntmps159
  go_upto_block 0 with (fail)
  refine wp_block_hid (fun _ _ => ?_)
  iterate 13 (go_step; refine wp_block_hid (fun _ _ => ?_))
  go_wp2_with fail
  have hb0 : Below w.heap.size w ((w.alloc (.cells #[.int .u64 0, .int .u64 0, .int .u64 0, .int .u64 0] 25)).alloc (.cells #[.int .u64 0, .int .u64 0, .int .u64 0, .int .u64 0] 25)) := by go_grown
  obtain ⟨za0, zb0⟩ := two_new w (.cells #[.int .u64 0, .int .u64 0, .int .u64 0, .int .u64 0] 25) (.cells #[.int .u64 0, .int .u64 0, .int .u64 0, .int .u64 0] 25)
  have HB := Lib.hid hb0; have ZA := Lib.hid za0; have ZB := Lib.hid zb0; clear hb0 za0 zb0
  refine (range_at 65 70 _ _ rfl rfl (by omega) (by omega) _).mono ?_
  rintro e w1 ⟨rfl, hc⟩
  have hb1 := HB.out.trans (hc.mono HB.out.size); have za1 := keep_blk hc ZA.out; have zb1 := keep_blk hc ZB.out; clear hc HB ZA ZB
  have HB := Lib.hid hb1; have ZA := Lib.hid za1; have ZB := Lib.hid zb1; clear hb1 za1 zb1
  go_wp2_with fail
  have hb1 := HB.out; have za1 := ZA.out; have zb1 := ZB.out; clear HB ZA ZB
  have HB := Lib.hid hb1; have ZA := Lib.hid za1; have ZB := Lib.hid zb1; clear hb1 za1 zb1
  refine (range_at 97 102 _ _ rfl rfl (by omega) (by omega) _).mono ?_
  rintro e w2 ⟨rfl, hc⟩
  have hb2 := HB.out.trans (hc.mono HB.out.size); have za2 := keep_blk hc ZA.out; have zb2 := keep_blk hc ZB.out; clear hc HB ZA ZB
  have HB := Lib.hid hb2; have ZA := Lib.hid za2; have ZB := Lib.hid zb2; clear hb2 za2 zb2
  go_wp2_with fail
  have hb2 := HB.out; have za2 := ZA.out; have zb2 := ZB.out; clear HB ZA ZB
  have HB := Lib.hid hb2; have ZA := Lib.hid za2; have ZB := Lib.hid zb2; clear hb2 za2 zb2
  refine (join2_new _ _ _ _ _ _ _ _ (Cl.pw 7 0) (Cl.pw 7 1) (Cl.pw 7 2) (Cl.pw 7 3) _ (by decide +kernel) (by decide +kernel) (by decide +kernel) (by decide +kernel)).mono ?_
  rintro e w3 ⟨rfl, hc⟩
  have hb3 := (HB.out.alloc HB.out.size _).trans (hc.mono (by have := HB.out.size; omega)); have za3 := keep_new hc ZA.out; have zb3 := keep_new hc ZB.out; clear hc HB ZA ZB
  obtain ⟨c0, f0, c1, f1, c2, f2, c3, f3, -⟩ := four_st zb3
  have HB := Lib.hid hb3; have ZA := Lib.hid za3; have ZB := Lib.hid zb3; clear hb3 za3 zb3
  go_wp2_with fail
  have zb4 := set4 (.int .u64 (Oc.U (Cl.pw 7 0))) (.int .u64 (Oc.U (Cl.pw 7 1))) (.int .u64 (Oc.U (Cl.pw 7 2))) (.int .u64 (Oc.U (Cl.pw 7 3))) ZB.out
  have za4 := set4_other (.int .u64 (Oc.U (Cl.pw 7 0))) (.int .u64 (Oc.U (Cl.pw 7 1))) (.int .u64 (Oc.U (Cl.pw 7 2))) (.int .u64 (Oc.U (Cl.pw 7 3))) (b := w.heap.size + 1) ZA.out (by omega)
  have hb4 := (((HB.out.setCell (show w.heap.size ≤ (⟨w.heap.size + 1, 0, none⟩ : Addr).block by simp) (.int .u64 (Oc.U (Cl.pw 7 0)))).setCell (show w.heap.size ≤ (⟨w.heap.size + 1, 1, none⟩ : Addr).block by simp) (.int .u64 (Oc.U (Cl.pw 7 1)))).setCell (show w.heap.size ≤ (⟨w.heap.size + 1, 2, none⟩ : Addr).block by simp) (.int .u64 (Oc.U (Cl.pw 7 2)))).setCell (show w.heap.size ≤ (⟨w.heap.size + 1, 3, none⟩ : Addr).block by simp) (.int .u64 (Oc.U (Cl.pw 7 3)))
  clear HB ZA ZB c0 f0 c1 f1 c2 f2 c3 f3
  refine join_reg w.heap.size (w.heap.size + 1) w.heap.size (.cells #[.int .u64 0, .int .u64 0, .int .u64 0, .int .u64 0] 25) w (Cl.pw 7 0) (Cl.pw 7 1) (Cl.pw 7 2) (Cl.pw 7 3) (Cl.rg 48 57 0) (Cl.rg 48 57 1) (Cl.rg 48 57 2) (Cl.rg 48 57 3) (Cl.cw 11 0) (Cl.cw 11 1) (Cl.cw 11 2) (Cl.cw 11 3)
    _ _ _ _ _ _ _ #[.int .u8 48, .int .u8 57] _ _ _ _ _ _ _ _ _ _ _ _ _ _ _ _ _ rfl (by kernel_rfl) (by kernel_rfl) (by kernel_rfl) (by kernel_rfl) (by kernel_rfl) (by kernel_rfl) (by kernel_rfl) (by kernel_rfl) (by kernel_rfl)
    rfl (fun _ => by simp [Act.eval]) (fun _ => by kernel_rfl) (fun w => range_at 48 57 _ _ rfl rfl (by omega) (by omega) w) (by decide +kernel) (by decide +kernel) (by decide +kernel) (by decide +kernel) hb4 (by omega) (by omega) za4 zb4 ?_
  clear hb4 za4 zb4
  intro v5 w5 hb5 _ za5 zb5
  simp only [Ri.frame, List.zipIdx, List.foldl_cons, List.foldl_nil, if_true, List.setIfInBounds_toArray, List.set_cons_zero, List.set_cons_succ]
  generalize v5 0 = y5_0
  generalize v5 (0 + 1) = y5_1
  generalize v5 (0 + 1 + 1) = y5_2
  generalize v5 (0 + 1 + 1 + 1) = y5_3
  clear v5
  obtain ⟨c0, c1, c2, c3, -⟩ := four zb5
  obtain ⟨d0, e0, d1, e1, d2, e2, d3, e3, r0, r1, r2, r3⟩ := four_st za5
  have HB := Lib.hid hb5
  clear hb5 za5 zb5
  go_wp2
  have hb := HB.out
  refine bodyPost_ret (v := .tuple #[(.agg #[.int .u64 (Oc.U (Cl.cw 11 0)), .int .u64 (Oc.U (Cl.cw 11 1)), .int .u64 (Oc.U (Cl.cw 11 2)), .int .u64 (Oc.U (Cl.cw 11 3))]), .nilIface]) (by simp [results, Tryz.results159, go_sem, r0, r1, r2, r3]) rfl ⟨rfl, ?_⟩
  go_grown
set_option maxRecDepth 100000 in
set_option maxHeartbeats 2000000 in
theorem named_no (s : ByteArray) (hs : Cl.No s) (v : Value) (w : World) (hE : w.cell? ⟨6, 0, none⟩ = some v) : Calls Tryz.prog 159 #[.string s] w fun e w' => e = .returned (.tuple #[.agg #[.int .u64 0, .int .u64 0, .int .u64 0, .int .u64 0], v]) ∧ Below w.heap.size w w' := by
  have n0 : (s.toList == [97, 108, 110, 117, 109]) = false := hs 0 (by omega)
  have n1 : (s.toList == [97, 108, 112, 104, 97]) = false := hs 1 (by omega)
  have n2 : (s.toList == [98, 108, 97, 110, 107]) = false := hs 2 (by omega)
  have n3 : (s.toList == [99, 110, 116, 114, 108]) = false := hs 3 (by omega)
  have n4 : (s.toList == [100, 105, 103, 105, 116]) = false := hs 4 (by omega)
  have n5 : (s.toList == [103, 114, 97, 112, 104]) = false := hs 5 (by omega)
  have n6 : (s.toList == [108, 111, 119, 101, 114]) = false := hs 6 (by omega)
  have n7 : (s.toList == [112, 114, 105, 110, 116]) = false := hs 7 (by omega)
  have n8 : (s.toList == [112, 117, 110, 99, 116]) = false := hs 8 (by omega)
  have n9 : (s.toList == [115, 112, 97, 99, 101]) = false := hs 9 (by omega)
  have n10 : (s.toList == [117, 112, 112, 101, 114]) = false := hs 10 (by omega)
  have n11 : (s.toList == [120, 100, 105, 103, 105, 116]) = false := hs 11 (by omega)
  clear hs
  have hg := block_lt_of_cell hE
  go_enter Tryz.func159, Tryz.ntmps159
  go_upto_block 0 with (fail)
  refine wp_block_hid (fun _ _ => ?_)
  iterate 13 (go_step; refine wp_block_hid (fun _ _ => ?_))
  go_wp2_with fail
  have hb0 : Below w.heap.size w ((w.alloc (.cells #[.int .u64 0, .int .u64 0, .int .u64 0, .int .u64 0] 25)).alloc (.cells #[.int .u64 0, .int .u64 0, .int .u64 0, .int .u64 0] 25)) := by go_grown
  obtain ⟨za0, -⟩ := two_new w (.cells #[.int .u64 0, .int .u64 0, .int .u64 0, .int .u64 0] 25) (.cells #[.int .u64 0, .int .u64 0, .int .u64 0, .int .u64 0] 25)
  have hE0 := (hb0.cell (p := ⟨6, 0, none⟩) hg).trans hE
  generalize World.alloc (World.alloc _ _) _ = W at *
  clear n0 n1 n2 n3 n4 n5 n6 n7 n8 n9 n10 n11 hE
  obtain ⟨d0, e0, d1, e1, d2, e2, d3, e3, r0, r1, r2, r3⟩ := four_st za0
  have HB := Lib.hid hb0; have ZA := Lib.hid za0; clear hb0 za0
  go_region
  go_wp2
  have hb := HB.out
  refine bodyPost_ret (v := .tuple #[.agg #[.int .u64 0, .int .u64 0, .int .u64 0, .int .u64 0], v]) (by simp [results, Tryz.results159, go_sem, r0, r1, r2, r3]) rfl ⟨rfl, ?_⟩
  go_grown
end Go.Proofs.YtlbhbjmobcikfaaGreatDoor
