/- Not, Join and Meet of the reference of octet. -/
import Derived.Test.YtlbhbjmobcikfaaGreatDoorOcRef
import Derived.Test.YtlbhbjmobcikfaaGreatDoorRegInv
import Derived.Deep.Cut
namespace Go.Proofs.YtlbhbjmobcikfaaGreatDoor
open Go.RowKit
/-- Two sets put together byte by byte, up to k. -/
def mix (op : Bool → Bool → Bool) (f g : Nat → Bool) (k : Nat) : Nat → Bool := fun j => if j < k then op (f j) (g j) else f j
theorem mix_zero (op : Bool → Bool → Bool) (f g : Nat → Bool) : mix op f g 0 = f := by funext j; simp [mix]
theorem mix_at (op : Bool → Bool → Bool) (f g : Nat → Bool) (k : Nat) : mix op f g k k = f k := by simp [mix]
theorem mix_new (op : Bool → Bool → Bool) (f g : Nat → Bool) (k : Nat) : mix op f g (k + 1) k = op (f k) (g k) := by simp [mix]
theorem mix_old (op : Bool → Bool → Bool) (f g : Nat → Bool) (k j : Nat) (h : j ≠ k) : mix op f g (k + 1) j = mix op f g k j := by
  unfold mix; have : (j < k + 1) = (j < k) := by rw [eq_iff_iff]; omega
  simp only [this]
theorem mix_words {op : Bool → Bool → Bool} {a b c d a' b' c' d' x y z t : BitVec 64} (h : ∀ i, Oc.mem x y z t i = op (Oc.mem a b c d i) (Oc.mem a' b' c' d' i)) :
    Oc.mk (mix op (Oc.mem a b c d) (Oc.mem a' b' c' d') 256) 0 = x ∧ Oc.mk (mix op (Oc.mem a b c d) (Oc.mem a' b' c' d') 256) 1 = y ∧ Oc.mk (mix op (Oc.mem a b c d) (Oc.mem a' b' c' d') 256) 2 = z ∧ Oc.mk (mix op (Oc.mem a b c d) (Oc.mem a' b' c' d') 256) 3 = t := by
  have e := mk_same4 (p := mix op (Oc.mem a b c d) (Oc.mem a' b' c' d') 256) (q := Oc.mem x y z t) fun i hi => by unfold mix; rw [if_pos hi, h]
  have m := mk_mem x y z t
  exact ⟨e.1.trans m.1, e.2.1.trans m.2.1, e.2.2.1.trans m.2.2.1, e.2.2.2.trans m.2.2.2⟩

set_option maxRecDepth 100000 in
set_option maxHeartbeats 1000000 in
theorem refjoin_any (a b c d a' b' c' d' : BitVec 64) (w : World) :
    Calls Tryz.prog 128 #[(.agg #[.int .u64 (Oc.U a), .int .u64 (Oc.U b), .int .u64 (Oc.U c), .int .u64 (Oc.U d)]), (.agg #[.int .u64 (Oc.U a'), .int .u64 (Oc.U b'), .int .u64 (Oc.U c'), .int .u64 (Oc.U d')])] w fun e w' => e = .returned (.agg #[.int .u64 (Oc.U (a ||| a')), .int .u64 (Oc.U (b ||| b')), .int .u64 (Oc.U (c ||| c')), .int .u64 (Oc.U (d ||| d'))]) ∧ Below w.heap.size w w' := by
  have hz : ∀ w, (zeroValue 72).run Tryz.prog w = .ok (.agg (bools fun _ => false)) w := fun _ => by kernel_rfl
  go_enter Tryz.func128, Tryz.ntmps128
  go_wp2_with fail
  have t3 := three_new w (.cells #[.int .u64 (Oc.U a), .int .u64 (Oc.U b), .int .u64 (Oc.U c), .int .u64 (Oc.U d)] 25) (.cells #[.int .u64 (Oc.U a'), .int .u64 (Oc.U b'), .int .u64 (Oc.U c'), .int .u64 (Oc.U d')] 25) (.cells #[.int .u64 0, .int .u64 0, .int .u64 0, .int .u64 0] 25)
  have hbw : Below w.heap.size w (((w.alloc (.cells #[.int .u64 (Oc.U a), .int .u64 (Oc.U b), .int .u64 (Oc.U c), .int .u64 (Oc.U d)] 25)).alloc (.cells #[.int .u64 (Oc.U a'), .int .u64 (Oc.U b'), .int .u64 (Oc.U c'), .int .u64 (Oc.U d')] 25)).alloc (.cells #[.int .u64 0, .int .u64 0, .int .u64 0, .int .u64 0] 25)) := by go_grown
  have hsz : (((w.alloc (.cells #[.int .u64 (Oc.U a), .int .u64 (Oc.U b), .int .u64 (Oc.U c), .int .u64 (Oc.U d)] 25)).alloc (.cells #[.int .u64 (Oc.U a'), .int .u64 (Oc.U b'), .int .u64 (Oc.U c'), .int .u64 (Oc.U d')] 25)).alloc (.cells #[.int .u64 0, .int .u64 0, .int .u64 0, .int .u64 0] 25)).heap.size = w.heap.size + 3 := by simp
  generalize (((w.alloc (.cells #[.int .u64 (Oc.U a), .int .u64 (Oc.U b), .int .u64 (Oc.U c), .int .u64 (Oc.U d)] 25)).alloc (.cells #[.int .u64 (Oc.U a'), .int .u64 (Oc.U b'), .int .u64 (Oc.U c'), .int .u64 (Oc.U d')] 25)).alloc (.cells #[.int .u64 0, .int .u64 0, .int .u64 0, .int .u64 0] 25)) = W at *
  have T3 := Lib.hid t3
  have HSZ := Lib.hid hsz
  clear t3 hsz
  refine Ri.wp_region_frame (by kernel_rfl) (by kernel_rfl) (by kernel_rfl) (by kernel_rfl)
    (fun L v w' => Below W.heap.size W w' ∧ (L 0 = true → v 0 = (.agg #[.int .u64 (Oc.U a), .int .u64 (Oc.U b), .int .u64 (Oc.U c), .int .u64 (Oc.U d)])) ∧ (L 1 = true → v 1 = .agg (bools (Oc.mem a b c d))) ∧ (L 2 = true → v 2 = (.agg #[.int .u64 (Oc.U a'), .int .u64 (Oc.U b'), .int .u64 (Oc.U c'), .int .u64 (Oc.U d')])) ∧ (L 3 = true → v 3 = .agg (bools (Oc.mem a' b' c' d'))) ∧
      (L 4 = true → ∃ g, v 4 = .pointer (some ⟨g, 0, none⟩) ∧ W.heap.size ≤ g ∧ w'.heap[g]? = some (.cells (bools (if L 6 then Oc.mem a b c d else fun _ => false)) 72)) ∧
      (L 5 = true → ∃ g, v 5 = .pointer (some ⟨g, 0, none⟩) ∧ W.heap.size ≤ g ∧ w'.heap[g]? = some (.cells (bools (if L 7 then Oc.mem a' b' c' d' else fun _ => false)) 72)) ∧
      (L 4 = true → L 5 = true → v 4 ≠ v 5) ∧ (L 6 = true → L 4 = true) ∧ (L 7 = true → L 5 = true))
    ?_ ?_ ?_
  · exact ⟨(Below.refl _ _).drew, by simp, by simp, by simp, by simp, by simp, by simp, by simp, by simp, by simp⟩
  · intro i hi L v w1 x hI hL hd hv ho
    have hi' : i = 0 ∨ i = 1 ∨ i = 2 ∨ i = 3 ∨ i = 4 ∨ i = 5 ∨ i = 6 ∨ i = 7 := by simp at hi; omega
    obtain ⟨hb, q0, q1, q2, q3, q4, q5, q6, q7, q8⟩ := hI
    obtain ⟨m0, m1, m2⟩ := T3.out
    have hsz := HSZ.out
    rcases hi' with rfl | rfl | rfl | rfl | rfl | rfl | rfl | rfl
    · have e2 : x.tmps.getD 2 undef = .pointer (some ⟨w.heap.size, 0, none⟩) := ho 2 (by kernel_rfl)
      obtain ⟨c0, c1, c2, c3, -⟩ := four ((hb.block w.heap.size (by omega)).trans m0)
      refine wpOp_step rfl (fun K' hK => ?_)
      clear m0 m1 m2 hsz
      go_simp
      exact hK _ _ ⟨_, _, rfl, rfl, hb, fun _ => rfl, q1, q2, q3, q4, q5, q6, q7, q8⟩
    · have l0 : L 0 = true := by have := hd _ rfl; simp [Region.binds] at this; simp [this]
      have e8 := (hv 0 8 rfl l0).trans (q0 l0)
      refine wpOp_step rfl (fun K' hK => ?_)
      clear m0 m1 m2 hsz
      go_simp
      refine (bits_any _ _ _ _ _).mono ?_
      rintro e w2 ⟨rfl, hb2⟩
      refine hK _ _ ⟨_, _, rfl, rfl, hb.trans (hb2.mono hb.size), q0, fun _ => rfl, q2, q3, fun h => ?_, fun h => ?_, q6, q7, q8⟩
      · obtain ⟨g, h1, h2, h3⟩ := q4 h; exact ⟨g, h1, h2, keep_blk hb2 h3⟩
      · obtain ⟨g, h1, h2, h3⟩ := q5 h; exact ⟨g, h1, h2, keep_blk hb2 h3⟩
    · have e3 : x.tmps.getD 3 undef = .pointer (some ⟨w.heap.size + 1, 0, none⟩) := ho 3 (by kernel_rfl)
      obtain ⟨c0, c1, c2, c3, -⟩ := four ((hb.block (w.heap.size + 1) (by omega)).trans m1)
      refine wpOp_step rfl (fun K' hK => ?_)
      clear m0 m1 m2 hsz
      go_simp
      exact hK _ _ ⟨_, _, rfl, rfl, hb, q0, q1, fun _ => rfl, q3, q4, q5, q6, q7, q8⟩
    · have l0 : L 2 = true := by have := hd _ rfl; simp [Region.binds] at this; simp [this]
      have e8 := (hv 2 10 rfl l0).trans (q2 l0)
      refine wpOp_step rfl (fun K' hK => ?_)
      clear m0 m1 m2 hsz
      go_simp
      refine (bits_any _ _ _ _ _).mono ?_
      rintro e w2 ⟨rfl, hb2⟩
      refine hK _ _ ⟨_, _, rfl, rfl, hb.trans (hb2.mono hb.size), q0, q1, q2, fun _ => rfl, fun h => ?_, fun h => ?_, q6, q7, q8⟩
      · obtain ⟨g, h1, h2, h3⟩ := q4 h; exact ⟨g, h1, h2, keep_blk hb2 h3⟩
      · obtain ⟨g, h1, h2, h3⟩ := q5 h; exact ⟨g, h1, h2, keep_blk hb2 h3⟩
    · refine wpOp_step rfl (fun K' hK => ?_)
      have hl6 : L 6 = false := by cases h : L 6 with | false => rfl | true => rw [q7 h] at hL; cases hL
      clear m0 m1 m2 hsz
      go_simp
      refine hK _ _ ⟨_, _, rfl, rfl, hb.alloc hb.size _, q0, q1, q2, q3, fun _ => ⟨w1.heap.size, rfl, hb.size, ?_⟩, fun h => ?_, fun _ h e => ?_, fun h => rfl, q8⟩
      · show (w1.alloc _).heap[w1.heap.size]? = some (.cells (bools (if L 6 then _ else _)) _)
        rw [hl6]; exact heap_alloc_new _ _
      · obtain ⟨g, h1, h2, h3⟩ := q5 h; exact ⟨g, h1, h2, heap_alloc_lt h3⟩
      · obtain ⟨g, h1, h2, h3⟩ := q5 h
        have e' : Value.pointer (some ⟨w1.heap.size, 0, none⟩) = v 5 := e
        rw [h1] at e'
        have := (Array.getElem?_eq_some_iff.1 h3).1
        (simp at e') <;> omega
    · refine wpOp_step rfl (fun K' hK => ?_)
      have hl6 : L 7 = false := by cases h : L 7 with | false => rfl | true => rw [q8 h] at hL; cases hL
      clear m0 m1 m2 hsz
      go_simp
      refine hK _ _ ⟨_, _, rfl, rfl, hb.alloc hb.size _, q0, q1, q2, q3, fun h => ?_, fun _ => ⟨w1.heap.size, rfl, hb.size, ?_⟩, fun h _ e => ?_, q7, fun h => rfl⟩
      · obtain ⟨g, h1, h2, h3⟩ := q4 h; exact ⟨g, h1, h2, heap_alloc_lt h3⟩
      · show (w1.alloc _).heap[w1.heap.size]? = some (.cells (bools (if L 7 then _ else _)) _)
        rw [hl6]; exact heap_alloc_new _ _
      · obtain ⟨g, h1, h2, h3⟩ := q4 h
        have e' : v 4 = Value.pointer (some ⟨w1.heap.size, 0, none⟩) := e
        rw [h1] at e'
        have := (Array.getElem?_eq_some_iff.1 h3).1
        (simp at e') <;> omega
    · have l14 : L 4 = true ∧ L 1 = true := by have := hd _ rfl; simp [Region.binds] at this; simp [this]
      obtain ⟨g, h1, h2, h3⟩ := q4 l14.1
      have e5 := (hv 4 5 rfl l14.1).trans h1
      have e9 := (hv 1 9 rfl l14.2).trans (q1 l14.2)
      refine Ri.step_plain rfl rfl (fun K' hK => ?_)
      refine wp_store_row _ _ _ rfl g (bools (Oc.mem a b c d)) e5 e9 72 _ h3 (by rw [bools_size]; kernel_rfl) (by rw [bools_size, bools_size]) (bools_one _) ?_
      refine hK _ _ ⟨_, undef, rfl, rfl, below_setRow hb h2 _, q0, q1, q2, q3, fun _ => ⟨g, h1, h2, heap_setRow h3⟩, fun h => ?_, q6, fun _ => l14.1, q8⟩
      obtain ⟨g', k1, k2, k3⟩ := q5 h
      have hne : g' ≠ g := fun e => q6 l14.1 h (by rw [h1, k1, e])
      exact ⟨g', k1, k2, (heap_setRow_other _ _ _ hne).trans k3⟩
    · have l14 : L 5 = true ∧ L 3 = true := by have := hd _ rfl; simp [Region.binds] at this; simp [this]
      obtain ⟨g, h1, h2, h3⟩ := q5 l14.1
      have e5 := (hv 5 6 rfl l14.1).trans h1
      have e9 := (hv 3 11 rfl l14.2).trans (q3 l14.2)
      refine Ri.step_plain rfl rfl (fun K' hK => ?_)
      refine wp_store_row _ _ _ rfl g (bools (Oc.mem a' b' c' d')) e5 e9 72 _ h3 (by rw [bools_size]; kernel_rfl) (by rw [bools_size, bools_size]) (bools_one _) ?_
      refine hK _ _ ⟨_, undef, rfl, rfl, below_setRow hb h2 _, q0, q1, q2, q3, fun h => ?_, fun _ => ⟨g, h1, h2, heap_setRow h3⟩, q6, q7, fun _ => l14.1⟩
      obtain ⟨g', k1, k2, k3⟩ := q4 h
      have hne : g' ≠ g := fun e => q6 h l14.1 (by rw [h1, k1, e])
      exact ⟨g', k1, k2, (heap_setRow_other _ _ _ hne).trans k3⟩
  · rintro v w1 ⟨hb, -, -, -, -, q4, q5, q6, -, -⟩
    obtain ⟨g, h1, h2, h3⟩ := q4 rfl
    obtain ⟨g', k1, k2, k3⟩ := q5 rfl
    have hne : g' ≠ g := fun e => q6 rfl rfl (by rw [h1, k1, e])
    have h3' : w1.heap[g]? = some (.cells (bools (Oc.mem a b c d)) 72) := h3
    have k3' : w1.heap[g']? = some (.cells (bools (Oc.mem a' b' c' d')) 72) := k3
    clear h3 k3 q4 q5 q6
    simp only [Ri.frame, List.zipIdx, List.foldl_cons, List.foldl_nil, if_true, List.setIfInBounds_toArray, List.set_cons_zero, List.set_cons_succ]
    rw [h1, k1]
    have hb0 : Below w.heap.size w w1 := hbw.trans (hb.mono hbw.size)
    have hr : w1.heap[w.heap.size + 1 + 1]? = some (.cells #[.int .u64 0, .int .u64 0, .int .u64 0, .int .u64 0] 25) := (hb.block _ (by have := HSZ.out; omega)).trans T3.out.2.2
    have hg : w.heap.size + 3 ≤ g := by have := HSZ.out; omega
    have hg' : w.heap.size + 3 ≤ g' := by have := HSZ.out; omega
    generalize v 0 = y8; generalize v (0 + 1) = y9; generalize v (0 + 1 + 1) = y10; generalize v (0 + 1 + 1 + 1) = y11
    clear h1 k1 h2 k2 hb T3 HSZ hbw
    go_wp2
    go_loopw [7] (fun i wr => ∃ k : Nat, k ≤ 256 ∧ i = .int .i64 k ∧ Below w.heap.size w wr ∧ wr.heap[w.heap.size + 1 + 1]? = some (.cells #[.int .u64 0, .int .u64 0, .int .u64 0, .int .u64 0] 25) ∧
      wr.heap[g]? = some (.cells (bools (mix or (Oc.mem a b c d) (Oc.mem a' b' c' d') k)) 72) ∧ wr.heap[g']? = some (.cells (bools (Oc.mem a' b' c' d')) 72)) (fun i _ => 256 - (intOf i).toNat)
    case atStart => exact ⟨0, Nat.zero_le _, rfl, hb0, hr, by rw [mix_zero]; exact h3', k3'⟩
    case round =>
      clear hb0 hr h3' k3'
      obtain ⟨k, hk, rfl, hbel, hz0, hz1, hz2⟩ := hrel
      by_cases hlt : k < 256
      · obtain ⟨l0, f0⟩ := one_cell hlt hz1
        have m0 := (one_cell hlt hz2).1
        rw [mix_at] at l0
        have hnew := mix_new or (Oc.mem a b c d) (Oc.mem a' b' c' d') k
        generalize Oc.mem a b c d k = x at *
        generalize Oc.mem a' b' c' d' k = y at *
        have HN := Lib.hid hnew
        have HZ0 := Lib.hid hz0
        have HZ1 := Lib.hid hz1
        have HZ2 := Lib.hid hz2
        clear hnew hz0 hz1 hz2
        cases x
        all_goals
          go_wp2
          exact ⟨⟨k + 1, by omega, by go_num, hbel.setCell (by show w.heap.size ≤ g; omega) _, by rw [Below.heap_setCell _ _ _ _ (by show w.heap.size + 1 + 1 ≠ g; omega)]; exact HZ0.out, one_set hlt HZ1.out (by rw [HN.out]; rfl) (fun j hj => mix_old _ _ _ _ _ hj), by rw [Below.heap_setCell _ _ _ _ (by show g' ≠ g; exact hne)]; exact HZ2.out⟩, by simp [intOf]; omega⟩
      · obtain rfl : k = 256 := by omega
        have hw := mix_words (op := or) (a := a) (b := b) (c := c) (d := d) (a' := a') (b' := b') (c' := c') (d' := d') (Oc.mem_or a b c d a' b' c' d')
        have HW := Lib.hid hw
        have HZ0 := Lib.hid hz0
        have HZ1 := Lib.hid hz1
        clear hw hz0 hz1 hz2
        go_wp2_with (first
          | (refine wpList_load_row rfl _ _ rfl g rfl 72 (bools (mix or (Oc.mem a b c d) (Oc.mem a' b' c' d') 256)) (0, 0) _ HZ1.out Tryz.underlying72 rfl (by rw [bools_size]; kernel_rfl) ?_)
          | fail)
        refine (made_any _ _).mono ?_
        rintro e w2 ⟨rfl, hb2⟩
        rw [HW.out.1, HW.out.2.1, HW.out.2.2.1, HW.out.2.2.2]
        obtain ⟨d0, e0, d1, e1, d2, e2, d3, e3, r0, r1, r2, r3⟩ := four_st (keep_blk hb2 HZ0.out)
        have hbw2 := hbel.trans (hb2.mono hbel.size)
        go_wp2
        refine bodyPost_ret (v := (.agg #[.int .u64 (Oc.U (a ||| a')), .int .u64 (Oc.U (b ||| b')), .int .u64 (Oc.U (c ||| c')), .int .u64 (Oc.U (d ||| d'))])) (by simp [results, Tryz.results128, go_sem, r0, r1, r2, r3]) rfl ⟨rfl, ?_⟩
        go_grown
set_option maxRecDepth 100000 in
set_option maxHeartbeats 1000000 in
theorem refmeet_any (a b c d a' b' c' d' : BitVec 64) (w : World) :
    Calls Tryz.prog 129 #[(.agg #[.int .u64 (Oc.U a), .int .u64 (Oc.U b), .int .u64 (Oc.U c), .int .u64 (Oc.U d)]), (.agg #[.int .u64 (Oc.U a'), .int .u64 (Oc.U b'), .int .u64 (Oc.U c'), .int .u64 (Oc.U d')])] w fun e w' => e = .returned (.agg #[.int .u64 (Oc.U (a &&& a')), .int .u64 (Oc.U (b &&& b')), .int .u64 (Oc.U (c &&& c')), .int .u64 (Oc.U (d &&& d'))]) ∧ Below w.heap.size w w' := by
  have hz : ∀ w, (zeroValue 72).run Tryz.prog w = .ok (.agg (bools fun _ => false)) w := fun _ => by kernel_rfl
  go_enter Tryz.func129, Tryz.ntmps129
  go_wp2_with fail
  have t3 := three_new w (.cells #[.int .u64 (Oc.U a), .int .u64 (Oc.U b), .int .u64 (Oc.U c), .int .u64 (Oc.U d)] 25) (.cells #[.int .u64 (Oc.U a'), .int .u64 (Oc.U b'), .int .u64 (Oc.U c'), .int .u64 (Oc.U d')] 25) (.cells #[.int .u64 0, .int .u64 0, .int .u64 0, .int .u64 0] 25)
  have hbw : Below w.heap.size w (((w.alloc (.cells #[.int .u64 (Oc.U a), .int .u64 (Oc.U b), .int .u64 (Oc.U c), .int .u64 (Oc.U d)] 25)).alloc (.cells #[.int .u64 (Oc.U a'), .int .u64 (Oc.U b'), .int .u64 (Oc.U c'), .int .u64 (Oc.U d')] 25)).alloc (.cells #[.int .u64 0, .int .u64 0, .int .u64 0, .int .u64 0] 25)) := by go_grown
  have hsz : (((w.alloc (.cells #[.int .u64 (Oc.U a), .int .u64 (Oc.U b), .int .u64 (Oc.U c), .int .u64 (Oc.U d)] 25)).alloc (.cells #[.int .u64 (Oc.U a'), .int .u64 (Oc.U b'), .int .u64 (Oc.U c'), .int .u64 (Oc.U d')] 25)).alloc (.cells #[.int .u64 0, .int .u64 0, .int .u64 0, .int .u64 0] 25)).heap.size = w.heap.size + 3 := by simp
  generalize (((w.alloc (.cells #[.int .u64 (Oc.U a), .int .u64 (Oc.U b), .int .u64 (Oc.U c), .int .u64 (Oc.U d)] 25)).alloc (.cells #[.int .u64 (Oc.U a'), .int .u64 (Oc.U b'), .int .u64 (Oc.U c'), .int .u64 (Oc.U d')] 25)).alloc (.cells #[.int .u64 0, .int .u64 0, .int .u64 0, .int .u64 0] 25)) = W at *
  have T3 := Lib.hid t3
  have HSZ := Lib.hid hsz
  clear t3 hsz
  refine Ri.wp_region_frame (by kernel_rfl) (by kernel_rfl) (by kernel_rfl) (by kernel_rfl)
    (fun L v w' => Below W.heap.size W w' ∧ (L 0 = true → v 0 = (.agg #[.int .u64 (Oc.U a), .int .u64 (Oc.U b), .int .u64 (Oc.U c), .int .u64 (Oc.U d)])) ∧ (L 1 = true → v 1 = .agg (bools (Oc.mem a b c d))) ∧ (L 2 = true → v 2 = (.agg #[.int .u64 (Oc.U a'), .int .u64 (Oc.U b'), .int .u64 (Oc.U c'), .int .u64 (Oc.U d')])) ∧ (L 3 = true → v 3 = .agg (bools (Oc.mem a' b' c' d'))) ∧
      (L 4 = true → ∃ g, v 4 = .pointer (some ⟨g, 0, none⟩) ∧ W.heap.size ≤ g ∧ w'.heap[g]? = some (.cells (bools (if L 6 then Oc.mem a b c d else fun _ => false)) 72)) ∧
      (L 5 = true → ∃ g, v 5 = .pointer (some ⟨g, 0, none⟩) ∧ W.heap.size ≤ g ∧ w'.heap[g]? = some (.cells (bools (if L 7 then Oc.mem a' b' c' d' else fun _ => false)) 72)) ∧
      (L 4 = true → L 5 = true → v 4 ≠ v 5) ∧ (L 6 = true → L 4 = true) ∧ (L 7 = true → L 5 = true))
    ?_ ?_ ?_
  · exact ⟨(Below.refl _ _).drew, by simp, by simp, by simp, by simp, by simp, by simp, by simp, by simp, by simp⟩
  · intro i hi L v w1 x hI hL hd hv ho
    have hi' : i = 0 ∨ i = 1 ∨ i = 2 ∨ i = 3 ∨ i = 4 ∨ i = 5 ∨ i = 6 ∨ i = 7 := by simp at hi; omega
    obtain ⟨hb, q0, q1, q2, q3, q4, q5, q6, q7, q8⟩ := hI
    obtain ⟨m0, m1, m2⟩ := T3.out
    have hsz := HSZ.out
    rcases hi' with rfl | rfl | rfl | rfl | rfl | rfl | rfl | rfl
    · have e2 : x.tmps.getD 2 undef = .pointer (some ⟨w.heap.size, 0, none⟩) := ho 2 (by kernel_rfl)
      obtain ⟨c0, c1, c2, c3, -⟩ := four ((hb.block w.heap.size (by omega)).trans m0)
      refine wpOp_step rfl (fun K' hK => ?_)
      clear m0 m1 m2 hsz
      go_simp
      exact hK _ _ ⟨_, _, rfl, rfl, hb, fun _ => rfl, q1, q2, q3, q4, q5, q6, q7, q8⟩
    · have l0 : L 0 = true := by have := hd _ rfl; simp [Region.binds] at this; simp [this]
      have e8 := (hv 0 8 rfl l0).trans (q0 l0)
      refine wpOp_step rfl (fun K' hK => ?_)
      clear m0 m1 m2 hsz
      go_simp
      refine (bits_any _ _ _ _ _).mono ?_
      rintro e w2 ⟨rfl, hb2⟩
      refine hK _ _ ⟨_, _, rfl, rfl, hb.trans (hb2.mono hb.size), q0, fun _ => rfl, q2, q3, fun h => ?_, fun h => ?_, q6, q7, q8⟩
      · obtain ⟨g, h1, h2, h3⟩ := q4 h; exact ⟨g, h1, h2, keep_blk hb2 h3⟩
      · obtain ⟨g, h1, h2, h3⟩ := q5 h; exact ⟨g, h1, h2, keep_blk hb2 h3⟩
    · have e3 : x.tmps.getD 3 undef = .pointer (some ⟨w.heap.size + 1, 0, none⟩) := ho 3 (by kernel_rfl)
      obtain ⟨c0, c1, c2, c3, -⟩ := four ((hb.block (w.heap.size + 1) (by omega)).trans m1)
      refine wpOp_step rfl (fun K' hK => ?_)
      clear m0 m1 m2 hsz
      go_simp
      exact hK _ _ ⟨_, _, rfl, rfl, hb, q0, q1, fun _ => rfl, q3, q4, q5, q6, q7, q8⟩
    · have l0 : L 2 = true := by have := hd _ rfl; simp [Region.binds] at this; simp [this]
      have e8 := (hv 2 10 rfl l0).trans (q2 l0)
      refine wpOp_step rfl (fun K' hK => ?_)
      clear m0 m1 m2 hsz
      go_simp
      refine (bits_any _ _ _ _ _).mono ?_
      rintro e w2 ⟨rfl, hb2⟩
      refine hK _ _ ⟨_, _, rfl, rfl, hb.trans (hb2.mono hb.size), q0, q1, q2, fun _ => rfl, fun h => ?_, fun h => ?_, q6, q7, q8⟩
      · obtain ⟨g, h1, h2, h3⟩ := q4 h; exact ⟨g, h1, h2, keep_blk hb2 h3⟩
      · obtain ⟨g, h1, h2, h3⟩ := q5 h; exact ⟨g, h1, h2, keep_blk hb2 h3⟩
    · refine wpOp_step rfl (fun K' hK => ?_)
      have hl6 : L 6 = false := by cases h : L 6 with | false => rfl | true => rw [q7 h] at hL; cases hL
      clear m0 m1 m2 hsz
      go_simp
      refine hK _ _ ⟨_, _, rfl, rfl, hb.alloc hb.size _, q0, q1, q2, q3, fun _ => ⟨w1.heap.size, rfl, hb.size, ?_⟩, fun h => ?_, fun _ h e => ?_, fun h => rfl, q8⟩
      · show (w1.alloc _).heap[w1.heap.size]? = some (.cells (bools (if L 6 then _ else _)) _)
        rw [hl6]; exact heap_alloc_new _ _
      · obtain ⟨g, h1, h2, h3⟩ := q5 h; exact ⟨g, h1, h2, heap_alloc_lt h3⟩
      · obtain ⟨g, h1, h2, h3⟩ := q5 h
        have e' : Value.pointer (some ⟨w1.heap.size, 0, none⟩) = v 5 := e
        rw [h1] at e'
        have := (Array.getElem?_eq_some_iff.1 h3).1
        (simp at e') <;> omega
    · refine wpOp_step rfl (fun K' hK => ?_)
      have hl6 : L 7 = false := by cases h : L 7 with | false => rfl | true => rw [q8 h] at hL; cases hL
      clear m0 m1 m2 hsz
      go_simp
      refine hK _ _ ⟨_, _, rfl, rfl, hb.alloc hb.size _, q0, q1, q2, q3, fun h => ?_, fun _ => ⟨w1.heap.size, rfl, hb.size, ?_⟩, fun h _ e => ?_, q7, fun h => rfl⟩
      · obtain ⟨g, h1, h2, h3⟩ := q4 h; exact ⟨g, h1, h2, heap_alloc_lt h3⟩
      · show (w1.alloc _).heap[w1.heap.size]? = some (.cells (bools (if L 7 then _ else _)) _)
        rw [hl6]; exact heap_alloc_new _ _
      · obtain ⟨g, h1, h2, h3⟩ := q4 h
        have e' : v 4 = Value.pointer (some ⟨w1.heap.size, 0, none⟩) := e
        rw [h1] at e'
        have := (Array.getElem?_eq_some_iff.1 h3).1
        (simp at e') <;> omega
    · have l14 : L 4 = true ∧ L 1 = true := by have := hd _ rfl; simp [Region.binds] at this; simp [this]
      obtain ⟨g, h1, h2, h3⟩ := q4 l14.1
      have e5 := (hv 4 5 rfl l14.1).trans h1
      have e9 := (hv 1 9 rfl l14.2).trans (q1 l14.2)
      refine Ri.step_plain rfl rfl (fun K' hK => ?_)
      refine wp_store_row _ _ _ rfl g (bools (Oc.mem a b c d)) e5 e9 72 _ h3 (by rw [bools_size]; kernel_rfl) (by rw [bools_size, bools_size]) (bools_one _) ?_
      refine hK _ _ ⟨_, undef, rfl, rfl, below_setRow hb h2 _, q0, q1, q2, q3, fun _ => ⟨g, h1, h2, heap_setRow h3⟩, fun h => ?_, q6, fun _ => l14.1, q8⟩
      obtain ⟨g', k1, k2, k3⟩ := q5 h
      have hne : g' ≠ g := fun e => q6 l14.1 h (by rw [h1, k1, e])
      exact ⟨g', k1, k2, (heap_setRow_other _ _ _ hne).trans k3⟩
    · have l14 : L 5 = true ∧ L 3 = true := by have := hd _ rfl; simp [Region.binds] at this; simp [this]
      obtain ⟨g, h1, h2, h3⟩ := q5 l14.1
      have e5 := (hv 5 6 rfl l14.1).trans h1
      have e9 := (hv 3 11 rfl l14.2).trans (q3 l14.2)
      refine Ri.step_plain rfl rfl (fun K' hK => ?_)
      refine wp_store_row _ _ _ rfl g (bools (Oc.mem a' b' c' d')) e5 e9 72 _ h3 (by rw [bools_size]; kernel_rfl) (by rw [bools_size, bools_size]) (bools_one _) ?_
      refine hK _ _ ⟨_, undef, rfl, rfl, below_setRow hb h2 _, q0, q1, q2, q3, fun h => ?_, fun _ => ⟨g, h1, h2, heap_setRow h3⟩, q6, q7, fun _ => l14.1⟩
      obtain ⟨g', k1, k2, k3⟩ := q4 h
      have hne : g' ≠ g := fun e => q6 h l14.1 (by rw [h1, k1, e])
      exact ⟨g', k1, k2, (heap_setRow_other _ _ _ hne).trans k3⟩
  · rintro v w1 ⟨hb, -, -, -, -, q4, q5, q6, -, -⟩
    obtain ⟨g, h1, h2, h3⟩ := q4 rfl
    obtain ⟨g', k1, k2, k3⟩ := q5 rfl
    have hne : g' ≠ g := fun e => q6 rfl rfl (by rw [h1, k1, e])
    have h3' : w1.heap[g]? = some (.cells (bools (Oc.mem a b c d)) 72) := h3
    have k3' : w1.heap[g']? = some (.cells (bools (Oc.mem a' b' c' d')) 72) := k3
    clear h3 k3 q4 q5 q6
    simp only [Ri.frame, List.zipIdx, List.foldl_cons, List.foldl_nil, if_true, List.setIfInBounds_toArray, List.set_cons_zero, List.set_cons_succ]
    rw [h1, k1]
    have hb0 : Below w.heap.size w w1 := hbw.trans (hb.mono hbw.size)
    have hr : w1.heap[w.heap.size + 1 + 1]? = some (.cells #[.int .u64 0, .int .u64 0, .int .u64 0, .int .u64 0] 25) := (hb.block _ (by have := HSZ.out; omega)).trans T3.out.2.2
    have hg : w.heap.size + 3 ≤ g := by have := HSZ.out; omega
    have hg' : w.heap.size + 3 ≤ g' := by have := HSZ.out; omega
    generalize v 0 = y8; generalize v (0 + 1) = y9; generalize v (0 + 1 + 1) = y10; generalize v (0 + 1 + 1 + 1) = y11
    clear h1 k1 h2 k2 hb T3 HSZ hbw
    go_wp2
    go_loopw [7] (fun i wr => ∃ k : Nat, k ≤ 256 ∧ i = .int .i64 k ∧ Below w.heap.size w wr ∧ wr.heap[w.heap.size + 1 + 1]? = some (.cells #[.int .u64 0, .int .u64 0, .int .u64 0, .int .u64 0] 25) ∧
      wr.heap[g]? = some (.cells (bools (mix and (Oc.mem a b c d) (Oc.mem a' b' c' d') k)) 72) ∧ wr.heap[g']? = some (.cells (bools (Oc.mem a' b' c' d')) 72)) (fun i _ => 256 - (intOf i).toNat)
    case atStart => exact ⟨0, Nat.zero_le _, rfl, hb0, hr, by rw [mix_zero]; exact h3', k3'⟩
    case round =>
      clear hb0 hr h3' k3'
      obtain ⟨k, hk, rfl, hbel, hz0, hz1, hz2⟩ := hrel
      by_cases hlt : k < 256
      · obtain ⟨l0, f0⟩ := one_cell hlt hz1
        have m0 := (one_cell hlt hz2).1
        rw [mix_at] at l0
        have hnew := mix_new and (Oc.mem a b c d) (Oc.mem a' b' c' d') k
        generalize Oc.mem a b c d k = x at *
        generalize Oc.mem a' b' c' d' k = y at *
        have HN := Lib.hid hnew
        have HZ0 := Lib.hid hz0
        have HZ1 := Lib.hid hz1
        have HZ2 := Lib.hid hz2
        clear hnew hz0 hz1 hz2
        cases x
        all_goals
          go_wp2
          exact ⟨⟨k + 1, by omega, by go_num, hbel.setCell (by show w.heap.size ≤ g; omega) _, by rw [Below.heap_setCell _ _ _ _ (by show w.heap.size + 1 + 1 ≠ g; omega)]; exact HZ0.out, one_set hlt HZ1.out (by rw [HN.out]; rfl) (fun j hj => mix_old _ _ _ _ _ hj), by rw [Below.heap_setCell _ _ _ _ (by show g' ≠ g; exact hne)]; exact HZ2.out⟩, by simp [intOf]; omega⟩
      · obtain rfl : k = 256 := by omega
        have hw := mix_words (op := and) (a := a) (b := b) (c := c) (d := d) (a' := a') (b' := b') (c' := c') (d' := d') (Oc.mem_and a b c d a' b' c' d')
        have HW := Lib.hid hw
        have HZ0 := Lib.hid hz0
        have HZ1 := Lib.hid hz1
        clear hw hz0 hz1 hz2
        go_wp2_with (first
          | (refine wpList_load_row rfl _ _ rfl g rfl 72 (bools (mix and (Oc.mem a b c d) (Oc.mem a' b' c' d') 256)) (0, 0) _ HZ1.out Tryz.underlying72 rfl (by rw [bools_size]; kernel_rfl) ?_)
          | fail)
        refine (made_any _ _).mono ?_
        rintro e w2 ⟨rfl, hb2⟩
        rw [HW.out.1, HW.out.2.1, HW.out.2.2.1, HW.out.2.2.2]
        obtain ⟨d0, e0, d1, e1, d2, e2, d3, e3, r0, r1, r2, r3⟩ := four_st (keep_blk hb2 HZ0.out)
        have hbw2 := hbel.trans (hb2.mono hbel.size)
        go_wp2
        refine bodyPost_ret (v := (.agg #[.int .u64 (Oc.U (a &&& a')), .int .u64 (Oc.U (b &&& b')), .int .u64 (Oc.U (c &&& c')), .int .u64 (Oc.U (d &&& d'))])) (by simp [results, Tryz.results129, go_sem, r0, r1, r2, r3]) rfl ⟨rfl, ?_⟩
        go_grown
end Go.Proofs.YtlbhbjmobcikfaaGreatDoor
