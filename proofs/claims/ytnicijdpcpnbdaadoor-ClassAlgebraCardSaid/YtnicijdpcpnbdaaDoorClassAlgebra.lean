/- ClassAlgebra: whatever the two sets and the byte, the law returns true. -/
import Derived.Test.YtnicijdpcpnbdaaDoorClLives
import Derived.Test.YtnicijdpcpnbdaaDoorClFold
namespace Go.Proofs.YtnicijdpcpnbdaaDoor
open Go.RowKit
/-- A word of a set that is folded. -/
def Cl.fo (a b c d : BitVec 64) (q : Nat) : BitVec 64 := Oc.mk (Cl.fold (Oc.mem a b c d)) q
theorem fo_mem (a b c d : BitVec 64) (i : Nat) (h : i < 256) : Oc.mem (Cl.fo a b c d 0) (Cl.fo a b c d 1) (Cl.fo a b c d 2) (Cl.fo a b c d 3) i = Cl.fold (Oc.mem a b c d) i := Oc.mem_mk _ i h
theorem fold_fo (a b c d : BitVec 64) (w : World) : Calls Tryd.prog 12 #[(.agg #[.int .u64 (Oc.U a), .int .u64 (Oc.U b), .int .u64 (Oc.U c), .int .u64 (Oc.U d)])] w fun e w' => e = .returned (.agg #[.int .u64 (Oc.U (Cl.fo a b c d 0)), .int .u64 (Oc.U (Cl.fo a b c d 1)), .int .u64 (Oc.U (Cl.fo a b c d 2)), .int .u64 (Oc.U (Cl.fo a b c d 3))]) ∧ Below w.heap.size w w' := fold_any a b c d w
theorem fo_fo (a b c d : BitVec 64) : Cl.fo (Cl.fo a b c d 0) (Cl.fo a b c d 1) (Cl.fo a b c d 2) (Cl.fo a b c d 3) 0 = Cl.fo a b c d 0 ∧ Cl.fo (Cl.fo a b c d 0) (Cl.fo a b c d 1) (Cl.fo a b c d 2) (Cl.fo a b c d 3) 1 = Cl.fo a b c d 1 ∧
    Cl.fo (Cl.fo a b c d 0) (Cl.fo a b c d 1) (Cl.fo a b c d 2) (Cl.fo a b c d 3) 2 = Cl.fo a b c d 2 ∧ Cl.fo (Cl.fo a b c d 0) (Cl.fo a b c d 1) (Cl.fo a b c d 2) (Cl.fo a b c d 3) 3 = Cl.fo a b c d 3 :=
  mk_same4 (p := Cl.fold (Oc.mem (Cl.fo a b c d 0) (Cl.fo a b c d 1) (Cl.fo a b c d 2) (Cl.fo a b c d 3))) (q := Cl.fold (Oc.mem a b c d)) fun i hi => by
    show (Oc.mem _ _ _ _ i || Oc.mem _ _ _ _ (Cl.oth i)) = _
    rw [fo_mem _ _ _ _ i hi, fo_mem _ _ _ _ _ (Cl.oth_lt hi)]
    unfold Cl.fold; rw [Cl.oth_oth]
    cases Oc.mem a b c d i <;> cases Oc.mem a b c d (Cl.oth i) <;> rfl
theorem fold_fold (a b c d : BitVec 64) (w : World) : Calls Tryd.prog 12 #[(.agg #[.int .u64 (Oc.U (Cl.fo a b c d 0)), .int .u64 (Oc.U (Cl.fo a b c d 1)), .int .u64 (Oc.U (Cl.fo a b c d 2)), .int .u64 (Oc.U (Cl.fo a b c d 3))])] w fun e w' => e = .returned (.agg #[.int .u64 (Oc.U (Cl.fo a b c d 0)), .int .u64 (Oc.U (Cl.fo a b c d 1)), .int .u64 (Oc.U (Cl.fo a b c d 2)), .int .u64 (Oc.U (Cl.fo a b c d 3))]) ∧ Below w.heap.size w w' := by
  have h := fold_fo (Cl.fo a b c d 0) (Cl.fo a b c d 1) (Cl.fo a b c d 2) (Cl.fo a b c d 3) w
  obtain ⟨e0, e1, e2, e3⟩ := fo_fo a b c d
  rw [e0, e1, e2, e3] at h
  exact h
theorem and_fo (a b c d : BitVec 64) : a &&& Cl.fo a b c d 0 = a ∧ b &&& Cl.fo a b c d 1 = b ∧ c &&& Cl.fo a b c d 2 = c ∧ d &&& Cl.fo a b c d 3 = d :=
  Oc.ext4 fun i hi => by
    rw [Oc.mem_and, fo_mem _ _ _ _ i hi]
    unfold Cl.fold
    cases Oc.mem a b c d i <;> rfl
theorem meet_fold {w : World} {v : Value} {a b c d : BitVec 64} (h : Sl2 w v a b c d (Cl.fo a b c d 0) (Cl.fo a b c d 1) (Cl.fo a b c d 2) (Cl.fo a b c d 3)) : Calls Tryd.prog 20 #[v] w fun e w' => e = .returned (.agg #[.int .u64 (Oc.U a), .int .u64 (Oc.U b), .int .u64 (Oc.U c), .int .u64 (Oc.U d)]) ∧ Below w.heap.size w w' := by
  have k := meet2_any h
  obtain ⟨e0, e1, e2, e3⟩ := and_fo a b c d
  rw [e0, e1, e2, e3] at k
  exact k
theorem fo_or (a b c d a' b' c' d' : BitVec 64) (q : Nat) : Cl.fo (a ||| a') (b ||| b') (c ||| c') (d ||| d') q = Cl.fo a b c d q ||| Cl.fo a' b' c' d' q := by
  unfold Cl.fo
  rw [Cl.mk_or]
  refine Cl.mk_congr (fun j => ?_) q
  unfold Cl.fold
  rw [Oc.mem_or, Oc.mem_or]
  cases Oc.mem a b c d j <;> cases Oc.mem a b c d (Cl.oth j) <;> cases Oc.mem a' b' c' d' j <;> cases Oc.mem a' b' c' d' (Cl.oth j) <;> rfl
theorem fold_join (a b c d a' b' c' d' : BitVec 64) (w : World) : Calls Tryd.prog 12 #[(.agg #[.int .u64 (Oc.U (a ||| a')), .int .u64 (Oc.U (b ||| b')), .int .u64 (Oc.U (c ||| c')), .int .u64 (Oc.U (d ||| d'))])] w fun e w' => e = .returned (.agg #[.int .u64 (Oc.U (Cl.fo a b c d 0 ||| Cl.fo a' b' c' d' 0)), .int .u64 (Oc.U (Cl.fo a b c d 1 ||| Cl.fo a' b' c' d' 1)), .int .u64 (Oc.U (Cl.fo a b c d 2 ||| Cl.fo a' b' c' d' 2)), .int .u64 (Oc.U (Cl.fo a b c d 3 ||| Cl.fo a' b' c' d' 3))]) ∧ Below w.heap.size w w' := by
  have h := fold_fo (a ||| a') (b ||| b') (c ||| c') (d ||| d') w
  rw [fo_or, fo_or, fo_or, fo_or] at h
  exact h
/-- A word of the set of one byte. -/
def Cl.on (n q : Nat) : BitVec 64 := Oc.mk (Oc.anyB (oneOf n) 1) q
theorem on_mem (n i : Nat) (h : i < 256) : Oc.mem (Cl.on n 0) (Cl.on n 1) (Cl.on n 2) (Cl.on n 3) i = (i == n) := by
  unfold Cl.on; rw [Oc.mem_mk _ i h]; simp [Oc.anyB, oneOf]
theorem wd_oth : ∀ n, n < 256 → Cl.wd (Cl.oth n) = Cl.wd n := by decide +kernel
theorem has_fold (n : Nat) (hn : n < 256) (w : World) : Calls Tryd.prog 22 #[(.agg #[.int .u64 (Oc.U (Cl.fo (Cl.on n 0) (Cl.on n 1) (Cl.on n 2) (Cl.on n 3) 0)), .int .u64 (Oc.U (Cl.fo (Cl.on n 0) (Cl.on n 1) (Cl.on n 2) (Cl.on n 3) 1)), .int .u64 (Oc.U (Cl.fo (Cl.on n 0) (Cl.on n 1) (Cl.on n 2) (Cl.on n 3) 2)), .int .u64 (Oc.U (Cl.fo (Cl.on n 0) (Cl.on n 1) (Cl.on n 2) (Cl.on n 3) 3))]), .int .u8 (Cl.oth n)] w fun e w' => e = .returned (.bool true) ∧ Below w.heap.size w w' := by
  have h := has_any (Cl.fo (Cl.on n 0) (Cl.on n 1) (Cl.on n 2) (Cl.on n 3) 0) (Cl.fo (Cl.on n 0) (Cl.on n 1) (Cl.on n 2) (Cl.on n 3) 1) (Cl.fo (Cl.on n 0) (Cl.on n 1) (Cl.on n 2) (Cl.on n 3) 2) (Cl.fo (Cl.on n 0) (Cl.on n 1) (Cl.on n 2) (Cl.on n 3) 3) (Cl.oth n) (Cl.oth_lt hn) w
  rw [fo_mem _ _ _ _ _ (Cl.oth_lt hn)] at h
  unfold Cl.fold at h
  rw [Cl.oth_oth, on_mem n n hn] at h
  simpa using h
theorem has_letters (n : Nat) (hn : n < 256) (w : World) : Calls Tryd.prog 22 #[(.agg #[.int .u64 (Oc.U (Cl.cw 1 0)), .int .u64 (Oc.U (Cl.cw 1 1)), .int .u64 (Oc.U (Cl.cw 1 2)), .int .u64 (Oc.U (Cl.cw 1 3))]), .int .u8 n] w fun e w' => e = .returned (.bool (Cl.cls 1 n)) ∧ Below w.heap.size w w' := by
  have h := has_any (Cl.cw 1 0) (Cl.cw 1 1) (Cl.cw 1 2) (Cl.cw 1 3) n hn w
  rw [show Oc.mem (Cl.cw 1 0) (Cl.cw 1 1) (Cl.cw 1 2) (Cl.cw 1 3) n = Cl.cls 1 n from Oc.mem_mk (Cl.cls 1) n hn] at h
  exact h
theorem oth_ne {n : Nat} (h : Cl.cls 1 n = true) : ¬ n = Cl.oth n := by
  have := (letter_spec n).1 h
  unfold Cl.oth; split <;> (try split) <;> omega
set_option maxRecDepth 100000 in
set_option maxHeartbeats 4000000 in
theorem clalgebra_any (A : Nat → Addr) (a b c d a' b' c' d' : BitVec 64) (n : Nat) (hn : n < 256) (w : World) (hE : Errs w A) : Calls Tryd.prog 6 #[(.agg #[.int .u64 (Oc.U a), .int .u64 (Oc.U b), .int .u64 (Oc.U c), .int .u64 (Oc.U d)]), (.agg #[.int .u64 (Oc.U a'), .int .u64 (Oc.U b'), .int .u64 (Oc.U c'), .int .u64 (Oc.U d')]), .int .u8 n] w fun e w' => e = .returned (.bool true) ∧ Below w.heap.size w w' := by
  have he := eq4
  have hbA := ((Below.refl w.heap.size w).alloc (Nat.le_refl _) (.cells #[.int .u64 (Oc.U a), .int .u64 (Oc.U b), .int .u64 (Oc.U c), .int .u64 (Oc.U d)] 25)).alloc (by simp) (.cells #[.int .u64 (Oc.U a'), .int .u64 (Oc.U b'), .int .u64 (Oc.U c'), .int .u64 (Oc.U d')] 25)
  have HE := Lib.hid (hE.below hbA); clear hE
  have htwo := two_new w (.cells #[.int .u64 (Oc.U a), .int .u64 (Oc.U b), .int .u64 (Oc.U c), .int .u64 (Oc.U d)] 25) (.cells #[.int .u64 (Oc.U a'), .int .u64 (Oc.U b'), .int .u64 (Oc.U c'), .int .u64 (Oc.U d')] 25)
  have HT := Lib.hid htwo; clear htwo
  go_enter Tryd.func6, Tryd.ntmps6
  go_wp2_with fail
  refine (cllives_any A _ HE.out).mono ?_
  rintro e w1 ⟨rfl, hb1⟩
  have HB1 := Lib.hid (hbA.trans (hb1.mono (by simp; omega)))
  have ZA1 := Lib.hid (keep_blk hb1 HT.out.1); have ZB1 := Lib.hid (keep_blk hb1 HT.out.2)
  clear hb1 hbA HE HT
  obtain ⟨c0, c1, c2, c3, -⟩ := four ZA1.out
  go_wp2_with fail
  clear c0 c1 c2 c3
  refine (fold_fo _ _ _ _ _).mono ?_
  rintro e w2 ⟨rfl, hb2⟩
  have HB2 := Lib.hid (HB1.out.trans (hb2.mono HB1.out.size))
  have ZA2 := Lib.hid (keep_blk hb2 ZA1.out); have ZB2 := Lib.hid (keep_blk hb2 ZB1.out)
  clear hb2 HB1 ZA1 ZB1
  go_wp2_with fail
  have hb3 := HB2.out.alloc HB2.out.size (.cells #[.int .u64 (Oc.U (Cl.fo a b c d 0)), .int .u64 (Oc.U (Cl.fo a b c d 1)), .int .u64 (Oc.U (Cl.fo a b c d 2)), .int .u64 (Oc.U (Cl.fo a b c d 3))] 25)
  have ZF := Lib.hid (heap_alloc_new w2 (.cells #[.int .u64 (Oc.U (Cl.fo a b c d 0)), .int .u64 (Oc.U (Cl.fo a b c d 1)), .int .u64 (Oc.U (Cl.fo a b c d 2)), .int .u64 (Oc.U (Cl.fo a b c d 3))] 25))
  have ZA := Lib.hid (heap_alloc_lt (o := .cells #[.int .u64 (Oc.U (Cl.fo a b c d 0)), .int .u64 (Oc.U (Cl.fo a b c d 1)), .int .u64 (Oc.U (Cl.fo a b c d 2)), .int .u64 (Oc.U (Cl.fo a b c d 3))] 25) ZA2.out)
  have ZB := Lib.hid (heap_alloc_lt (o := .cells #[.int .u64 (Oc.U (Cl.fo a b c d 0)), .int .u64 (Oc.U (Cl.fo a b c d 1)), .int .u64 (Oc.U (Cl.fo a b c d 2)), .int .u64 (Oc.U (Cl.fo a b c d 3))] 25) ZB2.out)
  have HB3 := Lib.hid hb3
  clear hb3 HB2 ZA2 ZB2
  generalize World.alloc w2 _ = w3 at *
  refine Ri.wp_region_frame (by kernel_rfl) (by kernel_rfl) (by kernel_rfl) (by kernel_rfl)
    (fun L v w' => Below w3.heap.size w3 w' ∧ (L 0 = true → v 0 = (.agg #[.int .u64 (Oc.U (Cl.fo a b c d 0)), .int .u64 (Oc.U (Cl.fo a b c d 1)), .int .u64 (Oc.U (Cl.fo a b c d 2)), .int .u64 (Oc.U (Cl.fo a b c d 3))])) ∧ (L 1 = true → v 1 = (.agg #[.int .u64 (Oc.U (Cl.fo a b c d 0)), .int .u64 (Oc.U (Cl.fo a b c d 1)), .int .u64 (Oc.U (Cl.fo a b c d 2)), .int .u64 (Oc.U (Cl.fo a b c d 3))])) ∧ (L 2 = true → v 2 = (.agg #[.int .u64 (Oc.U (Cl.fo a b c d 0)), .int .u64 (Oc.U (Cl.fo a b c d 1)), .int .u64 (Oc.U (Cl.fo a b c d 2)), .int .u64 (Oc.U (Cl.fo a b c d 3))])) ∧ (L 3 = true → v 3 = .bool false) ∧ (L 4 = true → v 4 = .bool false) ∧ (L 5 = true → v 5 = (.agg #[.int .u64 (Oc.U a), .int .u64 (Oc.U b), .int .u64 (Oc.U c), .int .u64 (Oc.U d)])) ∧ (L 6 = true → v 6 = (.agg #[.int .u64 (Oc.U (Cl.fo a b c d 0)), .int .u64 (Oc.U (Cl.fo a b c d 1)), .int .u64 (Oc.U (Cl.fo a b c d 2)), .int .u64 (Oc.U (Cl.fo a b c d 3))])) ∧ (L 7 = true → Sl2 w' (v 7) a b c d (Cl.fo a b c d 0) (Cl.fo a b c d 1) (Cl.fo a b c d 2) (Cl.fo a b c d 3)) ∧ (L 8 = true → v 8 = (.agg #[.int .u64 (Oc.U a), .int .u64 (Oc.U b), .int .u64 (Oc.U c), .int .u64 (Oc.U d)])) ∧ (L 9 = true → v 9 = (.agg #[.int .u64 (Oc.U a), .int .u64 (Oc.U b), .int .u64 (Oc.U c), .int .u64 (Oc.U d)])) ∧ (L 10 = true → v 10 = .bool false) ∧ (L 11 = true → v 11 = .bool false) ∧ (L 12 = true → v 12 = .bool false) ∧ (L 13 = true → v 13 = (.agg #[.int .u64 (Oc.U a), .int .u64 (Oc.U b), .int .u64 (Oc.U c), .int .u64 (Oc.U d)])) ∧ (L 14 = true → v 14 = (.agg #[.int .u64 (Oc.U a'), .int .u64 (Oc.U b'), .int .u64 (Oc.U c'), .int .u64 (Oc.U d')])) ∧ (L 15 = true → Sl2 w' (v 15) a b c d a' b' c' d') ∧ (L 16 = true → v 16 = (.agg #[.int .u64 (Oc.U (a ||| a')), .int .u64 (Oc.U (b ||| b')), .int .u64 (Oc.U (c ||| c')), .int .u64 (Oc.U (d ||| d'))])) ∧ (L 17 = true → v 17 = (.agg #[.int .u64 (Oc.U (Cl.fo a b c d 0 ||| Cl.fo a' b' c' d' 0)), .int .u64 (Oc.U (Cl.fo a b c d 1 ||| Cl.fo a' b' c' d' 1)), .int .u64 (Oc.U (Cl.fo a b c d 2 ||| Cl.fo a' b' c' d' 2)), .int .u64 (Oc.U (Cl.fo a b c d 3 ||| Cl.fo a' b' c' d' 3))])) ∧ (L 18 = true → v 18 = (.agg #[.int .u64 (Oc.U (Cl.fo a b c d 0)), .int .u64 (Oc.U (Cl.fo a b c d 1)), .int .u64 (Oc.U (Cl.fo a b c d 2)), .int .u64 (Oc.U (Cl.fo a b c d 3))])) ∧ (L 19 = true → v 19 = (.agg #[.int .u64 (Oc.U a'), .int .u64 (Oc.U b'), .int .u64 (Oc.U c'), .int .u64 (Oc.U d')])) ∧ (L 20 = true → v 20 = (.agg #[.int .u64 (Oc.U (Cl.fo a' b' c' d' 0)), .int .u64 (Oc.U (Cl.fo a' b' c' d' 1)), .int .u64 (Oc.U (Cl.fo a' b' c' d' 2)), .int .u64 (Oc.U (Cl.fo a' b' c' d' 3))])) ∧ (L 21 = true → Sl2 w' (v 21) (Cl.fo a b c d 0) (Cl.fo a b c d 1) (Cl.fo a b c d 2) (Cl.fo a b c d 3) (Cl.fo a' b' c' d' 0) (Cl.fo a' b' c' d' 1) (Cl.fo a' b' c' d' 2) (Cl.fo a' b' c' d' 3)) ∧ (L 22 = true → v 22 = (.agg #[.int .u64 (Oc.U (Cl.fo a b c d 0 ||| Cl.fo a' b' c' d' 0)), .int .u64 (Oc.U (Cl.fo a b c d 1 ||| Cl.fo a' b' c' d' 1)), .int .u64 (Oc.U (Cl.fo a b c d 2 ||| Cl.fo a' b' c' d' 2)), .int .u64 (Oc.U (Cl.fo a b c d 3 ||| Cl.fo a' b' c' d' 3))])) ∧ (L 23 = true → v 23 = .bool false) ∧ (L 24 = true → v 24 = .bool false))
    ?_ ?_ ?_
  · exact ⟨(Below.refl _ _).drew, by simp, by simp, by simp, by simp, by simp, by simp, by simp, by simp, by simp, by simp, by simp, by simp, by simp, by simp, by simp, by simp, by simp, by simp, by simp, by simp, by simp, by simp, by simp, by simp, by simp⟩
  · intro i hi9 L v w9 xa hI hL hd hv ho
    have hi' : i = 0 ∨ i = 1 ∨ i = 2 ∨ i = 3 ∨ i = 4 ∨ i = 5 ∨ i = 6 ∨ i = 7 ∨ i = 8 ∨ i = 9 ∨ i = 10 ∨ i = 11 ∨ i = 12 ∨ i = 13 ∨ i = 14 ∨ i = 15 ∨ i = 16 ∨ i = 17 ∨ i = 18 ∨ i = 19 ∨ i = 20 ∨ i = 21 ∨ i = 22 ∨ i = 23 ∨ i = 24 := by simp at hi9; omega
    obtain ⟨hb, q0, q1, q2, q3, q4, q5, q6, q7, q8, q9, q10, q11, q12, q13, q14, q15, q16, q17, q18, q19, q20, q21, q22, q23, q24⟩ := hI
    rcases hi' with rfl | rfl | rfl | rfl | rfl | rfl | rfl | rfl | rfl | rfl | rfl | rfl | rfl | rfl | rfl | rfl | rfl | rfl | rfl | rfl | rfl | rfl | rfl | rfl | rfl
    · have e7 : xa.tmps.getD 7 undef = .pointer (some ⟨w2.heap.size, 0, none⟩) := ho 7 (by kernel_rfl)
      refine Ri.step_plain rfl rfl (fun K' hK => ?_)
      refine wp_load_row _ _ rfl _ e7 _ _ _ _ (keep_blk hb ZF.out) Tryd.underlying25 rfl (by kernel_rfl) ?_
      exact hK _ _ ⟨_, _, rfl, rfl, hb, fun _ => rfl, q1, q2, q3, q4, q5, q6, q7, q8, q9, q10, q11, q12, q13, q14, q15, q16, q17, q18, q19, q20, q21, q22, q23, q24⟩
    · have l0 : L 0 = true := by have := hd _ rfl; simp [Region.binds] at this; simp [this]
      have f0 := (hv 0 15 rfl l0).trans (q0 l0)
      refine Ri.step_plain rfl rfl (fun K' hK => ?_)
      go_simp
      refine (fold_fold _ _ _ _ _).mono ?_
      rintro e w8 ⟨rfl, hb8⟩
      exact hK _ _ ⟨_, _, rfl, rfl, hb.trans (hb8.mono hb.size), q0, fun _ => rfl, q2, q3, q4, q5, q6, fun l => (q7 l).below hb8, q8, q9, q10, q11, q12, q13, q14, fun l => (q15 l).below hb8, q16, q17, q18, q19, q20, fun l => (q21 l).below hb8, q22, q23, q24⟩
    · have e7 : xa.tmps.getD 7 undef = .pointer (some ⟨w2.heap.size, 0, none⟩) := ho 7 (by kernel_rfl)
      refine Ri.step_plain rfl rfl (fun K' hK => ?_)
      refine wp_load_row _ _ rfl _ e7 _ _ _ _ (keep_blk hb ZF.out) Tryd.underlying25 rfl (by kernel_rfl) ?_
      exact hK _ _ ⟨_, _, rfl, rfl, hb, q0, q1, fun _ => rfl, q3, q4, q5, q6, q7, q8, q9, q10, q11, q12, q13, q14, q15, q16, q17, q18, q19, q20, q21, q22, q23, q24⟩
    · have l0 : L 1 = true ∧ L 2 = true := by have := hd _ rfl; simp [Region.binds] at this; simp [this]
      have f1 := (hv 1 16 rfl l0.1).trans (q1 l0.1)
      have f2 := (hv 2 17 rfl l0.2).trans (q2 l0.2)
      refine Ri.step_plain rfl rfl (fun K' hK => ?_)
      go_simp
      exact hK _ _ ⟨_, _, rfl, rfl, hb, q0, q1, q2, fun _ => rfl, q4, q5, q6, q7, q8, q9, q10, q11, q12, q13, q14, q15, q16, q17, q18, q19, q20, q21, q22, q23, q24⟩
    · have l0 : L 3 = true := by have := hd _ rfl; simp [Region.binds] at this; simp [this]
      have f3 := (hv 3 18 rfl l0).trans (q3 l0)
      refine Ri.step_plain rfl rfl (fun K' hK => ?_)
      go_simp
      exact hK _ _ ⟨_, _, rfl, rfl, hb, q0, q1, q2, q3, fun _ => rfl, q5, q6, q7, q8, q9, q10, q11, q12, q13, q14, q15, q16, q17, q18, q19, q20, q21, q22, q23, q24⟩
    · have l0 : L 4 = true := by have := hd _ rfl; simp [Region.binds] at this; simp [this]
      have f4 := (hv 4 19 rfl l0).trans (q4 l0)
      have e3 : xa.tmps.getD 3 undef = .pointer (some ⟨w.heap.size, 0, none⟩) := ho 3 (by kernel_rfl)
      refine Ri.step_wanted (b := false) rfl rfl rfl f4 (fun K' hK => ?_)
      refine wp_load_row _ _ rfl _ e3 _ _ _ _ (keep_blk hb ZA.out) Tryd.underlying25 rfl (by kernel_rfl) ?_
      exact hK _ _ ⟨_, _, rfl, rfl, hb, q0, q1, q2, q3, q4, fun _ => rfl, q6, q7, q8, q9, q10, q11, q12, q13, q14, q15, q16, q17, q18, q19, q20, q21, q22, q23, q24⟩
    · have l0 : L 4 = true := by have := hd _ rfl; simp [Region.binds] at this; simp [this]
      have f4 := (hv 4 19 rfl l0).trans (q4 l0)
      have e7 : xa.tmps.getD 7 undef = .pointer (some ⟨w2.heap.size, 0, none⟩) := ho 7 (by kernel_rfl)
      refine Ri.step_wanted (b := false) rfl rfl rfl f4 (fun K' hK => ?_)
      refine wp_load_row _ _ rfl _ e7 _ _ _ _ (keep_blk hb ZF.out) Tryd.underlying25 rfl (by kernel_rfl) ?_
      exact hK _ _ ⟨_, _, rfl, rfl, hb, q0, q1, q2, q3, q4, q5, fun _ => rfl, q7, q8, q9, q10, q11, q12, q13, q14, q15, q16, q17, q18, q19, q20, q21, q22, q23, q24⟩
    · have l0 : L 4 = true ∧ L 5 = true ∧ L 6 = true := by have := hd _ rfl; simp [Region.binds] at this; simp [this]
      have f4 := (hv 4 19 rfl l0.1).trans (q4 l0.1)
      have f5 := (hv 5 20 rfl l0.2.1).trans (q5 l0.2.1)
      have f6 := (hv 6 21 rfl l0.2.2).trans (q6 l0.2.2)
      refine Ri.step_wanted (b := false) rfl rfl rfl f4 (fun K' hK => ?_)
      refine wp_pair _ _ rfl f5 f6 ?_
      exact hK _ _ ⟨_, _, rfl, rfl, hb.alloc hb.size _, q0, q1, q2, q3, q4, q5, q6, fun _ => ⟨_, rfl, heap_alloc_new _ _⟩, q8, q9, q10, q11, q12, q13, q14, fun l => (q15 l).below ((Below.refl _ _).alloc (Nat.le_refl _) _), q16, q17, q18, q19, q20, fun l => (q21 l).below ((Below.refl _ _).alloc (Nat.le_refl _) _), q22, q23, q24⟩
    · have l0 : L 4 = true ∧ L 7 = true := by have := hd _ rfl; simp [Region.binds] at this; simp [this]
      have f4 := (hv 4 19 rfl l0.1).trans (q4 l0.1)
      have f7 := hv 7 22 rfl l0.2
      refine Ri.step_wanted (b := false) rfl rfl rfl f4 (fun K' hK => ?_)
      go_simp
      refine (meet_fold (q7 l0.2)).mono ?_
      rintro e w8 ⟨rfl, hb8⟩
      exact hK _ _ ⟨_, _, rfl, rfl, hb.trans (hb8.mono hb.size), q0, q1, q2, q3, q4, q5, q6, fun l => (q7 l).below hb8, fun _ => rfl, q9, q10, q11, q12, q13, q14, fun l => (q15 l).below hb8, q16, q17, q18, q19, q20, fun l => (q21 l).below hb8, q22, q23, q24⟩
    · have l0 : L 4 = true := by have := hd _ rfl; simp [Region.binds] at this; simp [this]
      have f4 := (hv 4 19 rfl l0).trans (q4 l0)
      have e3 : xa.tmps.getD 3 undef = .pointer (some ⟨w.heap.size, 0, none⟩) := ho 3 (by kernel_rfl)
      refine Ri.step_wanted (b := false) rfl rfl rfl f4 (fun K' hK => ?_)
      refine wp_load_row _ _ rfl _ e3 _ _ _ _ (keep_blk hb ZA.out) Tryd.underlying25 rfl (by kernel_rfl) ?_
      exact hK _ _ ⟨_, _, rfl, rfl, hb, q0, q1, q2, q3, q4, q5, q6, q7, q8, fun _ => rfl, q10, q11, q12, q13, q14, q15, q16, q17, q18, q19, q20, q21, q22, q23, q24⟩
    · have l0 : L 4 = true ∧ L 8 = true ∧ L 9 = true := by have := hd _ rfl; simp [Region.binds] at this; simp [this]
      have f4 := (hv 4 19 rfl l0.1).trans (q4 l0.1)
      have f8 := (hv 8 23 rfl l0.2.1).trans (q8 l0.2.1)
      have f9 := (hv 9 24 rfl l0.2.2).trans (q9 l0.2.2)
      refine Ri.step_wanted (b := false) rfl rfl rfl f4 (fun K' hK => ?_)
      go_simp
      exact hK _ _ ⟨_, _, rfl, rfl, hb, q0, q1, q2, q3, q4, q5, q6, q7, q8, q9, fun _ => rfl, q11, q12, q13, q14, q15, q16, q17, q18, q19, q20, q21, q22, q23, q24⟩
    · have l0 : L 4 = true ∧ L 10 = true := by have := hd _ rfl; simp [Region.binds] at this; simp [this]
      have f4 := (hv 4 19 rfl l0.1).trans (q4 l0.1)
      have f10 := (hv 10 25 rfl l0.2).trans (q10 l0.2)
      refine Ri.step_plain rfl rfl (fun K' hK => ?_)
      go_simp
      exact hK _ _ ⟨_, _, rfl, rfl, hb, q0, q1, q2, q3, q4, q5, q6, q7, q8, q9, q10, fun _ => rfl, q12, q13, q14, q15, q16, q17, q18, q19, q20, q21, q22, q23, q24⟩
    · have l0 : L 11 = true := by have := hd _ rfl; simp [Region.binds] at this; simp [this]
      have f11 := (hv 11 26 rfl l0).trans (q11 l0)
      refine Ri.step_plain rfl rfl (fun K' hK => ?_)
      go_simp
      exact hK _ _ ⟨_, _, rfl, rfl, hb, q0, q1, q2, q3, q4, q5, q6, q7, q8, q9, q10, q11, fun _ => rfl, q13, q14, q15, q16, q17, q18, q19, q20, q21, q22, q23, q24⟩
    · have l0 : L 12 = true := by have := hd _ rfl; simp [Region.binds] at this; simp [this]
      have f12 := (hv 12 27 rfl l0).trans (q12 l0)
      have e3 : xa.tmps.getD 3 undef = .pointer (some ⟨w.heap.size, 0, none⟩) := ho 3 (by kernel_rfl)
      refine Ri.step_wanted (b := false) rfl rfl rfl f12 (fun K' hK => ?_)
      refine wp_load_row _ _ rfl _ e3 _ _ _ _ (keep_blk hb ZA.out) Tryd.underlying25 rfl (by kernel_rfl) ?_
      exact hK _ _ ⟨_, _, rfl, rfl, hb, q0, q1, q2, q3, q4, q5, q6, q7, q8, q9, q10, q11, q12, fun _ => rfl, q14, q15, q16, q17, q18, q19, q20, q21, q22, q23, q24⟩
    · have l0 : L 12 = true := by have := hd _ rfl; simp [Region.binds] at this; simp [this]
      have f12 := (hv 12 27 rfl l0).trans (q12 l0)
      have e4 : xa.tmps.getD 4 undef = .pointer (some ⟨w.heap.size + 1, 0, none⟩) := ho 4 (by kernel_rfl)
      refine Ri.step_wanted (b := false) rfl rfl rfl f12 (fun K' hK => ?_)
      refine wp_load_row _ _ rfl _ e4 _ _ _ _ (keep_blk hb ZB.out) Tryd.underlying25 rfl (by kernel_rfl) ?_
      exact hK _ _ ⟨_, _, rfl, rfl, hb, q0, q1, q2, q3, q4, q5, q6, q7, q8, q9, q10, q11, q12, q13, fun _ => rfl, q15, q16, q17, q18, q19, q20, q21, q22, q23, q24⟩
    · have l0 : L 12 = true ∧ L 13 = true ∧ L 14 = true := by have := hd _ rfl; simp [Region.binds] at this; simp [this]
      have f12 := (hv 12 27 rfl l0.1).trans (q12 l0.1)
      have f13 := (hv 13 28 rfl l0.2.1).trans (q13 l0.2.1)
      have f14 := (hv 14 29 rfl l0.2.2).trans (q14 l0.2.2)
      refine Ri.step_wanted (b := false) rfl rfl rfl f12 (fun K' hK => ?_)
      refine wp_pair _ _ rfl f13 f14 ?_
      exact hK _ _ ⟨_, _, rfl, rfl, hb.alloc hb.size _, q0, q1, q2, q3, q4, q5, q6, fun l => (q7 l).below ((Below.refl _ _).alloc (Nat.le_refl _) _), q8, q9, q10, q11, q12, q13, q14, fun _ => ⟨_, rfl, heap_alloc_new _ _⟩, q16, q17, q18, q19, q20, fun l => (q21 l).below ((Below.refl _ _).alloc (Nat.le_refl _) _), q22, q23, q24⟩
    · have l0 : L 12 = true ∧ L 15 = true := by have := hd _ rfl; simp [Region.binds] at this; simp [this]
      have f12 := (hv 12 27 rfl l0.1).trans (q12 l0.1)
      have f15 := hv 15 30 rfl l0.2
      refine Ri.step_wanted (b := false) rfl rfl rfl f12 (fun K' hK => ?_)
      go_simp
      refine (join2_any (q15 l0.2)).mono ?_
      rintro e w8 ⟨rfl, hb8⟩
      exact hK _ _ ⟨_, _, rfl, rfl, hb.trans (hb8.mono hb.size), q0, q1, q2, q3, q4, q5, q6, fun l => (q7 l).below hb8, q8, q9, q10, q11, q12, q13, q14, fun l => (q15 l).below hb8, fun _ => rfl, q17, q18, q19, q20, fun l => (q21 l).below hb8, q22, q23, q24⟩
    · have l0 : L 12 = true ∧ L 16 = true := by have := hd _ rfl; simp [Region.binds] at this; simp [this]
      have f12 := (hv 12 27 rfl l0.1).trans (q12 l0.1)
      have f16 := (hv 16 31 rfl l0.2).trans (q16 l0.2)
      refine Ri.step_wanted (b := false) rfl rfl rfl f12 (fun K' hK => ?_)
      go_simp
      refine (fold_join _ _ _ _ _ _ _ _ _).mono ?_
      rintro e w8 ⟨rfl, hb8⟩
      exact hK _ _ ⟨_, _, rfl, rfl, hb.trans (hb8.mono hb.size), q0, q1, q2, q3, q4, q5, q6, fun l => (q7 l).below hb8, q8, q9, q10, q11, q12, q13, q14, fun l => (q15 l).below hb8, q16, fun _ => rfl, q18, q19, q20, fun l => (q21 l).below hb8, q22, q23, q24⟩
    · have l0 : L 12 = true := by have := hd _ rfl; simp [Region.binds] at this; simp [this]
      have f12 := (hv 12 27 rfl l0).trans (q12 l0)
      have e7 : xa.tmps.getD 7 undef = .pointer (some ⟨w2.heap.size, 0, none⟩) := ho 7 (by kernel_rfl)
      refine Ri.step_wanted (b := false) rfl rfl rfl f12 (fun K' hK => ?_)
      refine wp_load_row _ _ rfl _ e7 _ _ _ _ (keep_blk hb ZF.out) Tryd.underlying25 rfl (by kernel_rfl) ?_
      exact hK _ _ ⟨_, _, rfl, rfl, hb, q0, q1, q2, q3, q4, q5, q6, q7, q8, q9, q10, q11, q12, q13, q14, q15, q16, q17, fun _ => rfl, q19, q20, q21, q22, q23, q24⟩
    · have l0 : L 12 = true := by have := hd _ rfl; simp [Region.binds] at this; simp [this]
      have f12 := (hv 12 27 rfl l0).trans (q12 l0)
      have e4 : xa.tmps.getD 4 undef = .pointer (some ⟨w.heap.size + 1, 0, none⟩) := ho 4 (by kernel_rfl)
      refine Ri.step_wanted (b := false) rfl rfl rfl f12 (fun K' hK => ?_)
      refine wp_load_row _ _ rfl _ e4 _ _ _ _ (keep_blk hb ZB.out) Tryd.underlying25 rfl (by kernel_rfl) ?_
      exact hK _ _ ⟨_, _, rfl, rfl, hb, q0, q1, q2, q3, q4, q5, q6, q7, q8, q9, q10, q11, q12, q13, q14, q15, q16, q17, q18, fun _ => rfl, q20, q21, q22, q23, q24⟩
    · have l0 : L 12 = true ∧ L 19 = true := by have := hd _ rfl; simp [Region.binds] at this; simp [this]
      have f12 := (hv 12 27 rfl l0.1).trans (q12 l0.1)
      have f19 := (hv 19 34 rfl l0.2).trans (q19 l0.2)
      refine Ri.step_wanted (b := false) rfl rfl rfl f12 (fun K' hK => ?_)
      go_simp
      refine (fold_fo _ _ _ _ _).mono ?_
      rintro e w8 ⟨rfl, hb8⟩
      exact hK _ _ ⟨_, _, rfl, rfl, hb.trans (hb8.mono hb.size), q0, q1, q2, q3, q4, q5, q6, fun l => (q7 l).below hb8, q8, q9, q10, q11, q12, q13, q14, fun l => (q15 l).below hb8, q16, q17, q18, q19, fun _ => rfl, fun l => (q21 l).below hb8, q22, q23, q24⟩
    · have l0 : L 12 = true ∧ L 18 = true ∧ L 20 = true := by have := hd _ rfl; simp [Region.binds] at this; simp [this]
      have f12 := (hv 12 27 rfl l0.1).trans (q12 l0.1)
      have f18 := (hv 18 33 rfl l0.2.1).trans (q18 l0.2.1)
      have f20 := (hv 20 35 rfl l0.2.2).trans (q20 l0.2.2)
      refine Ri.step_wanted (b := false) rfl rfl rfl f12 (fun K' hK => ?_)
      refine wp_pair _ _ rfl f18 f20 ?_
      exact hK _ _ ⟨_, _, rfl, rfl, hb.alloc hb.size _, q0, q1, q2, q3, q4, q5, q6, fun l => (q7 l).below ((Below.refl _ _).alloc (Nat.le_refl _) _), q8, q9, q10, q11, q12, q13, q14, fun l => (q15 l).below ((Below.refl _ _).alloc (Nat.le_refl _) _), q16, q17, q18, q19, q20, fun _ => ⟨_, rfl, heap_alloc_new _ _⟩, q22, q23, q24⟩
    · have l0 : L 12 = true ∧ L 21 = true := by have := hd _ rfl; simp [Region.binds] at this; simp [this]
      have f12 := (hv 12 27 rfl l0.1).trans (q12 l0.1)
      have f21 := hv 21 36 rfl l0.2
      refine Ri.step_wanted (b := false) rfl rfl rfl f12 (fun K' hK => ?_)
      go_simp
      refine (join2_any (q21 l0.2)).mono ?_
      rintro e w8 ⟨rfl, hb8⟩
      exact hK _ _ ⟨_, _, rfl, rfl, hb.trans (hb8.mono hb.size), q0, q1, q2, q3, q4, q5, q6, fun l => (q7 l).below hb8, q8, q9, q10, q11, q12, q13, q14, fun l => (q15 l).below hb8, q16, q17, q18, q19, q20, fun l => (q21 l).below hb8, fun _ => rfl, q23, q24⟩
    · have l0 : L 12 = true ∧ L 17 = true ∧ L 22 = true := by have := hd _ rfl; simp [Region.binds] at this; simp [this]
      have f12 := (hv 12 27 rfl l0.1).trans (q12 l0.1)
      have f17 := (hv 17 32 rfl l0.2.1).trans (q17 l0.2.1)
      have f22 := (hv 22 37 rfl l0.2.2).trans (q22 l0.2.2)
      refine Ri.step_wanted (b := false) rfl rfl rfl f12 (fun K' hK => ?_)
      go_simp
      exact hK _ _ ⟨_, _, rfl, rfl, hb, q0, q1, q2, q3, q4, q5, q6, q7, q8, q9, q10, q11, q12, q13, q14, q15, q16, q17, q18, q19, q20, q21, q22, fun _ => rfl, q24⟩
    · have l0 : L 12 = true ∧ L 23 = true := by have := hd _ rfl; simp [Region.binds] at this; simp [this]
      have f12 := (hv 12 27 rfl l0.1).trans (q12 l0.1)
      have f23 := (hv 23 38 rfl l0.2).trans (q23 l0.2)
      refine Ri.step_plain rfl rfl (fun K' hK => ?_)
      go_simp
      exact hK _ _ ⟨_, _, rfl, rfl, hb, q0, q1, q2, q3, q4, q5, q6, q7, q8, q9, q10, q11, q12, q13, q14, q15, q16, q17, q18, q19, q20, q21, q22, q23, fun _ => rfl⟩
  · rintro v w9 ⟨hb, -, -, -, -, -, -, -, -, -, -, -, -, -, -, -, -, -, -, -, -, -, -, -, -, q24⟩
    have q24' : v 24 = .bool false := q24 rfl
    simp only [Ri.frame, List.zipIdx, List.foldl_cons, List.foldl_nil, if_true, List.setIfInBounds_toArray, List.set_cons_zero, List.set_cons_succ, Nat.reduceAdd, q24']
    clear q24 q24'
    generalize v 0 = y0; generalize v 1 = y1; generalize v 2 = y2; generalize v 3 = y3; generalize v 4 = y4; generalize v 5 = y5; generalize v 6 = y6; generalize v 7 = y7; generalize v 8 = y8; generalize v 9 = y9; generalize v 10 = y10; generalize v 11 = y11; generalize v 12 = y12; generalize v 13 = y13; generalize v 14 = y14; generalize v 15 = y15; generalize v 16 = y16; generalize v 17 = y17; generalize v 18 = y18; generalize v 19 = y19; generalize v 20 = y20; generalize v 21 = y21; generalize v 22 = y22; generalize v 23 = y23
    have HB9 := Lib.hid (HB3.out.trans (hb.mono HB3.out.size))
    clear hb HB3 ZF ZA ZB
    go_wp2_with fail
    refine (other_any n hn _).mono ?_
    rintro e w' ⟨rfl, rfl⟩
    go_wp2_with fail
    refine (named_1 _).mono ?_
    rintro e w10 ⟨rfl, hb10⟩
    have HB10 := Lib.hid (HB9.out.trans (hb10.mono HB9.out.size))
    clear hb10 HB9
    go_wp2_with fail
    refine (other_any (Cl.oth n) (Cl.oth_lt hn) _).mono ?_
    rintro e w' ⟨rfl, rfl⟩
    rw [Cl.oth_oth]
    have HW := Lib.hid (wd_oth n hn)
    go_wp2_with fail
    refine (has_letters n hn _).mono ?_
    rintro e w11 ⟨rfl, hb11⟩
    have HB11 := Lib.hid ((HB10.out.alloc HB10.out.size _).trans (hb11.mono (by have := HB10.out.size; simp; omega)))
    clear hb11 HB10
    cases hl : Cl.cls 1 n with
    | true =>
      have hne := oth_ne hl
      have hne1 : ((n : Int) != (Cl.oth n : Int)) = true := by simpa using (by omega : ¬ (n : Int) = (Cl.oth n : Int))
      clear hl
      go_wp2_with fail
      refine (of_one n hn _ rfl _ _ rfl _ (Cl.on n 0) (Cl.on n 1) (Cl.on n 2) (Cl.on n 3) rfl rfl rfl rfl).mono ?_
      rintro e w12 ⟨rfl, hb12⟩
      have HB12 := Lib.hid ((HB11.out.alloc HB11.out.size _).trans (hb12.mono (by have := HB11.out.size; omega)))
      clear hb12 HB11
      go_wp2_with fail
      refine (fold_fo _ _ _ _ _).mono ?_
      rintro e w13 ⟨rfl, hb13⟩
      have HB13 := Lib.hid (HB12.out.trans (hb13.mono HB12.out.size))
      clear hb13 HB12
      go_wp2_with fail
      refine (has_fold n hn _).mono ?_
      rintro e w14 ⟨rfl, hb14⟩
      have HB14 := Lib.hid (HB13.out.trans (hb14.mono HB13.out.size))
      clear hb14 HB13
      go_wp2_with fail
      refine (word_any n hn _).mono ?_
      rintro e w' ⟨rfl, rfl⟩
      go_wp2_with fail
      refine (word_any (Cl.oth n) (Cl.oth_lt hn) _).mono ?_
      rintro e w' ⟨rfl, rfl⟩
      rw [HW.out]
      go_wp2
      go_ret
      exact ⟨rfl, HB14.out⟩
    | false =>
      have ho := oth_no hl
      clear hl
      rw [ho] at HW ⊢
      clear HW
      go_wp2_with fail
      refine (of_one n hn _ rfl _ _ rfl _ (Cl.on n 0) (Cl.on n 1) (Cl.on n 2) (Cl.on n 3) rfl rfl rfl rfl).mono ?_
      rintro e w12 ⟨rfl, hb12⟩
      have HB12 := Lib.hid ((HB11.out.alloc HB11.out.size _).trans (hb12.mono (by have := HB11.out.size; omega)))
      clear hb12 HB11
      go_wp2_with fail
      refine (fold_fo _ _ _ _ _).mono ?_
      rintro e w13 ⟨rfl, hb13⟩
      have HB13 := Lib.hid (HB12.out.trans (hb13.mono HB12.out.size))
      clear hb13 HB12
      go_wp2_with fail
      have hf := has_fold n hn w13
      rw [ho] at hf
      have HF := Lib.hid hf; clear hf ho
      refine HF.out.mono ?_
      rintro e w14 ⟨rfl, hb14⟩
      have HB14 := Lib.hid (HB13.out.trans (hb14.mono HB13.out.size))
      clear hb14 HB13
      go_wp2_with fail
      refine (word_any n hn _).mono ?_
      rintro e w' ⟨rfl, rfl⟩
      go_wp2_with fail
      refine (word_any n hn _).mono ?_
      rintro e w' ⟨rfl, rfl⟩
      go_wp2
      go_ret
      exact ⟨rfl, HB14.out⟩
end Go.Proofs.YtnicijdpcpnbdaaDoor
